import PyProof.Rows.All
import Wide.All
import OpenK.AllK
import Wide.FinOn
import HandS.Base
import HandS.Call
import HandS.List
import HandS.Comp
import HandS.Ends
import HandS.Iter
import HandS.Words
import HandS.WordsList
import HandS.TupMul
import HandS.TupAny
import HandS.IsInst
import HandS.Zip
import HandS.Style
import HandS.Wide
import HandS.GenList
import KE.KTupSum
import KE.KEqSeq
import HandS.TupSets
import PyProof.WalksMore
import HandS.Property
import KE.KOpsOwn
import HandS.OwnEq
import HandS.WordsExc
import HandS.ForExc
import HandS.TryMany
import HandS.ExcInit
import HandS.ExcField
import HandS.Lambda
import KE.KExcInit
import HandS.Defaults
import KE.GoesMore
import HandS.Flow
import HandS.DictComp
import HandS.WordsDict
import HandS.Walk
import KE.KMathGC
import HandS.TupLe
import HandS.RevRange
import HandS.Gcd
import KE.DataMinMax
import HandS.SortKw
import HandS.More
import HandS.Dict
import HandS.Deep
import KE.KRevSl
import HandS.Conv
import PySem.Challenge.RW_pureladders_k13_whole_steady_rows
set_option Elab.async false
set_option linter.all false
set_option maxRecDepth 100000
set_option maxHeartbeats 4000000
/-! rules that the layer lacks -/
namespace L5
open PySem PySem.Spec PyProof.Rows L2
/-! ### powers of great numbers -/
def CPowW (i j : Int) : Prop := 0 ≤ j ∧ (Builtin.Int.intBits i : Int) * j ≤ 2 ^ 27
theorem op_powW {X : Cx} : OpR X (binaryOp .Pow) (rI CPowW fun i j => .int (i ^ j.toNat)) := opI fun _ _ _ _ _ _ _ hc q => pow_int hc.1 hc.2 q
/-! ### sum and max of a tuple of ints -/
section
variable {pr : Program} {wd : World} {A : Around} {E : Value → Shared → Prop} {s : Shared} {tp : Addr} {us : List Value} {ms : List Int} {G : Value → Shared → Prop}
/-- a row of ints, as the library's walks want it -/
theorem items_of (hi : IntsAre us ms) : ∃ ws : Array (Int × Tok), us.toArray = intItems ws ∧ ws.toList.map (·.1) = ms := by
  obtain ⟨ws, ew⟩ := hi.allInts.items
  refine ⟨ws, ew, ?_⟩
  rw [← nums_intItems, ← ew]
  exact hi.numsOf
abbrev Stays (s : Shared) (h : Heap) : Prop := ∀ b o, s.heap.get? b = some o → h.get? b = some o
theorem sum_of_tuple (hh : A.handled = none) (ht : s.heap.IsTuple tp us.toArray) (hi : IntsAre us ms) (q : ∀ h n t, Stays s h → G (.int ms.sum t) { s with heap := h, toks := n }) :
    wpAny (model pr wd) A (call (.builtin "sum") [.ref tp]) G E s := by
  obtain ⟨ws, ew, en⟩ := items_of hi
  rw [ew] at ht
  refine PySem.W.ktm_sumG hh ht fun h n t kept => ?_
  have g := q h n t kept
  rw [← en] at g
  rw [preSum_eq, List.take_of_length_le (by rw [List.length_map, Array.length_toList]; exact Nat.le_refl _)]
  exact g
theorem max_of_tuple (hh : A.handled = none) (ht : s.heap.IsTuple tp us.toArray) (hi : IntsAre us ms) (some1 : 0 < ms.length) (q : ∀ h n M t, Stays s h → M ∈ ms → (∀ a, a ∈ ms → a ≤ M) → G (.int M t) { s with heap := h, toks := n }) :
    wpAny (model pr wd) A (call (.builtin "max") [.ref tp]) G E s := by
  obtain ⟨ws, ew, en⟩ := items_of hi
  subst en
  rw [ew] at ht
  have pos : 0 < ws.size := by simpa using some1
  have esz : (intItems ws).size = ws.size := by simp [intItems]
  obtain ⟨ob, hob, _⟩ := id ht
  have apart : tp ≠ s.heap.objs.size := Nat.ne_of_lt (Heap.lt_size hob)
  refine call_max_walk (wpAny_pyIter_tuple ht ?_)
  refine ⟨_, _, _, _, _, _, _, rfl, Walks.tuple (A := A.in1) hh s.heap.objs.size tp apart (intItems ws), ⟨⟨_, Heap.get?_push_size _ rfl, rfl, rfl⟩, ht.at fun o e => Heap.get?_push_of_some _ e⟩, fun b hb => ?_, by rw [esz]; exact pos, CmpOf.ints_gt (numAt ws) (fun _ _ => intItems_at), fun v h n hv kept => ?_⟩
  · have two : b = s.heap.objs.size ∨ b = tp := by simpa using hb
    rcases two with rfl | rfl
    · exact Heap.lt_size (o := _) (Heap.get?_push_size _ rfl)
    · exact Heap.lt_size (o := ob) (Heap.get?_push_of_some _ hob)
  · obtain ⟨t, rfl⟩ := intItems_at hv
    rw [esz] at *
    obtain ⟨top1, top2⟩ := argBest_gt (numAt ws) (ws.size - 1)
    have at_of : ∀ i, numAt ws i = (ws.toList.map (·.1)).getD i 0 := fun i => numAt_eq ..
    refine q h n _ t (fun b o e => kept b o (fun hb => ?_) (Heap.get?_push_of_some _ e)) ?_ fun a ha => ?_
    · rw [List.mem_singleton.mp hb] at e
      exact Nat.lt_irrefl _ (Heap.lt_size e)
    · rw [at_of]
      refine PySem.getD_mem ?_
      rw [List.length_map, Array.length_toList]
      omega
    · obtain ⟨i, less, rfl⟩ := mem_getD ha
      rw [List.length_map, Array.length_toList] at less
      rw [← at_of]
      exact top2 i (by omega)
end
section
variable {X : Cx}
def rSumT (K : PySem.W.Frag) : List V → Hp → VK → Prop := fun vs H Q => ∃ (a : Addr) (ns : List Int), vs = [V.ref a] ∧ SqT K H a (ns.map V.int) ∧ Q (.int ns.sum) H
theorem cr_sumT (calm : X.calm = true) : CallR X (.builtin "sum") (rSumT X.K) := fun _ _ _ _ _ _ _ I r h => by
  obtain ⟨_, _, rfl, ht, q⟩ := h
  obtain ⟨_, rv, plain, _⟩ := I.tuple ht
  rw [Vals.ref1 r]
  exact sum_of_tuple (I.ok.hd calm) plain rv.ints fun _ _ _ kept => ⟨.int _, _, I.kept kept, ⟨_, rfl⟩, q⟩
def rMaxT (K : PySem.W.Frag) : List V → Hp → VK → Prop := fun vs H Q => ∃ (a : Addr) (ns : List Int), vs = [V.ref a] ∧ SqT K H a (ns.map V.int) ∧ 0 < ns.length ∧ ∀ m, m ∈ ns → (∀ y, y ∈ ns → y ≤ m) → Q (.int m) H
theorem cr_maxT (calm : X.calm = true) : CallR X (.builtin "max") (rMaxT X.K) := fun _ _ _ _ _ _ _ I r h => by
  obtain ⟨_, _, rfl, ht, some1, q⟩ := h
  obtain ⟨_, rv, plain, _⟩ := I.tuple ht
  rw [Vals.ref1 r]
  exact max_of_tuple (I.ok.hd calm) plain rv.ints some1 fun _ _ m _ kept g1 g2 => ⟨.int m, _, I.kept kept, ⟨_, rfl⟩, q m g1 g2⟩
end
/-! ### tuple * int, any int: the tuple itself, the empty one, or a longer one -/
abbrev tupObj (items : Array Value) (n : Nat) (dd : Option Addr) (sl : Array (Option Value)) : Obj := { cls := .type "tuple", dict := dd, data := .seq items n, slots := sl }
theorem off_of {b : Bool} (h : b = false) : decide (b = true) = false := decide_eq_false (Bool.eq_false_iff.mp h)
theorem mul_same (tp : Addr) (items : Array Value) (n : Nat) (dd : Option Addr) (sl : Array (Option Value)) (x : Int) (u : Tok) (fits : (decide (x < -(2 ^ 63)) || decide (x ≥ 2 ^ 63)) = false) (same : (items.isEmpty || x == 1) = true) :
    Meets (Builtin.«tuple.__mul__» ⟨[.ref tp, .int x u], []⟩) (fun _ R s => s.heap.get? tp = some (tupObj items n dd sl) ∧ R (.ok (.ret (Value.ref tp))) { s with heap := s.heap, toks := s.toks }) :=
  .of_wp fun _ _ _ _ st both => by
    obtain ⟨_, _, _, _, _⟩ := st
    obtain ⟨at1, q⟩ := both
    have ix := AutoSeq1.idx_int
    wp_walk using wpAny_loadPart' at1
    repeat (first
      | (refine wpAny_ite_false (off_of fits) ?_; wp_walk using wpAny_loadPart' at1)
      | (refine wpAny_ite_true (decide_eq_true same) ?_; wp_walk using wpAny_loadPart' at1))
    exact ⟨_, rfl, q⟩
theorem mul_none (tp : Addr) (items : Array Value) (n : Nat) (dd : Option Addr) (sl : Array (Option Value)) (x : Int) (u : Tok) (fits : (decide (x < -(2 ^ 63)) || decide (x ≥ 2 ^ 63)) = false) (other : (items.isEmpty || x == 1) = false) (less : (decide (x ≤ 0) || items.isEmpty) = true) :
    Meets (Builtin.«tuple.__mul__» ⟨[.ref tp, .int x u], []⟩) (fun _ R s => s.heap.get? tp = some (tupObj items n dd sl) ∧
      R (.ok (.ret (Value.ref s.heap.objs.size))) { s with heap := s.heap.push { cls := Value.type "tuple", data := Data.seq #[] }, toks := s.toks }) :=
  .of_wp fun _ _ _ _ st both => by
    obtain ⟨_, _, _, _, _⟩ := st
    obtain ⟨at1, q⟩ := both
    have ix := AutoSeq1.idx_int
    wp_walk using wpAny_loadPart' at1
    repeat (first
      | (refine wpAny_ite_false (off_of fits) ?_; wp_walk using wpAny_loadPart' at1)
      | (refine wpAny_ite_false (off_of other) ?_; wp_walk using wpAny_loadPart' at1)
      | (refine wpAny_ite_true (decide_eq_true less) ?_; wp_walk using wpAny_loadPart' at1))
    exact ⟨_, rfl, q⟩
def rRepA (K : PySem.W.Frag) : R2 := fun x y H Q => ∃ l k xs, x = .ref l ∧ y = .int k ∧ SqT K H l xs ∧ xs ≠ [] ∧ -1000 ≤ k ∧ k ≤ 1000 ∧ xs.length ≤ 1000 ∧
  (k = 1 → Q (.ref l) H) ∧ (k ≠ 1 → ∀ p, H p = none → Q (.ref p) (upd H p (.tup (List.replicate k.toNat xs).flatten)))
section
variable {X : Cx}
theorem op_repA : OpR X (binaryOp .Mult) (rRepA X.K) := fun pins s σ H x y v u Q I rx ry h => by
  obtain ⟨tp, k, xs, rfl, rfl, isT, full, lo, hi, short, qa, qb⟩ := h
  by_cases two : 2 ≤ k
  · exact op_repT pins s σ H _ _ v u Q I rx ry ⟨tp, k, xs, rfl, rfl, isT, full, two, hi, short, qb (by omega)⟩
  cases rx
  obtain ⟨tk, rfl⟩ := ry
  obtain ⟨its, r, ⟨⟨c, dd, dt, sl⟩, ho, hc, n, hd⟩, _⟩ := I.tuple isT
  simp only at hc hd
  subst hc hd
  have filled : its.toArray.isEmpty = false := by
    cases its with
    | nil =>
      cases r
      exact absurd rfl full
    | cons _ _ => rfl
  have fits : (decide (k < -(2 ^ 63)) || decide (k ≥ 2 ^ 63)) = false := Bool.or_eq_false_iff.mpr ⟨decide_eq_false (by omega), decide_eq_false (by omega)⟩
  by_cases one : k = 1
  · subst one
    refine wpAny_binaryOp_repeat_ref (T := "tuple") (U := "int") (by decide) ⟨_, ho, rfl⟩ (fun z => typeIs_int z _ tk) noFill_tuple_mul F.fills_int_mul F.slot_int_rmul repeat_tuple F.slot_int_index.lookup
      (call_meets F.slot_int_rmul (typeIs_int s _ tk) F.entry_int_rmul (F.args_int_rmul_2 _ _) (int_rmul_tuple _ tk tp its.toArray n dd sl)
        ⟨ho, rfl, ⟨_, ho, rfl⟩, call_meets F.slot_tuple_mul ⟨_, ho, rfl⟩ F.entry_tuple_mul (F.args_tuple_mul_2 _ _) (mul_same tp its.toArray n dd sl 1 tk fits (by rw [filled]; rfl)) ⟨ho, ?_⟩⟩)
    exact ⟨.ref tp, H, I, rfl, qa rfl⟩
  · have other : (its.toArray.isEmpty || k == 1) = false := Bool.or_eq_false_iff.mpr ⟨filled, beq_eq_false_iff_ne.mpr one⟩
    have less : (decide (k ≤ 0) || its.toArray.isEmpty) = true := Bool.or_eq_true_iff.mpr (.inl (decide_eq_true (by omega)))
    refine wpAny_binaryOp_repeat_ref (T := "tuple") (U := "int") (by decide) ⟨_, ho, rfl⟩ (fun z => typeIs_int z k tk) noFill_tuple_mul F.fills_int_mul F.slot_int_rmul repeat_tuple F.slot_int_index.lookup
      (call_meets F.slot_int_rmul (typeIs_int s k tk) F.entry_int_rmul (F.args_int_rmul_2 _ _) (int_rmul_tuple k tk tp its.toArray n dd sl)
        ⟨ho, rfl, ⟨_, ho, rfl⟩, call_meets F.slot_tuple_mul ⟨_, ho, rfl⟩ F.entry_tuple_mul (F.args_tuple_mul_2 _ _) (mul_none tp its.toArray n dd sl k tk fits other less) ⟨ho, ?_⟩⟩)
    have e0 : (List.replicate k.toNat xs).flatten = [] := by
      rw [show k.toNat = 0 by omega]
      rfl
    have q := qb one s.heap.objs.size (I.hok.fresh (Nat.le_refl _))
    rw [e0] at q
    exact ⟨.ref s.heap.objs.size, _, I.laid (t' := s.toks) (o := .tup []) (fun _ _ e => Heap.get?_push_of_some _ e) (Nat.le_refl _) ⟨Nat.zero_le _, [], .nil, IsTup.new _ _⟩, rfl, q⟩
end
/-! ### words for what stands in the heap -/
section
variable {K : PySem.W.Frag} {H H' : Hp}
abbrev nv (t : List Nat) : List V := t.map fun n => V.int ((n : Nat) : Int)
theorem nv_ints (t : List Nat) : nv t = (t.map fun n => ((n : Nat) : Int)).map V.int := by
  rw [List.map_map]
  rfl
theorem nv_len (t : List Nat) : (nv t).length = t.length := List.length_map _
theorem nv_app (t u : List Nat) : nv (t ++ u) = nv t ++ nv u := List.map_append
theorem nv_get {t : List Nat} {i : Nat} {x : V} (h : (nv t)[i]? = some x) : ∃ n, t[i]? = some n ∧ x = .int ((n : Nat) : Int) := by
  rw [List.getElem?_map] at h
  cases e : t[i]? with
  | none =>
    rw [e] at h
    cases h
  | some n =>
    rw [e] at h
    exact ⟨n, rfl, (Option.some.inj h).symm⟩
theorem nv_at {t : List Nat} {i n : Nat} (h : t[i]? = some n) : atI (nv t) (i : Int) = some (.int ((n : Nat) : Int)) := atI_nat (by rw [List.getElem?_map, h] <;> rfl)
theorem sizeK {n : Nat} (h : n ≤ 1000000) : n < sizeLine := Nat.lt_of_le_of_lt h (by decide)
theorem same_updL {p : Addr} {o : HO} (s : Same H H') (hp : H p = none) : Same H (upd H' p o) := fun b u q => by
  rw [upd_ne (ne_of_none q hp)]
  exact s b u q
theorem sqt_updL {a p : Addr} {xs ys : List V} {o : HO} (hp : H p = some (.lst ys)) (h : SqT K H a xs) : SqT K (upd H p o) a xs := by
  have ne : ∀ u, H a = some u → u ≠ .lst ys → a ≠ p := fun u e n z => by
    rw [z, hp] at e
    exact n (Option.some.inj e).symm
  rcases h with (h | ⟨o, h⟩) | h
  · exact .inl (.inl (by rw [upd_ne (ne _ h (by intro z; cases z))]; exact h))
  · exact .inl (.inr ⟨o, by rw [upd_ne (ne _ h (by intro z; cases z))]; exact h⟩)
  · exact .inr h
theorem sql_updL {a p : Addr} {xs : List V} {o : HO} (hne : a ≠ p) (h : SqL K H a xs) : SqL K (upd H p o) a xs := by
  rcases h with (h | ⟨o, h⟩) | h
  · exact .inl (.inl (by rw [upd_ne hne]; exact h))
  · exact .inl (.inr ⟨o, by rw [upd_ne hne]; exact h⟩)
  · exact .inr h
theorem sum_cast (t : List Nat) : (t.map fun n => ((n : Nat) : Int)).sum = ((t.sum : Nat) : Int) := by
  induction t with
  | nil => rfl
  | cons x r ih => rw [List.map_cons, List.sum_cons, List.sum_cons, ih]; omega
theorem same_sqt {a : Addr} {xs : List V} (e : Same H H') (h : SqT K H a xs) : SqT K H' a xs := by
  rcases h with (h | ⟨o, h⟩) | h
  · exact .inl (.inl (e _ _ h))
  · exact .inl (.inr ⟨o, e _ _ h⟩)
  · exact .inr h
theorem same_new {p : Addr} (h : H p = none) (o : HO) : Same H (upd H p o) := fun b u q => by rw [upd_ne (ne_of_none q h)]; exact q
def Tups (K : PySem.W.Frag) (H : Hp) : List Addr → List (List Nat) → Prop := Paired fun a t => SqT K H a (nv t)
theorem Tups.same (e : Same H H') : ∀ {rs : List Addr} {L : List (List Nat)}, Tups K H rs L → Tups K H' rs L
  | _, _, .nil => .nil
  | _, _, .cons h t => .cons (same_sqt e h) (Tups.same e t)
theorem Tups.updL {p : Addr} {ys : List V} {o : HO} (hp : H p = some (.lst ys)) : ∀ {rs : List Addr} {L : List (List Nat)}, Tups K H rs L → Tups K (upd H p o) rs L
  | _, _, .nil => .nil
  | _, _, .cons h t => .cons (sqt_updL hp h) (Tups.updL hp t)
theorem Tups.length : ∀ {rs : List Addr} {L : List (List Nat)}, Tups K H rs L → rs.length = L.length
  | _, _, .nil => rfl
  | _, _, .cons _ t => congrArg (· + 1) (Tups.length t)
theorem Tups.app : ∀ {rs qs : List Addr} {L M : List (List Nat)}, Tups K H rs L → Tups K H qs M → Tups K H (rs ++ qs) (L ++ M)
  | _, _, _, _, .nil, s => s
  | _, _, _, _, .cons r t, s => .cons r (Tups.app t s)
theorem Tups.rev {rs : List Addr} {L : List (List Nat)} (h : Tups K H rs L) : Tups K H rs.reverse L.reverse := by
  induction h with
  | nil => exact .nil
  | cons r t ih =>
    rw [List.reverse_cons, List.reverse_cons]
    exact ih.app (.cons r .nil)
theorem Tups.get : ∀ {rs : List Addr} {L : List (List Nat)} {i : Nat} {a : Addr}, Tups K H rs L → rs[i]? = some a → ∃ t, L[i]? = some t ∧ SqT K H a (nv t)
  | _, _, _, _, .nil, e => by simp at e
  | _, _, 0, _, .cons r _, e => by simp at e; subst e; exact ⟨_, rfl, r⟩
  | _, _, i + 1, a, .cons _ t, e => by
    obtain ⟨u, h1, h2⟩ := Tups.get (i := i) (a := a) t (by simpa using e)
    exact ⟨u, by simpa using h1, h2⟩
theorem sqt_ty {a : Addr} {xs : List V} (h : SqT K H a xs) : TyX K H (.ref a) (.type "tuple") := by
  rcases h with (h | ⟨o, h⟩) | ⟨o, its, n, e, c, _⟩
  · exact .base (.tup h)
  · exact .fTuple h
  · exact .kTuple e c
/-- as data -/
abbrev encT (t : List Nat) : PyData := .tuple (t.map fun n => PyData.int ((n : Nat) : Int))
theorem dp_nats : ∀ (t : List Nat), DpAll K H (nv t) (t.map fun n => PyData.int ((n : Nat) : Int))
  | [] => .nil
  | n :: t => .cons (.int _) (dp_nats t)
theorem dp_tup {a : Addr} {t : List Nat} (h : SqT K H a (nv t)) : Dp K H (.ref a) (encT t) := .tup h (dp_nats t)
theorem dp_tups : ∀ {rs : List Addr} {L : List (List Nat)}, Tups K H rs L → DpAll K H (rs.map V.ref) (L.map encT)
  | _, _, .nil => .nil
  | _, _, .cons h t => .cons (dp_tup h) (dp_tups t)
theorem can_nats : ∀ t : List Nat, PyData.canLayAll0 (t.map fun n => PyData.int ((n : Nat) : Int)) = true ∧ PyData.depthAll (t.map fun n => PyData.int ((n : Nat) : Int)) = 0
  | [] => by simp [PyData.canLayAll0, PyData.depthAll]
  | n :: t => by
    have h := can_nats t
    simp only [List.map_cons, PyData.canLayAll0, PyData.depthAll, h.1, h.2, PyData.canLay0, PyData.depth]
    simp
theorem can_tups : ∀ L : List (List Nat), PyData.canLayAll0 (L.map encT) = true ∧ PyData.depthAll (L.map encT) ≤ 1
  | [] => by simp [PyData.canLayAll0, PyData.depthAll]
  | t :: L => by
    have h := can_tups L
    have g := can_nats t
    simp only [List.map_cons, PyData.canLayAll0, PyData.depthAll, h.1, PyData.canLay0, PyData.depth, g.1, g.2]
    exact ⟨by simp, by omega⟩
theorem shaped_tups (L : List (List Nat)) : SeqAt.shaped (.list (L.map encT)) = true := by
  have h := can_tups L
  unfold SeqAt.shaped
  simp only [PyData.canLay0, PyData.depth, h.1, Bool.true_and]
  exact decide_eq_true (by omega)
theorem eqv_tups (L : List (List Nat)) : PyData.eqv (.list (L.map encT)) (.list (L.map encT)) = true := SeqAt.eqv_refl _ (by
  simp only [PyData.canLay0]
  exact (can_tups L).1)
theorem shaped_tup (t : List Nat) : SeqAt.shaped (encT t) = true := by
  have g := can_nats t
  unfold SeqAt.shaped
  simp only [encT, PyData.canLay0, PyData.depth, g.1, g.2, Bool.true_and]
  exact decide_eq_true (by omega)
theorem eqv_tup (t : List Nat) : PyData.eqv (encT t) (encT t) = true := SeqAt.eqv_refl _ (by
  simp only [encT, PyData.canLay0]
  exact (can_nats t).1)
end
end L5

namespace W7
open PySem PySem.Spec PyProof.Rows L2
section
variable {P : Program} {w : World} {A : Around} {E : Value → Shared → Prop} {s : Shared}
theorem set_of_tuple {l : Addr} {items9 : Array Value} (ks9 : List (Addr × List Int)) {Q : Value → Shared → Prop} (hh9 : A.handled = none) (hl9 : s.heap.IsTuple l items9) (hit9 : items9.toList = ks9.map fun p => Value.ref p.1)
    (hk9 : ∀ p ∈ ks9, IsT P w s.heap p.2 p.1) (hfew9 : ks9.length < 64) (hu9 : A.units + 3 < cLine)
    (h : ∀ (h' : Heap) (tk9 : Nat) L es9 ep9 t, SetTR P w h' s.heap.objs.size L es9 ep9 t → Got ks9 ks9.length L → (∀ b o, s.heap.get? b = some o → h'.get? b = some o) → Q (.ref s.heap.objs.size) { s with heap := h', toks := tk9 }) :
    wpAny (model P w) A (call (.type "set") [.ref l]) Q E s := by
  have hisz9 : items9.size = ks9.length := by
    have q9 := congrArg List.length hit9
    rw [Array.length_toList, List.length_map] at q9
    exact q9
  obtain ⟨c9, tl9, hmro9⟩ := F.called_set.mro
  have hmade9 := F.called_set.made
  have hsub9 := F.called_set.sub
  refine wpAny_call (codeAny_of_tree ?_)
  show wpAny _ _ (callAny (.type "set") _) _ _ _
  refine wpAny_pure ⟨Code.quiet_builtin _ (by decide +kernel), codeAny_builtin F.entry_type_call ?_⟩
  rw [Around.under_plain (weight_type_call_type "set" [.ref l] []) rfl]
  have h19 := F.called_set.notType
  have h29 := F.called_set.canCreate
  have hct9 := F.typeCall_set_1 (.ref l)
  repeat (any_goals (first | assumption | wp_step))

  refine codeAny_mono (code_set_led1 (.ref l) (E := E) (Q₁ := fun obj9 sa9 => obj9 = .ref s.heap.objs.size ∧ sa9 = { s with heap := s.heap.push { cls := .type "set", dict := none, data := .set #[] 0 (.fresh 0 0 (!w.params.followText "set-order")) } }) ⟨rfl, rfl⟩) fun r sa9 hr9 => ?_
  cases r with
  | error e => exact hr9
  | ok fl9 =>
    cases fl9 with
    | ret obj9 =>
      obtain ⟨rfl, rfl⟩ := hr9
      have hS9 : (s.heap.push { cls := .type "set", dict := none, data := .set #[] 0 (.fresh 0 0 (!w.params.followText "set-order")) }).get? s.heap.objs.size = some { cls := .type "set", dict := none, data := .set #[] 0 (.fresh 0 0 (!w.params.followText "set-order")) } := Heap.get?_push_size _ rfl
      have hT9 : Shared.TypeIs { s with heap := s.heap.push { cls := .type "set", dict := none, data := .set #[] 0 (.fresh 0 0 (!w.params.followText "set-order")) } } (.ref s.heap.objs.size) "set" := ⟨_, hS9, rfl⟩
      have hli9 := F.called_set.init.lookup
      have hbi9 := F.called_set.init.bind (.ref s.heap.objs.size)
      repeat (any_goals (first | assumption | wp_step))

      refine codeAny_mono (codeAny_call_builtin (R := wants (fun r sb9 => r = .none ∧ ∃ h' tk9 L es9 ep9 t, sb9 = { s with heap := h', toks := tk9 } ∧ SetTR P w h' s.heap.objs.size L es9 ep9 t ∧ Got ks9 ks9.length L ∧
          (∀ b o, s.heap.get? b = some o → h'.get? b = some o)) E) F.called_set.init.plain F.entry_set_init (check_set_init_1 hT9 ?_)) fun rb9 sb9 hrb9 => ?_
      · obtain ⟨ol9, hol9, hcl9, nl9, hdl9⟩ := hl9
        obtain ⟨ocls9, odict9, odata9, oslots9⟩ := ol9
        simp only at hcl9 hdl9
        subst hcl9; subst hdl9
        have hol' : (s.heap.push { cls := .type "set", dict := none, data := .set #[] 0 (.fresh 0 0 (!w.params.followText "set-order")) }).get? l = some { cls := .type "tuple", dict := odict9, data := .seq items9 nl9, slots := oslots9 } := Heap.get?_push_of_some _ hol9
        have hsls9 := F.sub_tuple_set
        have hslf9 := F.sub_tuple_frozenset
        have hne9 : (Value.type "tuple" == Value.type "dict") = false := by decide
        have hl19 : (s.heap.push { cls := .type "set", dict := none, data := .set #[] 0 (.fresh 0 0 (!w.params.followText "set-order")) }).IsTuple l items9 := ⟨_, hol', rfl, nl9, rfl⟩
        unfold Builtin.«set.__init__» noKeywords Builtin.Frozenset.updateFrom
        generalize hPI9 : pyIter = PI9
        wp_walk
        subst hPI9

        refine wpAny_pyIter_tuple hl19 ?_
        refine wpAny_bind (wpAny_runValue ?_)
        have hlS9 : l < s.heap.objs.size := Heap.lt_size hol9
        have hh39 : A.in1.in1.in1.handled = none := by simp [hh9]
        have hz19 : (s.heap.push { cls := .type "set", dict := none, data := .set #[] 0 (.fresh 0 0 (!w.params.followText "set-order")) }).objs.size = s.heap.objs.size + 1 := Heap.size_push ..
        have hneI9 : l ≠ (s.heap.push { cls := .type "set", dict := none, data := .set #[] 0 (.fresh 0 0 (!w.params.followText "set-order")) }).objs.size := by
          rw [Heap.size_push]; exact Nat.ne_of_lt (Nat.lt_succ_of_lt hlS9)
        have hSf9 : s.heap.objs.size ∉ [(s.heap.push { cls := .type "set", dict := none, data := .set #[] 0 (.fresh 0 0 (!w.params.followText "set-order")) }).objs.size, l] := by
          rw [Heap.size_push]; simp only [List.mem_cons, List.mem_singleton, List.not_mem_nil, or_false, not_or]
          exact ⟨Nat.ne_of_lt (Nat.lt_succ_self _), Nat.ne_of_gt hlS9⟩
        have hval9 : ∀ (i : Nat) (v : Value), items9[i]? = some v → ∃ p, ks9[i]? = some p ∧ v = .ref p.1 := fun i v hv => by
          have q9 : items9.toList[i]? = some v := by rw [Array.getElem?_toList]; exact hv
          rw [hit9, List.getElem?_map] at q9
          cases hq : ks9[i]? with
          | none => rw [hq] at q9; cases q9
          | some p =>
            rw [hq] at q9
            exact ⟨p, rfl, (Option.some.inj q9).symm⟩
        have none_of9 : ∀ b, s.heap.objs.size ≤ b → s.heap.get? b = none := fun b hb => by
          cases q9 : s.heap.get? b with
          | none => rfl
          | some o => exact absurd (Nat.lt_of_lt_of_le (Heap.lt_size q9) hb) (Nat.lt_irrefl _)
        refine set_update_tups ((Walks.tuple hh39 _ l hneI9 items9).toS) s.heap.objs.size
          hSf9 ks9 hisz9 hfew9 hval9 s.heap hk9 (none_of9 _ (Nat.le_refl _)) (fun b hb => none_of9 b (by
            rw [List.mem_singleton.mp hb, Heap.size_push]
            exact Nat.le_succ _)) hu9 (items9.size - 0) 0 _ (by omega) (Nat.zero_le _)
          ⟨⟨_, Heap.get?_push_size _ rfl, rfl, rfl⟩, (hl19.at fun o e => Heap.get?_push_of_some _ e)⟩ (fun b o e => Heap.get?_push_of_some _ (Heap.get?_push_of_some _ e)) ?hS0 ?hR
        case hS0 =>
          have hget9 : ((s.heap.push { cls := .type "set", dict := none, data := .set #[] 0 (.fresh 0 0 (!w.params.followText "set-order")) }).push { cls := .type "tuple_iterator", data := .fields #[.ref l, .int 0 0] }).get? s.heap.objs.size
              = some { cls := .type "set", dict := none, data := .set #[] 0 (.fresh 0 0 (!w.params.followText "set-order")) } := Heap.get?_push_of_some _ hS9
          exact ⟨[], #[], 0, _, setTR_fresh hget9, Got.zero ks9⟩
        case hR =>
          intro s' L es9 ep9 t hm9 hSq9 gq9 hkp9
          obtain ⟨h', g29, dq9, tkq9, osq9⟩ := s'
          have eg9 : g29 = s.gens := hm9.gens
          have ed9 : dq9 = s.drawn := hm9.drawn
          have eo9 : osq9 = s.os := hm9.os
          subst eg9; subst ed9; subst eo9
          show wpAny _ _ _ _ _ _
          refine wpAny_pure ?_
          show wpAny _ _ (ret Value.none) _ _ _
          rw [hisz9] at gq9
          exact wpAny_pure ⟨rfl, h', tkq9, L, es9, ep9, t, rfl, hSq9, gq9, hkp9⟩

      · cases rb9 with
        | error e => exact hrb9
        | ok flb9 =>
          cases flb9 with
          | ret r =>
            obtain ⟨rfl, h', tk9, L, es9, ep9, t, rfl, hSq9, gq9, hkq9⟩ := hrb9
            repeat (any_goals (first | assumption | wp_step))
            exact h _ _ _ _ _ _ hSq9 gq9 hkq9
          | _ => exact hrb9.elim
    | _ => exact hr9.elim

end
end W7

/-! plain mathematics: lists of tuples of numbers, in the order of their entries; least ones -/
namespace M7
/-- entry by entry at most -/
def fitB : List Nat → List Nat → Bool
  | a :: t, b :: u => decide (a ≤ b) && fitB t u
  | _, _ => true
/-- before, at the first entry that is unlike -/
def ltN : List Nat → List Nat → Bool
  | a :: t, b :: u => decide (a < b) || (decide (a = b) && ltN t u)
  | _, _ => false
theorem fit_refl : ∀ t, fitB t t = true
  | [] => rfl
  | a :: t => by
    show (decide (a ≤ a) && fitB t t) = true
    rw [fit_refl t, decide_eq_true (Nat.le_refl a)]
    rfl
theorem fit_cons {a b : Nat} {t u : List Nat} : fitB (a :: t) (b :: u) = true ↔ a ≤ b ∧ fitB t u = true := by
  show (decide (a ≤ b) && fitB t u) = true ↔ _
  rw [Bool.and_eq_true, decide_eq_true_iff]
theorem fit_trans : ∀ {t u v : List Nat}, u.length = t.length → fitB t u = true → fitB u v = true → fitB t v = true
  | [], _, _, _, _, _ => by simp [fitB]
  | _ :: _, [], _, h, _, _ => by simp at h
  | _ :: _, _ :: _, [], _, _, _ => by simp [fitB]
  | a :: t, b :: u, c :: v, h, h1, h2 => by
    rw [fit_cons] at h1 h2 ⊢
    exact ⟨Nat.le_trans h1.1 h2.1, fit_trans (by simpa using h) h1.2 h2.2⟩
theorem fit_anti : ∀ {t u : List Nat}, u.length = t.length → fitB t u = true → fitB u t = true → t = u
  | [], [], _, _, _ => rfl
  | [], _ :: _, h, _, _ => by simp at h
  | _ :: _, [], h, _, _ => by simp at h
  | a :: t, b :: u, h, h1, h2 => by
    rw [fit_cons] at h1 h2
    rw [Nat.le_antisymm h1.1 h2.1, fit_anti (by simpa using h) h1.2 h2.2]
theorem lt_cons {a b : Nat} {t u : List Nat} : ltN (a :: t) (b :: u) = true ↔ a < b ∨ (a = b ∧ ltN t u = true) := by
  show (decide (a < b) || (decide (a = b) && ltN t u)) = true ↔ _
  rw [Bool.or_eq_true, Bool.and_eq_true, decide_eq_true_iff, decide_eq_true_iff]
theorem lt_irr : ∀ t, ltN t t = false
  | [] => rfl
  | a :: t => by
    cases h : ltN (a :: t) (a :: t) with
    | false => rfl
    | true =>
      rcases lt_cons.mp h with z | ⟨_, z⟩
      · omega
      · rw [lt_irr t] at z
        cases z
theorem lt_trans : ∀ {t u v : List Nat}, ltN t u = true → ltN u v = true → ltN t v = true
  | [], _, _, h, _ => by simp [ltN] at h
  | _ :: _, [], _, h, _ => by simp [ltN] at h
  | _ :: _, _ :: _, [], _, h => by simp [ltN] at h
  | a :: t, b :: u, c :: v, h1, h2 => by
    rw [lt_cons] at h1 h2 ⊢
    rcases h1 with h1 | ⟨h1, k1⟩ <;> rcases h2 with h2 | ⟨h2, k2⟩
    · exact .inl (by omega)
    · exact .inl (by omega)
    · exact .inl (by omega)
    · exact .inr ⟨by omega, lt_trans k1 k2⟩
theorem lt_tri : ∀ {t u : List Nat}, u.length = t.length → t ≠ u → ltN t u = true ∨ ltN u t = true
  | [], [], _, h => absurd rfl h
  | [], _ :: _, h, _ => by simp at h
  | _ :: _, [], h, _ => by simp at h
  | a :: t, b :: u, hl, h => by
    rw [lt_cons, lt_cons]
    rcases Nat.lt_trichotomy a b with z | z | z
    · exact .inl (.inl z)
    · subst z
      rcases lt_tri (t := t) (u := u) (by simpa using hl) (fun e => h (by rw [e])) with k | k
      · exact .inl (.inr ⟨rfl, k⟩)
      · exact .inr (.inr ⟨rfl, k⟩)
    · exact .inr (.inl z)
theorem fit_lt : ∀ {t u : List Nat}, u.length = t.length → fitB t u = true → t ≠ u → ltN t u = true
  | [], [], _, _, h => absurd rfl h
  | [], _ :: _, h, _, _ => by simp at h
  | _ :: _, [], h, _, _ => by simp at h
  | a :: t, b :: u, hl, hf, h => by
    rw [fit_cons] at hf
    rw [lt_cons]
    rcases Nat.lt_or_eq_of_le hf.1 with z | z
    · exact .inl z
    · subst z
      exact .inr ⟨rfl, fit_lt (by simpa using hl) hf.2 fun e => h (by rw [e])⟩
theorem fit_sum : ∀ {t u : List Nat}, u.length = t.length → fitB t u = true → t.sum ≤ u.sum ∧ (t ≠ u → t.sum < u.sum)
  | [], [], _, _ => ⟨Nat.le_refl _, fun h => absurd rfl h⟩
  | [], _ :: _, h, _ => by simp at h
  | _ :: _, [], h, _ => by simp at h
  | a :: t, b :: u, hl, hf => by
    rw [fit_cons] at hf
    obtain ⟨h1, h2⟩ := fit_sum (t := t) (u := u) (by simpa using hl) hf.2
    simp only [List.sum_cons]
    refine ⟨by omega, fun h => ?_⟩
    rcases Nat.lt_or_eq_of_le hf.1 with z | z
    · omega
    · subst z
      have := h2 fun e => h (by rw [e])
      omega
/-! ### lists that ascend -/
abbrev Asc (A : List (List Nat)) : Prop := A.Pairwise fun t u => ltN t u = true
theorem asc_unique : ∀ {A B : List (List Nat)}, Asc A → Asc B → (∀ x, x ∈ A ↔ x ∈ B) → A = B
  | [], [], _, _, _ => rfl
  | [], b :: B, _, _, h => by simpa using (h b).mpr List.mem_cons_self
  | a :: A, [], _, _, h => by simpa using (h a).mp List.mem_cons_self
  | a :: A, b :: B, h1, h2, h => by
    obtain ⟨a1, a2⟩ := List.pairwise_cons.mp h1
    obtain ⟨b1, b2⟩ := List.pairwise_cons.mp h2
    have e : a = b := by
      rcases List.mem_cons.mp ((h a).mp List.mem_cons_self) with z | z
      · exact z
      · rcases List.mem_cons.mp ((h b).mpr List.mem_cons_self) with k | k
        · exact k.symm
        · have := lt_trans (b1 a z) (a1 b k)
          rw [lt_irr] at this
          cases this
    subst e
    rw [asc_unique a2 b2 fun x => ?_]
    constructor
    · intro hx
      rcases List.mem_cons.mp ((h x).mp (List.mem_cons_of_mem _ hx)) with z | z
      · subst z
        have := a1 x hx
        rw [lt_irr] at this
        cases this
      · exact z
    · intro hx
      rcases List.mem_cons.mp ((h x).mpr (List.mem_cons_of_mem _ hx)) with z | z
      · subst z
        have := b1 x hx
        rw [lt_irr] at this
        cases this
      · exact z
def insN (x : List Nat) : List (List Nat) → List (List Nat)
  | [] => [x]
  | y :: r => if x = y then y :: r else if ltN x y = true then x :: y :: r else y :: insN x r
theorem mem_ins {x z : List Nat} : ∀ {L : List (List Nat)}, z ∈ insN x L ↔ z = x ∨ z ∈ L
  | [] => by simp [insN]
  | y :: r => by
    unfold insN
    split
    · rename_i h
      subst h
      simp
    · split
      · simp
      · rw [List.mem_cons, mem_ins, List.mem_cons]
        constructor
        · rintro (h | h | h)
          · exact .inr (.inl h)
          · exact .inl h
          · exact .inr (.inr h)
        · rintro (h | h | h)
          · exact .inr (.inl h)
          · exact .inl h
          · exact .inr (.inr h)
theorem asc_ins {x : List Nat} : ∀ {L : List (List Nat)}, (∀ y ∈ L, y.length = x.length) → Asc L → Asc (insN x L)
  | [], _, _ => List.pairwise_cons.mpr ⟨fun _ h => by simp at h, .nil⟩
  | y :: r, hl, h => by
    obtain ⟨h1, h2⟩ := List.pairwise_cons.mp h
    unfold insN
    split
    · exact h
    · rename_i hne
      split
      · rename_i hlt
        refine List.pairwise_cons.mpr ⟨fun z hz => ?_, h⟩
        rcases List.mem_cons.mp hz with e | e
        · rw [e]
          exact hlt
        · exact lt_trans hlt (h1 z e)
      · rename_i hn
        refine List.pairwise_cons.mpr ⟨fun z hz => ?_, asc_ins (fun y hy => hl y (List.mem_cons_of_mem _ hy)) h2⟩
        rcases mem_ins.mp hz with e | e
        · rw [e]
          rcases lt_tri (t := x) (u := y) (hl y List.mem_cons_self) hne with k | k
          · exact absurd k hn
          · exact k
        · exact h1 z e
def canonN (L : List (List Nat)) : List (List Nat) := L.foldr insN []
theorem mem_canon {z : List Nat} : ∀ {L : List (List Nat)}, z ∈ canonN L ↔ z ∈ L
  | [] => Iff.rfl
  | x :: L => by
    show z ∈ insN x (canonN L) ↔ _
    rw [mem_ins, mem_canon, List.mem_cons]
theorem asc_canon {d : Nat} : ∀ {L : List (List Nat)}, (∀ y ∈ L, y.length = d) → Asc (canonN L)
  | [], _ => .nil
  | x :: L, h => asc_ins (fun y hy => by rw [h y (List.mem_cons_of_mem _ (mem_canon.mp hy)), h x List.mem_cons_self]) (asc_canon fun y hy => h y (List.mem_cons_of_mem _ hy))
theorem canon_len : ∀ L : List (List Nat), (canonN L).length ≤ L.length
  | [] => Nat.le_refl _
  | x :: L => by
    have h := canon_len L
    have k : ∀ M : List (List Nat), (insN x M).length ≤ M.length + 1 := fun M => by
      induction M with
      | nil => exact Nat.le_refl _
      | cons y r ih =>
        unfold insN
        split
        · exact Nat.le_succ _
        · split
          · exact Nat.le_refl _
          · exact Nat.succ_le_succ ih
    exact Nat.le_trans (k _) (Nat.succ_le_succ h)
theorem canon_of {d : Nat} {A L : List (List Nat)} (hA : Asc A) (hd : ∀ y ∈ L, y.length = d) (h : ∀ x, x ∈ A ↔ x ∈ L) : A = canonN L :=
  asc_unique hA (asc_canon hd) fun x => (h x).trans mem_canon.symm
/-! ### least ones -/
abbrev takeN (kept : List (List Nat)) (p : List Nat) : List (List Nat) := if (kept.any fun k => fitB k p) = true then kept else kept ++ [p]
def keepN (A : List (List Nat)) : List (List Nat) := A.foldl takeN []
def minB (A : List (List Nat)) (p : List Nat) : Bool := !(A.any fun q => decide (q ≠ p) && fitB q p)
def leastN (L : List (List Nat)) : List (List Nat) := (canonN L).filter (minB (canonN L))
theorem min_false {A : List (List Nat)} {p : List Nat} : minB A p = false ↔ ∃ q ∈ A, q ≠ p ∧ fitB q p = true := by
  unfold minB
  rw [Bool.not_eq_false', List.any_eq_true]
  constructor
  · rintro ⟨q, h1, h2⟩
    rw [Bool.and_eq_true, decide_eq_true_iff] at h2
    exact ⟨q, h1, h2⟩
  · rintro ⟨q, h1, h2⟩
    exact ⟨q, h1, by rw [Bool.and_eq_true, decide_eq_true_iff]; exact h2⟩
theorem below {d : Nat} {A : List (List Nat)} (hd : ∀ y ∈ A, y.length = d) : ∀ (n : Nat) (q : List Nat), q.sum ≤ n → q ∈ A → ∃ m ∈ A, minB A m = true ∧ fitB m q = true
  | n, q, hn, hq => by
    cases h : minB A q with
    | true => exact ⟨q, hq, h, fit_refl q⟩
    | false =>
      obtain ⟨r, hr, hne, hf⟩ := min_false.mp h
      have hl : q.length = r.length := by rw [hd q hq, hd r hr]
      have hs := (fit_sum hl hf).2 hne
      cases n with
      | zero => omega
      | succ n =>
        obtain ⟨m, hm, h1, h2⟩ := below hd n r (by omega) hr
        exact ⟨m, hm, h1, fit_trans (by rw [hd r hr, hd m hm]) h2 hf⟩
theorem keep_from {d : Nat} {A : List (List Nat)} (hA : Asc A) (hd : ∀ y ∈ A, y.length = d) : ∀ (S P : List (List Nat)), A = P ++ S → S.foldl takeN (P.filter (minB A)) = A.filter (minB A)
  | [], P, e => by rw [e, List.append_nil]; rfl
  | p :: S, P, e => by
    have hp : p ∈ A := by rw [e]; exact List.mem_append_right _ List.mem_cons_self
    have asc := hA
    rw [e] at asc
    obtain ⟨_, a2, a3⟩ := List.pairwise_append.mp asc
    obtain ⟨b1, _⟩ := List.pairwise_cons.mp a2
    have key : ((P.filter (minB A)).any fun k => fitB k p) = !minB A p := by
      cases hm : minB A p with
      | true =>
        cases hk : (P.filter (minB A)).any fun k => fitB k p with
        | false => rfl
        | true =>
          obtain ⟨k, k1, k2⟩ := List.any_eq_true.mp hk
          have kP := (List.mem_filter.mp k1).1
          have kA : k ∈ A := by rw [e]; exact List.mem_append_left _ kP
          have kne : k ≠ p := fun z => by
            have := a3 k kP p List.mem_cons_self
            rw [z, lt_irr] at this
            cases this
          have := min_false.mpr ⟨k, kA, kne, k2⟩
          rw [hm] at this
          cases this
      | false =>
        obtain ⟨q, q1, q2, q3⟩ := min_false.mp hm
        obtain ⟨m, m1, m2, m3⟩ := below hd q.sum q (Nat.le_refl _) q1
        have lq : p.length = q.length := by rw [hd p hp, hd q q1]
        have lm : q.length = m.length := by rw [hd q q1, hd m m1]
        have mp := fit_trans lm m3 q3
        have mne : m ≠ p := fun z => by
          subst z
          exact q2 (fit_anti lq q3 m3)
        have mlt := fit_lt (by rw [lq, lm]) mp mne
        have mP : m ∈ P := by
          rw [e] at m1
          rcases List.mem_append.mp m1 with z | z
          · exact z
          · rcases List.mem_cons.mp z with k | k
            · exact absurd k mne
            · have := lt_trans mlt (b1 m k)
              rw [lt_irr] at this
              cases this
        exact List.any_eq_true.mpr ⟨m, List.mem_filter.mpr ⟨mP, m2⟩, mp⟩
    have step : takeN (P.filter (minB A)) p = (P ++ [p]).filter (minB A) := by
      show (if ((P.filter (minB A)).any fun k => fitB k p) = true then _ else _) = _
      rw [key, List.filter_append]
      cases hm : minB A p with
      | true =>
        rw [if_neg (by decide), List.filter_cons, if_pos hm]
        rfl
      | false =>
        rw [if_pos (show (!false) = true from rfl), List.filter_cons, if_neg (by rw [hm]; decide)]
        exact (List.append_nil _).symm
    show S.foldl takeN (takeN (P.filter (minB A)) p) = _
    rw [step]
    exact keep_from hA hd S (P ++ [p]) (by rw [e, List.append_assoc]; rfl)
theorem keep_least {d : Nat} {L : List (List Nat)} (hd : ∀ y ∈ L, y.length = d) : keepN (canonN L) = leastN L :=
  keep_from (asc_canon hd) (fun y hy => hd y (mem_canon.mp hy)) (canonN L) [] rfl
end M7

/-! sorted(set(x)), x a list or a tuple of tuples of numbers -/
namespace R7
open PySem PySem.Spec PyProof.Rows L2 L5 M7
abbrev zN (t : List Nat) : List Int := t.map fun n => ((n : Nat) : Int)
theorem zN_inj {t u : List Nat} (h : zN t = zN u) : t = u := (List.map_inj_right (f := fun n : Nat => ((n : Nat) : Int)) (fun a b e => by omega)).mp h
theorem bd_of {B : Nat} {t : List Nat} (h : ∀ e ∈ t, e < B) : TS.Bd (B : Int) (zN t) := fun m hm => by
  obtain ⟨n, hn, rfl⟩ := List.mem_map.mp hm
  have := h n hn
  omega
theorem lt_code {B : Nat} : ∀ {t u : List Nat}, u.length = t.length → (∀ e ∈ t, e < B) → (∀ e ∈ u, e < B) → ltN t u = true → TS.code (B : Int) (zN t) < TS.code (B : Int) (zN u)
  | [], _, _, _, _, h => by simp [ltN] at h
  | _ :: _, [], _, _, _, h => by simp [ltN] at h
  | a :: t, b :: u, hl, h1, h2, h => by
    have hl' : u.length = t.length := by simpa using hl
    have k1 : ∀ e ∈ t, e < B := fun e he => h1 e (List.mem_cons_of_mem _ he)
    have k2 : ∀ e ∈ u, e < B := fun e he => h2 e (List.mem_cons_of_mem _ he)
    rcases lt_cons.mp h with z | ⟨rfl, z⟩
    · exact TS.code_lt (by rw [List.length_map, List.length_map, hl']) (bd_of k1) (bd_of k2) (show ((a : Nat) : Int) < ((b : Nat) : Int) by omega)
    · have := lt_code hl' k1 k2 z
      show ((a : Nat) : Int) * (B : Int) ^ (zN t).length + TS.code (B : Int) (zN t) < ((a : Nat) : Int) * (B : Int) ^ (zN u).length + TS.code (B : Int) (zN u)
      rw [show (zN u).length = (zN t).length by rw [List.length_map, List.length_map, hl']]
      omega
theorem code_ltN {B : Nat} {t u : List Nat} (hl : u.length = t.length) (h1 : ∀ e ∈ t, e < B) (h2 : ∀ e ∈ u, e < B) (hc : TS.code (B : Int) (zN t) ≤ TS.code (B : Int) (zN u)) (hne : t ≠ u) : ltN t u = true := by
  rcases lt_tri hl hne with z | z
  · exact z
  · have := lt_code hl.symm h2 h1 z
    omega
section
variable {K : PySem.W.Frag} {H : Hp}
/-- addresses with what stands at them -/
theorem tups_pairs : ∀ {rs : List Addr} {L : List (List Nat)}, Tups K H rs L → ∃ ks : List (Addr × List Nat), ks.map (·.1) = rs ∧ ks.map (·.2) = L ∧ ∀ p ∈ ks, SqT K H p.1 (nv p.2)
  | _, _, .nil => ⟨[], rfl, rfl, fun _ h => nomatch h⟩
  | _, _, .cons (a := a) (b := t) h r => by
    obtain ⟨ks, e1, e2, e3⟩ := tups_pairs r
    refine ⟨(a, t) :: ks, by rw [List.map_cons, e1], by rw [List.map_cons, e2], fun p hp => ?_⟩
    rcases List.mem_cons.mp hp with rfl | hp
    · exact h
    · exact e3 p hp
theorem pairs_tups : ∀ {ks : List (Addr × List Nat)}, (∀ p ∈ ks, SqT K H p.1 (nv p.2)) → Tups K H (ks.map (·.1)) (ks.map (·.2))
  | [], _ => .nil
  | p :: ks, h => .cons (h p List.mem_cons_self) (pairs_tups fun q hq => h q (List.mem_cons_of_mem _ hq))
end
section
variable {X : Cx}
/-- set(x), x a tuple of tuples of ints -/
def rSetTT (K : PySem.W.Frag) (P : Program) (w : World) : List V → Hp → VK → Prop := fun xs H Q => ∃ (l : Addr) (ks : List (Addr × List Int)), xs = [V.ref l] ∧ SqT K H l (ks.map fun p => V.ref p.1) ∧ (∀ p ∈ ks, SqT K H p.1 (p.2.map V.int)) ∧ ks.length < 64 ∧
  ∀ a L, H a = none → (∀ p ∈ L, p ∈ ks) → (∀ p ∈ ks, p.2 ∈ L.map (·.2)) → Q (.ref a) (upd H a (SetTO P w a L))
theorem cr_setTT (calm : X.calm = true) (room : X.A.units + 64 < cLine) : CallR X (.type "set") (rSetTT X.K X.prog X.w) := by
  intro pins s σ H xs us Q I r h
  obtain ⟨l, ks, rfl, at_, each, few, q⟩ := h
  rw [Vals.ref1 r]
  obtain ⟨_, rv, plain, _⟩ := I.tuple at_
  have free : H s.heap.objs.size = none := I.hok.fresh (Nat.le_refl _)
  refine W7.set_of_tuple (P := X.prog) (w := X.w) ks (I.ok.hd calm) plain (by simpa using refs_of_vals rv) (fun p hp => I.isT (each p hp)) few (by omega) fun h' tk L es ep t R g k => ?_
  exact ⟨.ref s.heap.objs.size, upd H s.heap.objs.size (SetTO X.prog X.w s.heap.objs.size L), I.laid (t' := tk) k (Nat.le_refl _) (setTO_new R.t0), rfl, q _ L free (fun p hp => List.mem_of_mem_take (g.sub p hp)) fun p hp => g.all p (by rw [List.take_length]; exact hp)⟩
theorem cr_setAny (calm : X.calm = true) (room : X.A.units + 64 < cLine) : CallR X (.type "set") (fun xs H Q => rSetOfT X.K X.prog X.w xs H Q ∨ rSetTT X.K X.prog X.w xs H Q) := fun pins s σ H xs us Q I r h =>
  h.elim (fun h => cr_setOfT calm room pins s σ H xs us Q I r h) fun h => cr_setTT calm room pins s σ H xs us Q I r h
theorem weakE {e : Expr} {t t' : TE} (h : PE X e t) (i : ∀ σ H Q, t' σ H Q → t σ H Q) : PE X e t' := ⟨fun pins s σ H Q I h' => h.run pins s σ H Q I (i σ H Q h')⟩
/-- sorted(set(x)) -/
def tSS (K : PySem.W.Frag) (te : TE) : TE := fun σ H Q => te σ H fun x H1 => ∃ (l : Addr) (rs : List Addr) (L : List (List Nat)) (d B : Nat), x = .ref l ∧ (SqL K H1 l (rs.map V.ref) ∨ SqT K H1 l (rs.map V.ref)) ∧ Tups K H1 rs L ∧ L.length < 64 ∧ 1 ≤ d ∧ (∀ t ∈ L, t.length = d) ∧ (∀ t ∈ L, ∀ e ∈ t, e < B) ∧
  ∀ H' q rs', Same H1 H' → H1 q = none → H' q = some (.lst (rs'.map V.ref)) → Tups K H' rs' (canonN L) → Q (.ref q) H'
theorem pe_sset {e : Expr} {te : TE} {p1 p2 q1 q2 : Pos} (calm : X.calm = true) (room : X.A.units + 64 < cLine) (g1 : Gl X "sorted") (m1 : X.mg "sorted" = none) (g2 : Gl X "set") (m2 : X.mg "set" = none) (he : PE X e te)
    (t1 : starEach [.Call (.Name "set" p2) [e] [] q2] X.env = (false, eval (.Call (.Name "set" p2) [e] [] q2) X.env) :: starEach [] X.env := by rfl) (t2 : starEach [e] X.env = (false, eval e X.env) :: starEach [] X.env := by rfl)  :
    PE X (.Call (.Name "sorted" p1) [.Call (.Name "set" p2) [e] [] q2] [] q1) (tSS X.K te) := by
  have he' : PE X e (fun σ H Q => ∃ P : VK, te σ H P ∧ ∀ x H1, P x H1 → Q x H1) := ⟨fun pins s σ H Q I ⟨P, h, m⟩ => thn (he.run pins s σ H P I h) fun u s1 ⟨v, H1, I1, r, q⟩ => ⟨v, H1, I1, r, m v H1 q⟩⟩
  refine weakE (pe_callB (cr_sortedT calm) g1 m1 (by decide +kernel) (pa_cons (pe_callTy (cr_setAny calm room) g2 m2 (by decide +kernel) (pa_cons he' pa_nil (hs := t2)) (he := t2)) pa_nil (hs := t1)) (he := t1)) ?_
  intro σ H Q h
  refine ⟨_, h, ?_⟩
  rintro x H1 ⟨l, rs, L, d, B, rfl, at_, hT, few, hd, hlen, hB, q⟩
  obtain ⟨ks, e1, e2, e3⟩ := tups_pairs hT
  have nvz : ∀ t : List Nat, (zN t).map V.int = nv t := fun t => (nv_ints t).symm
  have ks3 : ∀ p ∈ ks.map (fun p => (p.1, zN p.2)), SqT X.K H1 p.1 (p.2.map V.int) := fun p hp => by
    obtain ⟨k, hk, rfl⟩ := List.mem_map.mp hp
    show SqT X.K H1 k.1 ((zN k.2).map V.int)
    rw [nvz]
    exact e3 k hk
  have refs : (ks.map fun p => (p.1, zN p.2)).map (fun p => V.ref p.1) = rs.map V.ref := by
    rw [List.map_map, ← e1, List.map_map]
    rfl
  have few' : (ks.map fun p => (p.1, zN p.2)).length < 64 := by
    rw [List.length_map, ← List.length_map (f := (·.2)) (as := ks), e2]
    exact few
  have go : ∀ a Ls, H1 a = none → (∀ p ∈ Ls, p ∈ ks.map fun p => (p.1, zN p.2)) → (∀ p ∈ ks.map (fun p => (p.1, zN p.2)), p.2 ∈ Ls.map (·.2)) → rSortedT X.K X.prog X.w [.ref a] (upd H1 a (SetTO X.prog X.w a Ls)) Q := by
    intro a Ls ha sub all
    have sa := same_new ha (SetTO X.prog X.w a Ls)
    have memL : ∀ p ∈ Ls, ∃ k ∈ ks, p = (k.1, zN k.2) := fun p hp => by
      obtain ⟨k, hk, e⟩ := List.mem_map.mp (sub p hp)
      exact ⟨k, hk, e.symm⟩
    have inL : ∀ k ∈ ks, k.2 ∈ L := fun k hk => by
      rw [← e2]
      exact List.mem_map_of_mem hk
    refine ⟨a, Ls, d, (B : Int), rfl, upd_same, fun p hp => same_sqt sa (ks3 p (sub p hp)), hd, fun p hp => ?_, fun L' p pm nd _ pw hp => ?_⟩
    · obtain ⟨k, hk, rfl⟩ := memL p hp
      exact ⟨by rw [List.length_map]; exact hlen _ (inL k hk), bd_of (hB _ (inL k hk))⟩
    · -- what stands in the sorted list
      have mem' : ∀ r ∈ L', ∃ k ∈ ks, r = (k.1, zN k.2) := fun r hr => memL r (pm.mem_iff.mp hr)
      have back : ∀ k : Addr × List Nat, (zN k.2).map Int.toNat = k.2 := fun k => by
        rw [List.map_map]
        exact (List.map_congr_left fun n _ => by show (((n : Nat) : Int)).toNat = n; omega).trans (List.map_id _)
      have asc : Asc (L'.map fun r => r.2.map Int.toNat) := by
        have nd' : L'.Pairwise fun q r => q.2 ≠ r.2 := List.pairwise_map.mp nd
        have both := pw.and nd'
        rw [Asc, List.pairwise_map]
        refine both.imp_of_mem fun {q r} hq hr hqr => ?_
        obtain ⟨k1, hk1, rfl⟩ := mem' q hq
        obtain ⟨k2, hk2, rfl⟩ := mem' r hr
        show ltN ((zN k1.2).map Int.toNat) ((zN k2.2).map Int.toNat) = true
        rw [back, back]
        exact code_ltN (by rw [hlen _ (inL k1 hk1), hlen _ (inL k2 hk2)]) (hB _ (inL k1 hk1)) (hB _ (inL k2 hk2)) hqr.1 fun z => hqr.2 (by show zN k1.2 = zN k2.2; rw [z])
      have canon : (L'.map fun r => r.2.map Int.toNat) = canonN L := by
        refine canon_of asc hlen fun t => ⟨fun ht => ?_, fun ht => ?_⟩
        · obtain ⟨r, hr, rfl⟩ := List.mem_map.mp ht
          obtain ⟨k, hk, rfl⟩ := mem' r hr
          show (zN k.2).map Int.toNat ∈ L
          rw [back]
          exact inL k hk
        · rw [← e2] at ht
          obtain ⟨k, hk, rfl⟩ := List.mem_map.mp ht
          obtain ⟨r, hr, e⟩ := List.mem_map.mp (all (k.1, zN k.2) (List.mem_map_of_mem (f := fun p : Addr × List Nat => (p.1, zN p.2)) hk))
          refine List.mem_map.mpr ⟨r, pm.mem_iff.mpr hr, ?_⟩
          show r.2.map Int.toNat = k.2
          rw [e]
          exact back k
      have sp := same_new hp (.lst (L'.map fun q => V.ref q.1))
      have tl : Tups X.K (upd (upd H1 a (SetTO X.prog X.w a Ls)) p (.lst (L'.map fun q => V.ref q.1))) ((L'.map fun r => (r.1, r.2.map Int.toNat)).map (·.1)) ((L'.map fun r => (r.1, r.2.map Int.toNat)).map (·.2)) := pairs_tups fun r hr => by
        obtain ⟨r0, hr0, rfl⟩ := List.mem_map.mp hr
        obtain ⟨k, hk, rfl⟩ := mem' r0 hr0
        show SqT X.K _ k.1 (nv ((zN k.2).map Int.toNat))
        rw [back]
        exact same_sqt (sa.trans sp) (e3 k hk)
      rw [List.map_map, List.map_map] at tl
      have tl2 : Tups X.K (upd (upd H1 a (SetTO X.prog X.w a Ls)) p (.lst (L'.map fun q => V.ref q.1))) (L'.map (·.1)) (L'.map fun r => r.2.map Int.toNat) := tl
      rw [canon] at tl2
      refine q _ p (L'.map (·.1)) (sa.trans sp) (sa.free hp) ?_ tl2
      rw [upd_same, List.map_map]
      rfl
  rcases at_ with at_ | at_
  · exact .inl ⟨l, _, rfl, by rw [refs]; exact at_, ks3, few', go⟩
  · exact .inr ⟨l, _, rfl, by rw [refs]; exact at_, ks3, few', go⟩
end
end R7

/-! a for over a list or a tuple, whichever it is -/
namespace R7
open PySem PySem.Spec PyProof.Rows L2 L5 M7
section
variable {X : Cx} {tg : Expr}
def iAny (K : PySem.W.Frag) (tl : TE) : TI := fun σ H R => tl σ H fun x H1 => ∃ a, x = .ref a ∧ (((∃ xs, SqL K H1 a xs) ∧ R (Itl K a) H1) ∨ ((∃ xs, SqT K H1 a xs) ∧ R (Itt K a) H1))
theorem pi_any {l : Expr} {tl : TE} (hl : PE X l tl) : PI X tg l (iAny X.K tl) := by
  refine ⟨fun pins s σ H R I h => thn (hl.run pins s σ H _ I h) fun v s1 ⟨x, H1, I1, r1, q1⟩ => ?_⟩
  obtain ⟨a, ea, ⟨⟨xs, at_⟩, q⟩ | ⟨⟨xs, at_⟩, q⟩⟩ := q1
  · subst ea; cases r1
    obtain ⟨_, _, plain, _⟩ := I1.list at_
    refine wpAny_pyIter_list plain.isList ⟨s1.heap.objs.size, [s1.heap.objs.size], _, _, H1, rfl, I1.kept (t' := s1.toks) fun b o e => Heap.get?_push_of_some _ e, turn_list a _, ⟨_, Heap.get?_push_size _ rfl, rfl, rfl⟩, fun b hb => ?_, q⟩
    obtain rfl : b = s1.heap.objs.size := List.mem_singleton.mp hb
    exact I1.fpOk (Nat.le_refl _) (I1.hok.fresh (Nat.le_refl _))
  · subst ea; cases r1
    obtain ⟨its, _, plain, _⟩ := I1.tuple at_
    refine wpAny_pyIter_tuple (show s1.heap.IsTuple a its.toArray from plain) ⟨s1.heap.objs.size, [s1.heap.objs.size], _, _, H1, rfl, I1.kept (t' := s1.toks) fun b o e => Heap.get?_push_of_some _ e, turn_tuple a _, ⟨_, Heap.get?_push_size _ rfl, rfl, rfl⟩, fun b hb => ?_, q⟩
    obtain rfl : b = s1.heap.objs.size := List.mem_singleton.mp hb
    exact I1.fpOk (Nat.le_refl _) (I1.hok.fresh (Nat.le_refl _))
end
def SqA (K : PySem.W.Frag) (H : Hp) (a : Addr) (xs : List V) : Prop := SqL K H a xs ∨ SqT K H a xs
section
variable {K : PySem.W.Frag} {H H' : Hp}
theorem sql_same {a : Addr} {xs : List V} (e : Same H H') (h : SqL K H a xs) : SqL K H' a xs := e.seq h
theorem SqA.same {a : Addr} {xs : List V} (e : Same H H') (h : SqA K H a xs) : SqA K H' a xs := h.imp (e.seq ·) (same_sqt e ·)
abbrev Turns (J : It) (g : TG) (tb : TS) (D : Ends) (σ : L2.St) (H : Hp) : Prop := ∃ W : Nat → Nat → L2.St → Hp → Prop, (∃ m, W 0 m σ H) ∧ ∀ i m σ H, W i m σ H →
  (J.stop i H ∧ D.nx σ H) ∨ (J.go i H ∧ ∃ N : L2.St → Hp → Prop, (∀ σ' H', N σ' H' → ∃ m', m' < m ∧ W (i + 1) m' σ' H') ∧ ∀ x H', J.yld i H x H' → g x σ H' fun σ2 H2 => tb { D with nx := N, ct := N, bk := D.nx } σ2 H2)
theorem for_any {a : Addr} {xs : List V} {g : TG} {tb : TS} {D : Ends} {σ : L2.St} (at_ : SqA K H a xs) (Pv : Nat → L2.St → Hp → Prop) (h0 : Pv 0 σ H) (keep : ∀ i σ' H', Pv i σ' H' → Same H H')
    (step : ∀ i x σ H, xs[i]? = some x → Pv i σ H → g x σ H fun σ2 H2 => tb { D with nx := Pv (i + 1), ct := Pv (i + 1), bk := D.nx } σ2 H2) (done : ∀ σ H, Pv xs.length σ H → D.nx σ H) :
    ((∃ xs, SqL K H a xs) ∧ Turns (Itl K a) g tb D σ H) ∨ ((∃ xs, SqT K H a xs) ∧ Turns (Itt K a) g tb D σ H) :=
  at_.elim (fun h => .inl ⟨⟨_, h⟩, for_list Pv h0 (fun i σ' H' _ p => (keep i σ' H' p).seq h) step done⟩) fun h => .inr ⟨⟨_, h⟩, for_tup Pv h0 (fun i σ' H' _ p => same_sqt (keep i σ' H' p) h) step done⟩
end
end R7

/-! [e for a in t for b in u], t and u tuples: the turns of both walks -/
namespace R7
open PySem PySem.Spec PyProof.Rows L2 L5 M7
section
variable {K : PySem.W.Frag} {g g1 : TG} {tt tt1 : TT} {te : TE} {vs vs1 : List Nat} {D : Addr}
abbrev In2 (J1 : It) (g1 : TG) (tt1 : TT) (te : TE) (vs1 : List Nat) (D : Addr) (σ2 : L2.St) (H4 : Hp) (Nx : Hp → Prop) : Prop := ∃ W1 : Nat → Nat → Hp → Prop, (∃ m, W1 0 m H4) ∧ ∀ j k H, W1 j k H →
  (J1.stop j H ∧ Nx H) ∨ (J1.go j H ∧ ∃ Nx1 : Hp → Prop, (∀ H', Nx1 H' → ∃ k', k' < k ∧ W1 (j + 1) k' H') ∧ ∀ x H', J1.yld j H x H' → g1 x (wipe σ2 vs1) H' fun σ3 H5 => wipe σ3 vs1 = wipe σ2 vs1 ∧ tt1 σ3 H5 fun b H6 =>
    if b = true then te σ3 H6 fun y H7 => ∃ acc, H7 D = some (.lst acc) ∧ acc.length < sizeLine ∧ Nx1 (upd H7 D (.lst (acc ++ [y]))) else Nx1 H6)
theorem in2_tup {b : Addr} {ys : List V} {σ2 : L2.St} {H4 : Hp} {Nx : Hp → Prop} (Pj : Nat → Hp → Prop) (h0 : Pj 0 H4) (at_ : ∀ j H, Pj j H → SqT K H b ys)
    (step : ∀ j y H, ys[j]? = some y → Pj j H → g1 y (wipe σ2 vs1) H fun σ3 H5 => wipe σ3 vs1 = wipe σ2 vs1 ∧ tt1 σ3 H5 fun c H6 => if c = true then te σ3 H6 fun z H7 => ∃ acc, H7 D = some (.lst acc) ∧ acc.length < sizeLine ∧ Pj (j + 1) (upd H7 D (.lst (acc ++ [z]))) else Pj (j + 1) H6)
    (done : ∀ H, Pj ys.length H → Nx H) : In2 (Itt K b) g1 tt1 te vs1 D σ2 H4 Nx := by
  refine ⟨fun j k H => j + k = ys.length ∧ Pj j H, ⟨ys.length, Nat.zero_add _, h0⟩, fun j k H0 hw => ?_⟩
  obtain ⟨e, pj⟩ := hw
  have here := at_ j H0 pj
  cases k with
  | zero =>
    obtain rfl : j = ys.length := e
    exact .inl ⟨⟨ys, here, Nat.le_refl _⟩, done H0 pj⟩
  | succ k =>
    have lt : j < ys.length := by omega
    refine .inr ⟨⟨ys, ys[j], here, List.getElem?_eq_getElem lt⟩, Pj (j + 1), fun H' p' => ⟨k, Nat.lt_succ_self k, by omega, p'⟩, fun x H' out => ?_⟩
    obtain ⟨same, val⟩ := out
    subst same
    exact step j x _ (val ys here) pj
theorem out2_tup {a : Addr} {xs : List V} {wi1 : TI} {σ : L2.St} {H1 : Hp} {Qd : Hp → Prop} (Pi : Nat → Hp → Prop) (h0 : Pi 0 (upd H1 D (.lst []))) (at_ : ∀ i H, Pi i H → SqT K H a xs)
    (step : ∀ i x H, xs[i]? = some x → Pi i H → g x (wipe σ vs) H fun σ2 H2 => wipe σ2 vs = wipe σ vs ∧ tt σ2 H2 fun c H3 => if c = true then wi1 σ2 H3 fun J1 H4 => In2 J1 g1 tt1 te vs1 D σ2 H4 (Pi (i + 1)) else Pi (i + 1) H3)
    (done : ∀ H, Pi xs.length H → Qd H) :
    ∃ W : Nat → Nat → Hp → Prop, (∃ m, W 0 m (upd H1 D (.lst []))) ∧ ∀ i m H, W i m H →
      ((Itt K a).stop i H ∧ Qd H) ∨ ((Itt K a).go i H ∧ ∃ Nx : Hp → Prop, (∀ H', Nx H' → ∃ m', m' < m ∧ W (i + 1) m' H') ∧ ∀ x H', (Itt K a).yld i H x H' → g x (wipe σ vs) H' fun σ2 H2 => wipe σ2 vs = wipe σ vs ∧ tt σ2 H2 fun c H3 =>
        if c = true then wi1 σ2 H3 fun J1 H4 => In2 J1 g1 tt1 te vs1 D σ2 H4 Nx else Nx H3) := by
  refine ⟨fun i m H => i + m = xs.length ∧ Pi i H, ⟨xs.length, Nat.zero_add _, h0⟩, fun i m H0 hw => ?_⟩
  obtain ⟨e, pi⟩ := hw
  have here := at_ i H0 pi
  cases m with
  | zero =>
    obtain rfl : i = xs.length := e
    exact .inl ⟨⟨xs, here, Nat.le_refl _⟩, done H0 pi⟩
  | succ m =>
    have lt : i < xs.length := by omega
    refine .inr ⟨⟨xs, xs[i], here, List.getElem?_eq_getElem lt⟩, Pi (i + 1), fun H' p' => ⟨m, Nat.lt_succ_self m, by omega, p'⟩, fun x H' out => ?_⟩
    obtain ⟨same, val⟩ := out
    subst same
    exact step i x _ (val xs here) pi
end
end R7

/-! an operator between two objects of one own class -/
namespace W7
open PySem PySem.W PySem.Calls PyProof.Rows
section
variable {prog : Program} {w : World} {A : Around} {E : Value → Shared → Prop} {s : Shared} {K : Frag} {x y C f : Addr} {ox oy : Obj} {od oe : Option Obj}
theorem fills_own {M : Model} {h : Heap} {cd : ClassData} {rest : List Value} {nm : String} (kin : K.In h) (hc : clsIn K C = some cd) (hm : cd.mro = .ref C :: rest) (hs : findIn K (.ref C) (PySem.dunder nm) = some (some (.ref f))) : Looks M h (fillsNumberSlot (.ref C) nm) true := fills_K kin hc hm hs
theorem bin_same {op : Operator} {Q : Value → Shared → Prop} (kin : K.In s.heap) (I : InstAt s.heap x ox C od) (J : InstAt s.heap y oy C oe) (first : selfFirst K C = true)
    (at_ : findIn K (.ref C) (PySem.dunder op.info.2) = some (some (.ref f))) (fn : isFn K (.ref f) = true) (h : wpAny (model prog w) A (call (.ref f) [.ref x, .ref y]) (PySem.W.CmpBack Q) E s) : wpAny (model prog w) A (binaryOp op (.ref x) (.ref y)) Q E s := by
  obtain ⟨cd, rest, known, mro⟩ := ksp_first first
  rcases info : op.info with ⟨sign, word⟩
  rw [info] at at_
  dsimp only at at_
  have tried := ksp_try kin I at_ fn h
  obtain ⟨hp, g, d, t, os⟩ := s
  have T1 : Looks (model prog w) hp (typeOf (.ref x)) (.ref C) := I.type
  have T2 : Looks (model prog w) hp (typeOf (.ref y)) (.ref C) := J.type
  have T3 : Looks (model prog w) hp (fillsNumberSlot (.ref C) word) true := fills_own kin known mro at_
  have same : (Value.ref C == Value.ref C) = true := beq_self_eq_true _
  simp only [binaryOp, info]
  refine wpAny_holding (wpAny_bind ?_)
  unfold binaryOp1
  refine wpAny_bind (T1.at (wpAny_bind (T2.at (wpAny_bind (T3.at ?_)))))
  simp only [same, if_true]
  ksp_lk
  refine wpAny_mono tried (fun r s' got => ?_) fun _ _ e => e
  obtain ⟨v, rfl, q⟩ := got
  ksp_lk
  exact q
end
end W7

namespace W7
open PySem PySem.Spec PyProof.Rows L2
section
variable {X : Cx} {CX : CXT} {C f : Addr} {fd : FuncData} {ps : List Str} {sp : Sp} {k : Nat} {op : Operator}
/-- a op b, both of the own class at C; sp: the method's promise -/
def rOwn (C : Addr) (sp : Sp) : R2 := fun x y H Q => ∃ (a b dx dy : Addr) (fs gs : List (Str × V)), x = .ref a ∧ y = .ref b ∧ H a = some (.ins C dx fs) ∧ H b = some (.ins C dy gs) ∧ sp [.ref a, .ref b] H Q E0
theorem no_notimpl {x : V} (h : RelV x .notImplemented) : False := by
  cases x <;> first | exact h.elim | (obtain ⟨_, e⟩ := h; cases e) | cases h
theorem op_own (first : PySem.W.selfFirst X.K C = true) (at_ : PySem.W.findIn X.K (.ref C) (PySem.dunder op.info.2) = some (some (.ref f))) (fn : PySem.W.isFn X.K (.ref f) = true) (F : FnOk X.prog X.w X.K X.mg X.base CX k f fd ps sp) (hr : Room k X.A) (hb : Binds X.K fd ps []) (hx : Passes CX X E0) : OpR X (binaryOp op) (rOwn C sp) := by
  intro pins s σ H x y v u Q I rx ry h
  obtain ⟨a, b, dx, dy, fs, gs, rfl, rfl, ha, hb2, q⟩ := h
  obtain rfl : v = Value.ref a := rx
  obtain rfl : u = Value.ref b := ry
  obtain ⟨_, Oa, _⟩ := ins_get I.hok ha
  obtain ⟨_, Ja, _⟩ := Oa.look
  obtain ⟨_, Ob, _⟩ := ins_get I.hok hb2
  obtain ⟨_, Jb, _⟩ := Ob.look
  refine bin_same I.kIn Ja Jb first at_ fn (wpAny_mono (run_fn (dvs := []) (ds := []) (vs := [.ref a, .ref b]) (us := [.ref a, .ref b]) (Q := Q) F hr hb .nil hx I (.cons rfl (.cons rfl .nil)) q) (fun r s' z => ?_) fun _ _ z => z)
  cases r with
  | notImplemented =>
    obtain ⟨_, _, _, rel, _⟩ := z
    exact no_notimpl rel
  | _ => exact z
end
end W7

/-! own exceptions with one field, over any built-in base; a try with several clauses, named or not -/
namespace XX
open PySem PySem.Spec PyProof.Rows L2 Builtin.ObjectAttr
/-! ### self.name = v of a fresh exception, whatever its built-in base is -/
section
variable {pr : Program} {wd : World} {A : Around} {R : Result → Shared → Prop} {hp : Heap} {g : Array GenState} {dr : Drawn} {t : Nat} {os : OsState} {B : String} {bmB : List Value}
theorem first_field {K : PySem.W.Frag} {name : Str} {tk : Tok} {v : Value} {x C : Addr} {fv : Array Value} {cd : ClassData} (SF : StoreFacts B bmB "object.__setattr__" "object") (kin : K.In hp)
    (hx : hp.get? x = some { cls := .ref C, data := .fields fv }) (hcd : PySem.W.clsIn K C = some cd) (over : PySem.W.excOver K C bmB = true) (has : cd.hasDict = true) (no : PySem.W.findIn K (.ref C) name = some none)
    (q : ∀ h' tk' dx, (∀ b o, b ≠ x → hp.get? b = some o → h'.get? b = some o) → hp.objs.size ≤ dx → dx ≠ x → h'.get? x = some { cls := .ref C, dict := some dx, data := .fields fv } →
      h'.Ns1 dx (fun y => if y = name then some v else none) → R (.ok (.ret .none)) ⟨h', g, dr, tk', os⟩) :
    codeAny (model pr wd) A (.call (.builtin "object.__setattr__") ⟨[.ref x, .str name tk, v], []⟩) R ⟨hp, g, dr, t, os⟩ := by
  have taker : PySem.W.takerIn K C name = some none := by
    unfold PySem.W.takerIn
    rw [no]
    rfl
  refine PySem.W.osa_openX (s := ⟨hp, g, dr, t, os⟩) (ox := { cls := .ref C, data := .fields fv }) (od := none) SF kin ⟨hx, rfl, rfl, trivial⟩ over taker fun b => ?_
  have away : x ≠ hp.objs.size := Nat.ne_of_lt (Heap.lt_size hx)
  have known : PySem.W.Looks (model pr wd) hp (classData C) cd := PySem.W.looks_clsIn kin hcd
  show wpAny _ _ (storeInOwnDict (.ref x) (.ref C) (.str name tk) name v b) _ _ _
  obtain ⟨_, _, _, _, _, hd, _, _, _, _, _⟩ := cd
  dsimp only at has
  subst has
  unfold storeInOwnDict ownDictForStores
  repeat (first | with_reducible refine HandSPX.store_in_new ?_ ?_ | with_reducible refine wpAny_loadPart_at hx ?_ | with_reducible refine known.at ?_ | wp_step)
  · exact ⟨_, #[], _, (Heap.get?_update_ne _ _ _ _ away.symm).trans (Heap.get?_push_at rfl rfl), rfl, fun e he => absurd he (by simp), fun _ => rfl⟩
  · intro h' tk' one same
    have still : (hp.push { cls := .type "dict", data := .dict #[] }).get? x = some { cls := .ref C, data := .fields fv } := Heap.get?_push_of_some _ hx
    exact q h' tk' hp.objs.size (fun b' o ne ob => (same.2 b' (Nat.ne_of_lt (Heap.lt_size ob))).trans ((Heap.get?_update_ne _ _ _ _ ne).trans (Heap.get?_push_of_some _ ob))) (Nat.le_refl _) away.symm
      ((same.2 x away).trans (Heap.get?_update_self _ still rfl)) one
end
/-- what the written part says of such a class -/
structure OexB (K : PySem.W.Frag) (C : Addr) (bmB : List Value) (newId : String) : Prop where
  cls : ∃ nm q N bs bm sn sub ab col dd k0 k1 k2 k3 k5, K.lookup C = some (excClassObj nm q C N bs bm true sn sub ab col dd k0 k1 k2 k3 k5 newId) ∧ PySem.W.excTail bmB bm = true
  sa : PySem.W.findIn K (.ref C) "__setattr__" = some (some (.builtin "object.__setattr__"))
  exC : PySem.W.subIn K (.ref C) (.type "BaseException") = some true
  tyC : PySem.W.typeIn K (.ref C) = some (.type "type")
  kC : PySem.W.keepIn K (.ref C) = true
section
variable {X : Cx} {pins : List (Addr × Obj)} {σ : L2.St} {H : Hp} {s : Shared} {a C : Addr} {f : Str} {y : V} {u : Value} {Q : Unit → Shared → Prop} {E : Value → Shared → Prop} {A : Around} {B newId initId : String} {bmB : List Value}
theorem ost_first (SF : StoreFacts B bmB "object.__setattr__" "object") (T : OexB X.K C bmB newId) (I : Inv X pins σ H s) (e : H a = some (exo a C none)) (no : PySem.W.findIn X.K (.ref C) f = some none) (ry : RelV y u)
    (q : ∀ dx s', H dx = none → dx ≠ a → Inv X pins σ (upd (upd H dx (exd dx [(f, y)])) a (exo a C (some dx))) s' → Q () s') : wpAny (model X.prog X.w) A (setAttr (.ref a) f u) Q E s := by
  obtain ⟨nm, qn, N, bs, bm, sn, sub, ab, col, dd, k0, k1, k2, k3, k5, hC, tail⟩ := T.cls
  have hcl : PySem.W.clsIn X.K C = some { name := nm, bases := bs, mro := .ref C :: bm, ns := N, qualname := qn, hasDict := true, slotNames := sn, subclasses := sub, abstract := ab, collection := col, hasDel := false } := by
    unfold PySem.W.clsIn
    rw [hC] <;> rfl
  have over : PySem.W.excOver X.K C bmB = true := by
    unfold PySem.W.excOver
    rw [hcl]
    show (C == C && PySem.W.excTail bmB bm) = true
    rw [tail, beq_self_eq_true] <;> rfl
  obtain ⟨t1, ho⟩ := exo_at I.hok e
  obtain ⟨hp, g, dr, t, os⟩ := s
  refine PySem.W.set_plain I.kIn (ox := { cls := .ref C, dict := none, data := .fields #[.ref t1, .none, .none, .none, .bool false, .none] }) (od := none) ⟨ho, rfl, rfl, trivial⟩ T.sa ?_
  refine first_field SF I.kIn ho hcl over rfl no fun h' tk' dx kept young away hx one => ?_
  have free : H dx = none := I.hok.fresh young
  have old : ∀ {b : Addr} {o : Obj}, hp.get? b = some o → b ≠ dx := fun z => Nat.ne_of_lt (Nat.lt_of_lt_of_le (Heap.lt_size z) young)
  have other : ∀ {b : Addr}, H b = none → b ≠ a := fun {b} n z => by
    rw [z, e] at n
    cases n
  have U : Un X.fs [] H (upd (upd H dx (exd dx [(f, y)])) a (exo a C (some dx))) hp h' := {
    keep := fun b o z n _ _ => kept b o (other n) z
    slot := fun b o z n _ _ => ⟨o.slots, kept b o (other n) z⟩
    free := fun b o z n _ => by rw [upd_ne (other n), upd_ne (old z)]; exact n
    there := fun b o z _ => by
      by_cases hb : b = a
      · rw [hb]
        exact ⟨_, hx⟩
      · exact ⟨o, kept b o hb z⟩
    tups := fun b xs z => by rw [upd_ne (at_ne e z exo_tup), upd_ne (ne_of_none z free)]; exact z
    frzs := fun b o v z => by rw [upd_ne (at_ne e z exo_frz), upd_ne (ne_of_none z free)]; exact z
    tbls := fun b ps z => ⟨#[], by rw [upd_ne (at_ne e z exo_tbl), upd_ne (ne_of_none z free), z]; simp⟩ }
  refine q dx _ free away (I.un (t' := tk') U fun b o z => ?_)
  by_cases hb : b = a
  · subst hb
    rw [upd_same] at z
    cases z
    exact exo_ok hx
  rw [upd_ne hb] at z
  by_cases hd : b = dx
  · subst hd
    rw [upd_same] at z
    cases z
    exact exd_ok one (relO_put (fs := []) ry fun _ => True.intro)
  · rw [upd_ne hd] at z
    refine (I.hok b o z).stay (fun c v hc ob => kept c v (fun ca => ?_) ob) (fun c hc => ?_) fun c xs hc => ?_
    · rcases hc with hc | hc
      · exact hb (hc ▸ ca)
      · exact at_ne e hc exo_own ca
    · rw [upd_ne (at_ne e hc exo_own), upd_ne (ne_of_none hc free)]
      exact hc
    · rw [upd_ne (at_ne e hc exo_tup), upd_ne (ne_of_none hc free)]
      exact hc
/-- self.f = e, of an exception that has no dict -/
def tOst1 (K : PySem.W.Frag) (bmB : List Value) (newId : String) (f : Str) (to te : TE) : TS := fun D σ H => te σ H fun y H1 => to σ H1 fun x H2 => ∃ a C : Addr, x = .ref a ∧ OexB K C bmB newId ∧ PySem.W.findIn K (.ref C) f = some none ∧
  H2 a = some (exo a C none) ∧ ∀ dx, H2 dx = none → dx ≠ a → D.nx σ (upd (upd H2 dx (exd dx [(f, y)])) a (exo a C (some dx)))
theorem ps_ost1 {o e : Expr} {to te : TE} {p' pos : Pos} (SF : StoreFacts B bmB "object.__setattr__" "object") (ho : PE X o to) (he : PE X e te) (hs : swapsWith e (some (.Attribute o f p')) pos.line X.env = pure false := by rfl) : PS X (.Assign [.Attribute o f p'] e pos) (tOst1 X.K bmB newId f to te) :=
  ⟨fun pins s σ H D I h => plainObj_wpAny_Assign_Attribute (thn (he.run pins s σ H _ I h) fun v s1 ⟨_, _, I1, r1, q1⟩ => thn (ho.run pins s1 σ _ _ I1 q1) fun u s2 ⟨_, _, I2, r2, q2⟩ => by
    obtain ⟨a, C, rfl, T, no, ea, q⟩ := q2
    obtain rfl : u = Value.ref a := r2
    exact ost_first SF T I2 ea no r1 fun dx s' n ne J => ⟨σ, _, J, q dx n ne⟩) hs⟩
theorem pmk_oexB {CX : CXT} {x : Str} {fI : Addr} {k : Nat} {fd : FuncData} {ps : List Str} {sp : Sp} {ds : List Value} {dvs : List V} {e : Expr} {es : List Expr} {ta : TA} {p pos : Pos} (F : ExcBaseFacts B newId initId bmB) (T : OexB X.K C bmB newId) (iC : PySem.W.findIn X.K (.ref C) "__init__" = some (some (.ref fI)))
    (tI : PySem.W.typeIn X.K (.ref fI) = some (.type "function")) (F1 : FnOk X.prog X.w X.K X.mg X.base CX k fI fd ps sp) (hr : Room (k + 1) X.A) (hb : Binds X.K fd ps ds) (hd : Vals dvs ds) (hx : Passes CX X (fun _ _ _ => False)) (hg : Gl X x) (hm : X.mg x = some (.ref C)) (ha : PA X (e :: es) ta)
    (hdb : (x == ("__debug__" : Str)) = false := by decide) (he : starEach (e :: es) X.env = (false, eval e X.env) :: starEach es X.env := by rfl) (hpl : (backTo pos (starEach es X.env)).any (·.1) = false := by rfl) :
    PMk X (.Call (.Name x p) (e :: es) [] pos) (tMkO C sp dvs ta) := fun pins s σ H Q I h => by
  obtain ⟨nm, qn, N, bs, bm, sn, sub, ab, col, dd, k0, k1, k2, k3, k5, hC, tail⟩ := T.cls
  refine wpAny_Call_Name_kw (ld_glob I hg hm ?_ hdb)
  refine PySem.W.callWith_K (h₀ := X.base) I.ok.mod.kin T.kC (thn (ha.run pos pins s σ H _ I h) fun us s1 ⟨vs, H1, I1, r1, few, q1⟩ => ⟨I1.kIn, ?_⟩) he hpl
  show wpAny _ _ (call (.ref C) us) _ _ _
  obtain ⟨hp, g, dr, tk, os⟩ := s1
  have up1 : hp.objs.size ≤ hp.objs.size + 1 := Nat.le_succ _
  have hq := q1 (hp.objs.size + 1) (I1.hok.fresh up1)
  have kk : ∀ b o, hp.get? b = some o → ((hp.push (PySem.W.kdv_tup us)).push (PySem.HandSPX.excO C hp.objs.size)).get? b = some o := fun b o z => Heap.get?_push_of_some _ (Heap.get?_push_of_some _ z)
  have made : ((hp.push (PySem.W.kdv_tup us)).push (PySem.HandSPX.excO C hp.objs.size)).get? (hp.objs.size + 1) = some (PySem.HandSPX.excO C hp.objs.size) := by heap_get
  have I2 : Inv X pins σ (upd H1 (hp.objs.size + 1) (exo (hp.objs.size + 1) C none)) ⟨(hp.push (PySem.W.kdv_tup us)).push (PySem.HandSPX.excO C hp.objs.size), g, dr, tk, os⟩ :=
    I1.laid (t' := tk) (a := hp.objs.size + 1) (o := exo (hp.objs.size + 1) C none) (h' := (hp.push (PySem.W.kdv_tup us)).push (PySem.HandSPX.excO C hp.objs.size)) kk up1 (exo_ok made)
  have r2 : Vals (V.ref (hp.objs.size + 1) :: (vs ++ dvs)) (Value.ref (hp.objs.size + 1) :: (us ++ ds)) := .cons rfl (r1.append hd)
  have many : (Value.ref (hp.objs.size + 1) :: us ++ ds).length = ps.length := by
    have z := r2.length
    rw [F1.len _ _ _ _ hq] at z
    exact z.symm
  have fits : us.length ≤ sizeLine := by
    rw [← Paired.length r1, sizeLine_eq]
    omega
  refine wpAny_call (PySem.HandSPX.call_own F (fun Y => PySem.W.excTail_contains Y bm tail) (I1.kIn _ _ hC) (PySem.W.looks_findIn I1.kIn iC) (fun self => PySem.W.bind_fn I1.kIn self tI) fits
    (codeAny_mono (F1.run _ X.stack _ _ ⟨Value.ref (hp.objs.size + 1) :: us, []⟩ (Value.ref (hp.objs.size + 1) :: (us ++ ds)) _ _ (fun _ _ _ => False) (hr.make C us []) (I2.env0.make C us []) (hb _ (Value.ref (hp.objs.size + 1) :: us) I2.kIn many) r2 hq) fun r s' z => ?_))
  cases r with
  | error er => exact hx pins σ _ _ er s' I2 z
  | ok fl =>
    cases fl with
    | ret u =>
      obtain ⟨v, H2, os2, bare2, un2, hok2, rv, rfl, d, fs, ea, ed, hd1, q2⟩ := z
      obtain ⟨h2, g2, d2, t2, os'⟩ := s'
      exact ⟨rv, mk_end (raises_own T.exC T.tyC) I1 up1 kk un2 hok2 os2 bare2 ea ed hd1 q2⟩
    | next => exact False.elim z
    | brk => exact False.elim z
    | cont => exact False.elim z
end
end XX

/-! a try with several clauses, each with a name or without one -/
namespace XX
open PySem PySem.Spec PyProof.Rows L2
/-- a clause: its class, the slot of its name, the reading of its suite -/
structure Clause where
  cls : Value
  slot : Option Nat
  ts : Addr → Value → Option Addr → TS
/-- behind a suite the clause's name is gone -/
def Ends.gone (D : Ends) (i : Nat) : Ends := { nx := fun σ H => D.nx (σ.set i none) H, rt := D.rt, bk := fun σ H => D.bk (σ.set i none) H, ct := fun σ H => D.ct (σ.set i none) H }
def Clause.go (c : Clause) (a : Addr) (cls : Value) (d : Option Addr) (D : Ends) (σ : L2.St) (H : Hp) : Prop := match c.slot with
  | none => c.ts a cls d D σ H
  | some i => c.ts a cls d (Ends.gone D i) (σ.set i (some (.ref a))) H
def wMix (K : PySem.W.Frag) (out : WX) (D : Ends) : List Clause → WX
  | [] => out
  | c :: r => fun cls d σ H => ∃ b, PySem.W.exmOne K cls c.cls = some b ∧ (b = true → ∀ a, H a = none → c.go a cls d D σ H) ∧ (b = false → wMix K out D r cls d σ H)
def NameOk (X : Cx) : Option Str → Option Nat → Prop
  | none, none => True
  | some n, some i => X.N[i]? = some n ∧ X.env.kindOf n = some .local
  | _, _ => False
inductive MixOk (X : Cx) : List ExceptHandler → List Clause → Prop
  | nil : MixOk X [] []
  | cons {x : Str} {nm : Option Str} {c : Clause} {st : Stmt} {suite : List Stmt} {np pp : Pos} {hds : List ExceptHandler} {l : List Clause} (names : Names X x c.cls) (ok : NameOk X nm c.slot)
      (body : ∀ (a : Addr) (oe : Obj) (cls : Value) (d : Option Addr) (pn : List (Addr × Obj)), Zc cls d oe → (∃ vs, oe.data = .fields vs) → PSs (X.suite a ((a, oe) :: pn)) (st :: suite) (c.ts a cls d)) (rest : MixOk X hds l) :
      MixOk X (.ExceptHandler (some (.Name x np)) nm (st :: suite) pp :: hds) (c :: l)
section
variable {X : Cx} {body : List Stmt} {h0 : ExceptHandler} {hds : List ExceptHandler} {l : List Clause} {pos : Pos} {tb : WX → TS} {out : WX}
theorem ps_try_mix (hs : X.stack = X.env :: X.outer) (hf : X.env.frame = some X.env.locals) (nodup : X.N.Nodup) (tk : Takes X out)
    (hb : ∀ (W : WX) (pn : List (Addr × Obj)) (xe : Value → Shared → Prop), Takes (X.tr pn xe) W → PassesOwn (model X.prog X.w) X.A X.env xe → PSs (X.tr pn xe) body (tb W))
    (hh : MixOk X (h0 :: hds) l) : PS X (.Try body (h0 :: hds) [] [] pos) (fun D σ H => tb (wMix X.K out D l) D σ H) := by
  refine ⟨fun pins s σ H D I h => ?_⟩
  have ok := I.ok
  have frames : X.A.frames = some (X.env :: X.outer) := by rw [ok.frames, hs]
  refine wpAny_Try_except ?_
  refine wpAny_mono ((hb (wMix X.K out D l) (X.pn ++ pins) (fun e s1 => wpAny (model X.prog X.w) X.A (noteFrame e X.env) (fun _ s2 => wpAny (model X.prog X.w) X.A (setFlight e none) (fun _ s3 =>
    wpAny (model X.prog X.w) X.A (handleBy e X.env (h0 :: hds)) (SP X pins D) X.xe s3) X.xe s2) X.xe s1) (fun u s' air => ?_) PassesOwn.looking).run [] s σ H D (I.toTry _) h) (fun f s1 sp => ?_) (fun e s1 he => he)
  · obtain ⟨a, B, sI, pins', σ', H', cls, d, rfl, J', nb, up, sky, na, os, ag, wish⟩ := air
    have J : Inv X pins σ' H' sI := J'.ofTry ok
    rw [hs] at sky
    show wpAny (model X.prog X.w) X.A (noteFrame (.ref a) X.env) _ _ _
    refine Sky.land Zc.steady frames hf sky fun h3 fl3 up3 => ?_
    have J3 : Inv X pins σ' H' { s' with heap := h3 } := J.landed nb fl3.1 (up.trans up3) os ag
    obtain ⟨oe3, vs3, at3, z3, d3⟩ := fl3.there
    have inAir : a ∉ frs (X.env :: X.outer) := fun hm => by
      obtain ⟨_, o', e', hnf⟩ := fl3.2.2.1.mem hm
      rw [at3] at e'
      cases e'
      exact hnf _ d3
    have nL : a ≠ X.env.locals := fun z => inAir (List.mem_filterMap.mpr ⟨X.env, List.mem_cons_self, by rw [hf, z]⟩)
    have nF : a ∉ X.fs := fun hm => by
      obtain ⟨e, he, q⟩ := List.mem_filterMap.mp hm
      exact inAir (List.mem_filterMap.mpr ⟨e, List.mem_cons_of_mem _ he, q⟩)
    have S3 := J3.suite at3 d3 na nL nF
    have clauses : ∀ {hds' : List ExceptHandler} {l' : List Clause}, MixOk X hds' l' → wMix X.K out D l' cls d σ' H' →
        wpAny (model X.prog X.w) X.A (handleBy (.ref a) X.env hds') (SP X pins D) X.xe { s' with heap := h3 } := by
      intro hds' l' hk
      induction hk with
      | nil =>
        intro wish'
        refine wpAny_handleBy_nil ?_
        obtain ⟨_, _, _, oe, vs, T, oT, ts', he, hz, hd, h1, hr⟩ := id fl3
        unfold PySem.passOn
        refine wpAny_bind (wpAny_field he hd h1 ?_)
        rw [if_neg (show ¬ ((Value.ref T == Value.none) = true) from by simp)]
        have on : wpAny (model X.prog X.w) X.A (setFlight (.ref a) X.env.frame) (fun _ s4 => wpAny (model X.prog X.w) X.A (throw (.ref a) : Sem Flow) (SP X pins D) X.xe s4) X.xe { s' with heap := h3 } := by
          rw [hf]
          refine HandSPX.setFlight_upZ fl3 fun h4 hh4 up4 => wpAny_throw (tk _ _ ?_)
          exact ⟨a, B, sI, pins, σ', H', cls, d, rfl, J, nb, (up.trans up3).trans up4, .inr (.inr (by rw [hs]; exact hh4)), na, os, ag, wish'⟩
        first
          | exact wpAny_bind (wpAny_pure (wpAny_bind on))
          | exact wpAny_bind on
      | @cons x nm c st suite np pp hds2 l2 names named bodyOk rest ih =>
        intro wish'
        obtain ⟨b, hb1, yes, no⟩ := wish'
        refine wpAny_handleBy_cons (codeAny_handlers_test ?_) (by intro q; cases q)
        have LT : PySem.W.Looks (model X.prog X.w) h3 (typeOf (.ref a)) cls := fun A Q E s k q => wpAny_typeOf_ref (k _ _ at3) (by rw [z3.1]; exact q)
        have LM := PySem.W.exm_one (M := model X.prog X.w) (J3.kIn) LT hb1
        have test : ∀ {Q : Value → Shared → Prop} {E : Value → Shared → Prop}, Q c.cls { s' with heap := h3 } → wpAny (model X.prog X.w) (X.A.mark (some (.ref a))) (eval (.Name x np) X.env) Q E { s' with heap := h3 } := fun {Q E} q => by
          obtain ⟨hg, hdbg, hm | ⟨hm, hv, hnn⟩⟩ := names
          · exact ld_glob (X := X.suite a ((a, oe3) :: (X.pn ++ pins))) S3 hg hm q hdbg
          · exact ld_blt (X := X.suite a ((a, oe3) :: (X.pn ++ pins))) S3 hg hm hv q hnn hdbg
        refine test (LM.here ?_)
        cases b with
        | false =>
          show wpAny _ X.A (handleBy (.ref a) X.env hds2) _ _ _
          exact ih (no rfl)
        | true =>
          have go := yes rfl a na
          obtain ⟨ccls, slot, cts⟩ := c
          cases nm with
          | none =>
            cases slot with
            | some i => exact named.elim
            | none =>
              refine codeAny_handlers_suite ?_
              refine HandSPX.lands_againZ fl3 fun h4 fl4 up4 => ?_
              have J4 : Inv X pins σ' H' { s' with heap := h4 } := J.landed nb fl4.1 ((up.trans up3).trans up4) os ag
              obtain ⟨oe4, vs4, at4, z4, d4⟩ := fl4.there
              refine wpAny_mono ((bodyOk a oe4 cls d (X.pn ++ pins) z4 ⟨_, d4⟩).run [] _ _ H' _ (J4.suite at4 d4 na nL nF) go) (fun f s6 sp => ?_) (fun _ _ z => False.elim z)
              cases f with
              | ret u =>
                obtain ⟨_, _, _, S6, r6, q6⟩ := sp
                exact ⟨_, _, _, S6.unsuite ok, r6, q6⟩
              | next =>
                obtain ⟨_, _, S6, q6⟩ := sp
                exact ⟨_, _, S6.unsuite ok, q6⟩
              | brk =>
                obtain ⟨_, _, S6, q6⟩ := sp
                exact ⟨_, _, S6.unsuite ok, q6⟩
              | cont =>
                obtain ⟨_, _, S6, q6⟩ := sp
                exact ⟨_, _, S6.unsuite ok, q6⟩
          | some n =>
            cases slot with
            | none => exact named.elim
            | some i =>
              obtain ⟨ni, nl⟩ := named
              refine codeAny_handlers_suite_as ?_
              refine HandSPX.lands_againZ fl3 fun h4 fl4 up4 => ?_
              have J4 : Inv X pins σ' H' { s' with heap := h4 } := J.landed nb fl4.1 ((up.trans up3).trans up4) os ag
              obtain ⟨oe4, vs4, at4, z4, d4⟩ := fl4.there
              refine store_ok (X := X.suite a ((a, oe4) :: (X.pn ++ pins))) (v := .ref a) (J4.suite at4 d4 na nL nF) nodup ni (.inl nl) rfl (fun s5 S5 => ?_) (.inr nl)
              refine wpAny_mono ((bodyOk a oe4 cls d (X.pn ++ pins) z4 ⟨_, d4⟩).run [] s5 _ H' _ S5 go) (fun f s6 sp => ?_) (fun _ _ z => False.elim z)
              have leave : ∀ {σ6 : L2.St} {H6 : Hp} {Q : Shared → Prop}, Inv (X.suite a ((a, oe4) :: (X.pn ++ pins))) [] σ6 H6 s6 → (∀ s7, Inv X pins (σ6.set i none) H6 s7 → Q s7) →
                  wpAny (model X.prog X.w) X.A (do bindName X.env n .none; unbindBehindTheSuite X.env n pp) (fun _ s7 => Q s7) X.xe s6 := fun {σ6 H6 Q} S6 hq => gone_ok (S6.unsuite ok) nodup ni nl hq
              cases f with
              | ret u =>
                obtain ⟨_, _, _, S6, r6, q6⟩ := sp
                exact leave S6 fun s7 J7 => ⟨_, _, _, J7, r6, q6⟩
              | next =>
                obtain ⟨_, _, S6, q6⟩ := sp
                exact leave S6 fun s7 J7 => ⟨_, _, J7, q6⟩
              | brk =>
                obtain ⟨_, _, S6, q6⟩ := sp
                exact leave S6 fun s7 J7 => ⟨_, _, J7, q6⟩
              | cont =>
                obtain ⟨_, _, S6, q6⟩ := sp
                exact leave S6 fun s7 J7 => ⟨_, _, J7, q6⟩
    exact clauses hh wish
  · cases f with
    | ret u =>
      obtain ⟨v, σ', H', J', r, q⟩ := sp
      exact ⟨v, σ', H', J'.ofTry ok, r, q⟩
    | next =>
      obtain ⟨σ', H', J', q⟩ := sp
      exact wpAny_execs_nil ⟨σ', H', J'.ofTry ok, q⟩
    | brk =>
      obtain ⟨σ', H', J', q⟩ := sp
      exact ⟨σ', H', J'.ofTry ok, q⟩
    | cont =>
      obtain ⟨σ', H', J', q⟩ := sp
      exact ⟨σ', H', J'.ofTry ok, q⟩
end
end XX

namespace K13
open PySem PySem.Spec PyProof.Rows L2 RZ L5 R7 XX
/-! ### the text by places -/
def topS (i : Nat) : Stmt := PySem.Challenge.pw_pureladders_k13_whole_steady_rows.main.body.getD i (.Pass ⟨0, 0, 0, 0⟩)
abbrev s_is_number : Stmt := topS 11
abbrev N_is_number : List Str := ["value"]
theorem sc_is_number : FnScope N_is_number ["value"] (defScope s_is_number) := ⟨rfl, rfl, rfl, by decide +kernel, rfl, by decide +kernel, by decide +kernel⟩
abbrev s_is_within : Stmt := topS 12
abbrev N_is_within : List Str := ["value", "least", "most"]
theorem sc_is_within : FnScope N_is_within ["value", "least", "most"] (defScope s_is_within) := ⟨rfl, rfl, rfl, by decide +kernel, rfl, by decide +kernel, by decide +kernel⟩
abbrev s_check_within : Stmt := topS 13
abbrev N_check_within : List Str := ["value", "least", "most"]
theorem sc_check_within : FnScope N_check_within ["value", "least", "most"] (defScope s_check_within) := ⟨rfl, rfl, rfl, by decide +kernel, rfl, by decide +kernel, by decide +kernel⟩
abbrev s_choices : Stmt := topS 15
abbrev N_choices : List Str := ["top", "bottom"]
theorem sc_choices : FnScope N_choices ["top", "bottom"] (defScope s_choices) := ⟨rfl, rfl, rfl, by decide +kernel, rfl, by decide +kernel, by decide +kernel⟩
abbrev s_are_exponents : Stmt := topS 17
abbrev N_are_exponents : List Str := ["value", "letters", "most", "exponent"]
theorem sc_are_exponents : FnScope N_are_exponents ["value", "letters", "most"] (defScope s_are_exponents) := ⟨rfl, rfl, rfl, by decide +kernel, rfl, by decide +kernel, by decide +kernel⟩
abbrev s_fits : Stmt := topS 19
abbrev N_fits : List Str := ["one", "other", "low", "high"]
theorem sc_fits : FnScope N_fits ["one", "other"] (defScope s_fits) := ⟨rfl, rfl, rfl, by decide +kernel, rfl, by decide +kernel, by decide +kernel⟩
abbrev s_taken_off : Stmt := topS 21
abbrev N_taken_off : List Str := ["one", "other", "a", "b"]
theorem sc_taken_off : FnScope N_taken_off ["one", "other"] (defScope s_taken_off) := ⟨rfl, rfl, rfl, by decide +kernel, rfl, by decide +kernel, by decide +kernel⟩
abbrev s_is_divided : Stmt := topS 23
abbrev N_is_divided : List Str := ["product", "products", "one"]
theorem sc_is_divided : FnScope N_is_divided ["product", "products"] (defScope s_is_divided) := ⟨rfl, rfl, rfl, by decide +kernel, rfl, by decide +kernel, by decide +kernel⟩
abbrev s_is_least_of : Stmt := topS 24
abbrev N_is_least_of : List Str := ["product", "products", "one"]
theorem sc_is_least_of : FnScope N_is_least_of ["product", "products"] (defScope s_is_least_of) := ⟨rfl, rfl, rfl, by decide +kernel, rfl, by decide +kernel, by decide +kernel⟩
abbrev s_least_of : Stmt := topS 25
abbrev N_least_of : List Str := ["products", "most", "kept", "product"]
theorem sc_least_of : FnScope N_least_of ["products", "most"] (defScope s_least_of) := ⟨rfl, rfl, rfl, by decide +kernel, rfl, by decide +kernel, by decide +kernel⟩
abbrev s_are_products : Stmt := topS 48
abbrev N_are_products : List Str := ["value", "letters", "member"]
theorem sc_are_products : FnScope N_are_products ["value", "letters"] (defScope s_are_products) := ⟨rfl, rfl, rfl, by decide +kernel, rfl, by decide +kernel, by decide +kernel⟩
abbrev s_made_lot : Stmt := topS 49
abbrev N_made_lot : List Str := ["letters", "members", "lot"]
theorem sc_made_lot : FnScope N_made_lot ["letters", "members"] (defScope s_made_lot) := ⟨rfl, rfl, rfl, by decide +kernel, rfl, by decide +kernel, by decide +kernel⟩
abbrev s_check_lot : Stmt := topS 50
abbrev N_check_lot : List Str := ["value"]
theorem sc_check_lot : FnScope N_check_lot ["value"] (defScope s_check_lot) := ⟨rfl, rfl, rfl, by decide +kernel, rfl, by decide +kernel, by decide +kernel⟩
abbrev s_check_letters : Stmt := topS 51
abbrev N_check_letters : List Str := ["one", "other"]
theorem sc_check_letters : FnScope N_check_letters ["one", "other"] (defScope s_check_letters) := ⟨rfl, rfl, rfl, by decide +kernel, rfl, by decide +kernel, by decide +kernel⟩
abbrev s_limited_members : Stmt := topS 52
abbrev N_limited_members : List Str := ["products", "members"]
theorem sc_limited_members : FnScope N_limited_members ["products"] (defScope s_limited_members) := ⟨rfl, rfl, rfl, by decide +kernel, rfl, by decide +kernel, by decide +kernel⟩
abbrev s_has_great_exponent : Stmt := topS 53
abbrev N_has_great_exponent : List Str := ["products", "product"]
theorem sc_has_great_exponent : FnScope N_has_great_exponent ["products"] (defScope s_has_great_exponent) := ⟨rfl, rfl, rfl, by decide +kernel, rfl, by decide +kernel, by decide +kernel⟩
abbrev s_letter_sets : Stmt := topS 55
abbrev N_letter_sets : List Str := ["letters", "found", "index", "chosen"]
theorem sc_letter_sets : FnScope N_letter_sets ["letters"] (defScope s_letter_sets) := ⟨rfl, rfl, rfl, by decide +kernel, rfl, by decide +kernel, by decide +kernel⟩
abbrev s_is_free : Stmt := topS 56
abbrev N_is_free : List Str := ["chosen", "members", "member", "others", "index", "exponent"]
theorem sc_is_free : FnScope N_is_free ["chosen", "members"] (defScope s_is_free) := ⟨rfl, rfl, rfl, by decide +kernel, rfl, by decide +kernel, by decide +kernel⟩
abbrev s_free_sets : Stmt := topS 57
abbrev N_free_sets : List Str := ["letters", "members", "chosen"]
theorem sc_free_sets : FnScope N_free_sets ["letters", "members"] (defScope s_free_sets) := ⟨rfl, rfl, rfl, by decide +kernel, rfl, by decide +kernel, by decide +kernel⟩
abbrev s_greatest_size : Stmt := topS 58
abbrev N_greatest_size : List Str := ["sets", "chosen"]
theorem sc_greatest_size : FnScope N_greatest_size ["sets"] (defScope s_greatest_size) := ⟨rfl, rfl, rfl, by decide +kernel, rfl, by decide +kernel, by decide +kernel⟩
abbrev s_series_of : Stmt := topS 60
abbrev N_series_of : List Str := ["members", "found", "waiting", "rows", "later", "letter", "degree", "number", "exponent"]
theorem sc_series_of : FnScope N_series_of ["members"] (defScope s_series_of) := ⟨rfl, rfl, rfl, by decide +kernel, rfl, by decide +kernel, by decide +kernel⟩
abbrev s_shared_letter : Stmt := topS 61
abbrev N_shared_letter : List Str := ["rows", "counts", "letter", "row"]
theorem sc_shared_letter : FnScope N_shared_letter ["rows"] (defScope s_shared_letter) := ⟨rfl, rfl, rfl, by decide +kernel, rfl, by decide +kernel, by decide +kernel⟩
abbrev s_middle_exponent : Stmt := topS 62
abbrev N_middle_exponent : List Str := ["rows", "letter", "exponents", "row"]
theorem sc_middle_exponent : FnScope N_middle_exponent ["rows", "letter"] (defScope s_middle_exponent) := ⟨rfl, rfl, rfl, by decide +kernel, rfl, by decide +kernel, by decide +kernel⟩
abbrev s_with_power : Stmt := topS 63
abbrev N_with_power : List Str := ["rows", "letter", "exponent", "power", "row"]
theorem sc_with_power : FnScope N_with_power ["rows", "letter", "exponent"] (defScope s_with_power) := ⟨rfl, rfl, rfl, by decide +kernel, rfl, by decide +kernel, by decide +kernel⟩
abbrev s_without_power : Stmt := topS 64
abbrev N_without_power : List Str := ["rows", "letter", "exponent", "row"]
theorem sc_without_power : FnScope N_without_power ["rows", "letter", "exponent"] (defScope s_without_power) := ⟨rfl, rfl, rfl, by decide +kernel, rfl, by decide +kernel, by decide +kernel⟩
abbrev s_apart_series : Stmt := topS 65
abbrev N_apart_series : List Str := ["rows", "series", "row", "later", "one", "other"]
theorem sc_apart_series : FnScope N_apart_series ["rows"] (defScope s_apart_series) := ⟨rfl, rfl, rfl, by decide +kernel, rfl, by decide +kernel, by decide +kernel⟩
abbrev s_numerator : Stmt := topS 69
abbrev N_numerator : List Str := ["lot"]
theorem sc_numerator : FnScope N_numerator ["lot"] (defScope s_numerator) := ⟨rfl, rfl, rfl, by decide +kernel, rfl, by decide +kernel, by decide +kernel⟩
abbrev s_left_counts : Stmt := topS 70
abbrev N_left_counts : List Str := ["lot", "last", "series", "degree"]
theorem sc_left_counts : FnScope N_left_counts ["lot", "last"] (defScope s_left_counts) := ⟨rfl, rfl, rfl, by decide +kernel, rfl, by decide +kernel, by decide +kernel⟩
abbrev s_count_at : Stmt := topS 71
abbrev N_count_at : List Str := ["lot", "degree"]
theorem sc_count_at : FnScope N_count_at ["lot", "degree"] (defScope s_count_at) := ⟨rfl, rfl, rfl, by decide +kernel, rfl, by decide +kernel, by decide +kernel⟩
abbrev s_dimension : Stmt := topS 72
abbrev N_dimension : List Str := ["lot"]
theorem sc_dimension : FnScope N_dimension ["lot"] (defScope s_dimension) := ⟨rfl, rfl, rfl, by decide +kernel, rfl, by decide +kernel, by decide +kernel⟩
abbrev s_weight : Stmt := topS 73
abbrev N_weight : List Str := ["lot", "row", "series", "degree"]
theorem sc_weight : FnScope N_weight ["lot"] (defScope s_weight) := ⟨rfl, rfl, rfl, by decide +kernel, rfl, by decide +kernel, by decide +kernel⟩
abbrev s_steady_row : Stmt := topS 74
abbrev N_steady_row : List Str := ["lot", "series", "numbers", "row", "degree", "before", "after"]
theorem sc_steady_row : FnScope N_steady_row ["lot"] (defScope s_steady_row) := ⟨rfl, rfl, rfl, by decide +kernel, rfl, by decide +kernel, by decide +kernel⟩
abbrev s_steady_degree : Stmt := topS 75
abbrev N_steady_degree : List Str := ["lot", "series", "letters", "degree", "place"]
theorem sc_steady_degree : FnScope N_steady_degree ["lot"] (defScope s_steady_degree) := ⟨rfl, rfl, rfl, by decide +kernel, rfl, by decide +kernel, by decide +kernel⟩
abbrev s_is_steady : Stmt := topS 76
abbrev N_is_steady : List Str := ["series", "letters", "degree"]
theorem sc_is_steady : FnScope N_is_steady ["series", "letters", "degree"] (defScope s_is_steady) := ⟨rfl, rfl, rfl, by decide +kernel, rfl, by decide +kernel, by decide +kernel⟩
abbrev s_left_number : Stmt := topS 77
abbrev N_left_number : List Str := ["series", "letters", "degree", "places", "place"]
theorem sc_left_number : FnScope N_left_number ["series", "letters", "degree"] (defScope s_left_number) := ⟨rfl, rfl, rfl, by decide +kernel, rfl, by decide +kernel, by decide +kernel⟩
abbrev s_steady_number : Stmt := topS 78
abbrev N_steady_number : List Str := ["series", "letters", "degree", "place"]
theorem sc_steady_number : FnScope N_steady_number ["series", "letters", "degree"] (defScope s_steady_number) := ⟨rfl, rfl, rfl, by decide +kernel, rfl, by decide +kernel, by decide +kernel⟩
abbrev s_stretched : Stmt := topS 79
abbrev N_stretched : List Str := ["top", "bottom", "sign"]
theorem sc_stretched : FnScope N_stretched ["top", "bottom"] (defScope s_stretched) := ⟨rfl, rfl, rfl, by decide +kernel, rfl, by decide +kernel, by decide +kernel⟩
abbrev s_w_jug : Stmt := topS 81
abbrev N_w_jug : List Str := ["_law_script", "_law_turn", "_law_cell", "_law_great"]
theorem sc_w_jug : FnScope N_w_jug ["_law_script", "_law_turn"] (defScope s_w_jug) := ⟨rfl, rfl, rfl, by decide +kernel, rfl, by decide +kernel, by decide +kernel⟩
abbrev s_w_pour : Stmt := topS 82
abbrev N_w_pour : List Str := ["_law_jug_here", "_law_total", "_law_found", "_law_one", "_law_two"]
theorem sc_w_pour : FnScope N_w_pour ["_law_jug_here", "_law_total"] (defScope s_w_pour) := ⟨rfl, rfl, rfl, by decide +kernel, rfl, by decide +kernel, by decide +kernel⟩
abbrev s_w_taken : Stmt := topS 83
abbrev N_w_taken : List Str := ["_law_jug_here", "_law_items"]
theorem sc_w_taken : FnScope N_w_taken ["_law_jug_here", "_law_items"] (defScope s_w_taken) := ⟨rfl, rfl, rfl, by decide +kernel, rfl, by decide +kernel, by decide +kernel⟩
abbrev s_w_divides : Stmt := topS 84
abbrev N_w_divides : List Str := ["_law_one", "_law_other", "_law_left", "_law_right_here"]
theorem sc_w_divides : FnScope N_w_divides ["_law_one", "_law_other"] (defScope s_w_divides) := ⟨rfl, rfl, rfl, by decide +kernel, rfl, by decide +kernel, by decide +kernel⟩
abbrev s_w_least : Stmt := topS 86
abbrev N_w_least : List Str := ["_law_products", "_law_once", "_law_found", "_law_product_here", "_law_other"]
theorem sc_w_least : FnScope N_w_least ["_law_products"] (defScope s_w_least) := ⟨rfl, rfl, rfl, by decide +kernel, rfl, by decide +kernel, by decide +kernel⟩
abbrev s_w_product : Stmt := topS 87
abbrev N_w_product : List Str := ["_law_jug_here", "_law_letters", "_law_most", "_law_found", "_law_letter"]
theorem sc_w_product : FnScope N_w_product ["_law_jug_here", "_law_letters", "_law_most"] (defScope s_w_product) := ⟨rfl, rfl, rfl, by decide +kernel, rfl, by decide +kernel, by decide +kernel⟩
abbrev s_w_members : Stmt := topS 88
abbrev N_w_members : List Str := ["_law_jug_here", "_law_letters", "_law_total", "_law_most", "_law_turn"]
theorem sc_w_members : FnScope N_w_members ["_law_jug_here", "_law_letters", "_law_total", "_law_most"] (defScope s_w_members) := ⟨rfl, rfl, rfl, by decide +kernel, rfl, by decide +kernel, by decide +kernel⟩
abbrev s_w_choices : Stmt := topS 89
abbrev N_w_choices : List Str := ["_law_top", "_law_bottom", "_law_found", "_law_turn"]
theorem sc_w_choices : FnScope N_w_choices ["_law_top", "_law_bottom"] (defScope s_w_choices) := ⟨rfl, rfl, rfl, by decide +kernel, rfl, by decide +kernel, by decide +kernel⟩
abbrev s_w_at : Stmt := topS 90
abbrev N_w_at : List Str := ["_law_row", "_law_degree", "_law_at_here", "_law_entry"]
theorem sc_w_at : FnScope N_w_at ["_law_row", "_law_degree"] (defScope s_w_at) := ⟨rfl, rfl, rfl, by decide +kernel, rfl, by decide +kernel, by decide +kernel⟩
abbrev s_w_by_differences : Stmt := topS 91
abbrev N_w_by_differences : List Str := ["_law_counts", "_law_start", "_law_size", "_law_rows", "_law_found", "_law_turn", "_law_moved", "_law_at_here", "_law_entry", "_law_lower", "_law_sign", "_law_one", "_law_other"]
theorem sc_w_by_differences : FnScope N_w_by_differences ["_law_counts", "_law_start", "_law_size"] (defScope s_w_by_differences) := ⟨rfl, rfl, rfl, by decide +kernel, rfl, by decide +kernel, by decide +kernel⟩
abbrev s_w_quotient_value : Stmt := topS 92
abbrev N_w_quotient_value : List Str := ["_law_due", "_law_letters", "_law_size", "_law_row", "_law_degree", "_law_turn", "_law_found", "_law_total", "_law_entry"]
theorem sc_w_quotient_value : FnScope N_w_quotient_value ["_law_due", "_law_letters", "_law_size"] (defScope s_w_quotient_value) := ⟨rfl, rfl, rfl, by decide +kernel, rfl, by decide +kernel, by decide +kernel⟩
abbrev s_w_right : Stmt := topS 93
abbrev N_w_right : List Str := ["_law_jug_here", "_law_letters", "_law_members_here", "_law_lot", "_law_due", "_law_size", "_law_row", "_law_start", "_law_counts", "_law_degree"]
theorem sc_w_right : FnScope N_w_right ["_law_jug_here"] (defScope s_w_right) := ⟨rfl, rfl, rfl, by decide +kernel, rfl, by decide +kernel, by decide +kernel⟩
abbrev s_law : Stmt := topS 94
abbrev N_law : List Str := ["_law_script", "_law_turn", "_law_jug_here", "_law_edges", "_law_squares", "_law_told"]
theorem sc_law : FnScope N_law ["_law_script"] (defScope s_law) := ⟨rfl, rfl, rfl, by decide +kernel, rfl, by decide +kernel, by decide +kernel⟩
abbrev LotS : Stmt := topS 47
/-! ### what the top has written -/
/-- a maker of lambdas: its code object is known -/
structure FunC (K : PySem.W.Frag) (x qual : Str) (st : Stmt) (f : Addr) (fd : FuncData) (c : Addr) : Prop where
  ex : ∃ (oc : Value) (od : Option Addr) (kV doc pm : Value) (an : Option Addr) (ct : Value) (osl : Array (Option Value)),
    fd = PySem.W.fnOf x qual (defArgs st) (defBody st) (defScope st) .none kV doc pm an (.ref c) ct ∧ K.lookup f = some ⟨oc, od, .func fd, osl⟩ ∧ PySem.W.codeIn K (.ref c) qual = true
structure Txt (K : PySem.W.Frag) (mg : Str → Option Value) where
  a_is_number : Addr
  d_is_number : FuncData
  F_is_number : Fun K "is_number" "is_number" s_is_number a_is_number d_is_number
  b_is_number : Binds K d_is_number ["value"] []
  m_is_number : mg "is_number" = some (.ref a_is_number)
  a_is_within : Addr
  d_is_within : FuncData
  F_is_within : Fun K "is_within" "is_within" s_is_within a_is_within d_is_within
  b_is_within : Binds K d_is_within ["value", "least", "most"] []
  m_is_within : mg "is_within" = some (.ref a_is_within)
  a_check_within : Addr
  d_check_within : FuncData
  F_check_within : Fun K "check_within" "check_within" s_check_within a_check_within d_check_within
  b_check_within : Binds K d_check_within ["value", "least", "most"] []
  m_check_within : mg "check_within" = some (.ref a_check_within)
  a_choices : Addr
  d_choices : FuncData
  F_choices : Fun K "choices" "choices" s_choices a_choices d_choices
  b_choices : Binds K d_choices ["top", "bottom"] []
  m_choices : mg "choices" = some (.ref a_choices)
  a_are_exponents : Addr
  d_are_exponents : FuncData
  F_are_exponents : Fun K "are_exponents" "are_exponents" s_are_exponents a_are_exponents d_are_exponents
  b_are_exponents : Binds K d_are_exponents ["value", "letters", "most"] []
  m_are_exponents : mg "are_exponents" = some (.ref a_are_exponents)
  a_fits : Addr
  d_fits : FuncData
  F_fits : Fun K "fits" "fits" s_fits a_fits d_fits
  b_fits : Binds K d_fits ["one", "other"] []
  m_fits : mg "fits" = some (.ref a_fits)
  a_taken_off : Addr
  d_taken_off : FuncData
  F_taken_off : Fun K "taken_off" "taken_off" s_taken_off a_taken_off d_taken_off
  b_taken_off : Binds K d_taken_off ["one", "other"] []
  m_taken_off : mg "taken_off" = some (.ref a_taken_off)
  a_is_divided : Addr
  d_is_divided : FuncData
  F_is_divided : Fun K "is_divided" "is_divided" s_is_divided a_is_divided d_is_divided
  b_is_divided : Binds K d_is_divided ["product", "products"] []
  m_is_divided : mg "is_divided" = some (.ref a_is_divided)
  a_is_least_of : Addr
  d_is_least_of : FuncData
  F_is_least_of : Fun K "is_least_of" "is_least_of" s_is_least_of a_is_least_of d_is_least_of
  b_is_least_of : Binds K d_is_least_of ["product", "products"] []
  m_is_least_of : mg "is_least_of" = some (.ref a_is_least_of)
  a_least_of : Addr
  d_least_of : FuncData
  F_least_of : FunD K "least_of" "least_of" (defArgs s_least_of) (defBody s_least_of) (defScope s_least_of) [.non] [] a_least_of d_least_of
  b_least_of : Binds K d_least_of ["products", "most"] []
  e_least_of : Binds K d_least_of ["products", "most"] [.none]
  m_least_of : mg "least_of" = some (.ref a_least_of)
  a_are_products : Addr
  d_are_products : FuncData
  F_are_products : Fun K "are_products" "are_products" s_are_products a_are_products d_are_products
  b_are_products : Binds K d_are_products ["value", "letters"] []
  m_are_products : mg "are_products" = some (.ref a_are_products)
  a_made_lot : Addr
  d_made_lot : FuncData
  F_made_lot : Fun K "made_lot" "made_lot" s_made_lot a_made_lot d_made_lot
  b_made_lot : Binds K d_made_lot ["letters", "members"] []
  m_made_lot : mg "made_lot" = some (.ref a_made_lot)
  a_check_lot : Addr
  d_check_lot : FuncData
  F_check_lot : Fun K "check_lot" "check_lot" s_check_lot a_check_lot d_check_lot
  b_check_lot : Binds K d_check_lot ["value"] []
  m_check_lot : mg "check_lot" = some (.ref a_check_lot)
  a_check_letters : Addr
  d_check_letters : FuncData
  F_check_letters : Fun K "check_letters" "check_letters" s_check_letters a_check_letters d_check_letters
  b_check_letters : Binds K d_check_letters ["one", "other"] []
  m_check_letters : mg "check_letters" = some (.ref a_check_letters)
  a_limited_members : Addr
  d_limited_members : FuncData
  F_limited_members : Fun K "limited_members" "limited_members" s_limited_members a_limited_members d_limited_members
  b_limited_members : Binds K d_limited_members ["products"] []
  m_limited_members : mg "limited_members" = some (.ref a_limited_members)
  a_has_great_exponent : Addr
  d_has_great_exponent : FuncData
  F_has_great_exponent : Fun K "has_great_exponent" "has_great_exponent" s_has_great_exponent a_has_great_exponent d_has_great_exponent
  b_has_great_exponent : Binds K d_has_great_exponent ["products"] []
  m_has_great_exponent : mg "has_great_exponent" = some (.ref a_has_great_exponent)
  a_letter_sets : Addr
  d_letter_sets : FuncData
  F_letter_sets : Fun K "letter_sets" "letter_sets" s_letter_sets a_letter_sets d_letter_sets
  b_letter_sets : Binds K d_letter_sets ["letters"] []
  m_letter_sets : mg "letter_sets" = some (.ref a_letter_sets)
  a_is_free : Addr
  d_is_free : FuncData
  F_is_free : Fun K "is_free" "is_free" s_is_free a_is_free d_is_free
  b_is_free : Binds K d_is_free ["chosen", "members"] []
  m_is_free : mg "is_free" = some (.ref a_is_free)
  a_free_sets : Addr
  d_free_sets : FuncData
  F_free_sets : Fun K "free_sets" "free_sets" s_free_sets a_free_sets d_free_sets
  b_free_sets : Binds K d_free_sets ["letters", "members"] []
  m_free_sets : mg "free_sets" = some (.ref a_free_sets)
  a_greatest_size : Addr
  d_greatest_size : FuncData
  F_greatest_size : Fun K "greatest_size" "greatest_size" s_greatest_size a_greatest_size d_greatest_size
  b_greatest_size : Binds K d_greatest_size ["sets"] []
  m_greatest_size : mg "greatest_size" = some (.ref a_greatest_size)
  a_series_of : Addr
  d_series_of : FuncData
  F_series_of : Fun K "series_of" "series_of" s_series_of a_series_of d_series_of
  b_series_of : Binds K d_series_of ["members"] []
  m_series_of : mg "series_of" = some (.ref a_series_of)
  a_shared_letter : Addr
  d_shared_letter : FuncData
  F_shared_letter : Fun K "shared_letter" "shared_letter" s_shared_letter a_shared_letter d_shared_letter
  b_shared_letter : Binds K d_shared_letter ["rows"] []
  m_shared_letter : mg "shared_letter" = some (.ref a_shared_letter)
  a_middle_exponent : Addr
  d_middle_exponent : FuncData
  F_middle_exponent : Fun K "middle_exponent" "middle_exponent" s_middle_exponent a_middle_exponent d_middle_exponent
  b_middle_exponent : Binds K d_middle_exponent ["rows", "letter"] []
  m_middle_exponent : mg "middle_exponent" = some (.ref a_middle_exponent)
  a_with_power : Addr
  d_with_power : FuncData
  F_with_power : Fun K "with_power" "with_power" s_with_power a_with_power d_with_power
  b_with_power : Binds K d_with_power ["rows", "letter", "exponent"] []
  m_with_power : mg "with_power" = some (.ref a_with_power)
  a_without_power : Addr
  d_without_power : FuncData
  F_without_power : Fun K "without_power" "without_power" s_without_power a_without_power d_without_power
  b_without_power : Binds K d_without_power ["rows", "letter", "exponent"] []
  m_without_power : mg "without_power" = some (.ref a_without_power)
  a_apart_series : Addr
  d_apart_series : FuncData
  F_apart_series : Fun K "apart_series" "apart_series" s_apart_series a_apart_series d_apart_series
  b_apart_series : Binds K d_apart_series ["rows"] []
  m_apart_series : mg "apart_series" = some (.ref a_apart_series)
  a_numerator : Addr
  d_numerator : FuncData
  F_numerator : Fun K "numerator" "numerator" s_numerator a_numerator d_numerator
  b_numerator : Binds K d_numerator ["lot"] []
  m_numerator : mg "numerator" = some (.ref a_numerator)
  a_left_counts : Addr
  d_left_counts : FuncData
  F_left_counts : Fun K "left_counts" "left_counts" s_left_counts a_left_counts d_left_counts
  b_left_counts : Binds K d_left_counts ["lot", "last"] []
  m_left_counts : mg "left_counts" = some (.ref a_left_counts)
  a_count_at : Addr
  d_count_at : FuncData
  F_count_at : Fun K "count_at" "count_at" s_count_at a_count_at d_count_at
  b_count_at : Binds K d_count_at ["lot", "degree"] []
  m_count_at : mg "count_at" = some (.ref a_count_at)
  a_dimension : Addr
  d_dimension : FuncData
  F_dimension : Fun K "dimension" "dimension" s_dimension a_dimension d_dimension
  b_dimension : Binds K d_dimension ["lot"] []
  m_dimension : mg "dimension" = some (.ref a_dimension)
  a_weight : Addr
  d_weight : FuncData
  F_weight : Fun K "weight" "weight" s_weight a_weight d_weight
  b_weight : Binds K d_weight ["lot"] []
  m_weight : mg "weight" = some (.ref a_weight)
  a_steady_row : Addr
  d_steady_row : FuncData
  F_steady_row : Fun K "steady_row" "steady_row" s_steady_row a_steady_row d_steady_row
  b_steady_row : Binds K d_steady_row ["lot"] []
  m_steady_row : mg "steady_row" = some (.ref a_steady_row)
  a_steady_degree : Addr
  d_steady_degree : FuncData
  F_steady_degree : Fun K "steady_degree" "steady_degree" s_steady_degree a_steady_degree d_steady_degree
  b_steady_degree : Binds K d_steady_degree ["lot"] []
  m_steady_degree : mg "steady_degree" = some (.ref a_steady_degree)
  a_is_steady : Addr
  d_is_steady : FuncData
  F_is_steady : Fun K "is_steady" "is_steady" s_is_steady a_is_steady d_is_steady
  b_is_steady : Binds K d_is_steady ["series", "letters", "degree"] []
  m_is_steady : mg "is_steady" = some (.ref a_is_steady)
  a_left_number : Addr
  d_left_number : FuncData
  F_left_number : Fun K "left_number" "left_number" s_left_number a_left_number d_left_number
  b_left_number : Binds K d_left_number ["series", "letters", "degree"] []
  m_left_number : mg "left_number" = some (.ref a_left_number)
  a_steady_number : Addr
  d_steady_number : FuncData
  F_steady_number : Fun K "steady_number" "steady_number" s_steady_number a_steady_number d_steady_number
  b_steady_number : Binds K d_steady_number ["series", "letters", "degree"] []
  m_steady_number : mg "steady_number" = some (.ref a_steady_number)
  a_stretched : Addr
  d_stretched : FuncData
  F_stretched : Fun K "stretched" "stretched" s_stretched a_stretched d_stretched
  b_stretched : Binds K d_stretched ["top", "bottom"] []
  m_stretched : mg "stretched" = some (.ref a_stretched)
  a_w_jug : Addr
  d_w_jug : FuncData
  F_w_jug : Fun K "_law_jug" "_law_jug" s_w_jug a_w_jug d_w_jug
  b_w_jug : Binds K d_w_jug ["_law_script", "_law_turn"] []
  m_w_jug : mg "_law_jug" = some (.ref a_w_jug)
  a_w_pour : Addr
  d_w_pour : FuncData
  F_w_pour : Fun K "_law_pour" "_law_pour" s_w_pour a_w_pour d_w_pour
  b_w_pour : Binds K d_w_pour ["_law_jug_here", "_law_total"] []
  m_w_pour : mg "_law_pour" = some (.ref a_w_pour)
  a_w_taken : Addr
  d_w_taken : FuncData
  F_w_taken : Fun K "_law_taken" "_law_taken" s_w_taken a_w_taken d_w_taken
  b_w_taken : Binds K d_w_taken ["_law_jug_here", "_law_items"] []
  m_w_taken : mg "_law_taken" = some (.ref a_w_taken)
  a_w_divides : Addr
  d_w_divides : FuncData
  F_w_divides : Fun K "_law_divides" "_law_divides" s_w_divides a_w_divides d_w_divides
  b_w_divides : Binds K d_w_divides ["_law_one", "_law_other"] []
  m_w_divides : mg "_law_divides" = some (.ref a_w_divides)
  a_w_least : Addr
  d_w_least : FuncData
  F_w_least : Fun K "_law_least" "_law_least" s_w_least a_w_least d_w_least
  b_w_least : Binds K d_w_least ["_law_products"] []
  m_w_least : mg "_law_least" = some (.ref a_w_least)
  a_w_product : Addr
  d_w_product : FuncData
  F_w_product : Fun K "_law_product" "_law_product" s_w_product a_w_product d_w_product
  b_w_product : Binds K d_w_product ["_law_jug_here", "_law_letters", "_law_most"] []
  m_w_product : mg "_law_product" = some (.ref a_w_product)
  a_w_members : Addr
  d_w_members : FuncData
  F_w_members : Fun K "_law_members" "_law_members" s_w_members a_w_members d_w_members
  b_w_members : Binds K d_w_members ["_law_jug_here", "_law_letters", "_law_total", "_law_most"] []
  m_w_members : mg "_law_members" = some (.ref a_w_members)
  a_w_choices : Addr
  d_w_choices : FuncData
  F_w_choices : Fun K "_law_choices" "_law_choices" s_w_choices a_w_choices d_w_choices
  b_w_choices : Binds K d_w_choices ["_law_top", "_law_bottom"] []
  m_w_choices : mg "_law_choices" = some (.ref a_w_choices)
  a_w_at : Addr
  d_w_at : FuncData
  F_w_at : Fun K "_law_at" "_law_at" s_w_at a_w_at d_w_at
  b_w_at : Binds K d_w_at ["_law_row", "_law_degree"] []
  m_w_at : mg "_law_at" = some (.ref a_w_at)
  a_w_by_differences : Addr
  d_w_by_differences : FuncData
  F_w_by_differences : Fun K "_law_by_differences" "_law_by_differences" s_w_by_differences a_w_by_differences d_w_by_differences
  b_w_by_differences : Binds K d_w_by_differences ["_law_counts", "_law_start", "_law_size"] []
  m_w_by_differences : mg "_law_by_differences" = some (.ref a_w_by_differences)
  a_w_quotient_value : Addr
  d_w_quotient_value : FuncData
  F_w_quotient_value : Fun K "_law_quotient_value" "_law_quotient_value" s_w_quotient_value a_w_quotient_value d_w_quotient_value
  b_w_quotient_value : Binds K d_w_quotient_value ["_law_due", "_law_letters", "_law_size"] []
  m_w_quotient_value : mg "_law_quotient_value" = some (.ref a_w_quotient_value)
  a_w_right : Addr
  d_w_right : FuncData
  F_w_right : Fun K "_law_right" "_law_right" s_w_right a_w_right d_w_right
  b_w_right : Binds K d_w_right ["_law_jug_here"] []
  m_w_right : mg "_law_right" = some (.ref a_w_right)
  a_law : Addr
  d_law : FuncData
  F_law : Fun K "law" "law" s_law a_law d_law
  b_law : Binds K d_law ["_law_script"] []
  m_law : mg "law" = some (.ref a_law)
  z_isinstance : mg "isinstance" = none
  z_int : mg "int" = none
  z_bool : mg "bool" = none
  z_tuple : mg "tuple" = none
  z_len : mg "len" = none
  z_all : mg "all" = none
  z_zip : mg "zip" = none
  z_max : mg "max" = none
  z_sorted : mg "sorted" = none
  z_set : mg "set" = none
  z_range : mg "range" = none
  z_enumerate : mg "enumerate" = none
  z_list : mg "list" = none
  z_sum : mg "sum" = none
  z_abs : mg "abs" = none
  z_min : mg "min" = none
  z_ValueError : mg "ValueError" = none
  z_IndexError : mg "IndexError" = none
  z_OverflowError : mg "OverflowError" = none
  z_str : mg "str" = none
  z_NotImplemented : mg "NotImplemented" = none
  z_iter : mg "iter" = none
  z_classmethod : mg "classmethod" = none
  z_property : mg "property" = none
  z_comb : mg "comb" = some (.builtin "math.comb")
  t_MAX_LETTERS : Nat
  c_MAX_LETTERS : mg "MAX_LETTERS" = some (.int 8 t_MAX_LETTERS)
  t_MAX_EXPONENT : Nat
  c_MAX_EXPONENT : mg "MAX_EXPONENT" = some (.int 60 t_MAX_EXPONENT)
  t_LONGEST_EXPONENT : Nat
  c_LONGEST_EXPONENT : mg "LONGEST_EXPONENT" = some (.int 2 t_LONGEST_EXPONENT)
  t_MAX_MEMBER_EXPONENT : Nat
  c_MAX_MEMBER_EXPONENT : mg "MAX_MEMBER_EXPONENT" = some (.int 8 t_MAX_MEMBER_EXPONENT)
  t_MAX_MEMBERS : Nat
  c_MAX_MEMBERS : mg "MAX_MEMBERS" = some (.int 24 t_MAX_MEMBERS)
  t_MAX_PASSED : Nat
  c_MAX_PASSED : mg "MAX_PASSED" = some (.int 200 t_MAX_PASSED)
  t_MAX_POWER : Nat
  c_MAX_POWER : mg "MAX_POWER" = some (.int 4 t_MAX_POWER)
  t_MOST_COUNTED : Nat
  c_MOST_COUNTED : mg "MOST_COUNTED" = some (.int 40 t_MOST_COUNTED)
  t_MOST_FAR : Nat
  c_MOST_FAR : mg "MOST_FAR" = some (.int 1000000 t_MOST_FAR)
end K13

namespace K13
open PySem PySem.Spec PyProof.Rows L2 RZ L5 R7 XX
section
variable {K : PySem.W.Frag} {H H' : Hp}
/-! ### values of any kind -/
/-- an entry: some i where it is an integer, no bool -/
inductive El (K : PySem.W.Frag) (H : Hp) : V → Option Int → Prop
  | int (i : Int) : El K H (.int i) (some i)
  | bl (b : Bool) : El K H (.bl b) none
  | non : El K H .non none
  | str (x : Str) : El K H (.str x) none
  | tup {a : Addr} {xs : List V} (h : SqT K H a xs) : El K H (.ref a) none
theorem El.same (s : Same H H') {v : V} {o : Option Int} (h : El K H v o) : El K H' v o := by
  cases h with
  | int i => exact .int i
  | bl b => exact .bl b
  | non => exact .non
  | str x => exact .str x
  | tup h => exact .tup (same_sqt s h)
theorem El.isi {v : V} {o : Option Int} (h : El K H v o) : ∃ t bi bb, TyX K H v t ∧ PySem.W.kitOne K t (.type "int") = some bi ∧ PySem.W.kitOne K t (.type "bool") = some bb ∧ o.isSome = (bi && !bb) ∧ ∀ i, o = some i → v = .int i := by
  cases h with
  | int i => exact ⟨_, true, false, .base (.int i), kit_ty (by decide +kernel), kit_ty (by decide +kernel), rfl, fun j e => by cases e; rfl⟩
  | bl b => exact ⟨_, true, true, .base (.bl b), kit_ty (by decide +kernel), kit_ty (by decide +kernel), rfl, fun j e => by cases e⟩
  | non => exact ⟨_, false, false, .base .non, kit_ty (by decide +kernel), kit_ty (by decide +kernel), rfl, fun j e => by cases e⟩
  | str x => exact ⟨_, false, false, .base (.str x), kit_ty (by decide +kernel), kit_ty (by decide +kernel), rfl, fun j e => by cases e⟩
  | tup h => exact ⟨_, false, false, sqt_ty h, kit_ty (by decide +kernel), kit_ty (by decide +kernel), rfl, fun j e => by cases e⟩
abbrev Els (K : PySem.W.Frag) (H : Hp) : List V → List (Option Int) → Prop := Paired (El K H)
theorem Els.same (s : Same H H') : ∀ {vs : List V} {os : List (Option Int)}, Els K H vs os → Els K H' vs os
  | _, _, .nil => .nil
  | _, _, .cons h t => .cons (h.same s) (Els.same s t)
theorem Els.length : ∀ {vs : List V} {os : List (Option Int)}, Els K H vs os → vs.length = os.length
  | _, _, .nil => rfl
  | _, _, .cons _ t => congrArg (· + 1) (Els.length t)
theorem Els.get : ∀ {vs : List V} {os : List (Option Int)} {i : Nat} {v : V}, Els K H vs os → vs[i]? = some v → ∃ o, os[i]? = some o ∧ El K H v o
  | _, _, _, _, .nil, e => by simp at e
  | _, _, 0, _, .cons h _, e => by simp at e; subst e; exact ⟨_, rfl, h⟩
  | _, _, i + 1, v, .cons _ t, e => by
    obtain ⟨u, h1, h2⟩ := Els.get (i := i) (v := v) t (by simpa using e)
    exact ⟨u, by simpa using h1, h2⟩
theorem Els.app : ∀ {vs us : List V} {os ps : List (Option Int)}, Els K H vs os → Els K H us ps → Els K H (vs ++ us) (os ++ ps)
  | _, _, _, _, .nil, s => s
  | _, _, _, _, .cons r t, s => .cons r (Els.app t s)
theorem els_nv : ∀ t : List Nat, Els K H (nv t) (t.map fun n => some ((n : Nat) : Int))
  | [] => .nil
  | n :: t => .cons (.int _) (els_nv t)
/-- a value: some os where it is a tuple -/
inductive Va (K : PySem.W.Frag) (H : Hp) : V → Option (List (Option Int)) → Prop
  | tup {a : Addr} {vs : List V} {os : List (Option Int)} (h : SqT K H a vs) (e : Els K H vs os) (hl : vs.length ≤ 1000) : Va K H (.ref a) (some os)
  | lst {a : Addr} {xs : List V} (h : SqL K H a xs) : Va K H (.ref a) none
  | dic {a : Addr} (h : H a = some (.dK [])) : Va K H (.ref a) none
  | non : Va K H .non none
  | int (i : Int) : Va K H (.int i) none
  | str (x : Str) : Va K H (.str x) none
  | own {a C dx : Addr} {fs : List (Str × V)} (h : H a = some (.ins C dx fs)) (t : ∀ H' : Hp, H' a = some (.ins C dx fs) → TyX K H' (.ref a) (.ref C)) (k : PySem.W.kitOne K (.ref C) (.type "tuple") = some false) : Va K H (.ref a) none
theorem same_sql {a : Addr} {xs : List V} (e : Same H H') (h : SqL K H a xs) : SqL K H' a xs := by
  rcases h with (h | ⟨o, h⟩) | h
  · exact .inl (.inl (e _ _ h))
  · exact .inl (.inr ⟨o, e _ _ h⟩)
  · exact .inr h
theorem sql_ty {a : Addr} {xs : List V} (h : SqL K H a xs) : TyX K H (.ref a) (.type "list") := by
  rcases h with (h | ⟨o, h⟩) | ⟨o, its, n, e, c, _⟩
  · exact .base (.lst h)
  · exact .base (.frz h)
  · exact .kList e c
theorem Va.same (s : Same H H') {v : V} {d : Option (List (Option Int))} (h : Va K H v d) : Va K H' v d := by
  cases h with
  | tup h e hl => exact .tup (same_sqt s h) (e.same s) hl
  | lst h => exact .lst (same_sql s h)
  | dic h => exact .dic (s _ _ h)
  | non => exact .non
  | int i => exact .int i
  | str x => exact .str x
  | own h t k => exact .own (s _ _ h) t k
theorem Va.isi {v : V} {d : Option (List (Option Int))} (h : Va K H v d) : ∃ t, TyX K H v t ∧ PySem.W.kitOne K t (.type "tuple") = some d.isSome := by
  cases h with
  | tup h e hl => exact ⟨_, sqt_ty h, kit_ty (show kitB "tuple" "tuple" = some true by decide +kernel)⟩
  | lst h => exact ⟨_, sql_ty h, kit_ty (by decide +kernel)⟩
  | dic h => exact ⟨_, .base (.dK h), kit_ty (by decide +kernel)⟩
  | non => exact ⟨_, .base .non, kit_ty (by decide +kernel)⟩
  | int i => exact ⟨_, .base (.int i), kit_ty (by decide +kernel)⟩
  | str x => exact ⟨_, .base (.str x), kit_ty (by decide +kernel)⟩
  | own h t k => exact ⟨_, t _ h, k⟩
theorem Va.get {v : V} {os : List (Option Int)} (h : Va K H v (some os)) : ∃ a vs, v = .ref a ∧ SqT K H a vs ∧ Els K H vs os ∧ vs.length ≤ 1000 := by
  cases h with
  | tup h e hl => exact ⟨_, _, rfl, h, e, hl⟩
/-! ### what the program asks of them -/
def inB (o : Option Int) (a b : Int) : Bool := match o with
  | some i => decide (a ≤ i) && decide (i ≤ b)
  | none => false
def areB (d : Option (List (Option Int))) (n m : Int) : Bool := match d with
  | some os => decide (((os.length : Nat) : Int) = n) && os.all fun o => inB o 0 m
  | none => false
def anyB (d : Option (List (Option Int))) : Bool := match d with
  | some os => decide (1 ≤ os.length) && decide (os.length ≤ 8) && areB d ((os.length : Nat) : Int) 60
  | none => false
def Prod60 (t : List Nat) : Prop := 1 ≤ t.length ∧ t.length ≤ 8 ∧ ∀ e ∈ t, e ≤ 60
theorem els_nat : ∀ {vs : List V} {os : List (Option Int)}, Els K H vs os → (os.all fun o => inB o 0 60) = true → ∃ u : List Nat, vs = nv u ∧ os = (u.map fun n => some ((n : Nat) : Int)) ∧ ∀ e ∈ u, e ≤ 60
  | _, _, .nil, _ => ⟨[], rfl, rfl, fun _ h => nomatch h⟩
  | _, _, .cons h t, ha => by
    rw [List.all_cons, Bool.and_eq_true] at ha
    obtain ⟨u, rfl, rfl, hu⟩ := els_nat t ha.2
    cases h with
    | int i =>
      have h1 : (decide ((0 : Int) ≤ i) && decide (i ≤ 60)) = true := ha.1
      rw [Bool.and_eq_true] at h1
      have h2 := of_decide_eq_true h1.1
      have h3 := of_decide_eq_true h1.2
      refine ⟨i.toNat :: u, ?_, ?_, fun e he => ?_⟩
      · show _ = V.int _ :: nv u
        rw [show ((i.toNat : Nat) : Int) = i by omega]
      · show _ = some _ :: _
        rw [show ((i.toNat : Nat) : Int) = i by omega]
      · rcases List.mem_cons.mp he with rfl | he
        · omega
        · exact hu e he
    | bl b => cases ha.1
    | non => cases ha.1
    | str x => cases ha.1
    | tup h => cases ha.1
theorem are_get {v : V} {d : Option (List (Option Int))} {n : Nat} (h : Va K H v d) (e : areB d ((n : Nat) : Int) 60 = true) : ∃ r u, v = .ref r ∧ SqT K H r (nv u) ∧ u.length = n ∧ (∀ e ∈ u, e ≤ 60) ∧ d = some (u.map fun n => some ((n : Nat) : Int)) := by
  cases d with
  | none => cases e
  | some os =>
    obtain ⟨a, vs, rfl, hT, hE, _⟩ := h.get
    have e' : (decide (((os.length : Nat) : Int) = ((n : Nat) : Int)) && os.all fun o => inB o 0 60) = true := e
    rw [Bool.and_eq_true] at e'
    obtain ⟨u, rfl, rfl, hu⟩ := els_nat hE e'.2
    have hl := of_decide_eq_true e'.1
    rw [List.length_map] at hl
    exact ⟨a, u, rfl, hT, by omega, hu, rfl⟩
theorem are_prod {t : List Nat} (h : ∀ e ∈ t, e ≤ 60) : areB (some (t.map fun n => some ((n : Nat) : Int))) ((t.length : Nat) : Int) 60 = true := by
  refine Bool.and_eq_true_iff.mpr ⟨decide_eq_true (by rw [List.length_map]), List.all_eq_true.mpr fun o ho => ?_⟩
  obtain ⟨n, hn, rfl⟩ := List.mem_map.mp ho
  have := h n hn
  show (decide ((0 : Int) ≤ ((n : Nat) : Int)) && decide (((n : Nat) : Int) ≤ 60)) = true
  rw [decide_eq_true (show (0 : Int) ≤ ((n : Nat) : Int) by omega), decide_eq_true (show ((n : Nat) : Int) ≤ 60 by omega)]
  rfl
theorem va_prod {a : Addr} {t : List Nat} (h : SqT K H a (nv t)) (hl : t.length ≤ 1000) : Va K H (.ref a) (some (t.map fun n => some ((n : Nat) : Int))) := .tup h (els_nv t) (by rw [nv_len]; exact hl)
end
end K13

namespace K13
open PySem PySem.Spec PyProof.Rows L2 RZ L5 R7 XX
theorem take_more {α : Type} {l : List α} {i : Nat} {x : α} (h : l[i]? = some x) : l.take (i + 1) = l.take i ++ [x] := by
  rw [List.take_add_one, h]
  rfl
section
variable {P : Program} {w : World} {K : PySem.W.Frag} {mg : Str → Option Value} {base : Heap}
/-! ### is_number, is_within, are_exponents, check_within, of any value -/
def sp_num (K : PySem.W.Frag) : Sp := fun vs H Q _ => ∃ v o, vs = [v] ∧ El K H v o ∧ Q (.bl o.isSome) H
theorem ok_num (T : Txt K mg) : FnOk P w K mg base CX0 1 T.a_is_number T.d_is_number ["value"] (sp_num K) := by
  refine T.F_is_number.ok sc_is_number (fun vs H Q E h => ?_) (fun cdv A outer s H vs Q E hr h => ?_)
  · obtain ⟨v, o, rfl, _⟩ := h
    rfl
  · obtain ⟨v, o, rfl, he, q⟩ := h
    refine ⟨_, pss_one (ps_ret (pe_and (pe_callB call_isi (by rfl) T.z_isinstance boot_isinstance (pa_cons (pv 0) (pa_cons (pe_bltn (v := .ty "int") (by rfl) T.z_int boot_int rfl) pa_nil)))
      (pe_one (pe_not (pe_callB call_isi (by rfl) T.z_isinstance boot_isinstance (pa_cons (pv 0) (pa_cons (pe_bltn (v := .ty "bool") (by rfl) T.z_bool boot_bool rfl) pa_nil))))))), ?_⟩
    obtain ⟨t, bi, bb, ty, e1, e2, e3, _⟩ := he.isi
    refine ⟨_, rfl, _, _, _, _, bi, rfl, .ty _, ty, e1, bi, rfl, ?_⟩
    cases bi with
    | true =>
      refine iteT ⟨_, rfl, _, _, _, _, bb, rfl, .ty _, ty, e2, bb, rfl, ?_⟩
      rw [e3] at q
      exact q
    | false =>
      refine iteF ?_
      rw [e3] at q
      exact q
def sp_within (K : PySem.W.Frag) : Sp := fun vs H Q _ => ∃ v o, ∃ a b : Int, vs = [v, .int a, .int b] ∧ El K H v o ∧ Q (.bl (inB o a b)) H
theorem ok_within (T : Txt K mg) : FnOk P w K mg base CX0 2 T.a_is_within T.d_is_within ["value", "least", "most"] (sp_within K) := by
  refine T.F_is_within.ok sc_is_within (fun vs H Q E h => ?_) (fun cdv A outer s H vs Q E hr h => ?_)
  · obtain ⟨v, o, a, b, rfl, _⟩ := h
    rfl
  · obtain ⟨v, o, a, b, rfl, he, q⟩ := h
    refine ⟨_, pss_one (ps_ret (pe_and (pe_call (ok_num T) hr (by rfl) T.m_is_number T.F_is_number.kp T.b_is_number .nil pass0 (pa_cons (pv 0) pa_nil)) (pe_one (pe_chain op_le op_le (pv 1) (pv 0) (pv 2))))), ?_⟩
    refine ⟨_, rfl, v, o, rfl, he, o.isSome, rfl, ?_⟩
    cases o with
    | none => exact iteF q
    | some i =>
      obtain ⟨_, _, _, _, _, _, _, e⟩ := he.isi
      obtain rfl := e i rfl
      refine iteT ?_
      refine ⟨_, rfl, _, rfl, _, _, rfl, rfl, _, rfl, ite2 (fun c => ?_) (fun c => ?_)⟩
      · refine ⟨_, rfl, _, _, rfl, rfl, ?_⟩
        have q' : Q (.bl (decide (a ≤ i) && decide (i ≤ b))) H := q
        rw [c] at q'
        exact q'
      · have q' : Q (.bl (decide (a ≤ i) && decide (i ≤ b))) H := q
        rw [Bool.eq_false_iff.mpr c] at q'
        exact q'
def sp_checkw : Sp := fun vs H Q _ => ∃ i a b : Int, vs = [.int i, .int a, .int b] ∧ a ≤ i ∧ i ≤ b ∧ Q .non H
theorem ok_checkw (T : Txt K mg) : FnOk P w K mg base CX0 3 T.a_check_within T.d_check_within ["value", "least", "most"] sp_checkw := by
  refine T.F_check_within.ok sc_check_within (fun vs H Q E h => ?_) (fun cdv A outer s H vs Q E hr h => ?_)
  · obtain ⟨i, a, b, rfl, _⟩ := h
    rfl
  · obtain ⟨i, a, b, rfl, h1, h2, q⟩ := h
    refine ⟨_, pss_one (ps_if (pt_not (pt_val (pe_call (ok_within T) hr (by rfl) T.m_is_within T.F_is_within.kp T.b_is_within .nil pass0 (pa_cons (pv 0) (pa_cons (pv 1) (pa_cons (pv 2) pa_nil)))))) (pss_one ps_never) pss_nil), ?_⟩
    refine ⟨_, rfl, _, rfl, _, rfl, _, some i, a, b, rfl, .int i, true, ?_, iteF q⟩
    refine congrArg V.bl ?_
    show (decide (a ≤ i) && decide (i ≤ b)) = true
    rw [decide_eq_true h1, decide_eq_true h2]
    rfl
def sp_are (K : PySem.W.Frag) : Sp := fun vs H Q _ => ∃ v d, ∃ n m : Int, vs = [v, .int n, .int m] ∧ Va K H v d ∧ ∀ H', Same H H' → Q (.bl (areB d n m)) H'
theorem ok_are (T : Txt K mg) : FnOk P w K mg base CX0 3 T.a_are_exponents T.d_are_exponents ["value", "letters", "most"] (sp_are K) := by
  refine T.F_are_exponents.ok sc_are_exponents (fun vs H Q E h => ?_) (fun cdv A outer s H vs Q E hr h => ?_)
  · obtain ⟨v, d, n, m, rfl, _⟩ := h
    rfl
  · obtain ⟨v, d, n, m, rfl, hv, q⟩ := h
    refine ⟨_, pss_cons (ps_if (PW.pt (pw_or (pt_not (pt_val (pe_callB call_isi (by rfl) T.z_isinstance boot_isinstance (pa_cons (pv 0) (pa_cons (pe_bltn (v := .ty "tuple") (by rfl) T.z_tuple boot_tuple rfl) pa_nil)))))
        (pw_or1 (pt_cmpR op_ne (pe_callB call_len_seq (by rfl) T.z_len boot_len (pa_cons (pv 0) pa_nil)) (pv 1) (nomark _))))) (pss_one (ps_ret pe_bl)) pss_nil)
      (pss_one (ps_ret (pe_callB (cr_all rfl) (by rfl) T.z_all (by decide +kernel) (pa_cons
        (pe_lc (own := [("exponent", 3)]) (g := gName 3) (tt := tYes) rfl sc_are_exponents.nd (pi_tup (pv 0)) (blkOk_by (own := [("exponent", 3)]) (N := N_are_exponents) (sc := defScope s_are_exponents) (by decide +kernel))
          (fun _ _ _ _ _ => pg_name (i := 3) sc_are_exponents.nd rfl (Or.inl rfl)) (fun _ _ _ _ _ => pts_nil)
          (fun _ _ _ _ _ => pe_call (ok_within T) hr (by rfl) T.m_is_within T.F_is_within.kp T.b_is_within .nil pass0 (pa_cons (pv 3) (pa_cons pe_int (pa_cons (pv 2) pa_nil))))) pa_nil)))), ?_⟩
    obtain ⟨t, ty, et⟩ := hv.isi
    refine ⟨_, rfl, _, _, _, _, _, rfl, .ty _, ty, et, _, rfl, ?_⟩
    cases d with
    | none => exact iteT (q H (Same.refl H))
    | some os =>
      obtain ⟨p, xs, rfl, hT, hE, hz⟩ := hv.get
      refine iteF ⟨_, rfl, p, _, rfl, .inr hT, _, rfl, ?_⟩
      have hlen := hE.length
      refine ⟨rfl, _, rfl, ite2 (fun c => ?_) (fun c => ?_)⟩
      · have c' : ¬ ((os.length : Nat) : Int) = n := fun z => by
          rw [hlen, z, decide_eq_true rfl] at c
          cases c
        have e1 : areB (some os) n m = false := by
          show (decide _ && _) = false
          rw [decide_eq_false c']
          rfl
        have := q H (Same.refl H)
        rw [e1] at this
        exact this
      · have c' : ((os.length : Nat) : Int) = n := by
          by_cases z : ((os.length : Nat) : Int) = n
          · exact z
          · exact absurd (by rw [hlen, decide_eq_false (fun y => z (V.int.inj y))]; rfl) c
        refine ⟨_, rfl, p, rfl, ⟨_, hT⟩, fun D hD => ?_⟩
        have s1 : Same H (upd H D (.lst [])) := same_new hD _
        refine lc_tup (K := K) (a := p) (xs := xs) (fun i H' => Same H H' ∧ H' D = some (.lst (((os.take i).map fun o => inB o 0 m).map V.bl))) ⟨s1, upd_same⟩ (fun i H' _ h => same_sqt h.1 hT) (fun i x H' hi h => ?_) (fun H' h => ?_)
        · obtain ⟨sm, eD⟩ := h
          obtain ⟨o, ho, hx⟩ := hE.get hi
          have hlt : i < xs.length := (List.getElem?_eq_some_iff.mp hi).1
          refine ⟨rfl, _, rfl, _, rfl, x, o, _, _, rfl, hx.same sm, ?_⟩
          refine ⟨_, eD, by rw [List.length_map, List.length_map, List.length_take]; exact sizeK (by omega), same_updL sm hD, ?_⟩
          rw [upd_same, take_more ho, List.map_append, List.map_append]
          rfl
        · obtain ⟨sm, eD⟩ := h
          rw [hlen, List.take_length] at eD
          refine ⟨D, _, rfl, SqL.of eD, ?_⟩
          have e1 : areB (some os) n m = (os.map fun o => inB o 0 m).all id := by
            show (decide _ && _) = _
            rw [decide_eq_true c', Bool.true_and, List.all_map]
            rfl
          have := q H' sm
          rw [e1] at this
          exact this
end
end K13

namespace K13
open PySem PySem.Spec PyProof.Rows L2 RZ L5 R7 XX
section
variable {P : Program} {w : World} {K : PySem.W.Frag} {mg : Str → Option Value} {base : Heap}
/-! ### a comprehension over zip of two tuples of one length -/
abbrev lcTurn (D : Addr) (g : TG) (tt : TT) (te : TE) (vs : List Nat) (σ : L2.St) (Nx : Hp → Prop) (v : V) (H : Hp) : Prop := g v (wipe σ vs) H fun σ2 H2 => wipe σ2 vs = wipe σ vs ∧ tt σ2 H2 fun b H3 =>
  if b = true then te σ2 H3 fun y H4 => ∃ acc, H4 D = some (.lst acc) ∧ acc.length < sizeLine ∧ Nx (upd H4 D (.lst (acc ++ [y]))) else Nx H3
theorem lc_zipT {a b : Addr} {xs ys : List V} {g : TG} {tt : TT} {te : TE} {vs : List Nat} {σ : L2.St} {H1 : Hp} {D : Addr} {Qd : Hp → Prop} (hl : xs.length = ys.length) (Pv : Nat → Hp → Prop) (h0 : Pv 0 (upd H1 D (.lst []))) (hq : ∀ i H, Pv i H → SqT K H a xs ∧ SqT K H b ys)
    (hs : ∀ (i : Nat) (x y : V) (T : Addr) (H : Hp), xs[i]? = some x → ys[i]? = some y → Pv i H → H T = none → lcTurn D g tt te vs σ (Pv (i + 1)) (.ref T) (upd H T (.tup [x, y]))) (hd : ∀ H, Pv xs.length H → Qd H) :
    ∃ W : Nat → Nat → Hp → Prop, (∃ m, W 0 m (upd H1 D (.lst []))) ∧ ∀ i m H0, W i m H0 →
      ((ItzT K a b).stop i H0 ∧ Qd H0) ∨ ((ItzT K a b).go i H0 ∧ ∃ Nx : Hp → Prop, (∀ H', Nx H' → ∃ m', m' < m ∧ W (i + 1) m' H') ∧ ∀ v H', (ItzT K a b).yld i H0 v H' → lcTurn D g tt te vs σ Nx v H') := by
  refine ⟨fun i m H => i + m = xs.length ∧ Pv i H, ⟨xs.length, Nat.zero_add _, h0⟩, fun i m H0 hw => ?_⟩
  obtain ⟨em, pi⟩ := hw
  obtain ⟨ta, tb⟩ := hq i H0 pi
  cases m with
  | zero =>
    have ei : i = xs.length := em
    subst ei
    exact .inl ⟨⟨xs, ys, ta, tb, Or.inl (Nat.le_refl _)⟩, hd H0 pi⟩
  | succ m =>
    have i1 : i < xs.length := by omega
    have i2 : i < ys.length := hl ▸ i1
    refine .inr ⟨⟨xs, ys, _, _, ta, tb, List.getElem?_eq_getElem i1, List.getElem?_eq_getElem i2⟩, Pv (i + 1), fun H' p => ⟨m, Nat.lt_succ_self m, by omega, p⟩, fun v H' out => ?_⟩
    obtain ⟨T, _, _, rfl, free, rfl, fx, fy⟩ := out
    exact hs i _ _ T H0 (fx xs ta) (fy ys tb) pi free
theorem getD_at {t : List Nat} {i : Nat} (h : i < t.length) : t[i]? = some (t.getD i 0) := by
  rw [List.getD_eq_getElem?_getD, List.getElem?_eq_getElem h]
  rfl
theorem nv_take (t : List Nat) (k : Nat) : nv (t.take k) = (nv t).take k := List.map_take
theorem cut_to (xs : List V) (k : Nat) (h : k ≤ xs.length) : cutV xs none (some (k : Int)) = xs.take k := by
  unfold cutV
  rw [show HT.sIx xs.length xs.length (some (k : Int)) = min k xs.length from HT.sIx_nat xs.length xs.length k, HT.sIx_none, Nat.min_eq_left h]
  rfl
/-! ### tuple rules whose answer is told alike in all cases -/
def rCatB (K : PySem.W.Frag) : R2 := fun x y H Q => ∃ a b xs ys, x = .ref a ∧ y = .ref b ∧ SqT K H a xs ∧ SqT K H b ys ∧ xs.length + ys.length ≤ sizeLine ∧ ∀ H' z, Same H H' → SqT K H' z (xs ++ ys) → Q (.ref z) H'
theorem op_catB {X : Cx} : OpR X (binaryOp .Add) (rCatB X.K) := by
  intro pins s σ H x y v u Q I rx ry h
  obtain ⟨a, b, xs, ys, rfl, rfl, hx, hy, hz, q⟩ := h
  refine op_catA pins s σ H _ _ v u Q I rx ry ⟨a, b, xs, ys, rfl, rfl, hx, hy, hz, fun e => ?_, fun _ e => ?_, fun _ _ p hp => q _ p (same_new hp _) (SqT.of upd_same)⟩
  · subst e
    exact q H b (Same.refl H) hy
  · subst e
    rw [List.append_nil] at q
    exact q H a (Same.refl H) hx
def rSlB (K : PySem.W.Frag) : V → Option Int → Option Int → Hp → VK → Prop := fun x lo hi H Q => ∃ a xs, x = .ref a ∧ SqT K H a xs ∧ ∀ H' z, Same H H' → SqT K H' z (cutV xs lo hi) → Q (.ref z) H'
theorem sl_tupB {X : Cx} : SlR X (rSlB X.K) := by
  intro pins s σ H x v vl vu lo hi sl Q I rx hs pl pu h
  obtain ⟨a, xs, rfl, hx, q⟩ := h
  refine sl_tupA pins s σ H _ v vl vu lo hi sl Q I rx hs pl pu ⟨a, xs, rfl, hx, fun e => ?_, fun _ p hp => q _ p (same_new hp _) (SqT.of upd_same)⟩
  have e2 : cutV xs lo hi = xs := by
    unfold cutV
    rw [e.1, e.2]
    exact List.take_length
  rw [e2] at q
  exact q H a (Same.refl H) hx
/-! ### all but the pail stands -/
def Bar (p : Addr) (H H' : Hp) : Prop := ∀ b o, b ≠ p → H b = some o → H' b = some o
theorem Bar.trans {p : Addr} {A B C : Hp} (a : Bar p A B) (b : Bar p B C) : Bar p A C := fun c o n h => b c o n (a c o n h)
theorem Bar.same {p : Addr} {A B : Hp} (a : Same A B) : Bar p A B := fun c o _ h => a c o h
theorem Bar.upd {p : Addr} {A : Hp} {o : HO} : Bar p A (upd A p o) := fun c u n h => by
  rw [upd_ne n]
  exact h
theorem passG {X : Cx} : Passes (CX X.prog X.w) X E0 := fun _ _ _ _ _ _ _ c => by
  obtain ⟨_, _, _, _, _, _, _, _, _, _, _, _, no⟩ := c
  exact no.elim
theorem nostop : NoStop K E0 := fun _ _ _ no => no.elim
theorem ref_get {rs : List Addr} {i : Nat} {x : V} (h : (rs.map V.ref)[i]? = some x) : ∃ a, rs[i]? = some a ∧ x = .ref a := by
  rw [List.getElem?_map] at h
  cases e : rs[i]? with
  | none =>
    rw [e] at h
    cases h
  | some n =>
    rw [e] at h
    exact ⟨n, rfl, (Option.some.inj h).symm⟩
end
section
variable {P : Program} {w : World} {K : PySem.W.Frag} {mg : Str → Option Value} {base : Heap}
/-! ### the law's own draws -/
abbrev pailO (g x c : Int) : HO := .lst [.int g, .int x, .int c]
theorem mpos {j : Int} (h : (0 : Int) < j) : (0 : Int) < j := h
theorem PE.weak {X : Cx} {e : Expr} {t t' : TE} (h : PE X e t) (i : ∀ σ H Q, t' σ H Q → t σ H Q) : PE X e t' := ⟨fun pins s σ H Q I h' => h.run pins s σ H Q I (i σ H Q h')⟩
def sp_jug (K : PySem.W.Frag) : Sp := fun vs H Q _ => ∃ (a : Addr) (ns : List Int) (k : Nat), vs = [.ref a, .int ((k : Nat) : Int)] ∧ SqL K H a (ns.map V.int) ∧ k < 1000 ∧ ∀ (H' : Hp) (r : Addr) (g x c : Int), Same H H' → H r = none → H' r = some (pailO g x c) → Q (.ref r) H'
theorem ok_jug (T : Txt K mg) : FnOk P w K mg base CX0 1 T.a_w_jug T.d_w_jug ["_law_script", "_law_turn"] (sp_jug K) := by
  refine T.F_w_jug.ok sc_w_jug (fun vs H Q E h => ?_) (fun cdv A outer s H vs Q E hr h => ?_)
  · obtain ⟨a, ns, k, rfl, _⟩ := h
    rfl
  · obtain ⟨a, ns, k, rfl, hS, hk, q⟩ := h
    refine ⟨_, pss_cons (ps_set (i := 2) sc_w_jug.nd rfl (Or.inl rfl) (PE.weak (t' := fun σ' H' Q' => σ' = start N_w_jug [.ref a, .int ((k : Nat) : Int)] ∧ H' = H ∧ ∀ (i : Int) H1, Same H H1 → Q' (.int i) H1) (pe_ifExp (pt_cmpR op_lt (pv 1) (pe_callB call_len_seq (by rfl) T.z_len boot_len (pa_cons (pv 0) pa_nil)) (nomark _))
        (pe_callTy call_int1 (by rfl) T.z_int boot_int (pa_cons (pe_ix ix_list (pv 0) (pv 1) (fun _ _ => rfl)) pa_nil))
        (pe_op op_add (pe_op op_add (pe_op op_mul pe_int (pv 1)) pe_int) (pe_op op_mod (pe_callTy call_int1 (by rfl) T.z_int boot_int (pa_cons (pe_callB (cr_sum rfl) (by rfl) T.z_sum boot_sum (pa_cons (pe_slice sl_list (pv 0) po_none (po_some pe_int)) pa_nil)) pa_nil)) pe_int))) ?imp))
      (pss_cons (ps_set (i := 3) sc_w_jug.nd rfl (Or.inl rfl) (pe_op op_mod (pe_callB call_abs (by rfl) T.z_abs boot_abs (pa_cons (pv 2) pa_nil)) (pe_op op_powW (pe_op op_pow pe_int pe_int) pe_int)))
      (pss_one (ps_ret (pe_lst (pa_cons (pe_callB (call_max2 rfl) (by rfl) T.z_max boot_max (pa_cons pe_int (pa_cons (pe_op op_sub (pv 3) (pe_op op_pow pe_int pe_int)) pa_nil)))
        (pa_cons (pe_op op_add (pe_op op_add (pe_op op_add (pe_op op_mul (pe_op op_mod (pv 3) pe_int) pe_int) (pe_op op_mul pe_int (pv 1))) (pe_op op_mul pe_int (pe_callTy call_int1 (by rfl) T.z_int boot_int (pa_cons (pe_cmpR op_lt (pv 2) pe_int (nomark _)) pa_nil)))) pe_int) (pa_cons pe_int pa_nil))))))), ?_⟩
    case imp =>
      rintro σ' H' Q' ⟨rfl, rfl, h⟩
      refine ⟨_, rfl, _, rfl, a, _, rfl, .inl hS, _, _, rfl, rfl, _, rfl, ite2 (fun c => ?_) (fun c => ?_)⟩
      · have c' := of_decide_eq_true c
        rw [List.length_map] at c'
        have hlt : k < ns.length := by omega
        refine ⟨_, rfl, _, rfl, a, _, _, .int ns[k], rfl, rfl, hS, atI_nat (by rw [List.getElem?_map, List.getElem?_eq_getElem hlt] <;> rfl), .inl ⟨_, rfl, ?_⟩⟩
        exact h _ _ (Same.refl _)
      · refine ⟨_, rfl, _, _, rfl, rfl, .inl ⟨by decide, by decide⟩, _, _, rfl, rfl, _, rfl, _, rfl, a, _, rfl, hS, fun z hz => ?_⟩
        have e1 : cutV (ns.map V.int) none (some 1) = (ns.take 1).map V.int := by
          unfold cutV
          rw [show HT.sIx (ns.map V.int).length (ns.map V.int).length (some 1) = min 1 (ns.map V.int).length from HT.sIx_nat _ _ 1, HT.sIx_none, List.map_take]
          show List.take (min 1 (ns.map V.int).length) (ns.map V.int) = _
          rcases ns with _ | ⟨n, r⟩
          · rfl
          · rw [List.map_cons, List.length_cons, show min 1 ((r.map V.int).length + 1) = 1 by omega]
        refine ⟨z, ns.take 1, rfl, SqL.of (by rw [upd_same, e1]), .inl ⟨_, rfl, _, _, rfl, rfl, mpos (by decide), _, _, rfl, rfl, ?_⟩⟩
        exact h _ _ (same_new hz _)
    refine ⟨rfl, rfl, fun cell H1 s1 => ?_⟩
    refine ⟨_, rfl, _, rfl, _, _, rfl, rfl, ⟨by decide, by decide, by decide⟩, _, _, rfl, rfl, ⟨by decide, by decide +kernel⟩, _, _, rfl, rfl, Int.pow_pos (Int.pow_pos (by decide)), ?_⟩
    refine ⟨_, rfl, _, _, rfl, rfl, ⟨by decide, by decide, by decide⟩, _, _, rfl, rfl, _, _, rfl, ?_⟩
    refine ⟨_, rfl, _, _, rfl, rfl, mpos (by decide), _, _, rfl, rfl, .inr ⟨by decide, by decide⟩, _, rfl, _, _, rfl, rfl, .inl ⟨by decide, by decide⟩, _, _, rfl, rfl, _, rfl, _, _, rfl, rfl, .inr ⟨_, rfl, _, _, rfl, rfl, .inl ⟨by decide, by decide⟩, _, _, rfl, rfl, _, _, rfl, rfl, ?_⟩⟩
    refine ⟨by show 3 ≤ sizeLine; decide, fun z hz => ?_⟩
    exact q _ z _ _ _ (s1.trans (same_new hz _)) (s1.free hz) upd_same
abbrev rDip (H : Hp) (p : Addr) (m : Int) (Q : VK) : Prop := ∀ g x c r : Int, 0 ≤ r → r < m → Q (.int r) (upd H p (pailO g x c))
def sp_dip : Sp := fun vs H Q _ => ∃ (p : Addr) (m g x c : Int), vs = [.ref p, .int m] ∧ H p = some (pailO g x c) ∧ 0 < m ∧ m < 1073741824 ∧ rDip H p m Q
theorem ok_dip (T : Txt K mg) : FnOk P w K mg base CX0 1 T.a_w_pour T.d_w_pour ["_law_jug_here", "_law_total"] sp_dip := by
  refine T.F_w_pour.ok sc_w_pour (fun vs H Q E h => ?_) (fun cdv A outer s H vs Q E hr h => ?_)
  · obtain ⟨p, m, g, x, c, rfl, _⟩ := h
    rfl
  · obtain ⟨p, m, g, x, c, rfl, hp, h0, h1, q⟩ := h
    refine ⟨_, pss_cons (ps_if (pt_cmpR op_gt (pe_ix ix_list (pv 0) pe_int (fun _ _ => rfl)) pe_int (nomark _))
        (pss_cons (ps_set (i := 2) sc_w_pour.nd rfl (Or.inl rfl) (pe_op op_mod (pe_callTy call_int1 (by rfl) T.z_int boot_int (pa_cons (pe_ix ix_list (pv 0) pe_int (fun _ _ => rfl)) pa_nil)) (pv 1)))
        (pss_cons (ps_asg (pe_op op_fdiv (pe_callTy call_int1 (by rfl) T.z_int boot_int (pa_cons (pe_ix ix_list (pv 0) pe_int (fun _ _ => rfl)) pa_nil)) (pv 1)) (pg_sub (pv 0) pe_int set_list))
        (pss_one (ps_ret (pv 2))))) pss_nil)
      (pss_cons (ps_asg (pe_op op_add (pe_ix ix_list (pv 0) pe_int (fun _ _ => rfl)) pe_int) (pg_sub (pv 0) pe_int set_list))
      (pss_cons (ps_set (i := 3) sc_w_pour.nd rfl (Or.inl rfl) (pe_op op_mod (pe_callTy call_int1 (by rfl) T.z_int boot_int (pa_cons (pe_op op_add (pe_ix ix_list (pv 0) pe_int (fun _ _ => rfl)) (pe_op op_mul pe_int (pe_ix ix_list (pv 0) pe_int (fun _ _ => rfl)))) pa_nil)) pe_int))
      (pss_cons (ps_set (i := 4) sc_w_pour.nd rfl (Or.inl rfl) (pe_op op_mod (pe_callTy call_int1 (by rfl) T.z_int boot_int (pa_cons (pe_op op_add (pe_op op_add (pe_op op_mul (pv 3) (pv 3)) (pe_op op_mul pe_int (pe_ix ix_list (pv 0) pe_int (fun _ _ => rfl)))) pe_int) pa_nil)) pe_int))
      (pss_one (ps_ret (pe_op op_mod (pe_callTy call_int1 (by rfl) T.z_int boot_int (pa_cons (pe_op op_fdiv (pe_op op_mul (pv 4) (pe_op op_add (pe_op op_mod (pv 3) pe_int) pe_int)) pe_int) pa_nil)) (pv 1))))))), ?_⟩
    have a0 : atI [V.int g, V.int x, V.int c] (0 : Int) = some (.int g) := rfl
    refine ⟨_, rfl, p, _, _, _, rfl, rfl, SqL.of hp, a0, _, _, rfl, rfl, _, rfl, ite2 (fun d => ?_) (fun d => ?_)⟩
    · refine ⟨_, rfl, p, _, _, _, rfl, rfl, SqL.of hp, a0, .inl ⟨_, rfl, _, rfl, _, _, rfl, rfl, h0, ?_⟩⟩
      refine ⟨_, rfl, p, _, _, _, rfl, rfl, SqL.of hp, a0, .inl ⟨_, rfl, _, rfl, _, _, rfl, rfl, ⟨h0, h1⟩, ?_⟩⟩
      refine ⟨_, rfl, p, _, _, 0, rfl, rfl, hp, rfl, ?_⟩
      exact ⟨_, rfl, q _ _ _ _ (Int.emod_nonneg _ (by omega)) (Int.emod_lt_of_pos _ h0)⟩
    · have a2 : atI [V.int g, V.int x, V.int c] (2 : Int) = some (.int c) := rfl
      refine ⟨_, rfl, p, _, _, _, rfl, rfl, SqL.of hp, a2, _, _, rfl, rfl, _, rfl, p, _, _, 2, rfl, rfl, hp, rfl, ?_⟩
      have hp' : (upd H p (.lst [V.int g, V.int x, V.int (c + 1)])) p = some (.lst [V.int g, V.int x, V.int (c + 1)]) := upd_same
      have b1 : atI [V.int g, V.int x, V.int (c + 1)] (1 : Int) = some (.int x) := rfl
      have b2 : atI [V.int g, V.int x, V.int (c + 1)] (2 : Int) = some (.int (c + 1)) := rfl
      refine ⟨_, rfl, p, _, _, _, rfl, rfl, SqL.of hp', b1, _, rfl, p, _, _, _, rfl, rfl, SqL.of hp', b2, _, _, rfl, rfl, .inl ⟨by decide, by decide⟩, _, _, rfl, rfl, .inl ⟨_, rfl, _, _, rfl, rfl, mpos (by decide), ?_⟩⟩
      have r0 := Int.emod_nonneg (x + 141650939 * (c + 1)) (show (2305843009213693951 : Int) ≠ 0 by decide)
      have r1 := Int.emod_lt_of_pos (x + 141650939 * (c + 1)) (show (0 : Int) < 2305843009213693951 by decide)
      generalize (x + 141650939 * (c + 1)) % 2305843009213693951 = one at r0 r1 ⊢
      refine ⟨_, rfl, _, rfl, _, _, rfl, rfl, .inl ⟨by omega, by omega⟩, _, rfl, p, _, _, _, rfl, rfl, SqL.of hp', b2, _, _, rfl, rfl, .inl ⟨by decide, by decide⟩, _, _, rfl, rfl, _, _, rfl, rfl, .inl ⟨_, rfl, _, _, rfl, rfl, mpos (by decide), ?_⟩⟩
      have m0 := Int.emod_nonneg one (show (1031 : Int) ≠ 0 by decide)
      have m1 := Int.emod_lt_of_pos one (show (0 : Int) < 1031 by decide)
      refine ⟨_, rfl, _, rfl, _, _, rfl, rfl, mpos (by decide), _, _, rfl, rfl, _, _, rfl, rfl, .inr ⟨by omega, by omega⟩, _, _, rfl, rfl, ⟨by decide, by decide⟩, .inl ⟨_, rfl, _, rfl, _, _, rfl, rfl, h0, ?_⟩⟩
      exact q _ _ _ _ (Int.emod_nonneg _ (by omega)) (Int.emod_lt_of_pos _ h0)
/-- items[pour(jug, len(items))] -/
def sp_some (K : PySem.W.Frag) : Sp := fun vs H Q _ => ∃ (p a : Addr) (xs : List V) (g x c : Int), vs = [.ref p, .ref a] ∧ H p = some (pailO g x c) ∧ a ≠ p ∧ SqL K H a xs ∧ xs ≠ [] ∧ xs.length ≤ 1000 ∧ ∀ g x c v, v ∈ xs → Q v (upd H p (pailO g x c))
theorem ok_some (T : Txt K mg) : FnOk P w K mg base CX0 2 T.a_w_taken T.d_w_taken ["_law_jug_here", "_law_items"] (sp_some K) := by
  refine T.F_w_taken.ok sc_w_taken (fun vs H Q E h => ?_) (fun cdv A outer s H vs Q E hr h => ?_)
  · obtain ⟨p, a, xs, g, x, c, rfl, _⟩ := h
    rfl
  · obtain ⟨p, a, xs, g, x, c, rfl, hp, hne, hS, hn, hz, q⟩ := h
    refine ⟨_, pss_one (ps_ret (pe_ix ix_list (pv 1) (pe_call (ok_dip T) hr (by rfl) T.m_w_pour T.F_w_pour.kp T.b_w_pour .nil pass0 (pa_cons (pv 0) (pa_cons (pe_callB call_len_seq (by rfl) T.z_len boot_len (pa_cons (pv 1) pa_nil)) pa_nil))) (fun _ _ => rfl))), ?_⟩
    have hpos : 0 < xs.length := List.length_pos_iff.mpr hn
    refine ⟨_, rfl, _, rfl, _, rfl, a, _, rfl, .inl hS, p, _, g, x, c, rfl, hp, by omega, by omega, fun g' x' c' r h0 h1 => ?_⟩
    have hlt : r.toNat < xs.length := by omega
    refine ⟨a, xs, r, xs[r.toNat], rfl, rfl, sql_updL hne hS, ?_, q _ _ _ _ (List.getElem_mem hlt)⟩
    have := atI_nat (xs := xs) (List.getElem?_eq_getElem hlt)
    rw [show ((r.toNat : Nat) : Int) = r by omega] at this
    exact this
end
end K13

namespace K13
open PySem PySem.Spec PyProof.Rows L2 RZ L5 R7 XX
section
variable {P : Program} {w : World} {K : PySem.W.Frag} {mg : Str → Option Value} {base : Heap}
/-! ### fits -/
abbrev fitL (t u : List Nat) : List Bool := List.zipWith (fun a b => decide (a ≤ b)) t u
abbrev fitB (t u : List Nat) : Bool := (fitL t u).all id
theorem fit_get {t u : List Nat} {i n m : Nat} (h1 : t[i]? = some n) (h2 : u[i]? = some m) : (fitL t u)[i]? = some (decide (n ≤ m)) := by
  rw [List.getElem?_zipWith, h1, h2]
theorem all_take_step {l : List Bool} {i : Nat} {b : Bool} (h : l[i]? = some b) : (l.take (i + 1)).all id = ((l.take i).all id && b) := by
  rw [take_more h, List.all_append]
  show _ = _
  simp
def sp_fits (K : PySem.W.Frag) : Sp := fun vs H Q _ => ∃ (p r : Addr) (t u : List Nat), vs = [.ref p, .ref r] ∧ SqT K H p (nv t) ∧ SqT K H r (nv u) ∧ u.length = t.length ∧ ∀ H', Same H H' → Q (.bl (fitB t u)) H'
theorem ok_fits (T : Txt K mg) : FnOk P w K mg base CX0 1 T.a_fits T.d_fits ["one", "other"] (sp_fits K) := by
  refine T.F_fits.ok sc_fits (fun vs H Q E h => ?_) (fun cdv A outer s H vs Q E hr h => ?_)
  · obtain ⟨p, r, t, u, rfl, _⟩ := h
    rfl
  · obtain ⟨p, r, t, u, rfl, hT, hU, hl, q⟩ := h
    refine ⟨_, pss_cons (ps_for PassesOwn.never rfl (pi_zipA (by rfl) T.z_zip (pa_cons (pv 0) (pa_cons (pv 1) pa_nil))) (pg_tup (by rfl) (pgs_cons (pg_name (i := 2) sc_fits.nd rfl (Or.inl rfl)) (pgs_cons (pg_name (i := 3) sc_fits.nd rfl (Or.inl rfl)) pgs_nil)))
        (pss_one (ps_if (pt_cmpR op_gt (pv 2) (pv 3) (nomark _)) (pss_one (ps_ret pe_bl)) pss_nil)))
      (pss_one (ps_ret pe_bl)), ?_⟩
    refine ⟨_, rfl, _, rfl, p, r, nv t, nv u, rfl, .inr ⟨hT, hU, ?_⟩⟩
    refine for_zipT (xs := nv t) (ys := nv u) (by rw [nv_len, nv_len, hl]) (fun i σ H' => ∃ v2 v3 : Option V, σ = [some (.ref p), some (.ref r), v2, v3] ∧ Same H H' ∧ ((fitL t u).take i).all id = true) ⟨none, none, rfl, Same.refl H, rfl⟩ ?_ ?_ ?_
    · rintro i σ H' ⟨v2, v3, rfl, sm, _⟩
      exact ⟨same_sqt sm hT, same_sqt sm hU⟩
    · rintro i x y T' σ H' hx hy ⟨v2, v3, rfl, sm, ha⟩ hT'
      obtain ⟨n, hn, rfl⟩ := nv_get hx
      obtain ⟨m, hm, rfl⟩ := nv_get hy
      have sT : Same H' (upd H' T' (.tup [.int ((n : Nat) : Int), .int ((m : Nat) : Int)])) := same_new hT' _
      have st := all_take_step (fit_get hn hm)
      refine ⟨T', _, rfl, SqT.of upd_same, rfl, _, _, rfl, _, _, rfl, rfl, ?_⟩
      refine ⟨_, rfl, _, rfl, _, _, rfl, rfl, _, rfl, ite2 (fun c => ?_) (fun c => ?_)⟩
      · have c' := of_decide_eq_true c
        have ef : fitB t u = false := by
          rw [ha, Bool.true_and, decide_eq_false (show ¬ n ≤ m by omega)] at st
          show (fitL t u).all id = false
          rw [← List.take_append_drop (i + 1) (fitL t u), List.all_append, st, Bool.false_and]
        rw [ef] at q
        exact q _ (sm.trans sT)
      · have c' : ¬ ((n : Nat) : Int) > ((m : Nat) : Int) := fun z => c (decide_eq_true z)
        refine ⟨_, _, rfl, sm.trans sT, ?_⟩
        rw [st, ha, decide_eq_true (show n ≤ m by omega)]
        rfl
    · rintro σ H' ⟨v2, v3, rfl, sm, ha⟩
      have ef : fitB t u = true := by
        rw [List.take_of_length_le (by rw [nv_len, List.length_zipWith]; omega)] at ha
        exact ha
      rw [ef] at q
      exact q _ sm
end
end K13

namespace K13
open PySem PySem.Spec PyProof.Rows L2 RZ L5 R7 XX
section
variable {P : Program} {w : World} {K : PySem.W.Frag} {mg : Str → Option Value} {base : Heap}
/-! ### is_divided, is_least, least_of, has_great_exponent, limited_members, of tuples of one length -/
theorem fit_eq : ∀ t u : List Nat, fitB t u = M7.fitB t u
  | [], _ => rfl
  | _ :: _, [] => rfl
  | a :: t, b :: u => by
    show (decide (a ≤ b) && fitB t u) = (decide (a ≤ b) && M7.fitB t u)
    rw [fit_eq t u]
theorem any_take_step {l : List Bool} {i : Nat} {b : Bool} (h : l[i]? = some b) : (l.take (i + 1)).any id = ((l.take i).any id || b) := by
  rw [take_more h, List.any_append]
  simp
theorem any_drop {l : List Bool} {i : Nat} (h : (l.take i).any id = true) : l.any id = true := by
  rw [← List.take_append_drop i l, List.any_append, h, Bool.true_or]
theorem eqvAll_nats : ∀ t u : List Nat, PyData.eqvAll (t.map fun n => PyData.int ((n : Nat) : Int)) (u.map fun n => PyData.int ((n : Nat) : Int)) = decide (t = u)
  | [], [] => by simp [PyData.eqvAll]
  | [], _ :: _ => by simp [PyData.eqvAll]
  | _ :: _, [] => by simp [PyData.eqvAll]
  | a :: t, b :: u => by
    simp only [List.map_cons, PyData.eqvAll, PyData.eqv, eqvAll_nats t u]
    rw [show (((a : Nat) : Int) == ((b : Nat) : Int)) = decide (a = b) by
      rw [Bool.eq_iff_iff, beq_iff_eq, decide_eq_true_iff]
      omega, ← Bool.decide_and]
    exact decide_eq_decide.mpr (by simp)
theorem eqv_tupE (t u : List Nat) : PyData.eqv (encT t) (encT u) = decide (t = u) := by
  simp only [encT, PyData.eqv]
  exact eqvAll_nats t u
theorem tups_get {H : Hp} {rs : List Addr} {L : List (List Nat)} {i : Nat} {x : V} (hT : Tups K H rs L) (h : (rs.map V.ref)[i]? = some x) : ∃ a t, x = .ref a ∧ rs[i]? = some a ∧ L[i]? = some t ∧ SqT K H a (nv t) := by
  obtain ⟨a, ha, rfl⟩ := ref_get h
  obtain ⟨t, ht, hs⟩ := hT.get ha
  exact ⟨a, t, rfl, ha, ht, hs⟩
def sp_isd (K : PySem.W.Frag) : Sp := fun vs H Q _ => ∃ (p l : Addr) (t : List Nat) (rs : List Addr) (L : List (List Nat)), vs = [.ref p, .ref l] ∧ SqT K H p (nv t) ∧ SqA K H l (rs.map V.ref) ∧ Tups K H rs L ∧ (∀ u ∈ L, u.length = t.length) ∧ ∀ H', Same H H' → Q (.bl (L.any fun k => M7.fitB k t)) H'
theorem ok_isd (T : Txt K mg) : FnOk P w K mg base CX0 2 T.a_is_divided T.d_is_divided ["product", "products"] (sp_isd K) := by
  refine T.F_is_divided.ok sc_is_divided (fun vs H Q E h => ?_) (fun cdv A outer s H vs Q E hr h => ?_)
  · obtain ⟨p, l, t, rs, L, rfl, _⟩ := h
    rfl
  · obtain ⟨p, l, t, rs, L, rfl, hT, hA, hL, hd, q⟩ := h
    refine ⟨_, pss_cons (ps_for PassesOwn.never rfl (pi_any (pv 1)) (pg_name (i := 2) sc_is_divided.nd rfl (Or.inl rfl))
        (pss_one (ps_if (pt_val (pe_call (ok_fits T) hr (by rfl) T.m_fits T.F_fits.kp T.b_fits .nil pass0 (pa_cons (pv 2) (pa_cons (pv 0) pa_nil)))) (pss_one (ps_ret pe_bl)) pss_nil)))
      (pss_one (ps_ret pe_bl)), ?_⟩
    have el : (L.map fun k => M7.fitB k t).any id = L.any fun k => M7.fitB k t := by rw [List.any_map]; rfl
    refine ⟨_, rfl, l, rfl, for_any hA (fun i σ H' => ∃ v2 : Option V, σ = [some (.ref p), some (.ref l), v2] ∧ Same H H' ∧ ((L.map fun k => M7.fitB k t).take i).any id = false) ⟨none, rfl, Same.refl H, rfl⟩ (fun i σ' H' ⟨_, _, s, _⟩ => s) ?_ ?_⟩
    · rintro i x σ H' hx ⟨v2, rfl, sm, ha⟩
      obtain ⟨a, u, rfl, _, hu, hs⟩ := tups_get (hL.same sm) hx
      have hul := hd u (List.mem_of_getElem? hu)
      have st := any_take_step (l := L.map fun k => M7.fitB k t) (i := i) (b := M7.fitB u t) (by rw [List.getElem?_map, hu]; rfl)
      refine ⟨_, rfl, _, rfl, a, p, u, t, rfl, hs, same_sqt sm hT, hul.symm, fun H2 s2 => ⟨_, rfl, ?_⟩⟩
      rw [fit_eq]
      cases ef : M7.fitB u t with
      | true =>
        rw [ha, ef] at st
        have := any_drop st
        rw [el] at this
        rw [this] at q
        exact iteT (q _ (sm.trans s2))
      | false =>
        rw [ha, ef] at st
        exact iteF ⟨_, rfl, sm.trans s2, st⟩
    · rintro σ H' ⟨v2, rfl, sm, ha⟩
      have hlen : rs.length = L.length := hL.length
      rw [List.length_map, hlen, ← List.length_map (f := fun k => M7.fitB k t) (as := L), List.take_length, el] at ha
      rw [ha] at q
      exact q _ sm
theorem FunD.ok0 {x qual : Str} {st : Stmt} {f : Addr} {fd : FuncData} {N ps : List Str} {k : Nat} {sp : Sp} {dvs : List V} {kws : List (Str × V)} (F : FunD K x qual (defArgs st) (defBody st) (defScope st) dvs kws f fd) (S : FnScope N ps (defScope st)) (len : ∀ vs H Q E, sp vs H Q E → vs.length = ps.length)
    (hbody : ∀ (cdv : Value) (A : Around) (outer : List Env) (s : Shared) (H : Hp) (vs : List V) (Q : VK) (E : XK), Room k (A.deeper (envOfC qual (defScope st) s.heap.objs.size f cdv)) → sp vs H Q E →
      ∃ t, PSs (cxOf CX0 P w K mg base N qual (defScope st) f cdv A outer s H E).nox (defBody st) t ∧ t { nx := fun _ H' => Q .non H', rt := Q } (start N vs) H) : FnOk P w K mg base CX0 (k + 1) f fd ps sp := by
  obtain ⟨oc, od, dV, kV, doc, pm, an, cdv, ct, osl, rfl, lk, hcd, _, _⟩ := F.ex
  refine fn_of lk hcd S len fun A outer s H vs Q E hr hsp => ?_
  obtain ⟨t, h, q⟩ := hbody cdv A outer s H vs Q E hr hsp
  exact ⟨t, h.nox, q⟩
/-! ### least_of, where no more than 24 are kept -/
theorem keep_pre : ∀ (S kept : List (List Nat)), kept.length ≤ (S.foldl M7.takeN kept).length
  | [], _ => Nat.le_refl _
  | p :: S, kept => by
    refine Nat.le_trans ?_ (keep_pre S (M7.takeN kept p))
    unfold M7.takeN
    split
    · exact Nat.le_refl _
    · rw [List.length_append]
      exact Nat.le_succ _
theorem keep_sub : ∀ (S kept : List (List Nat)) (x : List Nat), x ∈ S.foldl M7.takeN kept → x ∈ kept ∨ x ∈ S
  | [], _, _, h => .inl h
  | p :: S, kept, x, h => by
    rcases keep_sub S (M7.takeN kept p) x h with h | h
    · have : x ∈ kept ∨ x = p := by
        revert h
        unfold M7.takeN
        split
        · exact .inl
        · intro h
          rcases List.mem_append.mp h with h | h
          · exact .inl h
          · exact .inr (List.mem_singleton.mp h)
      rcases this with h | h
      · exact .inl h
      · exact .inr (h ▸ List.mem_cons_self)
    · exact .inr (List.mem_cons_of_mem _ h)
theorem sqt_but {H H' : Hp} {z a : Addr} {xs ys : List V} (hz : H z = some (.lst ys)) (st : ∀ b o, b ≠ z → H b = some o → H' b = some o) (h : SqT K H a xs) : SqT K H' a xs := by
  have ne : ∀ {o : HO}, H a = some o → o ≠ .lst ys → a ≠ z := fun {o} e n k => by
    rw [k, hz] at e
    exact n (Option.some.inj e).symm
  rcases h with (h | ⟨o, h⟩) | h
  · exact .inl (.inl (st _ _ (ne h fun k => nomatch k) h))
  · exact .inl (.inr ⟨o, st _ _ (ne h fun k => nomatch k) h⟩)
  · exact .inr h
theorem tups_but {H H' : Hp} {z : Addr} {ys : List V} (hz : H z = some (.lst ys)) (st : ∀ b o, b ≠ z → H b = some o → H' b = some o) : ∀ {rs : List Addr} {L : List (List Nat)}, Tups K H rs L → Tups K H' rs L
  | _, _, .nil => .nil
  | _, _, .cons h t => .cons (sqt_but hz st h) (tups_but hz st t)
def sp_least (K : PySem.W.Frag) : Sp := fun vs H Q _ => ∃ (l : Addr) (rs : List Addr) (L : List (List Nat)) (d B : Nat), vs = [.ref l, .int 25] ∧ SqA K H l (rs.map V.ref) ∧ Tups K H rs L ∧ L.length < 64 ∧ 1 ≤ d ∧ (∀ t ∈ L, t.length = d) ∧ (∀ t ∈ L, ∀ e ∈ t, e < B) ∧ (M7.leastN L).length ≤ 24 ∧
  ∀ H' q rs', Same H H' → H' q = some (.lst (rs'.map V.ref)) → Tups K H' rs' (M7.leastN L) → Q (.ref q) H'
theorem ok_least (T : Txt K mg) : FnOk P w K mg base CX0 3 T.a_least_of T.d_least_of ["products", "most"] (sp_least K) := by
  refine K13.FunD.ok0 T.F_least_of sc_least_of (fun vs H Q E h => ?_) (fun cdv A outer s H vs Q E hr h => ?_)
  · obtain ⟨l, rs, L, d, B, rfl, _⟩ := h
    rfl
  · obtain ⟨l, rs, L, d, B, rfl, hA, hL, hz, hd1, hd, hB, h24, q⟩ := h
    refine ⟨_, pss_cons (ps_set (i := 2) sc_least_of.nd rfl (Or.inl rfl) (pe_lst pa_nil))
      (pss_cons (ps_for PassesOwn.never rfl (pi_list (pe_sset rfl hr.units (by rfl) T.z_sorted (by rfl) T.z_set (pv 0))) (pg_name (i := 3) sc_least_of.nd rfl (Or.inl rfl))
        (pss_cons (ps_if (pt_cmpR op_eq (pe_callB call_len_seq (by rfl) T.z_len boot_len (pa_cons (pv 2) pa_nil)) (pv 1) (nomark _)) (pss_one ps_break) pss_nil)
        (pss_one (ps_if (pt_not (pt_val (pe_call (ok_isd T) hr (by rfl) T.m_is_divided T.F_is_divided.kp T.b_is_divided .nil pass0 (pa_cons (pv 3) (pa_cons (pv 2) pa_nil))))) (pss_one (ps_expr (pe_bm PySem.F.plainAttrs_list PySem.F.slot_list_append PySem.F.type_list_append mt_append (pv 2) (pa_cons (pv 3) pa_nil)))) pss_nil))))
      (pss_one (ps_ret (pv 2)))), ?_⟩
    refine ⟨by show 0 ≤ sizeLine; exact Nat.zero_le _, fun z hz0 => ?_⟩
    have sz := same_new hz0 (.lst [])
    refine ⟨_, rfl, l, rs, L, d, B, rfl, hA.same sz, hL.same sz, hz, hd1, hd, hB, fun H1 y qs s1 hyf hy hT => ?_⟩
    have S1 := sz.trans s1
    have hlc : qs.length = (M7.canonN L).length := hT.length
    have hdc : ∀ t ∈ M7.canonN L, t.length = d := fun t ht => hd t (M7.mem_canon.mp ht)
    have keep : M7.keepN (M7.canonN L) = M7.leastN L := M7.keep_least hd
    have pre : ∀ i, (((M7.canonN L).take i).foldl M7.takeN []).length ≤ 24 := fun i => by
      have := keep_pre ((M7.canonN L).drop i) (((M7.canonN L).take i).foldl M7.takeN [])
      rw [← List.foldl_append, List.take_append_drop] at this
      have k2 : ((M7.canonN L).foldl M7.takeN []).length ≤ 24 := by
        show (M7.keepN (M7.canonN L)).length ≤ 24
        rw [keep]
        exact h24
      omega
    have hyz : y ≠ z := fun e => by
      rw [e, upd_same] at hyf
      cases hyf
    have hz1 : H1 z = some (.lst []) := s1 _ _ upd_same
    have tups' : ∀ H', (∀ b o, b ≠ z → H1 b = some o → H' b = some o) → Tups K H' qs (M7.canonN L) := fun H' st => tups_but hz1 st hT
    refine ⟨y, rfl, ⟨_, SqL.of hy⟩, ?_⟩
    refine for_list (K := K) (a := y) (xs := qs.map V.ref) (fun i σ H' => ∃ (v3 : Option V) (ks : List Addr), σ = [some (.ref l), some (.int 25), some (.ref z), v3] ∧ (∀ b o, b ≠ z → H1 b = some o → H' b = some o) ∧ H' z = some (.lst (ks.map V.ref)) ∧ Tups K H' ks (((M7.canonN L).take i).foldl M7.takeN []))
      ⟨none, [], rfl, fun _ _ _ h => h, s1 _ _ upd_same, .nil⟩ ?_ ?_ ?_
    · rintro i σ H' _ ⟨v3, ks, rfl, st, _, _⟩
      exact SqL.of (st y _ hyz hy)
    · rintro i x σ H' hx ⟨v3, ks, rfl, st, hk, hT'⟩
      obtain ⟨a, t, rfl, _, ht, hs⟩ := tups_get (tups' H' st) hx
      have htd := hdc t (List.mem_of_getElem? ht)
      have hkl : ks.length = (((M7.canonN L).take i).foldl M7.takeN []).length := hT'.length
      have hp := pre i
      have st1 : ((M7.canonN L).take (i + 1)).foldl M7.takeN [] = M7.takeN (((M7.canonN L).take i).foldl M7.takeN []) t := by
        rw [take_more ht, List.foldl_append]
        rfl
      refine ⟨_, rfl, z, _, rfl, .inl (SqL.of hk), _, rfl, rfl, _, rfl, ?_⟩
      rw [decide_eq_false (fun e => by have := V.int.inj e; rw [List.length_map] at this; omega)]
      refine iteF ⟨_, rfl, _, rfl, a, z, t, ks, _, rfl, hs, .inl (SqL.of hk), hT', fun u hu => ?_, fun H2 s2 => ⟨_, rfl, ?_⟩⟩
      · rcases keep_sub _ [] u hu with h | h
        · cases h
        · rw [htd, hdc u (List.mem_of_mem_take h)]
      cases ea : (((M7.canonN L).take i).foldl M7.takeN []).any fun k => M7.fitB k t with
      | true =>
        refine iteF ⟨_, ks, rfl, fun b o n h => s2 b o (st b o n h), s2 _ _ hk, ?_⟩
        rw [st1, M7.takeN, if_pos ea]
        exact hT'.same s2
      | false =>
        have hk2 := s2 _ _ hk
        refine iteT ⟨_, rfl, .inl ⟨rfl, _, SqL.of hk2⟩, _, rfl, z, _, _, rfl, rfl, hk2, by rw [List.length_map]; exact sizeK (by omega), ?_⟩
        refine ⟨_, ks ++ [a], rfl, fun b o n h => ?_, ?_, ?_⟩
        · rw [upd_ne n]
          exact s2 b o (st b o n h)
        · rw [upd_same, List.map_append]
          rfl
        · rw [st1, M7.takeN, if_neg (by rw [ea]; decide)]
          exact ((hT'.same s2).updL hk2).app (.cons (sqt_updL hk2 (same_sqt s2 hs)) .nil)
    · rintro σ H' ⟨v3, ks, rfl, st, hk, hT'⟩
      rw [List.length_map, hlc, List.take_length] at hT'
      refine ⟨_, rfl, q H' z ks (fun b o h => ?_) hk ?_⟩
      · refine st b o (ne_of_none h hz0) (S1 b o h)
      · rw [← keep]
        exact hT'
end
end K13

namespace K13
open PySem PySem.Spec PyProof.Rows L2 RZ L5 R7 XX
section
variable {P : Program} {w : World} {K : PySem.W.Frag} {mg : Str → Option Value} {base : Heap}
/-! ### is_divided, is_least, least_of, has_great_exponent, limited_members, of tuples of one length -/
/-! ### least_of, where no more than 24 are kept -/
def sp_least0 (K : PySem.W.Frag) : Sp := fun vs H Q _ => ∃ (l : Addr) (rs : List Addr) (L : List (List Nat)) (d B : Nat), vs = [.ref l, .non] ∧ SqA K H l (rs.map V.ref) ∧ Tups K H rs L ∧ L.length < 64 ∧ 1 ≤ d ∧ (∀ t ∈ L, t.length = d) ∧ (∀ t ∈ L, ∀ e ∈ t, e < B) ∧ (M7.leastN L).length ≤ 63 ∧
  ∀ H' q rs', Same H H' → H q = none → H' q = some (.lst (rs'.map V.ref)) → Tups K H' rs' (M7.leastN L) → Q (.ref q) H'
theorem ok_least0 (T : Txt K mg) : FnOk P w K mg base CX0 3 T.a_least_of T.d_least_of ["products", "most"] (sp_least0 K) := by
  refine FunD.ok0 T.F_least_of sc_least_of (fun vs H Q E h => ?_) (fun cdv A outer s H vs Q E hr h => ?_)
  · obtain ⟨l, rs, L, d, B, rfl, _⟩ := h
    rfl
  · obtain ⟨l, rs, L, d, B, rfl, hA, hL, hz, hd1, hd, hB, h24, q⟩ := h
    refine ⟨_, pss_cons (ps_set (i := 2) sc_least_of.nd rfl (Or.inl rfl) (pe_lst pa_nil))
      (pss_cons (ps_for PassesOwn.never rfl (pi_list (pe_sset rfl hr.units (by rfl) T.z_sorted (by rfl) T.z_set (pv 0))) (pg_name (i := 3) sc_least_of.nd rfl (Or.inl rfl))
        (pss_cons (ps_if (pt_cmpR op_eq (pe_callB call_len_seq (by rfl) T.z_len boot_len (pa_cons (pv 2) pa_nil)) (pv 1) (nomark _)) (pss_one ps_break) pss_nil)
        (pss_one (ps_if (pt_not (pt_val (pe_call (ok_isd T) hr (by rfl) T.m_is_divided T.F_is_divided.kp T.b_is_divided .nil pass0 (pa_cons (pv 3) (pa_cons (pv 2) pa_nil))))) (pss_one (ps_expr (pe_bm PySem.F.plainAttrs_list PySem.F.slot_list_append PySem.F.type_list_append mt_append (pv 2) (pa_cons (pv 3) pa_nil)))) pss_nil))))
      (pss_one (ps_ret (pv 2)))), ?_⟩
    refine ⟨by show 0 ≤ sizeLine; exact Nat.zero_le _, fun z hz0 => ?_⟩
    have sz := same_new hz0 (.lst [])
    refine ⟨_, rfl, l, rs, L, d, B, rfl, hA.same sz, hL.same sz, hz, hd1, hd, hB, fun H1 y qs s1 hyf hy hT => ?_⟩
    have S1 := sz.trans s1
    have hlc : qs.length = (M7.canonN L).length := hT.length
    have hdc : ∀ t ∈ M7.canonN L, t.length = d := fun t ht => hd t (M7.mem_canon.mp ht)
    have keep : M7.keepN (M7.canonN L) = M7.leastN L := M7.keep_least hd
    have pre : ∀ i, (((M7.canonN L).take i).foldl M7.takeN []).length ≤ 63 := fun i => by
      have := keep_pre ((M7.canonN L).drop i) (((M7.canonN L).take i).foldl M7.takeN [])
      rw [← List.foldl_append, List.take_append_drop] at this
      have k2 : ((M7.canonN L).foldl M7.takeN []).length ≤ 63 := by
        show (M7.keepN (M7.canonN L)).length ≤ 63
        rw [keep]
        exact h24
      omega
    have hyz : y ≠ z := fun e => by
      rw [e, upd_same] at hyf
      cases hyf
    have hz1 : H1 z = some (.lst []) := s1 _ _ upd_same
    have tups' : ∀ H', (∀ b o, b ≠ z → H1 b = some o → H' b = some o) → Tups K H' qs (M7.canonN L) := fun H' st => tups_but hz1 st hT
    refine ⟨y, rfl, ⟨_, SqL.of hy⟩, ?_⟩
    refine for_list (K := K) (a := y) (xs := qs.map V.ref) (fun i σ H' => ∃ (v3 : Option V) (ks : List Addr), σ = [some (.ref l), some (.non), some (.ref z), v3] ∧ (∀ b o, b ≠ z → H1 b = some o → H' b = some o) ∧ H' z = some (.lst (ks.map V.ref)) ∧ Tups K H' ks (((M7.canonN L).take i).foldl M7.takeN []))
      ⟨none, [], rfl, fun _ _ _ h => h, s1 _ _ upd_same, .nil⟩ ?_ ?_ ?_
    · rintro i σ H' _ ⟨v3, ks, rfl, st, _, _⟩
      exact SqL.of (st y _ hyz hy)
    · rintro i x σ H' hx ⟨v3, ks, rfl, st, hk, hT'⟩
      obtain ⟨a, t, rfl, _, ht, hs⟩ := tups_get (tups' H' st) hx
      have htd := hdc t (List.mem_of_getElem? ht)
      have hkl : ks.length = (((M7.canonN L).take i).foldl M7.takeN []).length := hT'.length
      have hp := pre i
      have st1 : ((M7.canonN L).take (i + 1)).foldl M7.takeN [] = M7.takeN (((M7.canonN L).take i).foldl M7.takeN []) t := by
        rw [take_more ht, List.foldl_append]
        rfl
      refine ⟨_, rfl, z, _, rfl, .inl (SqL.of hk), _, rfl, rfl, _, rfl, ?_⟩
      rw [decide_eq_false (fun e => nomatch e)]
      refine iteF ⟨_, rfl, _, rfl, a, z, t, ks, _, rfl, hs, .inl (SqL.of hk), hT', fun u hu => ?_, fun H2 s2 => ⟨_, rfl, ?_⟩⟩
      · rcases keep_sub _ [] u hu with h | h
        · cases h
        · rw [htd, hdc u (List.mem_of_mem_take h)]
      cases ea : (((M7.canonN L).take i).foldl M7.takeN []).any fun k => M7.fitB k t with
      | true =>
        refine iteF ⟨_, ks, rfl, fun b o n h => s2 b o (st b o n h), s2 _ _ hk, ?_⟩
        rw [st1, M7.takeN, if_pos ea]
        exact hT'.same s2
      | false =>
        have hk2 := s2 _ _ hk
        refine iteT ⟨_, rfl, .inl ⟨rfl, _, SqL.of hk2⟩, _, rfl, z, _, _, rfl, rfl, hk2, by rw [List.length_map]; exact sizeK (by omega), ?_⟩
        refine ⟨_, ks ++ [a], rfl, fun b o n h => ?_, ?_, ?_⟩
        · rw [upd_ne n]
          exact s2 b o (st b o n h)
        · rw [upd_same, List.map_append]
          rfl
        · rw [st1, M7.takeN, if_neg (by rw [ea]; decide)]
          exact ((hT'.same s2).updL hk2).app (.cons (sqt_updL hk2 (same_sqt s2 hs)) .nil)
    · rintro σ H' ⟨v3, ks, rfl, st, hk, hT'⟩
      rw [List.length_map, hlc, List.take_length] at hT'
      refine ⟨_, rfl, q H' z ks (fun b o h => ?_) hz0 hk ?_⟩
      · refine st b o (ne_of_none h hz0) (S1 b o h)
      · rw [← keep]
        exact hT'
end
end K13

namespace K13
open PySem PySem.Spec PyProof.Rows L2 RZ L5 R7 XX
section
variable {P : Program} {w : World} {K : PySem.W.Frag} {mg : Str → Option Value} {base : Heap}
/-! ### has_great_exponent, limited_members: where nothing is too great -/
def sp_no (n : Nat) : Sp := fun vs _ _ _ => vs.length = n ∧ False
theorem ok_isl (T : Txt K mg) : FnOk P w K mg base CX0 1 T.a_is_least_of T.d_is_least_of ["product", "products"] (sp_no 2) :=
  T.F_is_least_of.ok sc_is_least_of (fun vs H Q E h => h.1) (fun cdv A outer s H vs Q E hr h => h.2.elim)
def sp_hge (K : PySem.W.Frag) : Sp := fun vs H Q _ => ∃ (l : Addr) (rs : List Addr) (L : List (List Nat)), vs = [.ref l] ∧ SqA K H l (rs.map V.ref) ∧ Tups K H rs L ∧ (∀ t ∈ L, t ≠ []) ∧ (∀ t ∈ L, ∀ e ∈ t, e ≤ 60) ∧ ∀ H', Same H H' → Q (.bl false) H'
theorem ok_hge (T : Txt K mg) : FnOk P w K mg base CX0 2 T.a_has_great_exponent T.d_has_great_exponent ["products"] (sp_hge K) := by
  refine T.F_has_great_exponent.ok sc_has_great_exponent (fun vs H Q E h => ?_) (fun cdv A outer s H vs Q E hr h => ?_)
  · obtain ⟨l, rs, L, rfl, _⟩ := h
    rfl
  · obtain ⟨l, rs, L, rfl, hA, hL, hne, h60, q⟩ := h
    refine ⟨_, pss_cons (ps_for PassesOwn.never rfl (pi_any (pv 0)) (pg_name (i := 1) sc_has_great_exponent.nd rfl (Or.inl rfl))
        (pss_one (ps_if (PW.pt (pw_and (pt_cmpR op_gt (pe_callB (cr_maxT rfl) (by rfl) T.z_max boot_max (pa_cons (pv 1) pa_nil)) (pe_glob (v := .int 60) rfl T.c_MAX_EXPONENT ⟨_, rfl⟩) (nomark _))
          (pw_and1 (pt_val (pe_call (ok_isl T) hr (by rfl) T.m_is_least_of T.F_is_least_of.kp T.b_is_least_of .nil pass0 (pa_cons (pv 1) (pa_cons (pv 0) pa_nil))))))) (pss_one (ps_ret pe_bl)) pss_nil)))
      (pss_one (ps_ret pe_bl)), ?_⟩
    refine ⟨_, rfl, l, rfl, for_any hA (fun i σ H' => ∃ v1 : Option V, σ = [some (.ref l), v1] ∧ Same H H') ⟨none, rfl, Same.refl H⟩ (fun i σ' H' ⟨_, _, s⟩ => s) ?_ ?_⟩
    · rintro i x σ H' hx ⟨v1, rfl, sm⟩
      obtain ⟨a, u, rfl, _, hu, hs⟩ := tups_get (hL.same sm) hx
      have hm := List.mem_of_getElem? hu
      refine ⟨_, rfl, a, _, rfl, by rw [← nv_ints]; exact hs, by rw [List.length_map]; exact List.length_pos_iff.mpr (hne u hm), fun m hm2 _ => ?_⟩
      obtain ⟨e, he, rfl⟩ := List.mem_map.mp hm2
      have := h60 u hm e he
      refine ⟨_, _, rfl, rfl, _, rfl, ?_⟩
      rw [decide_eq_false (by omega)]
      exact iteF (iteF ⟨_, rfl, sm⟩)
    · rintro σ H' ⟨v1, rfl, sm⟩
      exact q _ sm
/-- products that a lot may hold: of one length, small, few -/
structure Few (d : Nat) (L : List (List Nat)) : Prop where
  pos : 1 ≤ d
  len : ∀ t ∈ L, t.length = d
  low : ∀ t ∈ L, ∀ e ∈ t, e ≤ 60
  few : L.length < 64
  kept : (M7.leastN L).length ≤ 24
def sp_lim (K : PySem.W.Frag) : Sp := fun vs H Q _ => ∃ (l : Addr) (rs : List Addr) (L : List (List Nat)) (d : Nat), vs = [.ref l] ∧ SqA K H l (rs.map V.ref) ∧ Tups K H rs L ∧ Few d L ∧
  ∀ H' q rs', Same H H' → SqT K H' q (rs'.map V.ref) → Tups K H' rs' (M7.leastN L) → Q (.ref q) H'
theorem ok_lim (T : Txt K mg) : FnOk P w K mg base CX0 4 T.a_limited_members T.d_limited_members ["products"] (sp_lim K) := by
  refine T.F_limited_members.ok sc_limited_members (fun vs H Q E h => ?_) (fun cdv A outer s H vs Q E hr h => ?_)
  · obtain ⟨l, rs, L, d, rfl, _⟩ := h
    rfl
  · obtain ⟨l, rs, L, d, rfl, hA, hL, hf, q⟩ := h
    refine ⟨_, pss_cons (ps_if (pt_val (pe_call (ok_hge T) (hr.mono (by decide)) (by rfl) T.m_has_great_exponent T.F_has_great_exponent.kp T.b_has_great_exponent .nil pass0 (pa_cons (pv 0) pa_nil))) (pss_one ps_never) pss_nil)
      (pss_cons (ps_set (i := 1) sc_limited_members.nd rfl (Or.inl rfl) (pe_call (ok_least T) hr (by rfl) T.m_least_of T.F_least_of.kp T.b_least_of .nil pass0 (pa_cons (pv 0) (pa_cons (pe_op op_add (pe_glob (v := .int 24) rfl T.c_MAX_MEMBERS ⟨_, rfl⟩) pe_int) pa_nil))))
      (pss_cons (ps_if (pt_cmpR op_gt (pe_callB call_len_seq (by rfl) T.z_len boot_len (pa_cons (pv 1) pa_nil)) (pe_glob (v := .int 24) rfl T.c_MAX_MEMBERS ⟨_, rfl⟩) (nomark _)) (pss_one ps_never) pss_nil)
      (pss_one (ps_ret (pe_callTy call_tuple_of (by rfl) T.z_tuple boot_tuple (pa_cons (pv 1) pa_nil)))))), ?_⟩
    refine ⟨_, rfl, l, rs, L, rfl, hA, hL, fun t ht e => ?_, hf.low, fun H1 s1 => ⟨_, rfl, iteF ?_⟩⟩
    · have := hf.len t ht
      have := hf.pos
      rw [e] at *
      simp at *
      omega
    refine ⟨_, rfl, _, _, rfl, rfl, l, rs, L, d, 61, rfl, hA.same s1, hL.same s1, hf.few, hf.pos, hf.len, fun t ht e he => Nat.lt_succ_of_le (hf.low t ht e he), hf.kept, fun H2 z rs' s2 hz hT => ?_⟩
    refine ⟨_, rfl, z, _, rfl, .inl (SqL.of hz), _, _, rfl, rfl, _, rfl, ?_⟩
    have hlen : rs'.length = (M7.leastN L).length := hT.length
    have hk := hf.kept
    rw [decide_eq_false (by rw [List.length_map]; omega)]
    refine iteF ⟨_, rfl, z, _, rfl, .inl ⟨SqL.of hz, fun z2 hz2 => ?_⟩⟩
    have s3 := same_new hz2 (.tup (rs'.map V.ref))
    exact q _ z2 rs' (s1.trans (s2.trans s3)) (SqT.of upd_same) (hT.same s3)
/-! ### are_products -/
def sp_arp (K : PySem.W.Frag) : Sp := fun vs H Q _ => ∃ (l : Addr) (rs : List Addr) (L : List (List Nat)) (d : Nat), vs = [.ref l, .int ((d : Nat) : Int)] ∧ SqT K H l (rs.map V.ref) ∧ Tups K H rs L ∧ L.length ≤ 200 ∧ d ≤ 1000 ∧ (∀ t ∈ L, t.length = d) ∧ (∀ t ∈ L, ∀ e ∈ t, e ≤ 8) ∧ ∀ H', Same H H' → Q (.bl true) H'
theorem are_low {t : List Nat} {m : Nat} (h : ∀ e ∈ t, e ≤ m) : areB (some (t.map fun n => some ((n : Nat) : Int))) ((t.length : Nat) : Int) ((m : Nat) : Int) = true := by
  refine Bool.and_eq_true_iff.mpr ⟨decide_eq_true (by rw [List.length_map]), List.all_eq_true.mpr fun o ho => ?_⟩
  obtain ⟨n, hn, rfl⟩ := List.mem_map.mp ho
  have := h n hn
  show (decide ((0 : Int) ≤ ((n : Nat) : Int)) && decide (((n : Nat) : Int) ≤ ((m : Nat) : Int))) = true
  rw [decide_eq_true (show (0 : Int) ≤ ((n : Nat) : Int) by omega), decide_eq_true (show ((n : Nat) : Int) ≤ ((m : Nat) : Int) by omega)]
  rfl
theorem ok_arp (T : Txt K mg) : FnOk P w K mg base CX0 4 T.a_are_products T.d_are_products ["value", "letters"] (sp_arp K) := by
  refine T.F_are_products.ok sc_are_products (fun vs H Q E h => ?_) (fun cdv A outer s H vs Q E hr h => ?_)
  · obtain ⟨l, rs, L, d, rfl, _⟩ := h
    rfl
  · obtain ⟨l, rs, L, d, rfl, hA, hL, h200, hd1, hd, h8, q⟩ := h
    refine ⟨_, pss_cons (ps_if (PW.pt (pw_or (pt_not (pt_val (pe_callB call_isi (by rfl) T.z_isinstance boot_isinstance (pa_cons (pv 0) (pa_cons (pe_bltn (v := .ty "tuple") (by rfl) T.z_tuple boot_tuple rfl) pa_nil)))))
        (pw_or1 (pt_cmpR op_gt (pe_callB call_len_seq (by rfl) T.z_len boot_len (pa_cons (pv 0) pa_nil)) (pe_glob (v := .int 200) rfl T.c_MAX_PASSED ⟨_, rfl⟩) (nomark _))))) (pss_one (ps_ret pe_bl)) pss_nil)
      (pss_one (ps_ret (pe_callB (cr_all rfl) (by rfl) T.z_all (by decide +kernel) (pa_cons
        (pe_lc (own := [("member", 2)]) (g := gName 2) (tt := tYes) rfl sc_are_products.nd (pi_tup (pv 0)) (blkOk_by (own := [("member", 2)]) (N := N_are_products) (sc := defScope s_are_products) (by decide +kernel))
          (fun _ _ _ _ _ => pg_name (i := 2) sc_are_products.nd rfl (Or.inl rfl)) (fun _ _ _ _ _ => pts_nil)
          (fun _ _ _ _ _ => pe_call (ok_are T) hr (by rfl) T.m_are_exponents T.F_are_exponents.kp T.b_are_exponents .nil pass0 (pa_cons (pv 2) (pa_cons (pv 1) (pa_cons (pe_glob (v := .int 8) rfl T.c_MAX_MEMBER_EXPONENT ⟨_, rfl⟩) pa_nil))))) pa_nil)))), ?_⟩
    have hlen : rs.length = L.length := hL.length
    refine ⟨_, rfl, _, _, _, _, true, rfl, .ty _, sqt_ty hA, kit_ty (by decide +kernel), true, rfl, ?_⟩
    refine iteF ⟨_, rfl, l, _, rfl, .inr hA, _, _, rfl, rfl, _, rfl, ?_⟩
    rw [decide_eq_false (by rw [List.length_map]; omega)]
    refine iteF ⟨_, rfl, l, rfl, ⟨_, hA⟩, fun D hD => ?_⟩
    have s1 : Same H (upd H D (.lst [])) := same_new hD _
    refine lc_tup (K := K) (a := l) (xs := rs.map V.ref) (fun i H' => Same H H' ∧ H' D = some (.lst ((List.replicate i true).map V.bl))) ⟨s1, upd_same⟩ (fun i H' _ h => same_sqt h.1 hA) (fun i x H' hi h => ?_) (fun H' h => ?_)
    · obtain ⟨sm, eD⟩ := h
      obtain ⟨a, u, rfl, _, hu, hs⟩ := tups_get (hL.same sm) hi
      have hm := List.mem_of_getElem? hu
      have hlt : i < rs.length := by
        have := (List.getElem?_eq_some_iff.mp hi).1
        rw [List.length_map] at this
        exact this
      have hud := hd u hm
      refine ⟨rfl, _, rfl, _, rfl, .ref a, _, _, 8, rfl, va_prod hs (by omega), fun H2 s2 => ?_⟩
      have e8 : areB (some (u.map fun n => some ((n : Nat) : Int))) ((u.length : Nat) : Int) 8 = true := are_low (m := 8) (h8 u hm)
      rw [← hud, e8]
      refine ⟨_, s2 _ _ eD, by rw [List.length_map, List.length_replicate]; exact sizeK (by omega), same_updL (sm.trans s2) hD, ?_⟩
      rw [upd_same, List.replicate_succ', List.map_append]
      rfl
    · obtain ⟨sm, eD⟩ := h
      refine ⟨D, _, rfl, SqL.of eD, ?_⟩
      rw [show (List.replicate (rs.map V.ref).length true).all id = true by rw [List.all_replicate]; simp]
      exact q H' sm
end
end K13

namespace K13
open PySem PySem.Spec PyProof.Rows L2 RZ L5 R7 XX
section
variable {P : Program} {w : World} {K : PySem.W.Frag} {mg : Str → Option Value} {base : Heap}
/-! ### the class Lot -/
abbrev s_init : Stmt := inClass LotS 0
abbrev N_init : List Str := ["self", "letters", "members"]
theorem sc_init : FnScope N_init ["self", "letters", "members"] (defScope s_init) := ⟨rfl, rfl, rfl, by decide +kernel, rfl, by decide +kernel, by decide +kernel⟩
structure LotT (K : PySem.W.Frag) (mg : Str → Option Value) where
  C : Addr
  cl : Cls K C
  nL : NoAttr K C "_letters"
  nM : NoAttr K C "_members"
  gC : mg "Lot" = some (.ref C)
  fI : Addr
  dI : FuncData
  FI : Fun K "__init__" "Lot.__init__" s_init fI dI
  bI : Binds K dI ["self", "letters", "members"] []
  M : Mk K C fI
def lotF (d : Nat) (m : Addr) : List (Str × V) := [("_letters", .int ((d : Nat) : Int)), ("_members", .ref m)]
/-- a lot at a: its letters, its least members -/
def LotAt (K : PySem.W.Frag) (C : Addr) (H : Hp) (a : Addr) (d : Nat) (L : List (List Nat)) : Prop := ∃ dx m rs, H a = some (.ins C dx (lotF d m)) ∧ SqT K H m (rs.map V.ref) ∧ Tups K H rs L
theorem LotAt.same {C : Addr} {H H' : Hp} {a : Addr} {d : Nat} {L : List (List Nat)} (s : Same H H') : LotAt K C H a d L → LotAt K C H' a d L := fun ⟨dx, m, rs, h1, h2, h3⟩ => ⟨dx, m, rs, s _ _ h1, same_sqt s h2, h3.same s⟩
theorem sqt_ins {H H' : Hp} {z a C dx : Addr} {fs : List (Str × V)} {xs : List V} (hz : H z = some (.ins C dx fs)) (st : ∀ b o, b ≠ z → H b = some o → H' b = some o) (h : SqT K H a xs) : SqT K H' a xs := by
  have ne : ∀ {o : HO}, H a = some o → o ≠ .ins C dx fs → a ≠ z := fun {o} e n k => by
    rw [k, hz] at e
    exact n (Option.some.inj e).symm
  rcases h with (h | ⟨o, h⟩) | h
  · exact .inl (.inl (st _ _ (ne h fun k => nomatch k) h))
  · exact .inl (.inr ⟨o, st _ _ (ne h fun k => nomatch k) h⟩)
  · exact .inr h
theorem tups_ins {H H' : Hp} {z C dx : Addr} {fs : List (Str × V)} (hz : H z = some (.ins C dx fs)) (st : ∀ b o, b ≠ z → H b = some o → H' b = some o) : ∀ {rs : List Addr} {L : List (List Nat)}, Tups K H rs L → Tups K H' rs L
  | _, _, .nil => .nil
  | _, _, .cons h t => .cons (sqt_ins hz st h) (tups_ins hz st t)
def sp_init (K : PySem.W.Frag) (C : Addr) : Sp := fun vs H Q _ => ∃ (p dx l : Addr) (d : Nat) (rs : List Addr) (L : List (List Nat)), vs = [.ref p, .int ((d : Nat) : Int), .ref l] ∧ H p = some (.ins C dx []) ∧ SqT K H l (rs.map V.ref) ∧ Tups K H rs L ∧ Few d L ∧ d ≤ 8 ∧ (∀ t ∈ L, ∀ e ∈ t, e ≤ 8) ∧
  ∀ H' m rs', (∀ b o, b ≠ p → H b = some o → H' b = some o) → H' p = some (.ins C dx (lotF d m)) → SqT K H' m (rs'.map V.ref) → Tups K H' rs' (M7.leastN L) → Q .non H'
theorem ok_init (T : Txt K mg) (O : LotT K mg) : FnOk P w K mg base CX0 5 O.fI O.dI ["self", "letters", "members"] (sp_init K O.C) := by
  refine O.FI.ok sc_init (fun vs H Q E h => ?_) (fun cdv A outer s H vs Q E hr h => ?_)
  · obtain ⟨p, dx, l, d, rs, L, rfl, _⟩ := h
    rfl
  · obtain ⟨p, dx, l, d, rs, L, rfl, hp, hA, hL, hf, hd8, h8, q⟩ := h
    refine ⟨_, pss_cons (ps_expr (pe_call (ok_checkw T) (hr.mono (by decide)) (by rfl) T.m_check_within T.F_check_within.kp T.b_check_within .nil pass0 (pa_cons (pv 1) (pa_cons pe_int (pa_cons (pe_glob (v := .int 8) rfl T.c_MAX_LETTERS ⟨_, rfl⟩) pa_nil)))))
      (pss_cons (ps_if (pt_not (pt_val (pe_call (ok_arp T) hr (by rfl) T.m_are_products T.F_are_products.kp T.b_are_products .nil pass0 (pa_cons (pv 2) (pa_cons (pv 1) pa_nil))))) (pss_one ps_never) pss_nil)
      (pss_cons (ps_fld (pv 0) (pv 1) rfl)
      (pss_one (ps_fld (pv 0) (pe_call (ok_lim T) hr (by rfl) T.m_limited_members T.F_limited_members.kp T.b_limited_members .nil pass0 (pa_cons (pv 2) pa_nil)) rfl)))), ?_⟩
    have h1 := hf.pos
    have h64 := hf.few
    refine ⟨_, rfl, _, _, _, rfl, by omega, by omega, ?_⟩
    refine ⟨_, rfl, _, rfl, l, rs, L, d, rfl, hA, hL, by omega, by omega, hf.len, h8, fun H1 s1 => ⟨_, rfl, iteF ?_⟩⟩
    have hp1 := s1 _ _ hp
    refine ⟨_, rfl, _, rfl, p, _, dx, [], rfl, hp1, O.cl, O.nL, by show 0 < 1000; decide, ?_⟩
    have st1 : ∀ b o, b ≠ p → H1 b = some o → (upd H1 p (.ins O.C dx (putF "_letters" (.int ((d : Nat) : Int)) []))) b = some o := fun b o n h => by
      rw [upd_ne n]
      exact h
    have hp2 : (upd H1 p (.ins O.C dx (putF "_letters" (.int ((d : Nat) : Int)) []))) p = some (.ins O.C dx [("_letters", .int ((d : Nat) : Int))]) := upd_same
    generalize (upd H1 p (.ins O.C dx (putF "_letters" (.int ((d : Nat) : Int)) []))) = H2 at st1 hp2 ⊢
    refine ⟨_, rfl, l, rs, L, d, rfl, .inr (sqt_ins hp1 st1 (same_sqt s1 hA)), tups_ins hp1 st1 (hL.same s1), hf, fun H3 m rs' s3 hm hT => ?_⟩
    have hp3 := s3 _ _ hp2
    refine ⟨_, rfl, p, _, dx, _, rfl, hp3, O.cl, O.nM, by show 1 < 1000; decide, ?_⟩
    have st3 : ∀ b o, b ≠ p → H3 b = some o → (upd H3 p (.ins O.C dx (putF "_members" (.ref m) [("_letters", .int ((d : Nat) : Int))]))) b = some o := fun b o n h => by
      rw [upd_ne n]
      exact h
    refine q _ m rs' (fun b o n h => st3 b o n (s3 b o (st1 b o n (s1 b o h)))) ?_ (sqt_ins hp3 st3 hm) (tups_ins hp3 st3 hT)
    rw [upd_same]
    rfl
end
end K13

/-! enumerate of a tuple -/
namespace PySem
open Sem (wp)
open AutoSeq1 (wpAny_loadPart')
theorem meets_enumerate_newT (l : Addr) (items : Array Value) :
    Meets (Builtin.«enumerate.__new__» ⟨[.type "enumerate", .ref l], []⟩) (fun _ R s => s.heap.IsTuple l items ∧
      R (.ok (.ret (.ref (s.heap.push { cls := .type "tuple_iterator", data := .fields #[.ref l, .int 0 0] }).objs.size)))
        { s with heap := (s.heap.push { cls := .type "tuple_iterator", data := .fields #[.ref l, .int 0 0] }).push { cls := .type "enumerate", data := .fields #[.none, .bool false, .ref s.heap.objs.size, rawInt 0, .none, .none] } }) :=
  .of_wp fun prog w A R s h => by
    obtain ⟨hp, g, d, tk, os⟩ := s; obtain ⟨hl, h⟩ := h
    have hsub := sub_enumerate
    have q1 : ∀ {A' : Around} {E : Value → Shared → Prop} {Q : Value → Shared → Prop}, Q (.ref hp.objs.size) ⟨(hp.push { cls := .type "tuple_iterator", data := .fields #[.ref l, .int 0 0] }), g, d, tk, os⟩ → wpAny (model prog w) A' (pyIter (.ref l)) Q E ⟨hp, g, d, tk, os⟩ :=
      fun q => wpAny_pyIter_tuple hl q
    wp_walk using q1
    refine wpAny_stack_any fun st => wpAny_pure ?_
    split
    · rename_i c _ _ _ _ _
      cases (c == Value.type "enumerate")
      · wp_walk using q1
        exact ⟨_, rfl, h⟩
      · wp_walk using q1
        exact ⟨_, rfl, h⟩
    · wp_walk using q1
      exact ⟨_, rfl, h⟩
section
variable {prog : Program} {w : World} {A : Around} {E : Value → Shared → Prop} {s : Shared}
theorem call_enumerate_tuple {l : Addr} {items : Array Value} {Q : Value → Shared → Prop} (hL : s.heap.IsTuple l items)
    (h : ∀ h', IsEnum h' (s.heap.objs.size + 1) s.heap.objs.size 0 .none → h'.IsTupleIter s.heap.objs.size l 0 → h'.objs.size = s.heap.objs.size + 2 →
      (∀ b o, s.heap.get? b = some o → h'.get? b = some o) → Q (.ref (s.heap.objs.size + 1)) { s with heap := h' }) :
    wpAny (model prog w) A (call (.type "enumerate") [.ref l]) Q E s := by
  refine callType_new F.called_enumerate (by decide) (F.typeCall_enumerate_1 _) (F.newCall_enumerate_1 _) (fun obj => F.args_object_init_2 obj _) F.entry_enumerate_new
    (meets_enumerate_newT l items) ⟨hL, ?_⟩
  have hz : (s.heap.push { cls := .type "tuple_iterator", data := .fields #[.ref l, .int 0 0] }).objs.size = s.heap.objs.size + 1 := Heap.size_push ..
  show _ ∧ _
  rw [hz]
  have he : IsEnum ((s.heap.push { cls := .type "tuple_iterator", data := .fields #[.ref l, .int 0 0] }).push
      { cls := .type "enumerate", data := .fields #[.none, .bool false, .ref s.heap.objs.size, rawInt 0, .none, .none] }) (s.heap.objs.size + 1) s.heap.objs.size 0 .none := by
    have := Heap.get?_push_size (s.heap.push { cls := .type "tuple_iterator", data := .fields #[.ref l, .int 0 0] })
      (o := { cls := .type "enumerate", data := .fields #[.none, .bool false, .ref s.heap.objs.size, rawInt 0, .none, .none] }) rfl
    rw [hz] at this; exact this
  refine ⟨⟨_, he, rfl⟩, h _ he ⟨_, Heap.get?_push_of_some _ (Heap.get?_push_size _ rfl), rfl, rfl⟩ (by rw [Heap.size_push, hz]) fun b o x => Heap.get?_push_of_some _ (Heap.get?_push_of_some _ x)⟩
end
end PySem
namespace L2
open PySem PySem.Spec PyProof.Rows
/-- the tuple at a, each item in a new pair -/
def IteT (K : PySem.W.Frag) (a : Addr) : It :=
  ⟨fun i H => ∃ (xs : List V) (x : V), SqT K H a xs ∧ xs[i]? = some x, fun i H v H' => ∃ T x, v = .ref T ∧ H T = none ∧ H' = upd H T (.tup [.int (i : Nat), x]) ∧ ∀ xs, SqT K H a xs → xs[i]? = some x, fun i H => ∃ xs : List V, SqT K H a xs ∧ xs.length ≤ i⟩
theorem turn_enumT {P : Program} {w : World} {K : PySem.W.Frag} {elts : List Expr} {kk : Nat} {tpos : Pos} (a e it : Addr) :
    Turn P w K (.Tuple elts kk tpos) (IteT K a) [e, it] e (fun i h => (∃ old, IsEnum h e it ((i : Nat) : Int) old) ∧ h.IsTupleIter it a i ∧ e ≠ it ∧ a < it) where
  mem := by simp
  obj := fun i h st b hb => by
    obtain ⟨⟨old, he⟩, ⟨o, ho, hc, hd⟩, _⟩ := st
    have e' : b = e ∨ b = it := by simpa using hb
    rcases e' with z | z
    · rw [z]; exact ⟨_, he, fun v q => nomatch q⟩
    · rw [z]; exact ⟨o, ho, fun v q => by rw [hd] at q; cases q⟩
  keep := fun i h h' st k => let ⟨⟨old, he⟩, hi, hne⟩ := st; ⟨⟨old, k e (by simp) _ he⟩, hi.at fun o q => k it (by simp) o q, hne⟩
  item := by
    intro X hP hw hK hc i pins s σ H E I hf st hg
    subst hP hw hK
    obtain ⟨⟨old, he⟩, hit, hne, hlt⟩ := st
    obtain ⟨xs, x, hq, hx⟩ := hg
    obtain ⟨its, rv, p, hz⟩ := I.tuple hq
    obtain ⟨u, hu, ru⟩ := rv.get hx
    have hel : e < s.heap.objs.size := Heap.lt_size he
    have hil : it < s.heap.objs.size := by obtain ⟨_, q, _⟩ := hit; exact Heap.lt_size q
    have hai : a ≠ it := Nat.ne_of_lt hlt
    have hae : a ≠ e := fun z => by
      obtain ⟨o, ho, hc', _⟩ := p
      rw [z, he] at ho
      rw [← Option.some.inj ho] at hc'
      injection hc' with q
      exact absurd q (by decide)
    have hi : i < its.toArray.size := by
      rcases Nat.lt_or_ge i its.toArray.size with z | z
      · exact z
      · rw [List.getElem?_eq_none (by simpa using z)] at hu
        cases hu
    refine wpAny_pyNext_enum_itemD (Draws.tuple (show X.A.in1.handled = none from I.ok.hd hc) it a hai its.toArray) he ⟨hit, p⟩ hi hne (by simp [hne, Ne.symm hae]) fun x' h' tk hx' ho hst hT hsz hk => ?_
    have ex : x' = u := by
      have : its.toArray[i]? = some u := by simpa using hu
      rw [this] at hx'
      exact (Option.some.inj hx').symm
    subst ex
    refine ⟨_, rfl, wpAny_letOwnedTupleGo_enum (s := { s with heap := h', toks := tk + 1 }) ho fun h'' he' sb => ?_⟩
    have hT2 : h''.get? s.heap.objs.size = some { cls := .type "tuple", data := .seq #[.int i tk, x'] } := (sb.2 _ (Nat.ne_of_gt hel)).trans hT
    have new : ObjOk X.prog X.w (upd H s.heap.objs.size (.tup [.int (i : Nat), x])) h'' s.heap.objs.size (.tup [.int (i : Nat), x]) :=
      ⟨by show 2 ≤ sizeLine; decide, [.int i tk, x'], .cons ⟨_, rfl⟩ (.cons ru .nil), ⟨_, hT2, rfl, _, rfl⟩⟩
    have I1 : Inv X pins σ (upd H s.heap.objs.size (.tup [.int (i : Nat), x])) { s with heap := h'', toks := tk + 1 } :=
      I.turnedNew (ch := [e, it]) (fun b ob hb q => (sb.2 b (fun z => hb (by simp [z]))).trans (hk b ob (fun z => hb (by simp [z])) (fun z => hb (by simp [z])) q)) hf (Nat.le_refl _) new
    refine ⟨.ref s.heap.objs.size, _, I1, rfl, ⟨_, x, rfl, I.hok.fresh (Nat.le_refl _), rfl, fun ys hy => by rw [I.tuple_inj hy hq]; exact hx⟩, ⟨⟨x', ?_⟩, hst.1.at fun o q => (sb.2 it (Ne.symm hne)).trans q, hne, hlt⟩, fun b hb => ?_⟩
    · have e1 : ((i + 1 : Nat) : Int) = (i : Int) + 1 := by omega
      rw [e1]; exact he'
    · have hb' : b < s.heap.objs.size := by
        have e' : b = e ∨ b = it := by simpa using hb
        rcases e' with z | z
        · rw [z]; exact hel
        · rw [z]; exact hil
      rw [upd_ne (Nat.ne_of_lt hb')]
      exact (hf b hb).1
  done := by
    intro X hP hw hK hc i pins s σ H E I hf st hg
    subst hP hw hK
    obtain ⟨⟨old, he⟩, hit, hne, hlt⟩ := st
    obtain ⟨xs, hq, hx⟩ := hg
    obtain ⟨its, rv, p, hz⟩ := I.tuple hq
    obtain ⟨f0, f1, f2, f3, f4, f5⟩ := hf it (by simp)
    have hl := rv.length
    have hd : X.A.handled = none := I.ok.hd hc
    have hx' : its.toArray[i]? = none := by simp; omega
    have hT : s.TypeIs (.ref e) "enumerate" := ⟨_, he, rfl⟩
    unfold pyNext
    refine wpAny_bind (wpAny_attempt (wpAny_callSpecial?_slot (name := Str.ofString "__next__") hT F.slot_enumerate_next
      (wpAny_call_entry F.slot_enumerate_next hT F.entry_enumerate_next ?_ (F.args_enumerate_next_1 _))))
    show wpAny _ _ (field (.ref e) 2 >>= _) _ _ _
    refine wpAny_bind (wpAny_field he rfl (x := .ref it) rfl ?_)
    refine wpAny_bind (wpAny_nextOf_tuple_end hd hit p hx' fun h' x he' hx2 => ?_)
    obtain ⟨o, ho, hc2⟩ := hx2
    refine wpAny_bind (wpAny_isInstance (T := "StopIteration") (b := true) ⟨o, ho, hc2⟩ isSubtype_stop ?_)
    exact wpAny_pure ⟨rfl, I.turned (t' := s.toks) (fun b o hb q => he' b o hb q) f0 f1 f3 f4 f5⟩
  self := fun A i s Q E st h => let ⟨⟨_, he⟩, _⟩ := st; wpAny_pyIter_enum he h
def iEnumT (K : PySem.W.Frag) (ta : TA) : TI := fun σ H R => ta σ H fun vs H1 => ∃ a xs, vs = [.ref a] ∧ SqT K H1 a xs ∧ R (IteT K a) H1
theorem pi_enumT {X : Cx} {e : Expr} {ta : TA} {p pos tpos : Pos} {elts : List Expr} {kk : Nat} (hg : Gl X "enumerate") (hm : X.mg "enumerate" = none) (ha : PA X [e] ta) (hs : starEach [e] X.env = [(false, eval e X.env)] := by rfl) :
    PI X (.Tuple elts kk tpos) (.Call (.Name "enumerate" p) [e] [] pos) (iEnumT X.K ta) := by
  refine ⟨fun pins s σ H R I h => ?_⟩
  refine Call_ (ld_blt I hg hm boot_enumerate (PyProof.Rows.callWith_type1 (thn (ha.run pos pins s σ H _ I h) fun us s1 ⟨vs, H1, I1, r1, q1⟩ => ?_) hs rfl))
  obtain ⟨a, xs, ex, hq, q⟩ := q1
  subst ex
  cases r1 with
  | cons r rr =>
    cases rr
    cases r
    obtain ⟨its, rv, p', hz⟩ := I1.tuple hq
    have hlt : a < s1.heap.objs.size := by obtain ⟨o, ho, _⟩ := id p'; exact Heap.lt_size ho
    refine call_enumerate_tuple p' fun h' he hit hsz hk => wpAny_pyIter_enum he ?_
    have I2 : Inv X pins σ H1 { s1 with heap := h' } := I1.kept (t' := s1.toks) hk
    refine ⟨s1.heap.objs.size + 1, [s1.heap.objs.size + 1, s1.heap.objs.size], _, _, H1, rfl, I2, turn_enumT a (s1.heap.objs.size + 1) s1.heap.objs.size, ⟨⟨.none, he⟩, hit, Nat.succ_ne_self _, hlt⟩, fun b hb => ?_, q⟩
    have e' : b = s1.heap.objs.size + 1 ∨ b = s1.heap.objs.size := by simpa using hb
    have hle : s1.heap.objs.size ≤ b := by
      rcases e' with z | z
      · rw [z]; exact Nat.le_add_right _ _
      · rw [z]; exact Nat.le_refl _
    exact I1.fpOk hle (I1.hok.fresh hle)
end L2

namespace K13
open PySem PySem.Spec PyProof.Rows L2 RZ L5 R7 XX
theorem lc_enumT {K : PySem.W.Frag} {a : Addr} {xs : List V} {g : TG} {tt : TT} {te : TE} {vs : List Nat} {σ : L2.St} {H1 : Hp} {D : Addr} {Qd : Hp → Prop} (Pv : Nat → Hp → Prop) (h0 : Pv 0 (upd H1 D (.lst []))) (hl : ∀ i H, Pv i H → SqT K H a xs)
    (hs : ∀ i x T H, xs[i]? = some x → Pv i H → H T = none → lcTurn D g tt te vs σ (Pv (i + 1)) (.ref T) (upd H T (.tup [.int (i : Nat), x]))) (hd : ∀ H, Pv xs.length H → Qd H) :
    ∃ W : Nat → Nat → Hp → Prop, (∃ m, W 0 m (upd H1 D (.lst []))) ∧ ∀ i m H0, W i m H0 →
      ((IteT K a).stop i H0 ∧ Qd H0) ∨ ((IteT K a).go i H0 ∧ ∃ Nx : Hp → Prop, (∀ H', Nx H' → ∃ m', m' < m ∧ W (i + 1) m' H') ∧ ∀ v H', (IteT K a).yld i H0 v H' → lcTurn D g tt te vs σ Nx v H') := by
  refine ⟨fun i m H => i + m = xs.length ∧ Pv i H, ⟨xs.length, Nat.zero_add _, h0⟩, fun i m H0 hw => ?_⟩
  obtain ⟨em, pi⟩ := hw
  have ta := hl i H0 pi
  cases m with
  | zero =>
    have ei : i = xs.length := em
    subst ei
    exact .inl ⟨⟨xs, ta, Nat.le_refl _⟩, hd H0 pi⟩
  | succ m =>
    have i1 : i < xs.length := by omega
    refine .inr ⟨⟨xs, _, ta, List.getElem?_eq_getElem i1⟩, Pv (i + 1), fun H' p => ⟨m, Nat.lt_succ_self m, by omega, p⟩, fun v H' out => ?_⟩
    obtain ⟨T, x', rfl, free, rfl, fx⟩ := out
    exact hs i x' T H0 (fx xs ta) pi free
/-! ### sets of letters, as lists of numbers -/
def setsL : Nat → List (List Nat)
  | 0 => [[]]
  | k + 1 => setsL k ++ (setsL k).map fun c => c ++ [k]
theorem sets_len : ∀ k, (setsL k).length = 2 ^ k
  | 0 => rfl
  | k + 1 => by
    show (setsL k ++ (setsL k).map fun c => c ++ [k]).length = _
    rw [List.length_append, List.length_map, sets_len k, Nat.pow_succ]
    omega
theorem sets_few {k : Nat} (h : k ≤ 8) : (setsL k).length ≤ 256 := by
  rw [sets_len]
  exact Nat.pow_le_pow_right (by decide) h
theorem sets_short : ∀ (k : Nat) (c : List Nat), c ∈ setsL k → c.length ≤ k ∧ ∀ e ∈ c, e < k
  | 0, c, h => by
    rw [List.mem_singleton.mp h]
    exact ⟨Nat.le_refl 0, fun _ h => nomatch h⟩
  | k + 1, c, h => by
    rcases List.mem_append.mp h with h | h
    · obtain ⟨h1, h2⟩ := sets_short k c h
      exact ⟨by omega, fun e he => Nat.lt_succ_of_lt (h2 e he)⟩
    · obtain ⟨d, hd, rfl⟩ := List.mem_map.mp h
      obtain ⟨h1, h2⟩ := sets_short k d hd
      refine ⟨by rw [List.length_append]; show _ + 1 ≤ _; omega, fun e he => ?_⟩
      rcases List.mem_append.mp he with he | he
      · exact Nat.lt_succ_of_lt (h2 e he)
      · rw [List.mem_singleton.mp he]
        exact Nat.lt_succ_self k
theorem sets_nil (k : Nat) : [] ∈ setsL k := by
  induction k with
  | zero => exact List.mem_singleton.mpr rfl
  | succ k ih => exact List.mem_append.mpr (.inl ih)
/-- the letters of a product that are not chosen, of the first ones -/
def othN (c t : List Nat) (i : Nat) : List Nat := (List.range i).filter fun j => decide (0 < t.getD j 0) && !c.contains j
theorem oth_step (c t : List Nat) (i : Nat) : othN c t (i + 1) = if (decide (0 < t.getD i 0) && !c.contains i) = true then othN c t i ++ [i] else othN c t i := by
  unfold othN
  rw [List.range_succ, List.filter_append]
  by_cases h : (decide (0 < t.getD i 0) && !c.contains i) = true
  · rw [if_pos h]
    simp only [List.filter_cons, List.filter_nil, h, if_true]
  · rw [if_neg h]
    simp only [List.filter_cons, List.filter_nil, h, if_false, List.append_nil]
    simp
theorem oth_len (c t : List Nat) (i : Nat) : (othN c t i).length ≤ i := Nat.le_trans (List.length_filter_le _ _) (by rw [List.length_range]; exact Nat.le_refl _)
def freeB (c : List Nat) (L : List (List Nat)) : Bool := L.all fun t => !(othN c t t.length).isEmpty
def freeS (d : Nat) (L : List (List Nat)) : List (List Nat) := (setsL d).filter fun c => freeB c L
/-- the greatest length, -1 where there is none -/
def bigL : List (List Nat) → Int
  | [] => -1
  | c :: S => if bigL S < ((c.length : Nat) : Int) then ((c.length : Nat) : Int) else bigL S
theorem big_ge : ∀ S : List (List Nat), -1 ≤ bigL S ∧ ∀ c ∈ S, ((c.length : Nat) : Int) ≤ bigL S
  | [] => ⟨Int.le_refl _, fun _ h => nomatch h⟩
  | c :: S => by
    obtain ⟨h1, h2⟩ := big_ge S
    show -1 ≤ (if bigL S < ((c.length : Nat) : Int) then ((c.length : Nat) : Int) else bigL S) ∧ ∀ x ∈ c :: S, ((x.length : Nat) : Int) ≤ (if bigL S < ((c.length : Nat) : Int) then ((c.length : Nat) : Int) else bigL S)
    refine ⟨by split <;> omega, fun x hx => ?_⟩
    rcases List.mem_cons.mp hx with rfl | hx
    · split <;> omega
    · have := h2 x hx
      split <;> omega
theorem big_at : ∀ S : List (List Nat), S ≠ [] → ∃ c ∈ S, ((c.length : Nat) : Int) = bigL S
  | [], h => absurd rfl h
  | c :: S, _ => by
    show ∃ x ∈ c :: S, ((x.length : Nat) : Int) = (if bigL S < ((c.length : Nat) : Int) then ((c.length : Nat) : Int) else bigL S)
    by_cases h : bigL S < ((c.length : Nat) : Int)
    · exact ⟨c, List.mem_cons_self, by rw [if_pos h]⟩
    · rw [if_neg h]
      cases S with
      | nil =>
        have : ¬ (-1 : Int) < ((c.length : Nat) : Int) := h
        omega
      | cons x S =>
        obtain ⟨y, hy, e⟩ := big_at (x :: S) (by simp)
        exact ⟨y, List.mem_cons_of_mem _ hy, e⟩
theorem big_is {S : List (List Nat)} {m : Int} (h0 : S = [] → m = -1) (h : S ≠ [] → (∃ c ∈ S, m = ((c.length : Nat) : Int)) ∧ ∀ c ∈ S, ((c.length : Nat) : Int) ≤ m) : m = bigL S := by
  cases S with
  | nil => exact h0 rfl
  | cons x S =>
    obtain ⟨⟨c, hc, e⟩, hm⟩ := h (by simp)
    obtain ⟨y, hy, e2⟩ := big_at (x :: S) (by simp)
    have h1 := (big_ge (x :: S)).2 c hc
    have h2 := hm y hy
    omega
theorem big_none {S : List (List Nat)} : bigL S = -1 ↔ S = [] := by
  refine ⟨fun h => ?_, fun h => by rw [h]; rfl⟩
  cases S with
  | nil => rfl
  | cons x S =>
    have := (big_ge (x :: S)).2 x List.mem_cons_self
    omega
def bigS (S : List (List Nat)) : List (List Nat) := S.filter fun c => decide (((c.length : Nat) : Int) = bigL S)
theorem big_head {S : List (List Nat)} (h : S ≠ []) : ∃ c r, bigS S = c :: r := by
  obtain ⟨c, hc, e⟩ := big_at S h
  have hm : c ∈ bigS S := List.mem_filter.mpr ⟨hc, decide_eq_true e⟩
  cases e2 : bigS S with
  | nil =>
    rw [e2] at hm
    cases hm
  | cons a r => exact ⟨a, r, rfl⟩
theorem mem_big {S : List (List Nat)} {c : List Nat} : c ∈ bigS S ↔ c ∈ S ∧ ((c.length : Nat) : Int) = bigL S := by
  unfold bigS
  rw [List.mem_filter, decide_eq_true_iff]
theorem filtN_yes {f : List Nat → Bool} {A : List (List Nat)} {i : Nat} {t : List Nat} (h : A[i]? = some t) (e : f t = true) : (A.take (i + 1)).filter f = (A.take i).filter f ++ [t] := by
  rw [take_more h, List.filter_append]
  simp [e]
theorem filtN_no {f : List Nat → Bool} {A : List (List Nat)} {i : Nat} {t : List Nat} (h : A[i]? = some t) (e : f t = false) : (A.take (i + 1)).filter f = (A.take i).filter f := by
  rw [take_more h, List.filter_append]
  simp [e]
theorem inV_nv (c : List Nat) (j : Nat) : inV (.int ((j : Nat) : Int)) (nv c) = c.contains j := by
  unfold inV nv
  rw [List.any_map, Bool.eq_iff_iff, List.any_eq_true, List.contains_iff_mem]
  constructor
  · rintro ⟨x, hx, e⟩
    have e1 : (((x : Nat) : Int) == ((j : Nat) : Int)) = true := e
    have e2 := eq_of_beq e1
    have e3 : x = j := by omega
    rw [← e3]
    exact hx
  · intro h
    exact ⟨j, h, beq_self_eq_true (((j : Nat) : Int))⟩
theorem flat_nv (c : List Nat) : (nv c).all flatV = true := by
  unfold nv
  rw [List.all_map, List.all_eq_true]
  exact fun _ _ => rfl
section
variable {P : Program} {w : World} {K : PySem.W.Frag} {mg : Str → Option Value} {base : Heap}
def sp_sets (K : PySem.W.Frag) : Sp := fun vs H Q _ => ∃ d : Nat, vs = [.int ((d : Nat) : Int)] ∧ d ≤ 8 ∧ ∀ H' z rs, Same H H' → SqL K H' z (rs.map V.ref) → Tups K H' rs (setsL d) → Q (.ref z) H'
theorem ok_sets (T : Txt K mg) : FnOk P w K mg base CX0 1 T.a_letter_sets T.d_letter_sets ["letters"] (sp_sets K) := by
  refine T.F_letter_sets.ok sc_letter_sets (fun vs H Q E h => ?_) (fun cdv A outer s H vs Q E hr h => ?_)
  · obtain ⟨d, rfl, _⟩ := h
    rfl
  · obtain ⟨d, rfl, hd, q⟩ := h
    refine ⟨_, pss_cons (ps_set (i := 1) sc_letter_sets.nd rfl (Or.inl rfl) (pe_lst (pa_cons (pe_tup pa_nil) pa_nil)))
      (pss_cons (ps_for PassesOwn.never rfl (pi_range1 rfl T.z_range (pa_cons (pv 0) pa_nil)) (pg_name (i := 2) sc_letter_sets.nd rfl (Or.inr rfl))
        (pss_one (ps_set (i := 1) sc_letter_sets.nd rfl (Or.inl rfl) (pe_op op_cat (pv 1)
          (pe_lc (own := [("chosen", 3)]) (g := gName 3) (tt := tYes) rfl sc_letter_sets.nd (pi_list (pv 1)) (blkOk_by (own := [("chosen", 3)]) (N := N_letter_sets) (sc := defScope s_letter_sets) (by decide +kernel))
            (fun _ _ _ _ _ => pg_name (i := 3) sc_letter_sets.nd rfl (Or.inl rfl)) (fun _ _ _ _ _ => pts_nil)
            (fun _ _ _ _ _ => pe_op (show OpR _ _ (rCatB K) from op_catB) (pv 3) (pe_tup (pa_cons (pv 2) pa_nil))))))))
      (pss_one (ps_ret (pv 1)))), ?_⟩
    refine ⟨by show 0 ≤ sizeLine; exact Nat.zero_le _, fun z0 hz0 => ?_⟩
    have s2 := same_new hz0 (.tup [])
    refine ⟨by show 1 ≤ sizeLine; decide, fun la hla => ?_⟩
    have s3 := same_new hla (.lst [V.ref z0])
    refine ⟨_, rfl, _, rfl, by omega, by omega, ?_⟩
    refine for_range (lo := 0) (n := (((d : Nat) : Int)).toNat) (fun i σ H' => ∃ (v2 : Option V) (fa : Addr) (rs : List Addr), σ = [some (.int ((d : Nat) : Int)), some (.ref fa), v2, none] ∧ Same H H' ∧ H' fa = some (.lst (rs.map V.ref)) ∧ Tups K H' rs (setsL i))
      ⟨none, la, [z0], rfl, s2.trans s3, upd_same, .cons (same_sqt s3 (SqT.of upd_same)) .nil⟩ ?_ ?_
    · rintro i σ H1 hi ⟨v2, fa, rs, rfl, sm, hf, hfT⟩
      have hi8 : i < d := hi
      have w1 := sets_few (k := i) (by omega)
      have hrl : rs.length = _ := hfT.length
      rw [show (0 : Int) + ((i : Nat) : Int) = ((i : Nat) : Int) from Int.zero_add _]
      refine ⟨_, rfl, _, rfl, fa, rfl, ⟨_, SqL.of hf⟩, fun D hD => ?_⟩
      have sD := same_new hD (.lst [])
      refine lc_list (K := K) (a := fa) (xs := rs.map V.ref) (fun i2 H' => Same H1 H' ∧ ∃ es : List Addr, H' D = some (.lst (es.map V.ref)) ∧ Tups K H' es (((setsL i).take i2).map fun c => c ++ [i])) ⟨sD, [], upd_same, .nil⟩ (fun i2 H' _ hh => SqL.of (hh.1 _ _ hf)) (fun i2 x H2 hx hh => ?_) (fun H2 hh => ?_)
      · obtain ⟨s4, es, eD, hTe⟩ := hh
        obtain ⟨c, t, rfl, _, ht, hs⟩ := tups_get hfT hx
        have ht4 := (sets_short i t (List.mem_of_getElem? ht)).1
        have hel : es.length ≤ 256 := by
          have e1 : es.length = _ := hTe.length
          rw [List.length_map, List.length_take] at e1
          omega
        refine ⟨rfl, _, rfl, _, rfl, by show 1 ≤ sizeLine; decide, fun z1 hz1 => ?_⟩
        have s5 := same_new hz1 (.tup [V.int ((i : Nat) : Int)])
        refine ⟨c, z1, _, _, rfl, rfl, same_sqt (s4.trans s5) hs, SqT.of upd_same, by rw [nv_len]; exact Nat.le_of_lt (sizeK (by show _ + 1 ≤ _; omega)), fun H5 z5 s6 hz5 => ?_⟩
        have S6 := s5.trans s6
        have hz5' : SqT K H5 z5 (nv (t ++ [i])) := by
          unfold nv at hz5 ⊢
          rw [List.map_append]
          exact hz5
        refine ⟨_, S6 _ _ eD, by rw [List.length_map]; exact sizeK (by omega), same_updL (s4.trans S6) hD, es ++ [z5], by rw [upd_same, List.map_append]; rfl, ?_⟩
        rw [take_more ht, List.map_append]
        exact ((hTe.same S6).updL (S6 _ _ eD)).app (.cons (sqt_updL (S6 _ _ eD) hz5') .nil)
      · obtain ⟨s4, es, eD, hTe⟩ := hh
        rw [List.length_map, hrl, List.take_length] at hTe
        have hel : es.length = _ := hTe.length
        rw [List.length_map] at hel
        refine ⟨fa, D, _, _, rfl, rfl, s4 _ _ hf, eD, by rw [List.length_map, List.length_map]; exact Nat.le_of_lt (sizeK (by omega)), fun p hp => ?_⟩
        have s5 := same_new hp (.lst (rs.map V.ref ++ es.map V.ref))
        exact ⟨_, p, rs ++ es, rfl, sm.trans (s4.trans s5), by rw [upd_same, List.map_append], ((hfT.same s4).same s5).app (hTe.same s5)⟩
    · rintro σ H1 ⟨v2, fa, rs, rfl, sm, hf, hfT⟩
      have hfT' : Tups K H1 rs (setsL d) := hfT
      exact ⟨_, rfl, q H1 fa rs sm (SqL.of hf) hfT'⟩
def sp_free (K : PySem.W.Frag) : Sp := fun vs H Q _ => ∃ (a l : Addr) (c : List Nat) (rs : List Addr) (L : List (List Nat)), vs = [.ref a, .ref l] ∧ SqT K H a (nv c) ∧ SqA K H l (rs.map V.ref) ∧ Tups K H rs L ∧ (∀ t ∈ L, t.length ≤ 8) ∧ ∀ H', Same H H' → Q (.bl (freeB c L)) H'
theorem ok_free (T : Txt K mg) : FnOk P w K mg base CX0 1 T.a_is_free T.d_is_free ["chosen", "members"] (sp_free K) := by
  refine T.F_is_free.ok sc_is_free (fun vs H Q E h => ?_) (fun cdv A outer s H vs Q E hr h => ?_)
  · obtain ⟨a, l, c, rs, L, rfl, _⟩ := h
    rfl
  · obtain ⟨a, l, c, rs, L, rfl, hC, hA, hL, h8, q⟩ := h
    refine ⟨_, pss_cons (ps_for PassesOwn.never rfl (pi_any (pv 1)) (pg_name (i := 2) sc_is_free.nd rfl (Or.inl rfl))
        (pss_cons (ps_setLc (i := 3) (own := [("index", 4), ("exponent", 5)]) (g := gTup K 2 (gCons (gName 4) (gCons (gName 5) gNil))) rfl sc_is_free.nd rfl rfl (sw_true rfl rfl rfl (by decide +kernel)) (show PI _ _ _ (iEnumT K _) from pi_enumT (by rfl) T.z_enumerate (pa_cons (pv 2) pa_nil)) (blkOk_by (own := [("index", 4), ("exponent", 5)]) (N := N_is_free) (sc := defScope s_is_free) (by decide +kernel))
          (fun _ _ _ _ _ => pg_tup (by rfl) (pgs_cons (pg_name (i := 4) sc_is_free.nd rfl (Or.inl rfl)) (pgs_cons (pg_name (i := 5) sc_is_free.nd rfl (Or.inl rfl)) pgs_nil)))
          (fun _ _ _ _ _ => pts_one (PW.pt (pw_and (pt_cmpR op_gt (pv 5) pe_int (nomark _)) (pw_and1 (pt_cmpR (show OpR _ _ (rIn K true) from op_notIn_seq) (pv 4) (pv 0) (by rfl))))))
          (fun _ _ _ _ _ => pv 4))
        (pss_one (ps_if (pt_not (pt_truth (pv 3) (fun _ => rfl))) (pss_one (ps_ret pe_bl)) pss_nil))))
      (pss_one (ps_ret pe_bl)), ?_⟩
    have el : (L.map fun t => !(othN c t t.length).isEmpty).all id = freeB c L := by rw [List.all_map]; rfl
    refine ⟨_, rfl, l, rfl, for_any hA (fun i σ H' => ∃ v2 v3 : Option V, σ = [some (.ref a), some (.ref l), v2, v3, none, none] ∧ Same H H' ∧ ((L.map fun t => !(othN c t t.length).isEmpty).take i).all id = true) ⟨none, none, rfl, Same.refl H, rfl⟩ (fun i σ' H' ⟨_, _, _, s, _⟩ => s) ?_ ?_⟩
    · rintro i x σ H' hx ⟨v2, v3, rfl, sm, ha⟩
      obtain ⟨b, u, rfl, _, hu, hs⟩ := tups_get (hL.same sm) hx
      have hul := h8 u (List.mem_of_getElem? hu)
      have st := all_take_step (l := L.map fun t => !(othN c t t.length).isEmpty) (i := i) (b := !(othN c u u.length).isEmpty) (by rw [List.getElem?_map, hu]; rfl)
      have hC' := same_sqt sm hC
      refine ⟨_, rfl, b, _, rfl, hs, fun D hD => ?_⟩
      have sD := same_new hD (.lst [])
      refine lc_enumT (K := K) (a := b) (xs := nv u) (fun j H2 => Same H' H2 ∧ H2 D = some (.lst (nv (othN c u j)))) ⟨sD, upd_same⟩ (fun j H2 h => same_sqt h.1 hs) ?_ ?_
      · rintro j x D2 H2 hx ⟨s2, hD2⟩ hfree
        obtain ⟨e, he, rfl⟩ := nv_get hx
        have hj : j < u.length := (List.getElem?_eq_some_iff.mp he).1
        have hg : u.getD j 0 = e := by rw [List.getD_eq_getElem?_getD, he]; rfl
        have hlen := oth_len c u j
        have hstep := oth_step c u j
        rw [hg] at hstep
        have sT := same_new hfree (.tup [V.int ((j : Nat) : Int), V.int ((e : Nat) : Int)])
        have hD3 := sT _ _ hD2
        refine ⟨D2, _, rfl, SqT.of upd_same, rfl, _, _, rfl, _, _, rfl, rfl, ?_⟩
        refine ⟨rfl, _, rfl, _, _, rfl, rfl, _, rfl, ?_⟩
        by_cases h0 : 0 < e
        · rw [decide_eq_true (show (0 : Int) < ((e : Nat) : Int) by omega)]
          refine iteT ⟨_, rfl, _, rfl, a, nv c, rfl, .inr (same_sqt (s2.trans sT) hC'), rfl, flat_nv c, _, rfl, ?_⟩
          rw [inV_nv, show (if true = true then !c.contains j else c.contains j) = !c.contains j from rfl]
          rw [decide_eq_true h0, Bool.true_and] at hstep
          refine ite2 (fun cc => ?_) (fun cc => ?_)
          · rw [if_pos cc] at hstep
            refine ⟨_, rfl, _, hD3, by rw [nv_len]; exact sizeK (by omega), same_updL (s2.trans sT) hD, ?_⟩
            rw [upd_same, hstep]
            unfold nv
            rw [List.map_append]
            rfl
          · rw [if_neg cc] at hstep
            refine ⟨s2.trans sT, ?_⟩
            rw [hstep]
            exact hD3
        · rw [decide_eq_false (show ¬ (0 : Int) < ((e : Nat) : Int) by omega)]
          rw [decide_eq_false h0, Bool.false_and, if_neg (by decide)] at hstep
          refine iteF ⟨s2.trans sT, ?_⟩
          rw [hstep]
          exact hD3
      · rintro H2 ⟨s2, hD2⟩
        rw [nv_len] at hD2
        refine ⟨_, rfl, _, .inl ⟨_, SqL.of hD2, rfl⟩, ?_⟩
        have ee : (nv (othN c u u.length)).isEmpty = (othN c u u.length).isEmpty := by
          unfold nv
          rw [List.isEmpty_map]
        rw [ee]
        cases ef : (othN c u u.length).isEmpty with
        | true =>
          rw [ha, ef] at st
          have hF : freeB c L = false := by
            rw [← el, ← List.take_append_drop (i + 1) (L.map fun t => !(othN c t t.length).isEmpty), List.all_append, st]
            rfl
          rw [hF] at q
          exact iteT (q _ (sm.trans s2))
        | false =>
          rw [ha, ef] at st
          exact iteF ⟨_, _, rfl, sm.trans s2, st⟩
    · rintro σ H' ⟨v2, v3, rfl, sm, ha⟩
      have hlen : rs.length = L.length := hL.length
      rw [List.length_map, hlen, ← List.length_map (f := fun t => !(othN c t t.length).isEmpty) (as := L), List.take_length, el] at ha
      rw [ha] at q
      exact q _ sm
end
end K13

/-! what a list of tuples tells: the tuples above it; the least ones of lists that tell the same are the same -/
namespace M7
/-- above one of them -/
abbrev Up (L : List (List Nat)) (t : List Nat) : Prop := ∃ k ∈ L, fitB k t = true
abbrev Len (d : Nat) (L : List (List Nat)) : Prop := ∀ t ∈ L, t.length = d
theorem min_true {A : List (List Nat)} {p : List Nat} : minB A p = true ↔ ∀ q ∈ A, fitB q p = true → q = p := by
  constructor
  · intro h q hq hf
    cases e : decide (q = p) with
    | true => exact of_decide_eq_true e
    | false =>
      have := min_false.mpr ⟨q, hq, of_decide_eq_false e, hf⟩
      rw [h] at this
      cases this
  · intro h
    cases e : minB A p with
    | true => rfl
    | false =>
      obtain ⟨q, h1, h2, h3⟩ := min_false.mp e
      exact absurd (h q h1 h3) h2
theorem mem_least {L : List (List Nat)} {x : List Nat} : x ∈ leastN L ↔ x ∈ L ∧ ∀ q ∈ L, fitB q x = true → q = x := by
  unfold leastN
  rw [List.mem_filter, mem_canon, min_true]
  constructor
  · rintro ⟨h1, h2⟩
    exact ⟨h1, fun q hq => h2 q (mem_canon.mpr hq)⟩
  · rintro ⟨h1, h2⟩
    exact ⟨h1, fun q hq => h2 q (mem_canon.mp hq)⟩
theorem asc_least {d : Nat} {L : List (List Nat)} (h : Len d L) : Asc (leastN L) := (asc_canon h).filter _
theorem len_least {d : Nat} {L : List (List Nat)} (h : Len d L) : Len d (leastN L) := fun t ht => h t (mem_least.mp ht).1
theorem up_least {d : Nat} {L : List (List Nat)} (h : Len d L) {t : List Nat} : Up (leastN L) t ↔ Up L t := by
  constructor
  · rintro ⟨k, hk, hf⟩
    exact ⟨k, (mem_least.mp hk).1, hf⟩
  · rintro ⟨k, hk, hf⟩
    have hd : ∀ y ∈ canonN L, y.length = d := fun y hy => h y (mem_canon.mp hy)
    obtain ⟨m, h1, h2, h3⟩ := below hd k.sum k (Nat.le_refl _) (mem_canon.mpr hk)
    exact ⟨m, List.mem_filter.mpr ⟨h1, h2⟩, fit_trans (by rw [h k hk, hd m h1]) h3 hf⟩
theorem least_sub {d : Nat} {L M : List (List Nat)} (hL : Len d L) (hM : Len d M) (h : ∀ t, t.length = d → (Up L t ↔ Up M t)) {x : List Nat} (hx : x ∈ leastN L) : x ∈ leastN M := by
  obtain ⟨h1, h2⟩ := mem_least.mp hx
  have hxd := hL x h1
  -- whatever of M lies below x is x
  have key : ∀ m ∈ M, fitB m x = true → m = x := fun m hm hf => by
    obtain ⟨l, hl, hlm⟩ := (h m (hM m hm)).mpr ⟨m, hm, fit_refl m⟩
    have e := h2 l hl (fit_trans (by rw [hM m hm, hL l hl]) hlm hf)
    subst e
    exact (fit_anti (by rw [hM m hm, hxd]) hlm hf).symm
  obtain ⟨m, hm, hf⟩ := (h x hxd).mp ⟨x, h1, fit_refl x⟩
  have e := key m hm hf
  subst e
  exact mem_least.mpr ⟨hm, key⟩
/-- lists that tell the same have the same least ones -/
theorem least_ext {d : Nat} {L M : List (List Nat)} (hL : Len d L) (hM : Len d M) (h : ∀ t, t.length = d → (Up L t ↔ Up M t)) : leastN L = leastN M :=
  asc_unique (asc_least hL) (asc_least hM) fun x => ⟨least_sub hL hM h, least_sub hM hL fun t ht => (h t ht).symm⟩
theorem up_app {L M : List (List Nat)} {t : List Nat} : Up (L ++ M) t ↔ Up L t ∨ Up M t := by
  constructor
  · rintro ⟨k, hk, hf⟩
    rcases List.mem_append.mp hk with h | h
    · exact .inl ⟨k, h, hf⟩
    · exact .inr ⟨k, h, hf⟩
  · rintro (⟨k, hk, hf⟩ | ⟨k, hk, hf⟩)
    · exact ⟨k, List.mem_append_left _ hk, hf⟩
    · exact ⟨k, List.mem_append_right _ hk, hf⟩
/-- each of the one with each of the other -/
abbrev eachF (f : Nat → Nat → Nat) (L M : List (List Nat)) : List (List Nat) := L.flatMap fun t => M.map fun u => List.zipWith f t u
theorem up_each {f : Nat → Nat → Nat} {L M : List (List Nat)} {t : List Nat} : Up (eachF f L M) t ↔ ∃ a ∈ L, ∃ b ∈ M, fitB (List.zipWith f a b) t = true := by
  constructor
  · rintro ⟨k, hk, hf⟩
    obtain ⟨a, ha, h2⟩ := List.mem_flatMap.mp hk
    obtain ⟨b, hb, rfl⟩ := List.mem_map.mp h2
    exact ⟨a, ha, b, hb, hf⟩
  · rintro ⟨a, ha, b, hb, hf⟩
    exact ⟨_, List.mem_flatMap.mpr ⟨a, ha, List.mem_map.mpr ⟨b, hb, rfl⟩⟩, hf⟩
theorem len_each {f : Nat → Nat → Nat} {d : Nat} {L M : List (List Nat)} (hL : Len d L) (hM : Len d M) : Len d (eachF f L M) := fun t ht => by
  obtain ⟨a, ha, h2⟩ := List.mem_flatMap.mp ht
  obtain ⟨b, hb, rfl⟩ := List.mem_map.mp h2
  rw [List.length_zipWith, hL a ha, hM b hb, Nat.min_self]
/-- f grows in both places -/
structure Grows (f : Nat → Nat → Nat) : Prop where
  mono : ∀ a b c e, a ≤ c → b ≤ e → f a b ≤ f c e
theorem grows_add : Grows (· + ·) := ⟨fun _ _ _ _ h k => Nat.add_le_add h k⟩
theorem grows_max : Grows max := ⟨fun a b c e h k => by omega⟩
theorem zip_fit {f : Nat → Nat → Nat} (g : Grows f) : ∀ {a b c e : List Nat}, c.length = a.length → b.length = a.length → e.length = a.length → fitB a c = true → fitB b e = true → fitB (List.zipWith f a b) (List.zipWith f c e) = true
  | [], _, _, _, _, _, _, _, _ => by simp [fitB]
  | _ :: _, [], _, _, _, h, _, _, _ => by simp at h
  | _ :: _, _ :: _, [], _, h, _, _, _, _ => by simp at h
  | _ :: _, _ :: _, _ :: _, [], _, _, h, _, _ => by simp at h
  | x :: a, y :: b, z :: c, v :: e, h1, h2, h3, k1, k2 => by
    rw [fit_cons] at k1 k2
    show fitB (f x y :: List.zipWith f a b) (f z v :: List.zipWith f c e) = true
    rw [fit_cons]
    exact ⟨g.mono _ _ _ _ k1.1 k2.1, zip_fit g (by simpa using h1) (by simpa using h2) (by simpa using h3) k1.2 k2.2⟩
/-- least ones may be taken before or behind -/
theorem each_least {f : Nat → Nat → Nat} (g : Grows f) {d : Nat} {L M : List (List Nat)} (hL : Len d L) (hM : Len d M) : leastN (eachF f (leastN L) (leastN M)) = leastN (eachF f L M) := by
  refine least_ext (len_each (len_least hL) (len_least hM)) (len_each hL hM) fun t ht => ?_
  rw [up_each, up_each]
  constructor
  · rintro ⟨a, ha, b, hb, hf⟩
    exact ⟨a, (mem_least.mp ha).1, b, (mem_least.mp hb).1, hf⟩
  · rintro ⟨a, ha, b, hb, hf⟩
    obtain ⟨a', ha', fa⟩ := (up_least hL).mpr ⟨a, ha, fit_refl a⟩
    obtain ⟨b', hb', fb⟩ := (up_least hM).mpr ⟨b, hb, fit_refl b⟩
    have la := len_least hL a' ha'
    have lb := len_least hM b' hb'
    have l1 := hL a ha
    have l2 := hM b hb
    exact ⟨a', ha', b', hb', fit_trans (by rw [List.length_zipWith, List.length_zipWith, la, lb, l1, l2]) (zip_fit g (by rw [la, l1]) (by rw [la, lb]) (by rw [la, l2]) fa fb) hf⟩
theorem app_least {d : Nat} {L M : List (List Nat)} (hL : Len d L) (hM : Len d M) : leastN (leastN L ++ leastN M) = leastN (L ++ M) := by
  refine least_ext (d := d) (fun t ht => ?_) (fun t ht => ?_) fun t ht => ?_
  · rcases List.mem_append.mp ht with h | h
    · exact len_least hL t h
    · exact len_least hM t h
  · rcases List.mem_append.mp ht with h | h
    · exact hL t h
    · exact hM t h
  · rw [up_app, up_app, up_least hL, up_least hM]
theorem least_least {d : Nat} {L : List (List Nat)} (hL : Len d L) : leastN (leastN L) = leastN L := least_ext (len_least hL) hL fun t _ => up_least hL
end M7

/-! sums, meets and products of what lists tell: laws of arithmetic -/
namespace M7
theorem zip_comm {f : Nat → Nat → Nat} (h : ∀ a b, f a b = f b a) : ∀ a b : List Nat, List.zipWith f a b = List.zipWith f b a
  | [], [] => rfl
  | [], _ :: _ => rfl
  | _ :: _, [] => rfl
  | x :: a, y :: b => by
    show f x y :: List.zipWith f a b = f y x :: List.zipWith f b a
    rw [h x y, zip_comm h a b]
theorem zip_assoc {f : Nat → Nat → Nat} (h : ∀ a b c, f (f a b) c = f a (f b c)) : ∀ a b c : List Nat, List.zipWith f (List.zipWith f a b) c = List.zipWith f a (List.zipWith f b c)
  | [], _, _ => rfl
  | _ :: _, [], _ => rfl
  | _ :: _, _ :: _, [] => rfl
  | x :: a, y :: b, z :: c => by
    show f (f x y) z :: List.zipWith f (List.zipWith f a b) c = f x (f y z) :: List.zipWith f a (List.zipWith f b c)
    rw [h x y z, zip_assoc h a b c]
theorem each_comm {f : Nat → Nat → Nat} (h : ∀ a b, f a b = f b a) {d : Nat} {L M : List (List Nat)} (hL : Len d L) (hM : Len d M) : leastN (eachF f L M) = leastN (eachF f M L) := by
  refine least_ext (len_each hL hM) (len_each hM hL) fun t _ => ?_
  rw [up_each, up_each]
  constructor
  · rintro ⟨a, ha, b, hb, hf⟩
    exact ⟨b, hb, a, ha, by rw [zip_comm h b a]; exact hf⟩
  · rintro ⟨a, ha, b, hb, hf⟩
    exact ⟨b, hb, a, ha, by rw [zip_comm h b a]; exact hf⟩
theorem each_assoc {f : Nat → Nat → Nat} (h : ∀ a b c, f (f a b) c = f a (f b c)) {d : Nat} {L M N : List (List Nat)} (hL : Len d L) (hM : Len d M) (hN : Len d N) : leastN (eachF f (eachF f L M) N) = leastN (eachF f L (eachF f M N)) := by
  refine least_ext (len_each (len_each hL hM) hN) (len_each hL (len_each hM hN)) fun t _ => ?_
  rw [up_each, up_each]
  constructor
  · rintro ⟨p, hp, c, hc, hf⟩
    obtain ⟨a, ha, h2⟩ := List.mem_flatMap.mp hp
    obtain ⟨b, hb, rfl⟩ := List.mem_map.mp h2
    exact ⟨a, ha, _, List.mem_flatMap.mpr ⟨b, hb, List.mem_map.mpr ⟨c, hc, rfl⟩⟩, by rw [← zip_assoc h]; exact hf⟩
  · rintro ⟨a, ha, p, hp, hf⟩
    obtain ⟨b, hb, h2⟩ := List.mem_flatMap.mp hp
    obtain ⟨c, hc, rfl⟩ := List.mem_map.mp h2
    exact ⟨_, List.mem_flatMap.mpr ⟨a, ha, List.mem_map.mpr ⟨b, hb, rfl⟩⟩, c, hc, by rw [zip_assoc h]; exact hf⟩
theorem each_dist {f : Nat → Nat → Nat} {d : Nat} {L M N : List (List Nat)} (hL : Len d L) (hM : Len d M) (hN : Len d N) : leastN (eachF f L (M ++ N)) = leastN (eachF f L M ++ eachF f L N) := by
  have hMN : Len d (M ++ N) := fun t ht => (List.mem_append.mp ht).elim (hM t) (hN t)
  refine least_ext (len_each hL hMN) (fun t ht => (List.mem_append.mp ht).elim (len_each hL hM t) (len_each hL hN t)) fun t _ => ?_
  rw [up_app, up_each, up_each, up_each]
  constructor
  · rintro ⟨a, ha, b, hb, hf⟩
    rcases List.mem_append.mp hb with hb | hb
    · exact .inl ⟨a, ha, b, hb, hf⟩
    · exact .inr ⟨a, ha, b, hb, hf⟩
  · rintro (⟨a, ha, b, hb, hf⟩ | ⟨a, ha, b, hb, hf⟩)
    · exact ⟨a, ha, b, List.mem_append_left _ hb, hf⟩
    · exact ⟨a, ha, b, List.mem_append_right _ hb, hf⟩
theorem app_comm {d : Nat} {L M : List (List Nat)} (hL : Len d L) (hM : Len d M) : leastN (L ++ M) = leastN (M ++ L) :=
  least_ext (fun t ht => (List.mem_append.mp ht).elim (hL t) (hM t)) (fun t ht => (List.mem_append.mp ht).elim (hM t) (hL t)) fun t _ => by
    rw [up_app, up_app]
    exact Or.comm
theorem app_self {d : Nat} {L : List (List Nat)} (hL : Len d L) : leastN (L ++ L) = leastN L :=
  least_ext (fun t ht => (List.mem_append.mp ht).elim (hL t) (hL t)) hL fun t _ => by
    rw [up_app]
    exact or_self_iff
/-- above both -/
theorem max_fit : ∀ {a b t : List Nat}, b.length = a.length → t.length = a.length → (fitB (List.zipWith max a b) t = true ↔ fitB a t = true ∧ fitB b t = true)
  | [], [], [], _, _ => by simp [fitB]
  | [], _ :: _, _, h, _ => by simp at h
  | [], [], _ :: _, _, h => by simp at h
  | _ :: _, [], _, h, _ => by simp at h
  | _ :: _, _ :: _, [], _, h => by simp at h
  | x :: a, y :: b, z :: t, h1, h2 => by
    show fitB (max x y :: List.zipWith max a b) (z :: t) = true ↔ _
    rw [fit_cons, fit_cons, fit_cons, max_fit (by simpa using h1) (by simpa using h2)]
    constructor
    · rintro ⟨h, h3, h4⟩
      exact ⟨⟨by omega, h3⟩, by omega, h4⟩
    · rintro ⟨⟨h3, h4⟩, h5, h6⟩
      exact ⟨by omega, h4, h6⟩
/-- what a meet tells is what both tell -/
theorem up_meet {d : Nat} {L M : List (List Nat)} (hL : Len d L) (hM : Len d M) {t : List Nat} (ht : t.length = d) : Up (eachF max L M) t ↔ Up L t ∧ Up M t := by
  rw [up_each]
  constructor
  · rintro ⟨a, ha, b, hb, hf⟩
    obtain ⟨h1, h2⟩ := (max_fit (by rw [hM b hb, hL a ha]) (by rw [ht, hL a ha])).mp hf
    exact ⟨⟨a, ha, h1⟩, b, hb, h2⟩
  · rintro ⟨⟨a, ha, h1⟩, b, hb, h2⟩
    exact ⟨a, ha, b, hb, (max_fit (by rw [hM b hb, hL a ha]) (by rw [ht, hL a ha])).mpr ⟨h1, h2⟩⟩
end M7

/-! lots whose members are least: few, low, of one length; the laws in that form -/
namespace M7
structure Lt (d n m : Nat) (L : List (List Nat)) : Prop where
  len : Len d L
  low : ∀ t ∈ L, ∀ e ∈ t, e ≤ m
  few : L.length ≤ n
  own : leastN L = L
variable {d n m k j : Nat} {L M N : List (List Nat)} {f : Nat → Nat → Nat}
theorem least_short (L : List (List Nat)) : (leastN L).length ≤ L.length := Nat.le_trans (List.length_filter_le _ _) (canon_len L)
theorem Lt.of (h1 : Len d L) (h2 : ∀ t ∈ L, ∀ e ∈ t, e ≤ m) (h3 : L.length ≤ n) : Lt d n m (leastN L) := ⟨len_least h1, fun t ht => h2 t (mem_least.mp ht).1, Nat.le_trans (least_short L) h3, least_least h1⟩
theorem len_app (a : Len d L) (b : Len d M) : Len d (L ++ M) := fun t ht => (List.mem_append.mp ht).elim (a t) (b t)
theorem low_app (a : ∀ t ∈ L, ∀ e ∈ t, e ≤ m) (b : ∀ t ∈ M, ∀ e ∈ t, e ≤ m) : ∀ t ∈ L ++ M, ∀ e ∈ t, e ≤ m := fun t ht => (List.mem_append.mp ht).elim (a t) (b t)
theorem Lt.add (a : Lt d n m L) (b : Lt d k m M) : Lt d (n + k) m (leastN (L ++ M)) := .of (len_app a.len b.len) (low_app a.low b.low) (by
  rw [List.length_append]
  exact Nat.add_le_add a.few b.few)
structure Op (f : Nat → Nat → Nat) : Prop where
  grows : Grows f
  comm : ∀ a b, f a b = f b a
  assoc : ∀ a b c, f (f a b) c = f a (f b c)
  low : ∀ a b, f a b ≤ a + b
  zero : ∀ a, f a 0 = a
theorem op_add : Op (· + ·) := ⟨grows_add, Nat.add_comm, Nat.add_assoc, fun _ _ => Nat.le_refl _, fun _ => rfl⟩
theorem op_max : Op max := ⟨grows_max, Nat.max_comm, Nat.max_assoc, fun a b => by omega, fun a => by omega⟩
theorem zip_low (hf : Op f) : ∀ {t u : List Nat}, (∀ e ∈ t, e ≤ m) → (∀ e ∈ u, e ≤ k) → ∀ e ∈ List.zipWith f t u, e ≤ m + k
  | [], _, _, _, e, h => by simp at h
  | _ :: _, [], _, _, e, h => by simp at h
  | a :: t, b :: u, h1, h2, e, h => by
    rcases List.mem_cons.mp (show e ∈ f a b :: List.zipWith f t u from h) with h | h
    · have := hf.low a b
      have := h1 a List.mem_cons_self
      have := h2 b List.mem_cons_self
      omega
    · exact zip_low hf (fun e h => h1 e (List.mem_cons_of_mem _ h)) (fun e h => h2 e (List.mem_cons_of_mem _ h)) e h
theorem low_each (hf : Op f) (a : ∀ t ∈ L, ∀ e ∈ t, e ≤ m) (b : ∀ t ∈ M, ∀ e ∈ t, e ≤ k) : ∀ t ∈ eachF f L M, ∀ e ∈ t, e ≤ m + k := fun t ht => by
  obtain ⟨p, hp, h2⟩ := List.mem_flatMap.mp ht
  obtain ⟨u, hu, rfl⟩ := List.mem_map.mp h2
  exact zip_low hf (a p hp) (b u hu)
theorem count_each : ∀ L : List (List Nat), (eachF f L M).length = L.length * M.length
  | [] => by simp [eachF]
  | t :: L => by
    have := count_each L
    simp only [eachF] at this ⊢
    rw [List.flatMap_cons, List.length_append, this, List.length_map, List.length_cons, Nat.succ_mul, Nat.add_comm]
theorem Lt.each (hf : Op f) (a : Lt d n m L) (b : Lt d k j M) : Lt d (n * k) (m + j) (leastN (eachF f L M)) := .of (len_each a.len b.len) (low_each hf a.low b.low) (by
  rw [count_each]
  exact Nat.mul_le_mul a.few b.few)
theorem Lt.more {n' m' : Nat} (a : Lt d n m L) (h : n ≤ n') (h2 : m ≤ m') : Lt d n' m' L := ⟨a.len, fun t ht e he => Nat.le_trans (a.low t ht e he) h2, Nat.le_trans a.few h, a.own⟩
/-! ### the laws -/
theorem l_add_assoc {n1 n2 n3 m1 m2 m3 : Nat} (a : Lt d n1 m1 L) (b : Lt d n2 m2 M) (c : Lt d n3 m3 N) : leastN (leastN (L ++ M) ++ N) = leastN (L ++ leastN (M ++ N)) := by
  have h1 := app_least (len_app a.len b.len) c.len
  have h2 := app_least a.len (len_app b.len c.len)
  rw [c.own] at h1
  rw [a.own] at h2
  rw [h1, h2, List.append_assoc]
theorem l_each_assoc {n1 n2 n3 m1 m2 m3 : Nat} (hf : Op f) (a : Lt d n1 m1 L) (b : Lt d n2 m2 M) (c : Lt d n3 m3 N) : leastN (eachF f (leastN (eachF f L M)) N) = leastN (eachF f L (leastN (eachF f M N))) := by
  have h1 := each_least hf.grows (len_each (f := f) a.len b.len) c.len
  have h2 := each_least hf.grows a.len (len_each (f := f) b.len c.len)
  rw [c.own] at h1
  rw [a.own] at h2
  rw [h1, h2, each_assoc hf.assoc a.len b.len c.len]
theorem l_dist {n1 n2 n3 m1 m2 m3 : Nat} (hf : Op f) (a : Lt d n1 m1 L) (b : Lt d n2 m2 M) (c : Lt d n3 m3 N) : leastN (eachF f L (leastN (M ++ N))) = leastN (leastN (eachF f L M) ++ leastN (eachF f L N)) := by
  have h1 := each_least hf.grows a.len (len_app b.len c.len)
  rw [a.own] at h1
  rw [h1, app_least (len_each a.len b.len) (len_each a.len c.len), each_dist a.len b.len c.len]
theorem l_none {n1 m1 : Nat} (a : Lt d n1 m1 L) : leastN (L ++ leastN []) = L := by
  show leastN (L ++ []) = L
  rw [List.append_nil]
  exact a.own
abbrev z0 (d : Nat) : List Nat := List.replicate d 0
theorem least_z (d : Nat) : leastN [z0 d] = [z0 d] := by
  have e : minB [z0 d] (z0 d) = true := min_true.mpr fun q hq _ => List.mem_singleton.mp hq
  show List.filter (minB [z0 d]) [z0 d] = _
  rw [List.filter_cons_of_pos e]
  rfl
theorem zip_z (hf : Op f) : ∀ t : List Nat, List.zipWith f t (z0 t.length) = t
  | [] => rfl
  | a :: t => by
    show f a 0 :: List.zipWith f t (z0 t.length) = _
    rw [hf.zero, zip_z hf t]
theorem each_z (hf : Op f) : ∀ {L : List (List Nat)}, Len d L → eachF f L [z0 d] = L
  | [], _ => rfl
  | t :: L, h => by
    show List.zipWith f t (z0 d) :: eachF f L [z0 d] = _
    rw [each_z hf fun t ht => h t (List.mem_cons_of_mem _ ht)]
    have e := h t List.mem_cons_self
    subst e
    rw [zip_z hf]
theorem l_every {n1 m1 : Nat} (hf : Op f) (a : Lt d n1 m1 L) : leastN (eachF f L (leastN [z0 d])) = L := by
  rw [least_z, each_z hf a.len]
  exact a.own
theorem fit_z : ∀ t : List Nat, fitB (z0 t.length) t = true
  | [] => rfl
  | a :: t => fit_cons.mpr ⟨Nat.zero_le _, fit_z t⟩
theorem len_z (d : Nat) : Len d [z0 d] := fun t ht => by
  rw [List.mem_singleton.mp ht]
  exact List.length_replicate
theorem l_all {n1 m1 : Nat} (a : Lt d n1 m1 L) : leastN (L ++ leastN [z0 d]) = leastN [z0 d] := by
  rw [least_z]
  refine (least_ext (len_app a.len (len_z d)) (len_z d) fun t ht => ?_).trans (least_z d)
  have h : Up [z0 d] t := ⟨z0 d, List.mem_singleton.mpr rfl, by rw [← ht]; exact fit_z t⟩
  rw [up_app]
  exact ⟨fun _ => h, fun _ => .inr h⟩
theorem each_nil : ∀ L : List (List Nat), eachF f L [] = []
  | [] => rfl
  | _ :: L => each_nil L
theorem l_nothing (L : List (List Nat)) : leastN (eachF f L (leastN [])) = leastN [] := by
  show leastN (eachF f L []) = _
  rw [each_nil]
theorem l_twice {n1 m1 : Nat} (a : Lt d n1 m1 L) : leastN (L ++ L) = L := by
  rw [app_self a.len]
  exact a.own
theorem l_self {n1 m1 : Nat} (a : Lt d n1 m1 L) : leastN (eachF max L L) = L := by
  rw [show leastN (eachF max L L) = leastN L from least_ext (len_each a.len a.len) a.len fun t ht => by rw [up_meet a.len a.len ht, and_self]]
  exact a.own
/-! ### members -/
abbrev inB (L : List (List Nat)) (t : List Nat) : Bool := L.any fun k => fitB k t
theorem in_up {L : List (List Nat)} {t : List Nat} : inB L t = true ↔ Up L t := by
  rw [inB, List.any_eq_true]
theorem in_add (hL : Len d L) (hM : Len d M) (t : List Nat) : inB (leastN (L ++ M)) t = (inB L t || inB M t) := by
  rw [Bool.eq_iff_iff, Bool.or_eq_true, in_up, in_up, in_up, up_least (len_app hL hM), up_app]
theorem in_meet (hL : Len d L) (hM : Len d M) {t : List Nat} (ht : t.length = d) : inB (leastN (eachF max L M)) t = (inB L t && inB M t) := by
  rw [Bool.eq_iff_iff, Bool.and_eq_true, in_up, in_up, in_up, up_least (len_each hL hM), up_meet hL hM ht]
theorem fit_left : ∀ {a b : List Nat}, b.length = a.length → fitB a (List.zipWith (· + ·) a b) = true
  | [], _, _ => by simp [fitB]
  | _ :: _, [], h => by simp at h
  | x :: a, y :: b, h => fit_cons.mpr ⟨Nat.le_add_right _ _, fit_left (by simpa using h)⟩
theorem fit_right : ∀ {a b : List Nat}, b.length = a.length → fitB b (List.zipWith (· + ·) a b) = true
  | [], [], _ => rfl
  | [], _ :: _, h => by simp at h
  | _ :: _, [], h => by simp at h
  | x :: a, y :: b, h => fit_cons.mpr ⟨Nat.le_add_left _ _, fit_right (by simpa using h)⟩
theorem in_made (hL : Len d L) (hM : Len d M) {t : List Nat} (ht : t ∈ leastN (eachF (· + ·) L M)) : inB (leastN (eachF max L M)) t = true := by
  have h := (mem_least.mp ht).1
  have hl := len_each hL hM t h
  rw [in_meet hL hM hl, Bool.and_eq_true, in_up, in_up]
  obtain ⟨p, hp, h2⟩ := List.mem_flatMap.mp h
  obtain ⟨u, hu, rfl⟩ := List.mem_map.mp h2
  exact ⟨⟨p, hp, fit_left (by rw [hL p hp, hM u hu])⟩, u, hu, fit_right (by rw [hL p hp, hM u hu])⟩
end M7

/-! quotients and powers of lots by their least members -/
namespace M8
open M7
abbrev addN (a b : List Nat) : List Nat := List.zipWith (· + ·) a b
abbrev subN (a b : List Nat) : List Nat := List.zipWith (· - ·) a b
/-- the members without t -/
abbrev qN (L : List (List Nat)) (t : List Nat) : List (List Nat) := L.map fun u => subN u t
theorem fit_sub : ∀ {u t s : List Nat}, t.length = u.length → s.length = u.length → (fitB (subN u t) s = true ↔ fitB u (addN s t) = true)
  | [], _, _, _, _ => by simp [fitB, subN]
  | a :: u, [], _, h, _ => by simp at h
  | a :: u, _ :: _, [], _, h => by simp at h
  | a :: u, b :: t, c :: s, h1, h2 => by
    have ih := fit_sub (u := u) (t := t) (s := s) (by simpa using h1) (by simpa using h2)
    show (decide (a - b ≤ c) && fitB (subN u t) s) = true ↔ (decide (a ≤ c + b) && fitB u (addN s t)) = true
    rw [Bool.and_eq_true, Bool.and_eq_true, ih, decide_eq_true_iff, decide_eq_true_iff]
    exact and_congr_left fun _ => by omega
variable {d : Nat} {L M : List (List Nat)} {t u s : List Nat}
theorem len_add (ht : t.length = d) (hu : u.length = d) : (addN t u).length = d := by rw [List.length_zipWith]; omega
theorem len_sub (ht : t.length = d) (hu : u.length = d) : (subN t u).length = d := by rw [List.length_zipWith]; omega
theorem len_q (hL : Len d L) (ht : t.length = d) : Len d (qN L t) := fun v hv => by
  obtain ⟨u, hu, rfl⟩ := List.mem_map.mp hv
  exact len_sub (hL u hu) ht
theorem up_q (hL : Len d L) (ht : t.length = d) (hs : s.length = d) : Up (qN L t) s ↔ Up L (addN s t) := by
  constructor
  · rintro ⟨k, hk, hf⟩
    obtain ⟨u, hu, rfl⟩ := List.mem_map.mp hk
    exact ⟨u, hu, (fit_sub (by rw [ht, hL u hu]) (by rw [hs, hL u hu])).mp hf⟩
  · rintro ⟨u, hu, hf⟩
    exact ⟨_, List.mem_map_of_mem (f := fun u => subN u t) hu, (fit_sub (by rw [ht, hL u hu]) (by rw [hs, hL u hu])).mpr hf⟩
theorem add_assoc3 : addN (addN s u) t = addN s (addN t u) := by
  exact (zip_assoc (f := (· + ·)) Nat.add_assoc s u t).trans (congrArg (addN s) (zip_comm Nat.add_comm u t))
theorem q_q (hL : Len d L) (ht : t.length = d) (hu : u.length = d) : leastN (qN (leastN (qN L t)) u) = leastN (qN L (addN t u)) := by
  have h1 := len_least (len_q hL ht)
  refine least_ext (len_q h1 hu) (len_q hL (len_add ht hu)) fun s hs => ?_
  rw [up_q h1 hu hs, up_least (len_q hL ht), up_q hL ht (len_add hs hu), up_q hL (len_add ht hu) hs, add_assoc3]
theorem q_least (hL : Len d L) (ht : t.length = d) : leastN (qN (leastN L) t) = leastN (qN L t) :=
  least_ext (len_q (len_least hL) ht) (len_q hL ht) fun s hs => by rw [up_q (len_least hL) ht hs, up_q hL ht hs, up_least hL]
theorem q_add (hL : Len d L) (hM : Len d M) (ht : t.length = d) : leastN (qN (leastN (L ++ M)) t) = leastN (leastN (qN L t) ++ leastN (qN M t)) := by
  rw [q_least (len_app hL hM) ht, app_least (len_q hL ht) (len_q hM ht)]
  exact least_ext (len_q (len_app hL hM) ht) (len_app (len_q hL ht) (len_q hM ht)) fun s hs => by rw [up_q (len_app hL hM) ht hs, up_app, up_app, up_q hL ht hs, up_q hM ht hs]
theorem q_meet (hL : Len d L) (hM : Len d M) (ht : t.length = d) : leastN (qN (leastN (eachF max L M)) t) = leastN (eachF max (leastN (qN L t)) (leastN (qN M t))) := by
  have h3 := len_each (f := max) hL hM
  rw [q_least h3 ht, each_least grows_max (len_q hL ht) (len_q hM ht)]
  exact least_ext (len_q h3 ht) (len_each (len_q hL ht) (len_q hM ht)) fun s hs => by
    rw [up_q h3 ht hs, up_meet hL hM (len_add hs ht), up_meet (len_q hL ht) (len_q hM ht) hs, up_q hL ht hs, up_q hM ht hs]
theorem z_len : (z0 d).length = d := List.length_replicate
theorem z_addN : ∀ t : List Nat, addN (z0 t.length) t = t
  | [] => rfl
  | a :: t => by
    show (0 + a) :: addN (z0 t.length) t = a :: t
    rw [z_addN t, Nat.zero_add]
theorem in_q (hL : Len d L) (ht : t.length = d) (hs : s.length = d) : inB (leastN (qN L t)) s = inB L (addN s t) := by
  rw [Bool.eq_iff_iff, in_up, in_up, up_least (len_q hL ht), up_q hL ht hs]
theorem is_all (hL : Len d L) : leastN L = [z0 d] ↔ Up L (z0 d) := by
  constructor
  · intro h
    have : z0 d ∈ leastN L := by rw [h]; exact List.mem_singleton.mpr rfl
    exact ⟨_, (mem_least.mp this).1, fit_refl _⟩
  · rintro ⟨k, hk, hf⟩
    rw [← least_z d]
    refine least_ext hL (len_z d) fun s hs => ⟨fun _ => ⟨_, List.mem_singleton.mpr rfl, by rw [← hs]; exact fit_z s⟩, fun _ => ⟨k, hk, ?_⟩⟩
    exact fit_trans (u := z0 d) (by rw [z_len, hL k hk]) hf (by rw [← hs]; exact fit_z s)
theorem all_q (hL : Len d L) (ht : t.length = d) : decide (leastN (qN L t) = [z0 d]) = inB L t := by
  rw [Bool.eq_iff_iff, decide_eq_true_iff, is_all (len_q hL ht), in_up, up_q hL ht z_len]
  rw [show addN (z0 d) t = t by rw [← ht]; exact z_addN t]
theorem in_own (hL : Len d L) (ht : t.length = d) (hs : s ∈ L) : inB (leastN (qN L t)) s = true := by
  rw [in_q hL ht (hL s hs), in_up]
  exact ⟨s, hs, fit_left (by rw [ht, hL s hs])⟩
/-! ### powers -/
theorem least_canon (hL : Len d L) : leastN (canonN L) = leastN L :=
  least_ext (fun t ht => hL t (mem_canon.mp ht)) hL fun s _ => ⟨fun ⟨k, hk, h⟩ => ⟨k, mem_canon.mp hk, h⟩, fun ⟨k, hk, h⟩ => ⟨k, mem_canon.mpr hk, h⟩⟩
def pwN (d : Nat) (L : List (List Nat)) : Nat → List (List Nat)
  | 0 => [z0 d]
  | k + 1 => canonN (eachF (· + ·) (pwN d L k) L)
theorem len_pw (hL : Len d L) : ∀ k, Len d (pwN d L k)
  | 0 => len_z d
  | k + 1 => fun t ht => len_each (len_pw hL k) hL t (mem_canon.mp ht)
def wlN (d : Nat) (L : List (List Nat)) : Nat → List (List Nat)
  | 0 => [z0 d]
  | k + 1 => leastN (eachF (· + ·) (wlN d L k) L)
theorem wl_pw (hL : Len d L) (own : leastN L = L) : ∀ k, wlN d L k = leastN (pwN d L k)
  | 0 => (least_z d).symm
  | k + 1 => by
    show leastN (eachF (· + ·) (wlN d L k) L) = leastN (canonN _)
    rw [least_canon (len_each (len_pw hL k) hL), wl_pw hL own k]
    have h := each_least grows_add (len_pw hL k) hL
    rw [own] at h
    exact h
theorem wl_one (hL : Len d L) (own : leastN L = L) : wlN d L 1 = L := by
  show leastN (eachF (· + ·) [z0 d] L) = L
  rw [each_comm Nat.add_comm (len_z d) hL, each_z op_add hL, own]
theorem wl_two (hL : Len d L) (own : leastN L = L) : wlN d L 2 = leastN (eachF (· + ·) L L) := by
  show leastN (eachF (· + ·) (wlN d L 1) L) = _
  rw [wl_one hL own]
/-- words by their letters -/
def wdN (d : Nat) : Nat → List (List Nat) → List (List Nat)
  | 0, _ => [z0 d]
  | _ + 1, [] => []
  | k + 1, m :: L => (wdN d k (m :: L)).map (addN m) ++ wdN d (k + 1) L
termination_by k L => k + L.length
def cnt : Nat → Nat → Nat
  | 0, _ => 1
  | _ + 1, 0 => 0
  | k + 1, n + 1 => cnt k (n + 1) + cnt (k + 1) n
termination_by k n => k + n
theorem wd_len (d : Nat) : ∀ (k : Nat) (L : List (List Nat)), (wdN d k L).length = cnt k L.length
  | 0, _ => by rw [wdN, cnt]; rfl
  | _ + 1, [] => by rw [wdN]; show 0 = cnt _ 0; rw [cnt]
  | k + 1, m :: L => by
    rw [wdN, List.length_append, List.length_map, wd_len d k (m :: L), wd_len d (k + 1) L]
    show _ = cnt (k + 1) (L.length + 1)
    rw [cnt]
    rfl
termination_by k L => k + L.length
theorem wd_step (d : Nat) : ∀ (k : Nat) (L : List (List Nat)) (s m : List Nat), Len d L → s ∈ wdN d k L → m ∈ L → addN s m ∈ wdN d (k + 1) L
  | _, [], _, _, _, _, h => nomatch h
  | k, a :: L, s, m, hL, hs, hm => by
    rw [wdN]
    rcases List.mem_cons.mp hm with rfl | hm'
    · exact List.mem_append_left _ (List.mem_map.mpr ⟨s, hs, zip_comm Nat.add_comm m s⟩)
    · have hL' : Len d L := fun t ht => hL t (List.mem_cons_of_mem _ ht)
      cases k with
      | zero =>
        rw [wdN] at hs
        exact List.mem_append_right _ (wd_step d 0 L s m hL' (by rw [wdN]; exact hs) hm')
      | succ k =>
        have hs0 := hs
        rw [wdN] at hs
        rcases List.mem_append.mp hs with hs | hs
        · obtain ⟨s', hs', rfl⟩ := List.mem_map.mp hs
          refine List.mem_append_left _ (List.mem_map.mpr ⟨addN s' m, wd_step d k (a :: L) s' m hL hs' hm, ?_⟩)
          exact (zip_assoc Nat.add_assoc a s' m).symm
        · exact List.mem_append_right _ (wd_step d (k + 1) L s m hL' hs hm')
termination_by k L => k + L.length
theorem pw_wd (hL : Len d L) : ∀ k t, t ∈ pwN d L k → t ∈ wdN d k L
  | 0, t, h => by rw [wdN]; exact h
  | k + 1, t, h => by
    obtain ⟨s, hs, h⟩ := List.mem_flatMap.mp (mem_canon.mp h)
    obtain ⟨m, hm, rfl⟩ := List.mem_map.mp h
    exact wd_step d k L s m hL (pw_wd hL k s hs) hm
theorem nd_sub {α : Type} [DecidableEq α] : ∀ {l m : List α}, l.Nodup → (∀ x ∈ l, x ∈ m) → l.length ≤ m.length
  | [], _, _, _ => Nat.zero_le _
  | x :: l, m, h, sub => by
    obtain ⟨hx, hl⟩ := List.nodup_cons.mp h
    have ih := nd_sub (l := l) (m := m.erase x) hl fun y hy => (List.mem_erase_of_ne (fun e : y = x => hx (by rw [← e]; exact hy))).mpr (sub y (List.mem_cons_of_mem _ hy))
    have := List.length_erase_of_mem (sub x List.mem_cons_self)
    have pos := List.length_pos_of_mem (sub x List.mem_cons_self)
    rw [List.length_cons]
    omega
theorem cnt35 {k n : Nat} (hk : k ≤ 4) (hn : n ≤ 4) : cnt k n ≤ 35 := by
  have h : ∀ k ≤ 4, ∀ n ≤ 4, cnt k n ≤ 35 := by
    intro k hk n hn
    have e : k = 0 ∨ k = 1 ∨ k = 2 ∨ k = 3 ∨ k = 4 := by omega
    have e2 : n = 0 ∨ n = 1 ∨ n = 2 ∨ n = 3 ∨ n = 4 := by omega
    rcases e with rfl | rfl | rfl | rfl | rfl <;> rcases e2 with rfl | rfl | rfl | rfl | rfl <;> simp [cnt]
  exact h k hk n hn
theorem lt_irr : ∀ t : List Nat, ltN t t = false
  | [] => rfl
  | a :: t => by
    cases h : ltN (a :: t) (a :: t) with
    | false => rfl
    | true =>
      rcases lt_cons.mp h with z | ⟨_, z⟩
      · omega
      · rw [lt_irr t] at z
        cases z
theorem nd_asc {A : List (List Nat)} (h : Asc A) : A.Nodup := by
  rw [List.nodup_iff_pairwise_ne]
  exact List.Pairwise.imp (fun {a b} z e => by rw [e, lt_irr] at z; cases z) h
theorem pw_short (hL : Len d L) (h4 : L.length ≤ 4) {k : Nat} (hk : k ≤ 4) : (pwN d L k).length ≤ 35 := by
  refine Nat.le_trans ?_ (cnt35 hk h4)
  rw [← wd_len d k L]
  refine nd_sub ?_ (pw_wd hL k)
  cases k with
  | zero => exact List.nodup_cons.mpr ⟨fun h => (nomatch h), List.nodup_nil⟩
  | succ k => exact nd_asc (asc_canon (len_each (len_pw hL k) hL))
theorem wl_short (hL : Len d L) (own : leastN L = L) (h4 : L.length ≤ 4) {k : Nat} (hk : k ≤ 4) : (wlN d L k).length ≤ 35 := by
  rw [wl_pw hL own]
  exact Nat.le_trans (least_short _) (pw_short hL h4 hk)
/-- what is different of the next ones -/
theorem wl_next (hL : Len d L) (own : leastN L = L) (h4 : L.length ≤ 4) {k : Nat} (hk : k < 4) : (canonN (eachF (· + ·) (wlN d L k) L)).length ≤ 35 := by
  refine Nat.le_trans (nd_sub (nd_asc (asc_canon (len_each (by rw [wl_pw hL own]; exact len_least (len_pw hL k)) hL))) fun t ht => ?_) (pw_short hL h4 (k := k + 1) hk)
  refine mem_canon.mpr ?_
  obtain ⟨s, hs, h⟩ := List.mem_flatMap.mp (mem_canon.mp ht)
  rw [wl_pw hL own] at hs
  exact List.mem_flatMap.mpr ⟨s, (mem_least.mp hs).1, h⟩
theorem low_pw {m : Nat} (hl : ∀ t ∈ L, ∀ e ∈ t, e ≤ m) : ∀ k, ∀ t ∈ pwN d L k, ∀ e ∈ t, e ≤ k * m
  | 0, t, ht, e, he => by
    rw [List.mem_singleton.mp ht] at he
    have := List.eq_of_mem_replicate he
    omega
  | k + 1, t, ht, e, he => by
    have := low_each op_add (low_pw hl k) hl t (mem_canon.mp ht) e he
    rw [Nat.succ_mul]
    exact this
theorem low_wl {m : Nat} (hL : Len d L) (own : leastN L = L) (hl : ∀ t ∈ L, ∀ e ∈ t, e ≤ m) (k : Nat) : ∀ t ∈ wlN d L k, ∀ e ∈ t, e ≤ k * m := fun t ht => by
  rw [wl_pw hL own] at ht
  exact low_pw hl k t (mem_least.mp ht).1
theorem len_wl (hL : Len d L) (own : leastN L = L) (k : Nat) : Len d (wlN d L k) := by
  rw [wl_pw hL own]
  exact len_least (len_pw hL k)
end M8

/-! the numerator of a lot: plain Lean -/
namespace M12
open M7 M8
/-- later by k -/
def sh (k : Nat) (f : Nat → Int) : Nat → Int := fun j => if k ≤ j then f (j - k) else 0
def oneK : Nat → Int := fun j => if j = 0 then 1 else 0
theorem sh_sh (a b : Nat) (f : Nat → Int) : sh a (sh b f) = sh (a + b) f := by
  funext j
  simp only [sh]
  by_cases h : a + b ≤ j
  · rw [if_pos (show a ≤ j by omega), if_pos (show b ≤ j - a by omega), if_pos h, show j - a - b = j - (a + b) by omega]
  · rw [if_neg h]
    by_cases h1 : a ≤ j
    · rw [if_pos h1, if_neg (show ¬ b ≤ j - a by omega)]
    · rw [if_neg h1]
theorem sh_zero (f : Nat → Int) : sh 0 f = f := by
  funext j
  simp [sh]
theorem sh_sub (k : Nat) (f g : Nat → Int) : sh k (fun j => f j - g j) = fun j => sh k f j - sh k g j := by
  funext j
  simp only [sh]
  split
  · rfl
  · omega
/-- the numerator -/
def KN : List (List Nat) → Nat → Int
  | [] => oneK
  | m :: L => fun j => KN L j - sh m.sum (KN (qN L m)) j
termination_by L => L.length
decreasing_by all_goals simp [qN]
theorem K_nil : KN [] = oneK := by rw [KN]
theorem K_cons (m : List Nat) (L : List (List Nat)) : KN (m :: L) = fun j => KN L j - sh m.sum (KN (qN L m)) j := by rw [KN]
variable {d : Nat}
theorem sub_sub3 : ∀ {u a b : List Nat}, a.length = u.length → b.length = u.length → subN (subN u a) (subN b a) = subN (subN u b) (subN a b)
  | [], _, _, _, _ => rfl
  | _ :: _, [], _, h, _ => by simp at h
  | _ :: _, _ :: _, [], _, h => by simp at h
  | x :: u, y :: a, z :: b, h1, h2 => by
    have ih := sub_sub3 (u := u) (a := a) (b := b) (by simpa using h1) (by simpa using h2)
    show (x - y - (z - y)) :: subN (subN u a) (subN b a) = (x - z - (y - z)) :: subN (subN u b) (subN a b)
    rw [ih, show x - y - (z - y) = x - z - (y - z) by omega]
theorem sum_both : ∀ {a b : List Nat}, b.length = a.length → a.sum + (subN b a).sum = b.sum + (subN a b).sum
  | [], [], _ => rfl
  | [], _ :: _, h => by simp at h
  | _ :: _, [], h => by simp at h
  | x :: a, y :: b, h => by
    have ih := sum_both (a := a) (b := b) (by simpa using h)
    show (x :: a).sum + ((y - x) :: subN b a).sum = (y :: b).sum + ((x - y) :: subN a b).sum
    simp only [List.sum_cons]
    omega
theorem sub_z : ∀ t : List Nat, subN t (z0 t.length) = t
  | [] => rfl
  | x :: t => by
    show (x - 0) :: subN t (z0 t.length) = x :: t
    rw [sub_z t, Nat.sub_zero]
theorem q_z {L : List (List Nat)} (h : Len d L) : qN L (z0 d) = L := by
  have : ∀ u ∈ L, subN u (z0 d) = u := fun u hu => by rw [← h u hu]; exact sub_z u
  show L.map _ = L
  rw [List.map_congr_left this]
  exact List.map_id' L
theorem q_q3 {L : List (List Nat)} {a b : List Nat} (h : Len d L) (ha : a.length = d) (hb : b.length = d) : qN (qN L a) (subN b a) = qN (qN L b) (subN a b) := by
  show (L.map _).map _ = (L.map _).map _
  rw [List.map_map, List.map_map]
  exact List.map_congr_left fun u hu => sub_sub3 (by rw [h u hu, ha]) (by rw [h u hu, hb])
theorem sum_z : ∀ d : Nat, (z0 d).sum = 0
  | 0 => rfl
  | d + 1 => by
    show (0 :: z0 d).sum = 0
    rw [List.sum_cons, sum_z d]
theorem K_swap {L : List (List Nat)} {a b : List Nat} (h : Len d L) (ha : a.length = d) (hb : b.length = d) : KN (a :: b :: L) = KN (b :: a :: L) := by
  have e1 : qN (b :: L) a = subN b a :: qN L a := rfl
  have e2 : qN (a :: L) b = subN a b :: qN L b := rfl
  rw [K_cons a, K_cons b (a :: L), e1, e2, K_cons b L, K_cons a L, K_cons, K_cons, q_q3 h ha hb]
  rw [sh_sub, sh_sub, sh_sh, sh_sh, sum_both (a := a) (b := b) (by rw [hb, ha])]
  funext j
  show KN L j - sh b.sum (KN (qN L b)) j - (sh a.sum (KN (qN L a)) j - _) = KN L j - sh a.sum (KN (qN L a)) j - (sh b.sum (KN (qN L b)) j - _)
  omega
theorem len_cons {m : List Nat} {L : List (List Nat)} (h : Len d (m :: L)) : m.length = d ∧ Len d L := ⟨h m List.mem_cons_self, fun t ht => h t (List.mem_cons_of_mem _ ht)⟩
theorem K_perm : ∀ (n : Nat) {L M : List (List Nat)}, L.length ≤ n → L.Perm M → Len d L → KN L = KN M
  | 0, L, M, hn, hp, _ => by
    have : L = [] := List.eq_nil_of_length_eq_zero (by omega)
    subst this
    rw [hp.nil_eq]
  | n + 1, L, M, hn, hp, hl => by
    induction hp with
    | nil => rfl
    | @cons x A B hp _ =>
      obtain ⟨hx, hA⟩ := len_cons hl
      have hn' : A.length ≤ n := by simpa using hn
      rw [K_cons, K_cons, K_perm n hn' hp hA, K_perm n (by simpa [qN] using hn') (hp.map _) (len_q hA hx)]
    | swap a b A =>
      obtain ⟨hb, hA⟩ := len_cons hl
      obtain ⟨ha, hA⟩ := len_cons hA
      exact K_swap hA hb ha
    | @trans A B C h1 h2 i1 i2 =>
      have hl2 : Len d B := fun t ht => hl t (h1.mem_iff.mpr ht)
      rw [i1 hn hl, i2 (by rw [← h1.length_eq]; exact hn) hl2]
theorem K_of_perm {L M : List (List Nat)} (h : L.Perm M) (hl : Len d L) : KN L = KN M := K_perm L.length (Nat.le_refl _) h hl
theorem fit_sub0 : ∀ {a m : List Nat}, a.length = m.length → fitB a m = true → subN a m = z0 a.length
  | [], _, _, _ => rfl
  | _ :: _, [], h, _ => by simp at h
  | x :: a, y :: m, h, hf => by
    obtain ⟨h1, h2⟩ := fit_cons.mp hf
    show (x - y) :: subN a m = 0 :: z0 a.length
    rw [fit_sub0 (by simpa using h) h2, Nat.sub_eq_zero_of_le h1]
theorem K_absorb {L : List (List Nat)} {a m : List Nat} (h : Len d L) (hm : m.length = d) (ha : a ∈ L) (hf : fitB a m = true) : KN (m :: L) = KN L := by
  have hp := List.perm_cons_erase ha
  have hl2 : Len d (a :: L.erase a) := fun t ht => h t (hp.mem_iff.mpr ht)
  obtain ⟨had, hr⟩ := len_cons hl2
  have e1 : KN (m :: L) = KN (m :: a :: L.erase a) := K_of_perm (d := d) (hp.cons m) fun t ht => by
    rcases List.mem_cons.mp ht with rfl | ht
    · exact hm
    · exact h t ht
  have e2 : KN L = KN (a :: L.erase a) := K_of_perm hp h
  rw [e1, e2, K_cons m]
  have e3 : qN (a :: L.erase a) m = z0 d :: qN (L.erase a) m := by
    show subN a m :: _ = _
    rw [fit_sub0 (by rw [had, hm]) hf, had]
  rw [e3, K_cons (z0 d), q_z (len_q hr hm), sum_z, sh_zero]
  funext j
  show KN (a :: L.erase a) j - sh m.sum (fun j => KN (qN (L.erase a) m) j - KN (qN (L.erase a) m) j) j = KN (a :: L.erase a) j
  have : (fun j => KN (qN (L.erase a) m) j - KN (qN (L.erase a) m) j) = fun _ => 0 := by
    funext j
    omega
  rw [this]
  simp only [sh]
  split <;> omega
theorem K_app {M : List (List Nat)} (hM : Len d M) : ∀ {L : List (List Nat)}, Len d L → (∀ x ∈ L, Up M x) → KN (L ++ M) = KN M
  | [], _, _ => rfl
  | x :: L, hL, h => by
    obtain ⟨hx, hL⟩ := len_cons hL
    obtain ⟨a, ha, hf⟩ := h x List.mem_cons_self
    have hLM : Len d (L ++ M) := fun t ht => (List.mem_append.mp ht).elim (hL t) (hM t)
    rw [List.cons_append, K_absorb hLM hx (List.mem_append.mpr (.inr ha)) hf]
    exact K_app hM hL fun y hy => h y (List.mem_cons_of_mem _ hy)
theorem K_up {L M : List (List Nat)} (hL : Len d L) (hM : Len d M) (h1 : ∀ x ∈ L, Up M x) (h2 : ∀ x ∈ M, Up L x) : KN L = KN M := by
  rw [← K_app hM hL h1, ← K_app hL hM h2]
  exact (K_of_perm List.perm_append_comm (fun t ht => (List.mem_append.mp ht).elim (hL t) (hM t))).symm
theorem up_self {L : List (List Nat)} {x : List Nat} (h : x ∈ L) : Up L x := ⟨x, h, fit_refl x⟩
theorem K_least {L : List (List Nat)} (hL : Len d L) : KN (leastN L) = KN L :=
  K_up (len_least hL) hL (fun x hx => up_self (mem_least.mp hx).1) fun x hx => (up_least hL).mpr (up_self hx)
/-- a lot, with a product more, its quotient -/
theorem K_more {L : List (List Nat)} {m : List Nat} (hL : Len d L) (hm : m.length = d) : KN L = fun j => KN (leastN (L ++ [m])) j + sh m.sum (KN (leastN (qN L m))) j := by
  have h1 : Len d [m] := fun t ht => by rw [List.mem_singleton.mp ht]; exact hm
  have h2 : Len d (L ++ [m]) := fun t ht => (List.mem_append.mp ht).elim (hL t) (h1 t)
  rw [K_least h2, K_least (len_q hL hm), K_of_perm (List.perm_append_comm (l₁ := L) (l₂ := [m])) h2]
  show KN L = fun j => KN (m :: L) j + _
  rw [K_cons]
  funext j
  show KN L j = KN L j - sh m.sum (KN (qN L m)) j + sh m.sum (KN (qN L m)) j
  omega
/-! how great it is, how far it goes -/
theorem abs_sub (a b : Int) : (a - b).natAbs ≤ a.natAbs + b.natAbs := by omega
theorem K_abs : ∀ (n : Nat) (L : List (List Nat)), L.length ≤ n → ∀ j, (KN L j).natAbs ≤ 2 ^ L.length
  | _, [], _, j => by
    rw [K_nil]
    simp only [oneK]
    split <;> simp
  | n + 1, m :: L, hn, j => by
    have hn' : L.length ≤ n := by simpa using hn
    rw [K_cons]
    have h1 := K_abs n L hn' j
    have h2 : (sh m.sum (KN (qN L m)) j).natAbs ≤ 2 ^ L.length := by
      simp only [sh]
      split
      · have := K_abs n (qN L m) (by simpa [qN] using hn') (j - m.sum)
        rw [show (qN L m).length = L.length by simp [qN]] at this
        exact this
      · simp
    have h3 := abs_sub (KN L j) (sh m.sum (KN (qN L m)) j)
    rw [List.length_cons, Nat.pow_succ]
    show (KN L j - sh m.sum (KN (qN L m)) j).natAbs ≤ _
    omega
  | 0, _ :: _, hn, _ => by simp at hn
theorem fit_sub_mono : ∀ {u b m : List Nat}, u.length = b.length → m.length = b.length → fitB u b = true → fitB (subN u m) (subN b m) = true
  | [], _, _, _, _, _ => rfl
  | _ :: _, [], _, h, _, _ => by simp at h
  | _ :: _, _ :: _, [], _, h, _ => by simp at h
  | x :: u, y :: b, z :: m, h1, h2, hf => by
    obtain ⟨k1, k2⟩ := fit_cons.mp hf
    show fitB ((x - z) :: subN u m) ((y - z) :: subN b m) = true
    exact fit_cons.mpr ⟨by omega, fit_sub_mono (by simpa using h1) (by simpa using h2) k2⟩
theorem K_far : ∀ (n : Nat) (L : List (List Nat)) (b : List Nat), L.length ≤ n → (∀ t ∈ L, t.length = b.length ∧ fitB t b = true) → ∀ j, b.sum < j → KN L j = 0
  | _, [], b, _, _, j, hj => by
    rw [K_nil]
    simp only [oneK]
    rw [if_neg (by omega)]
  | n + 1, m :: L, b, hn, h, j, hj => by
    have hn' : L.length ≤ n := by simpa using hn
    obtain ⟨hm, hf⟩ := h m List.mem_cons_self
    rw [K_cons]
    have h1 := K_far n L b hn' (fun t ht => h t (List.mem_cons_of_mem _ ht)) j hj
    have hs := sum_both (a := m) (b := b) (by rw [hm])
    have hz : (subN m b).sum = 0 := by rw [fit_sub0 hm hf, sum_z]
    have h2 : sh m.sum (KN (qN L m)) j = 0 := by
      simp only [sh]
      split
      · refine K_far n (qN L m) (subN b m) (by simpa [qN] using hn') (fun t ht => ?_) _ (by omega)
        obtain ⟨u, hu, rfl⟩ := List.mem_map.mp ht
        obtain ⟨k1, k2⟩ := h u (List.mem_cons_of_mem _ hu)
        refine ⟨by rw [List.length_zipWith, List.length_zipWith]; omega, ?_⟩
        refine fit_sub_mono (by rw [k1]) (by rw [hm]) k2
      · rfl
    show KN L j - sh m.sum (KN (qN L m)) j = 0
    rw [h1, h2]
    rfl
  | 0, _ :: _, _, hn, _, _, _ => by simp at hn
end M12

/-! splitting by a power of a letter; lots whose members share no letter -/
namespace M12
open M7 M8
variable {d : Nat}
abbrev at0 (t : List Nat) (x : Nat) : Nat := t.getD x 0
/-- the power of a letter -/
def powN (d x e : Nat) : List Nat := (z0 d).set x e
theorem pow_len (d x e : Nat) : (powN d x e).length = d := by simp [powN]
theorem fit_at : ∀ {t u : List Nat}, u.length = t.length → fitB t u = true → ∀ x, at0 t x ≤ at0 u x
  | [], _, _, _, x => by simp [at0]
  | _ :: _, [], h, _, _ => by simp at h
  | a :: t, b :: u, h, hf, x => by
    obtain ⟨h1, h2⟩ := fit_cons.mp hf
    cases x with
    | zero => exact h1
    | succ x => exact fit_at (t := t) (u := u) (by simpa using h) h2 x
theorem fit_of : ∀ {t u : List Nat}, u.length = t.length → (∀ x, x < t.length → at0 t x ≤ at0 u x) → fitB t u = true
  | [], _, _, _ => rfl
  | _ :: _, [], h, _ => by simp at h
  | a :: t, b :: u, h, hx => fit_cons.mpr ⟨hx 0 (by simp), fit_of (by simpa using h) fun x hl => hx (x + 1) (by simpa using hl)⟩
theorem at_le_sum : ∀ (t : List Nat) (x : Nat), at0 t x ≤ t.sum
  | [], x => by simp [at0]
  | a :: t, 0 => by
    show a ≤ (a :: t).sum
    rw [List.sum_cons]
    omega
  | a :: t, x + 1 => by
    have := at_le_sum t x
    show at0 t x ≤ (a :: t).sum
    rw [List.sum_cons]
    omega
theorem at_two : ∀ (t : List Nat) (x y : Nat), x ≠ y → at0 t x + at0 t y ≤ t.sum
  | [], x, y, _ => by simp [at0]
  | a :: t, 0, 0, h => absurd rfl h
  | a :: t, 0, y + 1, _ => by
    have := at_le_sum t y
    show a + at0 t y ≤ (a :: t).sum
    rw [List.sum_cons]
    omega
  | a :: t, x + 1, 0, _ => by
    have := at_le_sum t x
    show at0 t x + a ≤ (a :: t).sum
    rw [List.sum_cons]
    omega
  | a :: t, x + 1, y + 1, h => by
    have := at_two t x y (fun e => h (by rw [e]))
    show at0 t x + at0 t y ≤ (a :: t).sum
    rw [List.sum_cons]
    omega
/-- a power of one letter divides what has as much of it -/
theorem pure_fit {r q : List Nat} {x : Nat} (hl : q.length = r.length) (hp : r.sum ≤ at0 r x) (h : at0 r x ≤ at0 q x) : fitB r q = true := fit_of hl fun y _ => by
  by_cases e : y = x
  · rw [e]; exact h
  · have := at_two r y x e
    omega
theorem pow_at (d x e y : Nat) : at0 (powN d x e) y = if y = x ∧ x < d then e else 0 := by
  unfold at0 powN
  rw [List.getD_eq_getElem?_getD, List.getElem?_set]
  by_cases h : x = y
  · subst h
    rw [if_pos rfl, List.length_replicate]
    by_cases h2 : x < d
    · rw [if_pos h2, if_pos ⟨rfl, h2⟩]; rfl
    · rw [if_neg h2, if_neg (fun z => h2 z.2)]; rfl
  · rw [if_neg h, if_neg (fun z => h z.1.symm), List.getElem?_replicate]
    split <;> rfl
theorem sum_set : ∀ (t : List Nat) (x e : Nat), x < t.length → (t.set x e).sum + at0 t x = t.sum + e
  | [], x, _, h => by simp at h
  | a :: t, 0, e, _ => by
    show (e :: t).sum + a = (a :: t).sum + e
    rw [List.sum_cons, List.sum_cons]
    omega
  | a :: t, x + 1, e, h => by
    have := sum_set t x e (by simpa using h)
    show (a :: t.set x e).sum + at0 t x = (a :: t).sum + e
    rw [List.sum_cons, List.sum_cons]
    omega
theorem pow_sum {d x : Nat} (e : Nat) (h : x < d) : (powN d x e).sum = e := by
  have := sum_set (z0 d) x e (by simpa using h)
  rw [sum_z] at this
  have e2 : at0 (z0 d) x = 0 := by
    unfold at0
    rw [List.getD_eq_getElem?_getD, List.getElem?_replicate]
    split <;> rfl
  rw [e2] at this
  unfold powN
  omega
theorem sub_at : ∀ (t u : List Nat) (x : Nat), u.length = t.length → at0 (subN t u) x = at0 t x - at0 u x
  | [], [], x, _ => by simp [at0]
  | [], _ :: _, _, h => by simp at h
  | _ :: _, [], _, h => by simp at h
  | a :: t, b :: u, 0, _ => rfl
  | a :: t, b :: u, x + 1, h => sub_at t u x (by simpa using h)
/-! ### sums over lists -/
abbrev sumS (L : List (List Nat)) : Nat := (L.map List.sum).sum
theorem sumS_part (p : List Nat → Bool) : ∀ L : List (List Nat), sumS (L.filter p) + sumS (L.filter fun t => !p t) = sumS L
  | [] => rfl
  | t :: L => by
    have ih := sumS_part p L
    simp only [sumS] at ih ⊢
    cases h : p t <;> simp only [List.filter_cons, h, if_true, Bool.not_true, Bool.not_false, List.map_cons, List.sum_cons] <;> simp <;> omega
theorem sumS_mem {L : List (List Nat)} {t : List Nat} (h : t ∈ L) : t.sum ≤ sumS L := by
  induction L with
  | nil => cases h
  | cons a L ih =>
    rw [sumS, List.map_cons, List.sum_cons]
    rcases List.mem_cons.mp h with rfl | h
    · omega
    · have := ih h
      simp only [sumS] at this
      omega
theorem sumS_app (L M : List (List Nat)) : sumS (L ++ M) = sumS L + sumS M := by simp [sumS]
theorem sumS_sub : ∀ {l m : List (List Nat)}, l.Nodup → (∀ x ∈ l, x ∈ m) → sumS l ≤ sumS m
  | [], m, _, _ => Nat.zero_le _
  | a :: l, m, hn, h => by
    obtain ⟨h1, h2⟩ := List.nodup_cons.mp hn
    have ha := h a List.mem_cons_self
    have hp := List.perm_cons_erase ha
    have e : sumS m = sumS (a :: m.erase a) := (hp.map List.sum).sum_nat
    have ih := sumS_sub (l := l) (m := m.erase a) h2 fun x hx => (List.mem_erase_of_ne (fun z => h1 (by rw [← z]; exact hx))).mpr (h x (List.mem_cons_of_mem _ hx))
    rw [e]
    simp only [sumS, List.map_cons, List.sum_cons] at ih ⊢
    omega
theorem sumS_map_lt {f : List Nat → List Nat} {L : List (List Nat)} (hle : ∀ t ∈ L, (f t).sum ≤ t.sum) {r : List Nat} (hr : r ∈ L) (hlt : (f r).sum < r.sum) : sumS (L.map f) < sumS L := by
  induction L with
  | nil => cases hr
  | cons a L ih =>
    have h1 := hle a List.mem_cons_self
    have hall : sumS (L.map f) ≤ sumS L := by
      clear ih hr h1
      have hle' : ∀ t ∈ L, (f t).sum ≤ t.sum := fun t ht => hle t (List.mem_cons_of_mem _ ht)
      clear hle
      induction L with
      | nil => exact Nat.le_refl _
      | cons b L ih2 =>
        have h2 := hle' b List.mem_cons_self
        have h3 := ih2 fun t ht => hle' t (List.mem_cons_of_mem _ ht)
        simp only [sumS, List.map_cons, List.sum_cons] at h3 ⊢
        omega
    simp only [sumS, List.map_cons, List.sum_cons] at hall ⊢
    rcases List.mem_cons.mp hr with rfl | hr
    · omega
    · have := ih (fun t ht => hle t (List.mem_cons_of_mem _ ht)) hr
      simp only [sumS] at this
      omega
/-! ### rows of a lot -/
structure Ant (d : Nat) (L : List (List Nat)) : Prop where
  len : Len d L
  nd : L.Nodup
  one : ∀ p ∈ L, ∀ q ∈ L, fitB p q = true → p = q
theorem ant_least {L : List (List Nat)} (h : Len d L) : Ant d (leastN L) := ⟨len_least h, nd_asc (asc_least h), fun p hp q hq hf => (mem_least.mp hq).2 p (mem_least.mp hp).1 hf⟩
theorem ant_own {L : List (List Nat)} (h : Len d L) (o : leastN L = L) : Ant d L := o ▸ ant_least h
/-- those that share a letter -/
abbrev cntN (L : List (List Nat)) (x : Nat) : Nat := (L.filter fun r => decide (0 < at0 r x)).length
theorem two_of {α : Type} : ∀ {l : List α}, l.Nodup → 2 ≤ l.length → ∃ a ∈ l, ∃ b ∈ l, a ≠ b
  | [], _, h => by simp at h
  | [_], _, h => by simp at h
  | a :: b :: l, hn, _ => ⟨a, List.mem_cons_self, b, List.mem_cons_of_mem _ List.mem_cons_self, fun e => (List.nodup_cons.mp hn).1 (e ▸ List.mem_cons_self)⟩
theorem proper {L : List (List Nat)} {x : Nat} (h : Ant d L) (h2 : 2 ≤ cntN L x) : ∃ r ∈ L, 0 < at0 r x ∧ at0 r x < r.sum := by
  obtain ⟨a, ha, b, hb, ne⟩ := two_of (h.nd.sublist List.filter_sublist) h2
  obtain ⟨ha, ha0⟩ := List.mem_filter.mp ha
  obtain ⟨hb, hb0⟩ := List.mem_filter.mp hb
  have ha0 := of_decide_eq_true ha0
  have hb0 := of_decide_eq_true hb0
  by_cases h1 : at0 a x < a.sum
  · exact ⟨a, ha, ha0, h1⟩
  by_cases h3 : at0 b x < b.sum
  · exact ⟨b, hb, hb0, h3⟩
  exfalso
  have la := h.len a ha
  have lb := h.len b hb
  rcases Nat.le_total (at0 a x) (at0 b x) with k | k
  · exact ne (h.one a ha b hb (pure_fit (by rw [la, lb]) (by omega) k))
  · exact ne (h.one b hb a ha (pure_fit (by rw [la, lb]) (by omega) k)).symm
def withN (d : Nat) (L : List (List Nat)) (x e : Nat) : List (List Nat) := (L.filter fun r => decide (at0 r x < e)) ++ [powN d x e]
def withoutN (d : Nat) (L : List (List Nat)) (x e : Nat) : List (List Nat) := leastN (qN L (powN d x e))
/-- what holds of the rows that wait -/
structure Way (d : Nat) (b : List Nat) (L : List (List Nat)) : Prop where
  ant : Ant d L
  bl : b.length = d
  low : ∀ r ∈ L, fitB r b = true
section
variable {L : List (List Nat)} {b r : List Nat} {x : Nat}
theorem pow_fit (hl : r.length = d) {e : Nat} (h : e ≤ at0 r x) : fitB (powN d x e) r = true := fit_of (by rw [pow_len, hl]) fun y _ => by
  rw [pow_at]
  split
  · next z => rw [z.1]; exact h
  · exact Nat.zero_le _
theorem fit_pow (hl : r.length = d) (hx : x < d) {e : Nat} (h : fitB r (powN d x e) = true) : r.sum ≤ at0 r x ∧ at0 r x ≤ e := by
  have hs := M7.fit_sum (t := r) (u := powN d x e) (by rw [pow_len, hl]) h
  have ha := fit_at (by rw [pow_len, hl]) h
  have hxe := ha x
  rw [pow_at, if_pos ⟨rfl, hx⟩] at hxe
  refine ⟨?_, hxe⟩
  -- all others are 0
  have h0 : ∀ y, y ≠ x → at0 r y = 0 := fun y hy => by
    have := ha y
    rw [pow_at, if_neg (fun z => hy z.1)] at this
    omega
  clear hs ha h hxe
  induction r generalizing d x with
  | nil => simp at hl; omega
  | cons a r ih =>
    cases x with
    | zero =>
      show (a :: r).sum ≤ a
      have : r.sum = 0 := by
        clear ih hl hx
        have h1 : ∀ y, at0 r y = 0 := fun y => h0 (y + 1) (by omega)
        clear h0
        induction r with
        | nil => rfl
        | cons c r ih =>
          have e1 : c = 0 := h1 0
          rw [List.sum_cons, e1, ih fun y => h1 (y + 1)]
      rw [List.sum_cons, this]
      omega
    | succ x =>
      have e1 : a = 0 := h0 0 (by omega)
      have := ih (d := d - 1) (x := x) (by simp at hl; omega) (by omega) fun y hy => h0 (y + 1) (by omega)
      show (a :: r).sum ≤ at0 r x
      rw [List.sum_cons, e1]
      omega
theorem way_with (w : Way d b L) (hr : r ∈ L) (hx : x < d) (h0 : 0 < at0 r x) (h1 : at0 r x < r.sum) : Way d b (withN d L x (at0 r x)) ∧ sumS (withN d L x (at0 r x)) < sumS L ∧ (withN d L x (at0 r x)).length ≤ L.length := by
  have hrl := w.ant.len r hr
  have hsub : ∀ p, p ∈ (L.filter fun q => decide (at0 q x < at0 r x)) → p ∈ L ∧ at0 p x < at0 r x := fun p hp => ⟨(List.mem_filter.mp hp).1, of_decide_eq_true (List.mem_filter.mp hp).2⟩
  refine ⟨⟨⟨fun t ht => ?_, ?_, ?_⟩, w.bl, fun t ht => ?_⟩, ?_, ?_⟩
  · rcases List.mem_append.mp ht with ht | ht
    · exact w.ant.len t (hsub t ht).1
    · rw [List.mem_singleton.mp ht, pow_len]
  · refine List.nodup_append.mpr ⟨w.ant.nd.sublist List.filter_sublist, by simp, fun p hp q hq e => ?_⟩
    rw [List.mem_singleton.mp hq] at e
    have := (hsub p hp).2
    rw [e, pow_at, if_pos ⟨rfl, hx⟩] at this
    omega
  · intro p hp q hq hf
    rcases List.mem_append.mp hp with hp | hp <;> rcases List.mem_append.mp hq with hq | hq
    · exact w.ant.one p (hsub p hp).1 q (hsub q hq).1 hf
    · rw [List.mem_singleton.mp hq] at hf
      obtain ⟨k1, k2⟩ := fit_pow (w.ant.len p (hsub p hp).1) hx hf
      have := w.ant.one p (hsub p hp).1 r hr (pure_fit (by rw [hrl, w.ant.len p (hsub p hp).1]) k1 (Nat.le_of_lt (hsub p hp).2))
      have := (hsub p hp).2
      simp_all
    · rw [List.mem_singleton.mp hp] at hf
      have := fit_at (by rw [pow_len, w.ant.len q (hsub q hq).1]) hf x
      rw [pow_at, if_pos ⟨rfl, hx⟩] at this
      have := (hsub q hq).2
      omega
    · rw [List.mem_singleton.mp hp, List.mem_singleton.mp hq]
  · rcases List.mem_append.mp ht with ht | ht
    · exact w.low t (hsub t ht).1
    · rw [List.mem_singleton.mp ht]
      exact pow_fit w.bl (fit_at (by rw [w.bl, hrl]) (w.low r hr) x)
  · rw [withN, sumS_app]
    have h2 : sumS [powN d x (at0 r x)] = at0 r x := by
      show (powN d x (at0 r x)).sum + 0 = _
      rw [pow_sum _ hx]
      rfl
    have h3 := sumS_part (fun q => decide (at0 q x < at0 r x)) L
    have h4 : r.sum ≤ sumS (L.filter fun t => !decide (at0 t x < at0 r x)) := sumS_mem (List.mem_filter.mpr ⟨hr, by simp⟩)
    omega
  · rw [withN, List.length_append]
    have h5 : (L.filter fun q => decide (at0 q x < at0 r x)).length < L.length := by
      refine List.length_filter_lt_length_iff_exists.mpr ⟨r, hr, by simp⟩
    show _ + 1 ≤ _
    omega
theorem way_without (w : Way d b L) (hr : r ∈ L) (hx : x < d) (h0 : 0 < at0 r x) : Way d (subN b (powN d x (at0 r x))) (withoutN d L x (at0 r x)) ∧ sumS (withoutN d L x (at0 r x)) < sumS L ∧ (withoutN d L x (at0 r x)).length ≤ L.length ∧ (subN b (powN d x (at0 r x))).sum + at0 r x = b.sum := by
  have hrl := w.ant.len r hr
  have hfb : fitB (powN d x (at0 r x)) b = true := pow_fit w.bl (fit_at (by rw [w.bl, hrl]) (w.low r hr) x)
  have hq := len_q w.ant.len (pow_len d x (at0 r x))
  have hsum : ∀ {t : List Nat}, t.length = d → at0 r x ≤ at0 t x → (subN t (powN d x (at0 r x))).sum + at0 r x = t.sum := fun {t} ht hle => by
    have h1 := sum_both (a := powN d x (at0 r x)) (b := t) (by rw [pow_len, ht])
    rw [fit_sub0 (by rw [pow_len, ht]) (pow_fit ht hle), sum_z, pow_sum _ hx] at h1
    omega
  refine ⟨⟨ant_least hq, by rw [List.length_zipWith, w.bl, pow_len, Nat.min_self], fun t ht => ?_⟩, ?_, ?_, hsum w.bl (fit_at (by rw [w.bl, hrl]) (w.low r hr) x)⟩
  · obtain ⟨u, hu, rfl⟩ := List.mem_map.mp (mem_least.mp ht).1
    exact fit_sub_mono (by rw [w.bl, w.ant.len u hu]) (by rw [pow_len, w.bl]) (w.low u hu)
  · refine Nat.lt_of_le_of_lt (sumS_sub (ant_least hq).nd fun t ht => (mem_least.mp ht).1) (sumS_map_lt (fun t ht => ?_) hr ?_)
    · have := sum_both (a := powN d x (at0 r x)) (b := t) (by rw [pow_len, w.ant.len t ht])
      have h2 := pow_sum (at0 r x) hx
      have h3 : (subN (powN d x (at0 r x)) t).sum ≤ at0 r x := by
        have h4 := sum_both (a := t) (b := powN d x (at0 r x)) (by rw [pow_len, w.ant.len t ht])
        have h5 : ∀ {u v : List Nat}, v.length = u.length → (subN u v).sum ≤ u.sum := fun {u v} hl => by
          have : fitB (subN u v) u = true := fit_of (by rw [List.length_zipWith, hl, Nat.min_self]) fun y _ => by
            rw [sub_at u v y hl]
            omega
          exact (M7.fit_sum (by rw [List.length_zipWith, hl, Nat.min_self]) this).1
        have := h5 (u := powN d x (at0 r x)) (v := t) (by rw [pow_len, w.ant.len t ht])
        omega
      omega
    · have := hsum hrl (Nat.le_refl _)
      omega
  · exact Nat.le_trans (least_short _) (by rw [qN, List.length_map]; exact Nat.le_refl _)
theorem K_split (h : Len d L) (hx : x < d) (e : Nat) : KN L = fun j => KN (withN d L x e) j + sh e (KN (withoutN d L x e)) j := by
  have h1 : Len d [powN d x e] := fun t ht => by rw [List.mem_singleton.mp ht, pow_len]
  have h2 : Len d (L ++ [powN d x e]) := fun t ht => (List.mem_append.mp ht).elim (h t) (h1 t)
  have h3 : Len d (withN d L x e) := fun t ht => (List.mem_append.mp ht).elim (fun k => h t (List.mem_filter.mp k).1) (h1 t)
  have e1 : KN (withN d L x e) = KN (L ++ [powN d x e]) := K_up h3 h2 (fun t ht => by
      rcases List.mem_append.mp ht with ht | ht
      · exact up_self (List.mem_append.mpr (.inl (List.mem_filter.mp ht).1))
      · exact up_self (List.mem_append.mpr (.inr ht))) (fun t ht => by
      rcases List.mem_append.mp ht with ht | ht
      · by_cases k : at0 t x < e
        · exact up_self (List.mem_append.mpr (.inl (List.mem_filter.mpr ⟨ht, decide_eq_true k⟩)))
        · exact ⟨powN d x e, List.mem_append.mpr (.inr (List.mem_singleton.mpr rfl)), pow_fit (h t ht) (by omega)⟩
      · exact up_self (List.mem_append.mpr (.inr ht)))
  rw [e1, K_of_perm (List.perm_append_comm (l₁ := L) (l₂ := [powN d x e])) h2]
  show KN L = fun j => KN (powN d x e :: L) j + _
  rw [K_cons, pow_sum e hx, withoutN, K_least (len_q h (pow_len d x e))]
  funext j
  show KN L j = KN L j - sh e (KN (qN L (powN d x e))) j + sh e (KN (qN L (powN d x e))) j
  omega
end
/-! ### rows that share no letter -/
def Dis (u r : List Nat) : Prop := ∀ x, at0 u x = 0 ∨ at0 r x = 0
theorem dis_of : ∀ {L : List (List Nat)}, Len d L → (∀ x, x < d → cntN L x ≤ 1) → L.Pairwise Dis
  | [], _, _ => .nil
  | r :: L, hl, h => by
    obtain ⟨hr, hL⟩ := len_cons hl
    refine List.pairwise_cons.mpr ⟨fun u hu x => ?_, dis_of hL fun x hx => Nat.le_trans ?_ (h x hx)⟩
    · by_cases hx : x < d
      · by_cases h1 : at0 r x = 0
        · exact .inl h1
        · refine .inr ?_
          by_cases h2 : at0 u x = 0
          · exact h2
          · exfalso
            have := h x hx
            unfold cntN at this
            rw [List.filter_cons, if_pos (by rw [decide_eq_true_iff]; omega), List.length_cons] at this
            have h3 : 0 < (L.filter fun r => decide (0 < at0 r x)).length := List.length_pos_of_mem (List.mem_filter.mpr ⟨hu, by rw [decide_eq_true_iff]; omega⟩)
            omega
      · refine .inl ?_
        unfold at0
        rw [List.getD_eq_getElem?_getD, List.getElem?_eq_none (by omega)]
        rfl
    · unfold cntN
      rw [List.filter_cons]
      split
      · rw [List.length_cons]
        omega
      · exact Nat.le_refl _
theorem sub_dis {u r : List Nat} (hl : r.length = u.length) (h : Dis u r) : subN u r = u := by
  refine List.ext_getElem (by rw [List.length_zipWith, hl, Nat.min_self]) fun i h1 h2 => ?_
  have e1 : at0 (subN u r) i = at0 u i - at0 r i := sub_at u r i hl
  have e2 : at0 (subN u r) i = (subN u r)[i] := by unfold at0; rw [List.getD_eq_getElem?_getD, List.getElem?_eq_getElem h1]; rfl
  have e3 : at0 u i = u[i] := by unfold at0; rw [List.getD_eq_getElem?_getD, List.getElem?_eq_getElem h2]; rfl
  rcases h i with k | k <;> omega
theorem K_next {A : List (List Nat)} {r : List Nat} (hA : Len d A) (hr : r.length = d) (h : ∀ u ∈ A, Dis u r) : KN (A ++ [r]) = fun j => KN A j - sh r.sum (KN A) j := by
  have h1 : Len d (A ++ [r]) := fun t ht => (List.mem_append.mp ht).elim (hA t) fun k => by rw [List.mem_singleton.mp k]; exact hr
  rw [K_of_perm (List.perm_append_comm (l₁ := A) (l₂ := [r])) h1]
  show KN (r :: A) = _
  rw [K_cons]
  have e : qN A r = A := by
    show A.map _ = A
    exact (List.map_congr_left fun u hu => sub_dis (by rw [hr, hA u hu]) (h u hu)).trans (List.map_id' A)
  rw [e]
theorem apart_sum : ∀ {L : List (List Nat)} {b : List Nat}, (∀ r ∈ L, r.length = b.length ∧ fitB r b = true) → L.Pairwise Dis → sumS L ≤ b.sum
  | [], _, _, _ => Nat.zero_le _
  | r :: L, b, h, hd => by
    obtain ⟨h1, h2⟩ := List.pairwise_cons.mp hd
    obtain ⟨hrl, hrf⟩ := h r List.mem_cons_self
    have hb := sum_both (a := r) (b := b) (by rw [hrl])
    rw [fit_sub0 hrl hrf, sum_z] at hb
    have ih := apart_sum (L := L) (b := subN b r) (fun u hu => by
      obtain ⟨k1, k2⟩ := h u (List.mem_cons_of_mem _ hu)
      have kl : (subN b r).length = b.length := by rw [List.length_zipWith, hrl, Nat.min_self]
      refine ⟨by rw [k1, kl], fit_of (by rw [k1, kl]) fun x _ => ?_⟩
      rw [sub_at b r x (by rw [hrl])]
      have k3 := fit_at (by rw [k1]) k2 x
      have k4 := fit_at (by rw [hrl]) hrf x
      rcases h1 u hu x with k | k <;> omega) h2
    simp only [sumS, List.map_cons, List.sum_cons] at ih ⊢
    omega
end M12

/-! dicts from numbers to numbers -/
namespace DD
open PySem PySem.Spec PyProof.Rows L2
/-- the entry of j -/
abbrev entK (f : Nat → Int) (j : Nat) : Key × V := (Sum.inl ((j : Nat) : Int), V.int (f j))
theorem key_eq {i j : Nat} : ((Sum.inl ((i : Nat) : Int) : Key) = Sum.inl ((j : Nat) : Int)) ↔ i = j := by
  constructor
  · intro h
    have := Sum.inl.inj h
    omega
  · intro h
    rw [h]
theorem val_ent (f : Nat → Int) (j : Nat) : ∀ ks : List Nat, valV (ks.map (entK f)) (Sum.inl ((j : Nat) : Int)) = if j ∈ ks then some (.int (f j)) else none
  | [] => rfl
  | k :: ks => by
    rw [List.map_cons]
    by_cases h : k = j
    · rw [valV_pos (key_eq.mpr h), if_pos (h ▸ List.mem_cons_self), h]
    · rw [valV_neg (fun z => h (key_eq.mp z)), val_ent f j ks]
      by_cases hm : j ∈ ks
      · rw [if_pos hm, if_pos (List.mem_cons_of_mem _ hm)]
      · rw [if_neg hm, if_neg (fun z => (List.mem_cons.mp z).elim (fun e => h e.symm) hm)]
theorem any_ent (f : Nat → Int) (j : Nat) (ks : List Nat) : ((ks.map (entK f)).any fun kv => decide (kv.1 = Sum.inl ((j : Nat) : Int))) = decide (j ∈ ks) := by
  rw [valV_any, val_ent]
  by_cases h : j ∈ ks
  · rw [if_pos h, decide_eq_true h]; rfl
  · rw [if_neg h, decide_eq_false h]; rfl
theorem put_ent (f : Nat → Int) (j : Nat) (v : Int) (ks : List Nat) : putK (ks.map (entK f)) (Sum.inl ((j : Nat) : Int)) (.int v) = (if j ∈ ks then ks else ks ++ [j]).map (entK fun i => if i = j then v else f i) := by
  unfold putK
  rw [any_ent]
  by_cases h : j ∈ ks
  · rw [if_pos (decide_eq_true h), if_pos h, List.map_map]
    refine List.map_congr_left fun i _ => ?_
    show (if (entK f i).1 = _ then _ else _) = _
    by_cases e : i = j
    · rw [if_pos (key_eq.mpr e)]
      show ((Sum.inl ((i : Nat) : Int) : Key), V.int v) = _
      rw [show entK (fun i => if i = j then v else f i) i = ((Sum.inl ((i : Nat) : Int) : Key), V.int (if i = j then v else f i)) from rfl, if_pos e]
    · rw [if_neg (fun z => e (key_eq.mp z))]
      rw [show entK (fun i => if i = j then v else f i) i = ((Sum.inl ((i : Nat) : Int) : Key), V.int (if i = j then v else f i)) from rfl, if_neg e]
  · rw [if_neg (by rw [decide_eq_false h]; decide), if_neg h, List.map_append]
    congr 1
    · refine List.map_congr_left fun i hi => ?_
      rw [show entK (fun i => if i = j then v else f i) i = ((Sum.inl ((i : Nat) : Int) : Key), V.int (if i = j then v else f i)) from rfl, if_neg (fun e : i = j => h (by rw [← e]; exact hi))]
    · show _ = [entK (fun i => if i = j then v else f i) j]
      rw [show entK (fun i => if i = j then v else f i) j = ((Sum.inl ((j : Nat) : Int) : Key), V.int (if j = j then v else f j)) from rfl, if_pos rfl]
/-- a dict of f: its keys, f is 0 elsewhere -/
structure DK (f : Nat → Int) (ks : List Nat) : Prop where
  nd : ks.Nodup
  all : ∀ j, f j ≠ 0 → j ∈ ks
theorem DK.nil : DK (fun _ => 0) [] := ⟨List.nodup_nil, fun _ h => absurd rfl h⟩
theorem DK.getD {f : Nat → Int} {ks : List Nat} (h : DK f ks) (j : Nat) : (valV (ks.map (entK f)) (Sum.inl ((j : Nat) : Int))).getD (.int 0) = .int (f j) := by
  rw [val_ent]
  by_cases hm : j ∈ ks
  · rw [if_pos hm]; rfl
  · rw [if_neg hm]
    have : f j = 0 := Classical.byContradiction fun n => hm (h.all j n)
    rw [this]; rfl
theorem DK.put {f : Nat → Int} {ks : List Nat} (h : DK f ks) (j : Nat) (v : Int) : DK (fun i => if i = j then v else f i) (if j ∈ ks then ks else ks ++ [j]) := by
  refine ⟨?_, fun i hi => ?_⟩
  · split
    · exact h.nd
    · next hn =>
      refine List.nodup_append.mpr ⟨h.nd, by simp, fun a ha b hb e => ?_⟩
      rw [List.mem_singleton.mp hb] at e
      exact hn (e ▸ ha)
  · by_cases e : i = j
    · subst e
      split
      · next hm => exact hm
      · exact List.mem_append.mpr (.inr (List.mem_singleton.mpr rfl))
    · have hi' : f i ≠ 0 := by
        have : (if i = j then v else f i) ≠ 0 := hi
        rwa [if_neg e] at this
      have := h.all i hi'
      split
      · exact this
      · exact List.mem_append.mpr (.inl this)
theorem mem_put {ks : List Nat} {j i : Nat} (h : i ∈ (if j ∈ ks then ks else ks ++ [j])) : i ∈ ks ∨ i = j := by
  split at h
  · exact .inl h
  · rcases List.mem_append.mp h with h | h
    · exact .inl h
    · exact .inr (List.mem_singleton.mp h)
/-- the numbers other than 0, ascending -/
abbrev supN (f : Nat → Int) : List Nat := (List.range 200).filter fun j => decide (f j ≠ 0)
abbrev numK (f : Nat → Int) : List (Key × V) := (supN f).map (entK f)
theorem nodup_len : ∀ {l : List Nat} {n : Nat}, l.Nodup → (∀ x ∈ l, x < n) → l.length ≤ n
  | l, n, hn, h => by
    have := M8.nd_sub (l := l) (m := List.range n) hn fun x hx => List.mem_range.mpr (h x hx)
    rwa [List.length_range] at this
/-- ascending lists with the same members are one -/
theorem asc_one : ∀ {A B : List Nat}, A.Pairwise (· < ·) → B.Pairwise (· < ·) → (∀ x, x ∈ A ↔ x ∈ B) → A = B
  | [], [], _, _, _ => rfl
  | [], b :: B, _, _, h => by have := (h b).mpr List.mem_cons_self; cases this
  | a :: A, [], _, _, h => by have := (h a).mp List.mem_cons_self; cases this
  | a :: A, b :: B, hA, hB, h => by
    obtain ⟨a1, a2⟩ := List.pairwise_cons.mp hA
    obtain ⟨b1, b2⟩ := List.pairwise_cons.mp hB
    have e : a = b := by
      rcases List.mem_cons.mp ((h a).mp List.mem_cons_self) with e | m
      · exact e
      · rcases List.mem_cons.mp ((h b).mpr List.mem_cons_self) with e | m2
        · exact e.symm
        · have := b1 a m
          have := a1 b m2
          omega
    subst e
    rw [asc_one a2 b2 fun x => ⟨fun hx => ?_, fun hx => ?_⟩]
    · rcases List.mem_cons.mp ((h x).mp (List.mem_cons_of_mem _ hx)) with e | m
      · have := a1 x hx
        omega
      · exact m
    · rcases List.mem_cons.mp ((h x).mpr (List.mem_cons_of_mem _ hx)) with e | m
      · have := b1 x hx
        omega
      · exact m
theorem asc_range (n : Nat) : (List.range n).Pairwise (· < ·) := List.pairwise_lt_range
/-- the keys of a dict of f in their order, without the ones of 0 -/
theorem sup_of {f : Nat → Int} {ks : List Nat} {ys : List Int} (h : DK f ks) (low : ∀ j ∈ ks, j < 200) (hp : ys.Perm (ks.map fun n => ((n : Nat) : Int))) (hs : ys.Pairwise (· ≤ ·)) : ∃ zs : List Nat, ys = zs.map (fun n => ((n : Nat) : Int)) ∧ zs.Nodup ∧ zs.filter (fun j => decide (f j ≠ 0)) = supN f ∧ (∀ j ∈ zs, j < 200) ∧ (∀ j, j ∈ zs ↔ j ∈ ks) ∧ zs.length = ks.length := by
  have hz : ys = (ys.map Int.toNat).map (fun n => ((n : Nat) : Int)) := by
    rw [List.map_map]
    refine (List.map_id' ys).symm.trans (List.map_congr_left fun y hy => ?_)
    obtain ⟨n, _, rfl⟩ := List.mem_map.mp (hp.mem_iff.mp hy)
    show ((n : Nat) : Int) = ((((n : Nat) : Int).toNat : Nat) : Int)
    omega
  have hmem : ∀ j, j ∈ ys.map Int.toNat ↔ j ∈ ks := fun j => by
    rw [List.mem_map]
    constructor
    · rintro ⟨y, hy, rfl⟩
      obtain ⟨n, hn, rfl⟩ := List.mem_map.mp (hp.mem_iff.mp hy)
      rwa [Int.toNat_natCast]
    · intro hj
      exact ⟨((j : Nat) : Int), hp.mem_iff.mpr (List.mem_map.mpr ⟨j, hj, rfl⟩), Int.toNat_natCast j⟩
  have hnd : (ys.map Int.toNat).Nodup := by
    have e : (ys.map Int.toNat).Perm ks := by
      have := hp.map Int.toNat
      rw [List.map_map, show (Int.toNat ∘ fun n : Nat => ((n : Nat) : Int)) = id from funext fun n => Int.toNat_natCast n, List.map_id] at this
      exact this
    exact e.nodup_iff.mpr h.nd
  refine ⟨ys.map Int.toNat, hz, hnd, ?_, fun j hj => low j ((hmem j).mp hj), hmem, ?_⟩
  · have hlt : (ys.map Int.toNat).Pairwise (· < ·) := by
      have hle : (ys.map Int.toNat).Pairwise (· ≤ ·) := List.pairwise_map.mpr (hs.imp fun {a b} k => by omega)
      exact (hle.and hnd).imp fun {a b} k => Nat.lt_of_le_of_ne k.1 k.2
    refine asc_one (hlt.filter _) ((asc_range 200).filter _) fun x => ?_
    rw [List.mem_filter, List.mem_filter, List.mem_range]
    constructor
    · rintro ⟨k1, k2⟩
      exact ⟨low x ((hmem x).mp k1), k2⟩
    · rintro ⟨k1, k2⟩
      exact ⟨(hmem x).mpr (h.all x (of_decide_eq_true k2)), k2⟩
  · rw [List.length_map, hp.length_eq, List.length_map]
theorem numK_self (f : Nat → Int) : ∀ p ∈ numK f, valV (numK f) p.1 = some p.2 ∧ flatB p.2 = true := fun p hp => by
  obtain ⟨j, hj, rfl⟩ := List.mem_map.mp hp
  refine ⟨?_, rfl⟩
  show valV ((supN f).map (entK f)) (Sum.inl ((j : Nat) : Int)) = _
  rw [val_ent, if_pos hj]
theorem DK.num (f : Nat → Int) (h : ∀ j, 200 ≤ j → f j = 0) : DK f (supN f) := ⟨(List.nodup_range).sublist List.filter_sublist, fun j hj => List.mem_filter.mpr ⟨List.mem_range.mpr (by
  by_cases k : j < 200
  · exact k
  · exact absurd (h j (by omega)) hj), decide_eq_true hj⟩⟩
/-- pairs without a key twice, put one by one -/
theorem merge_ent (f : Nat → Int) : ∀ (ks acc : List Nat), (acc ++ ks).Nodup → mergeK (acc.map (entK f)) (ks.map (entK f)) = (acc ++ ks).map (entK f)
  | [], acc, _ => by simp [mergeK]
  | k :: ks, acc, h => by
    have hk : ¬ k ∈ acc := fun m => by
      have := List.nodup_append.mp h
      exact this.2.2 k m k List.mem_cons_self rfl
    have e := put_ent f k (f k) acc
    rw [if_neg hk] at e
    have e2 : (fun i => if i = k then f k else f i) = f := by
      funext i
      by_cases z : i = k
      · rw [if_pos z, z]
      · rw [if_neg z]
    rw [e2] at e
    show mergeK (putK (acc.map (entK f)) (entK f k).1 (entK f k).2) (ks.map (entK f)) = _
    rw [show putK (acc.map (entK f)) (entK f k).1 (entK f k).2 = (acc ++ [k]).map (entK f) from e, merge_ent f ks (acc ++ [k]) (by rwa [List.append_assoc]), List.append_assoc]
    rfl
end DD

/-! a dict comprehension over anything that is walked -/
namespace R7
open PySem PySem.Spec PyProof.Rows L2
theorem dc_it {J : It} {n : Nat} {G : Hp → Prop} {Y : Nat → Hp → V → Hp → Prop} (w : Walk J n G Y) {g : TG} {tt : TT} {tk tv : TE} {vs : List Nat} {σ : L2.St} {H1 : Hp} {D : Addr} {Qd : Hp → Prop} (Pv : Nat → Hp → Prop) (h0 : Pv 0 (upd H1 D (.dK []))) (hG : ∀ i H, i ≤ n → Pv i H → G H)
    (hs : ∀ i x H H', i < n → Pv i H → Y i H x H' → g x (wipe σ vs) H' fun σ2 H2 => wipe σ2 vs = wipe σ vs ∧ tt σ2 H2 fun b H3 =>
      if b = true then tk σ2 H3 fun y H4 => tv σ2 H4 fun z H5 => ∃ kvs k, y = kV k ∧ H5 D = some (.dK kvs) ∧ kvs.length < sizeLine ∧ Pv (i + 1) (upd H5 D (.dK (putK kvs k z))) else Pv (i + 1) H3) (hd : ∀ H, Pv n H → Qd H) :
    ∃ W : Nat → Nat → Hp → Prop, (∃ m, W 0 m (upd H1 D (.dK []))) ∧ ∀ i m H, W i m H →
      (J.stop i H ∧ Qd H) ∨ (J.go i H ∧ ∃ Nx : Hp → Prop, (∀ H', Nx H' → ∃ m', m' < m ∧ W (i + 1) m' H') ∧ ∀ x H', J.yld i H x H' → g x (wipe σ vs) H' fun σ2 H2 => wipe σ2 vs = wipe σ vs ∧ tt σ2 H2 fun b H3 =>
        if b = true then tk σ2 H3 fun y H4 => tv σ2 H4 fun z H5 => ∃ kvs k, y = kV k ∧ H5 D = some (.dK kvs) ∧ kvs.length < sizeLine ∧ Nx (upd H5 D (.dK (putK kvs k z))) else Nx H3) := by
  refine ⟨fun i m H => m = n - i ∧ i ≤ n ∧ Pv i H, ⟨n, by simp, Nat.zero_le _, h0⟩, ?_⟩
  rintro i m H ⟨rfl, hi, p⟩
  have q := hG i H hi p
  by_cases hlt : i < n
  · refine .inr ⟨w.goes i H hlt q, Pv (i + 1), fun H' p' => ⟨n - (i + 1), by omega, rfl, hlt, p'⟩, fun x H' y => hs i x H H' hlt p (w.yields i H x H' hlt q y)⟩
  · have e : i = n := by omega
    subst e
    exact .inl ⟨w.stops H q, hd H p⟩
end R7

namespace K13
open PySem PySem.Spec PyProof.Rows L2 RZ L5 R7 XX
open M12 DD
abbrev zV (n : Nat) : V := .int ((n : Nat) : Int)
theorem blk_in {N : List Str} {sc sc' scope : Scope} {own : List (Str × Nat)} (e : sc'.names = sc.names) (h : BlkOk N sc scope own) : BlkOk N sc' scope own := ⟨h.kind, h.uniq, h.ix, fun y m k => by
  rw [e]
  exact h.free y m k, h.own⟩
theorem nv_at {t : List Nat} {x : Nat} (h : x < t.length) : (nv t)[x]? = some (zV (at0 t x)) := by
  unfold nv at0
  rw [List.getElem?_map, List.getElem?_eq_getElem h, List.getD_eq_getElem?_getD, List.getElem?_eq_getElem h]
  rfl
theorem at_nv {t : List Nat} {x : Nat} (h : x < t.length) : atI (nv t) ((x : Nat) : Int) = some (zV (at0 t x)) := atI_nat (nv_at h)
theorem sum_ints : ∀ t : List Nat, (t.map fun n => ((n : Nat) : Int)).sum = ((t.sum : Nat) : Int)
  | [] => rfl
  | n :: t => by
    rw [List.map_cons, List.sum_cons, List.sum_cons, sum_ints t]
    omega
theorem rs_empty {rs : List Addr} : (rs.map V.ref).isEmpty = rs.isEmpty := by cases rs <;> rfl
theorem rs_at {K : PySem.W.Frag} {H : Hp} {rs : List Addr} {L : List (List Nat)} (h : Tups K H rs L) {t : List Nat} {M : List (List Nat)} (e : L = t :: M) : ∃ a r, rs = a :: r ∧ SqT K H a (nv t) := by
  subst e
  cases h with
  | cons h1 h2 => exact ⟨_, _, rfl, h1⟩
theorem cnt_take {L : List (List Nat)} {i x : Nat} {t : List Nat} (h : L[i]? = some t) : cntN (L.take (i + 1)) x = cntN (L.take i) x + if 0 < at0 t x then 1 else 0 := by
  unfold cntN
  rw [take_more h, List.filter_append, List.length_append]
  congr 1
  by_cases h : 0 < at0 t x
  · rw [if_pos h, List.filter_cons, if_pos (decide_eq_true h)]; rfl
  · rw [if_neg h, List.filter_cons, if_neg (by rw [decide_eq_true_iff]; exact h)]; rfl
theorem cnt_len (L : List (List Nat)) (x : Nat) : cntN L x ≤ L.length := List.length_filter_le _ _
/-- the first place of the greatest one -/
theorem first_max : ∀ {l : List Nat} {m : Nat}, m ∈ l → ∃ j : Nat, l[j]? = some m ∧ ∀ i v : Nat, i < j → l[i]? = some v → v ≠ m
  | a :: l, m, h => by
    by_cases e : a = m
    · exact ⟨0, by rw [e]; rfl, fun i v h => absurd h (by omega)⟩
    · obtain ⟨j, h1, h2⟩ := first_max (l := l) (m := m) ((List.mem_cons.mp h).resolve_left fun z => e z.symm)
      refine ⟨j + 1, h1, fun i v hi hv => ?_⟩
      cases i with
      | zero =>
        cases hv
        exact e
      | succ i => exact h2 i v (by omega) hv
section
variable {P : Program} {w : World} {K : PySem.W.Frag} {mg : Str → Option Value} {base : Heap}
abbrev cnts (d : Nat) (L : List (List Nat)) : List Nat := (List.range d).map fun x => cntN L x
theorem cnts_at {d x : Nat} (L : List (List Nat)) (h : x < d) : (cnts d L)[x]? = some (cntN L x) := by
  rw [List.getElem?_map, List.getElem?_range h]
  rfl
def sp_shl (K : PySem.W.Frag) : Sp := fun vs H Q _ => ∃ (l : Addr) (rs : List Addr) (L : List (List Nat)) (d : Nat), vs = [.ref l] ∧ SqL K H l (rs.map V.ref) ∧ Tups K H rs L ∧ 1 ≤ d ∧ d ≤ 1000 ∧ (∀ t ∈ L, t.length = d) ∧ L.length ≤ 1000 ∧
  ((∀ x, x < d → cntN L x ≤ 1) → ∀ H', Same H H' → Q .non H') ∧ (∀ x, x < d → 2 ≤ cntN L x → ∀ H', Same H H' → Q (zV x) H')
theorem ok_shl (T : Txt K mg) : FnOk P w K mg base CX0 1 T.a_shared_letter T.d_shared_letter ["rows"] (sp_shl K) := by
  refine T.F_shared_letter.ok sc_shared_letter (fun vs H Q E h => ?_) (fun cdv A outer s H vs Q E hr h => ?_)
  · obtain ⟨l, rs, L, d, rfl, _⟩ := h
    rfl
  · obtain ⟨l, rs, L, d, rfl, hA, hL, hd1, hd, hl, hz, qn, qs⟩ := h
    refine ⟨_, (pss_cons (ps_if (pt_not (pt_truth (pv 0) (fun _ => rfl))) (pss_one (ps_ret pe_non)) pss_nil)
      (pss_cons (ps_setLc (i := 1) (own := [("letter", 2)]) (g := gName 2) (tt := tYes) rfl sc_shared_letter.nd rfl rfl (sw_true rfl rfl rfl (by decide +kernel)) (pi_range1 rfl T.z_range (pa_cons (pe_callB call_len_seq (by rfl) T.z_len boot_len (pa_cons (pe_ix ix_list (pv 0) pe_int (fun _ _ => rfl)) pa_nil)) pa_nil)) (blkOk_by (own := [("letter", 2)]) (N := N_shared_letter) (sc := defScope s_shared_letter) (by decide +kernel)) (fun _ _ _ _ _ => (pg_name (i := 2) sc_shared_letter.nd rfl (Or.inr rfl))) (fun _ _ _ _ _ => pts_nil) (fun _ _ _ _ _ => (pe_callB (show CallR _ _ (fun xs H Q => ∃ p ys, xs = [.ref p] ∧ (SqL K H p ys ∨ SqT K H p ys) ∧ Q (.int ys.length) H) from call_len_seq) (by rfl) T.z_len boot_len (pa_cons (pe_lc (own := [("row", 3)]) (g := gName 3) rfl sc_shared_letter.nd (show PI _ _ _ (iList K _) from pi_list (pv 0)) (blk_in (sc := ({ kind := .function, names := [(".0", .local), ("letter", .cell), ("len", .globalImplicit), ("rows", .cell)], isGenerator := false, isCoroutine := false, more := [] } : Scope)) (own := [("row", 3)]) (N := N_shared_letter) rfl (blkOk_by (by decide +kernel))) (fun _ _ _ _ _ => (pg_name (i := 3) sc_shared_letter.nd rfl (Or.inl rfl))) (fun _ _ _ _ _ => pts_one (pt_cmpR op_gt (pe_ix (show IxR _ (rIxT K) from ix_tup) (pv 3) (pv 2) (fun _ _ => rfl)) pe_int (nomark _))) (fun _ _ _ _ _ => (pv 3))) pa_nil))))
      (pss_cons (ps_if (pt_cmpR op_lt (pe_callB (cr_max rfl) (by rfl) T.z_max (by decide +kernel) (pa_cons (pv 1) pa_nil)) pe_int (nomark _)) (pss_one (ps_ret pe_non)) pss_nil)
      (pss_one (ps_ret (pe_bm PySem.F.plainAttrs_list PySem.F.slot_list_index PySem.F.type_list_index mt_index (pv 1) (pa_cons (pe_callB (cr_max rfl) (by rfl) T.z_max (by decide +kernel) (pa_cons (pv 1) pa_nil)) pa_nil))))))), ?_⟩
    refine ⟨_, rfl, _, .inl ⟨_, hA, rfl⟩, ?_⟩
    rw [rs_empty]
    cases L with
    | nil =>
      cases hL
      exact iteT (qn (fun _ _ => Nat.zero_le _) H (Same.refl H))
    | cons t0 M =>
      obtain ⟨a0, r0, e0, h0⟩ := rs_at hL rfl
      have l0 := hl t0 List.mem_cons_self
      rw [show rs.isEmpty = false by rw [e0]; rfl]
      refine iteF ?_
      generalize t0 :: M = L at hL hl hz qn qs
      have a1 : atI (rs.map V.ref) (0 : Int) = some (.ref a0) := atI_nat (j := 0) (by rw [e0]; rfl)
      refine ⟨_, rfl, l, _, _, _, rfl, rfl, hA, a1, a0, _, rfl, .inr h0, ((d : Nat) : Int), by rw [nv_len, l0], by omega, by omega, fun D hD => ?_⟩
      have sD := same_new hD (.lst [])
      refine lc_range (lo := 0) (n := (((d : Nat) : Int)).toNat) (fun i H' => Same H H' ∧ H' D = some (.lst (nv ((cnts d L).take i)))) ⟨sD, upd_same⟩ (fun i H1 hi hh => ?_) (fun H1 hh => ?_)
      · obtain ⟨s1, eD⟩ := hh
        have hi' : i < d := hi
        rw [show (0 : Int) + ((i : Nat) : Int) = ((i : Nat) : Int) from Int.zero_add _]
        refine ⟨rfl, _, rfl, l, rfl, ⟨_, same_sql s1 hA⟩, fun D2 hD2 => ?_⟩
        have sD2 := same_new hD2 (.lst [])
        refine lc_list (K := K) (a := l) (xs := rs.map V.ref) (fun j H2 => Same H1 H2 ∧ ∃ es : List Addr, H2 D2 = some (.lst (es.map V.ref)) ∧ es.length = cntN (L.take j) i) ⟨sD2, [], upd_same, rfl⟩ (fun j H2 _ hh => same_sql (s1.trans hh.1) hA) (fun j x H2 hx hh => ?_) (fun H2 hh => ?_)
        · obtain ⟨s2, es, eD2, hes⟩ := hh
          obtain ⟨a, t, rfl, _, ht, hs⟩ := tups_get (hL.same (s1.trans s2)) hx
          have htl := hl t (List.mem_of_getElem? ht)
          have hc := cnt_take (x := i) ht
          have hcl := cnt_len (L.take j) i
          rw [List.length_take] at hcl
          refine ⟨rfl, _, rfl, _, rfl, a, _, _, _, rfl, rfl, hs, at_nv (by rw [htl]; exact hi'), _, _, rfl, rfl, _, rfl, ite2 (fun c => ?_) (fun c => ?_)⟩
          · have c' := of_decide_eq_true c
            refine ⟨_, rfl, _, eD2, by rw [List.length_map]; exact sizeK (by omega), same_updL s2 hD2, es ++ [a], by rw [upd_same, List.map_append]; rfl, ?_⟩
            rw [hc, if_pos (by omega), List.length_append, hes]
            rfl
          · have c' : ¬ (0 : Int) < ((at0 t i : Nat) : Int) := fun z => c (decide_eq_true z)
            refine ⟨s2, es, eD2, ?_⟩
            rw [hc, if_neg (by omega), hes]
            rfl
        · obtain ⟨s2, es, eD2, hes⟩ := hh
          have hrl : rs.length = L.length := hL.length
          rw [List.length_map, hrl, List.take_length] at hes
          refine ⟨D2, _, rfl, .inl (SqL.of eD2), ?_⟩
          have hD3 := s2 _ _ eD
          refine ⟨_, hD3, by rw [nv_len, List.length_take]; exact sizeK (by omega), same_updL (s1.trans s2) hD, ?_⟩
          rw [upd_same, take_more (cnts_at L hi'), List.length_map, hes]
          unfold nv
          rw [List.map_append]
          rfl
      · obtain ⟨s1, eD⟩ := hh
        have eD : H1 D = some (.lst (nv ((cnts d L).take d))) := eD
        have elen : (cnts d L).length = d := by rw [List.length_map, List.length_range]
        rw [show (cnts d L).take d = cnts d L from List.take_of_length_le (by omega)] at eD
        have hmax : ∀ m : Int, m ∈ ((cnts d L).map fun n => ((n : Nat) : Int)) → (∀ y, y ∈ ((cnts d L).map fun n => ((n : Nat) : Int)) → y ≤ m) → ∃ k : Nat, m = ((k : Nat) : Int) ∧ k ∈ cnts d L ∧ ∀ y ∈ cnts d L, y ≤ k := fun m hm hy => by
          obtain ⟨k, hk, rfl⟩ := List.mem_map.mp hm
          refine ⟨k, rfl, hk, fun y hy' => ?_⟩
          have := hy ((y : Nat) : Int) (List.mem_map.mpr ⟨y, hy', rfl⟩)
          omega
        refine ⟨_, rfl, D, _, rfl, by rw [← nv_ints]; exact SqL.of eD, by rw [List.length_map, elen]; omega, fun m hm hy => ?_⟩
        obtain ⟨k, rfl, hk, hky⟩ := hmax m hm hy
        refine ⟨_, _, rfl, rfl, _, rfl, ite2 (fun c => ?_) (fun c => ?_)⟩
        · have c' := of_decide_eq_true c
          refine qn (fun x hx => ?_) _ s1
          have := hky _ (List.mem_of_getElem? (cnts_at L hx))
          omega
        · have c' : ¬ ((k : Nat) : Int) < 2 := fun z => c (decide_eq_true z)
          refine ⟨_, rfl, .inl ⟨rfl, _, SqL.of eD⟩, _, rfl, D, _, rfl, by rw [← nv_ints]; exact SqL.of eD, by rw [List.length_map, elen]; omega, fun m2 hm2 hy2 => ?_⟩
          obtain ⟨k2, rfl, hk2, hky2⟩ := hmax m2 hm2 hy2
          have e2 : k2 = k := Nat.le_antisymm (hky _ hk2) (hky2 _ hk)
          subst e2
          obtain ⟨j, hj, hfirst⟩ := first_max hk2
          have hjd : j < d := by
            have := (List.getElem?_eq_some_iff.mp hj).1
            omega
          refine ⟨D, nv (cnts d L), _, j, _, rfl, rfl, SqL.of eD, rfl, List.all_eq_true.mpr fun x hx => by obtain ⟨n, _, rfl⟩ := List.mem_map.mp hx; rfl, by rw [List.getElem?_map, hj]; rfl, ?_, fun i z hi hz2 => ?_, ?_⟩
          · show (((k2 : Nat) : Int) == ((k2 : Nat) : Int)) = true
            exact beq_self_eq_true _
          · obtain ⟨n, hn, rfl⟩ := nv_get hz2
            have := hfirst i n hi hn
            show (((n : Nat) : Int) == ((k2 : Nat) : Int)) = false
            rw [beq_eq_false_iff_ne]
            omega
          · rw [cnts_at L hjd] at hj
            have ej := Option.some.inj hj
            exact qs j hjd (by omega) _ s1
def sp_mid (K : PySem.W.Frag) : Sp := fun vs H Q _ => ∃ (l : Addr) (rs : List Addr) (L : List (List Nat)) (d x : Nat), vs = [.ref l, zV x] ∧ SqL K H l (rs.map V.ref) ∧ Tups K H rs L ∧ x < d ∧ (∀ t ∈ L, t.length = d) ∧ L.length ≤ 60 ∧ (∃ r ∈ L, 0 < at0 r x ∧ at0 r x < r.sum) ∧
  ∀ r ∈ L, 0 < at0 r x → at0 r x < r.sum → ∀ H', Same H H' → Q (zV (at0 r x)) H'
abbrev prp (x : Nat) (t : List Nat) : Bool := decide (0 < at0 t x) && decide (at0 t x < t.sum)
theorem ok_mid (T : Txt K mg) : FnOk P w K mg base CX0 1 T.a_middle_exponent T.d_middle_exponent ["rows", "letter"] (sp_mid K) := by
  refine T.F_middle_exponent.ok sc_middle_exponent (fun vs H Q E h => ?_) (fun cdv A outer s H vs Q E hr h => ?_)
  · obtain ⟨l, rs, L, d, x, rfl, _⟩ := h
    rfl
  · obtain ⟨l, rs, L, d, x, rfl, hA, hL, hx, hl, hz, hex, q⟩ := h
    refine ⟨_, (pss_cons (ps_set (i := 2) sc_middle_exponent.nd rfl (Or.inl rfl) (pe_callB cr_sorted (by rfl) T.z_sorted boot_sorted (pa_cons (pe_lc (own := [("row", 3)]) (g := gName 3) rfl sc_middle_exponent.nd (pi_list (pv 0)) (blkOk_by (own := [("row", 3)]) (N := N_middle_exponent) (sc := defScope s_middle_exponent) (by decide +kernel)) (fun _ _ _ _ _ => (pg_name (i := 3) sc_middle_exponent.nd rfl (Or.inl rfl))) (fun _ _ _ _ _ => pts_one (pt_chain op_lt op_lt pe_int (pe_ix (show IxR _ (rIxT K) from ix_tup) (pv 3) (pv 1) (fun _ _ => rfl)) (pe_callB (show CallR _ _ (rSumT K) from cr_sumT rfl) (by rfl) T.z_sum boot_sum (pa_cons (pv 3) pa_nil)))) (fun _ _ _ _ _ => (pe_ix (show IxR _ (rIxT K) from ix_tup) (pv 3) (pv 1) (fun _ _ => rfl)))) pa_nil)))
      (pss_one (ps_ret (pe_ix ix_list (pv 2) (pe_op op_fdiv (pe_callB call_len_seq (by rfl) T.z_len boot_len (pa_cons (pv 2) pa_nil)) pe_int) (fun _ _ => rfl))))), ?_⟩
    refine ⟨_, rfl, l, rfl, ⟨_, hA⟩, fun D hD => ?_⟩
    have sD := same_new hD (.lst [])
    have hrl : rs.length = L.length := hL.length
    have fl : ∀ j, ((L.take j).filter (prp x)).length ≤ 60 := fun j => Nat.le_trans (List.length_filter_le _ _) (by rw [List.length_take]; omega)
    refine lc_list (K := K) (a := l) (xs := rs.map V.ref) (fun j H2 => Same H H2 ∧ H2 D = some (.lst (nv (((L.take j).filter (prp x)).map fun t => at0 t x)))) ⟨sD, upd_same⟩ (fun j H2 _ hh => same_sql hh.1 hA) (fun j v H2 hv hh => ?_) (fun H2 hh => ?_)
    · obtain ⟨s2, eD2⟩ := hh
      obtain ⟨a, t, rfl, _, ht, hs⟩ := tups_get (hL.same s2) hv
      have htl := hl t (List.mem_of_getElem? ht)
      have hat := at_nv (t := t) (x := x) (by rw [htl]; exact hx)
      refine ⟨rfl, _, rfl, _, rfl, a, _, _, _, rfl, rfl, hs, hat, _, _, rfl, rfl, _, rfl, ite2 (fun c => ?_) (fun c => ?_)⟩
      · have c' := of_decide_eq_true c
        refine ⟨_, rfl, a, _, rfl, by rw [← nv_ints]; exact hs, _, _, rfl, rfl, _, rfl, ite2 (fun c2 => ?_) (fun c2 => ?_)⟩
        · have c2' := of_decide_eq_true c2
          rw [sum_ints] at c2'
          have e : prp x t = true := by unfold prp; rw [decide_eq_true (by omega), decide_eq_true (by omega)]; rfl
          refine ⟨_, rfl, _, rfl, a, _, _, _, rfl, rfl, hs, hat, _, eD2, by rw [nv_len, List.length_map]; exact sizeK (by have := fl j; omega), same_updL s2 hD, ?_⟩
          rw [upd_same, filtN_yes ht e]
          unfold nv
          rw [List.map_append, List.map_append]
          rfl
        · have c2' : ¬ ((at0 t x : Nat) : Int) < (t.map fun n => ((n : Nat) : Int)).sum := fun z => c2 (decide_eq_true z)
          rw [sum_ints] at c2'
          have e : prp x t = false := by unfold prp; rw [decide_eq_false (show ¬ at0 t x < t.sum by omega), Bool.and_false]
          refine ⟨s2, ?_⟩
          rw [filtN_no ht e]
          exact eD2
      · have c' : ¬ (0 : Int) < ((at0 t x : Nat) : Int) := fun z => c (decide_eq_true z)
        have e : prp x t = false := by unfold prp; rw [decide_eq_false (show ¬ 0 < at0 t x by omega), Bool.false_and]
        refine ⟨_, rfl, iteF ⟨s2, ?_⟩⟩
        rw [filtN_no ht e]
        exact eD2
    · obtain ⟨s2, eD2⟩ := hh
      rw [List.length_map, hrl, List.take_length] at eD2
      have fl' := fl L.length
      rw [List.take_length] at fl'
      refine ⟨D, _, rfl, by rw [← nv_ints]; exact SqL.of eD2, by rw [List.length_map, List.length_map]; omega, fun ys p hp hs hpn => ?_⟩
      have s3 := same_new hpn (.lst (ys.map V.int))
      have hylen : ys.length = (L.filter (prp x)).length := by rw [hp.length_eq, List.length_map, List.length_map]
      have hpos : 0 < ys.length := by
        rw [hylen]
        obtain ⟨r, hr1, h1, h2⟩ := hex
        exact List.length_pos_of_mem (List.mem_filter.mpr ⟨hr1, by unfold prp; rw [decide_eq_true h1, decide_eq_true h2]; rfl⟩)
      have hdv : ((ys.length : Nat) : Int) / 2 = ((ys.length / 2 : Nat) : Int) := rfl
      have hlt : ys.length / 2 < ys.length := by omega
      refine ⟨_, rfl, _, rfl, p, _, rfl, .inl (SqL.of upd_same), _, _, rfl, rfl, ⟨by decide, by decide⟩, ?_⟩
      refine ⟨p, _, _, .int ys[ys.length / 2], rfl, rfl, SqL.of upd_same, ?_, ?_⟩
      · rw [List.length_map, hdv]
        exact atI_nat (by rw [List.getElem?_map, List.getElem?_eq_getElem hlt]; rfl)
      · have hm := hp.mem_iff.mp (List.getElem_mem hlt)
        obtain ⟨n, hn, e⟩ := List.mem_map.mp hm
        obtain ⟨r, hr1, rfl⟩ := List.mem_map.mp hn
        obtain ⟨h1, h2⟩ := List.mem_filter.mp hr1
        rw [Bool.and_eq_true, decide_eq_true_iff, decide_eq_true_iff] at h2
        rw [← e]
        exact q r h1 h2.1 h2.2 _ (s2.trans s3)
end
end K13

namespace K13
open PySem PySem.Spec PyProof.Rows L2 RZ L5 R7 XX
open M12 DD
section
variable {P : Program} {w : World} {K : PySem.W.Frag} {mg : Str → Option Value} {base : Heap}
theorem zeros_int : ∀ d : Nat, (List.replicate d [V.int 0]).flatten = (List.replicate d (0 : Int)).map V.int
  | 0 => rfl
  | d + 1 => by
    show V.int 0 :: (List.replicate d [V.int 0]).flatten = V.int 0 :: (List.replicate d (0 : Int)).map V.int
    rw [zeros_int d]
theorem zeros_nvi (d : Nat) : (List.replicate d [V.int 0]).flatten = nv (M7.z0 d) := by
  rw [zeros_int, nv_ints]
  unfold M7.z0
  rw [List.map_replicate, List.map_replicate, List.map_replicate]
  rfl
theorem ixN_nat {n x : Nat} (h : x < n) : ixN n ((x : Nat) : Int) = some x := by
  unfold ixN
  rw [if_pos (by omega), if_pos (by omega)]
  rfl
theorem nv_set (t : List Nat) (x e : Nat) : (nv t).set x (zV e) = nv (t.set x e) := by
  unfold nv
  rw [← List.map_set]
def sp_wip (K : PySem.W.Frag) : Sp := fun vs H Q _ => ∃ (l : Addr) (rs : List Addr) (L : List (List Nat)) (d x e : Nat), vs = [.ref l, zV x, zV e] ∧ SqL K H l (rs.map V.ref) ∧ Tups K H rs L ∧ x < d ∧ d ≤ 1000 ∧ (∀ t ∈ L, t.length = d) ∧ L.length ≤ 60 ∧ L ≠ [] ∧
  ∀ H' z rs', Same H H' → H z = none → H' z = some (.lst (rs'.map V.ref)) → Tups K H' rs' (withN d L x e) → Q (.ref z) H'
theorem ok_wip (T : Txt K mg) : FnOk P w K mg base CX0 1 T.a_with_power T.d_with_power ["rows", "letter", "exponent"] (sp_wip K) := by
  refine T.F_with_power.ok sc_with_power (fun vs H Q E h => ?_) (fun cdv A outer s H vs Q E hr h => ?_)
  · obtain ⟨l, rs, L, d, x, e, rfl, _⟩ := h
    rfl
  · obtain ⟨l, rs, L, d, x, e, rfl, hA, hL, hx, hd, hl, hz, hne, q⟩ := h
    refine ⟨_, (pss_cons (ps_set (i := 3) sc_with_power.nd rfl (Or.inl rfl) (pe_op op_rep (pe_lst (pa_cons pe_int pa_nil)) (pe_callB call_len_seq (by rfl) T.z_len boot_len (pa_cons (pe_ix ix_list (pv 0) pe_int (fun _ _ => rfl)) pa_nil))))
      (pss_cons (ps_asg (pv 2) (pg_sub (pv 3) (pv 1) set_list))
      (pss_one (ps_ret (pe_op op_cat (pe_lc (own := [("row", 4)]) (g := gName 4) rfl sc_with_power.nd (pi_list (pv 0)) (blkOk_by (own := [("row", 4)]) (N := N_with_power) (sc := defScope s_with_power) (by decide +kernel)) (fun _ _ _ _ _ => (pg_name (i := 4) sc_with_power.nd rfl (Or.inl rfl))) (fun _ _ _ _ _ => pts_one (pt_cmpR op_lt (pe_ix (show IxR _ (rIxT K) from ix_tup) (pv 4) (pv 1) (fun _ _ => rfl)) (pv 2) (nomark _))) (fun _ _ _ _ _ => (pv 4))) (pe_lst (pa_cons (pe_callTy call_tuple_of (by rfl) T.z_tuple boot_tuple (pa_cons (pv 3) pa_nil)) pa_nil))))))), ?_⟩
    obtain ⟨t0, M, hLL⟩ := List.exists_cons_of_ne_nil hne
    obtain ⟨a0, r0, e0, h0⟩ := rs_at hL hLL
    have l0 := hl t0 (hLL ▸ List.mem_cons_self)
    have a1 : atI (rs.map V.ref) (0 : Int) = some (.ref a0) := atI_nat (j := 0) (by rw [e0]; rfl)
    refine ⟨by show 1 ≤ sizeLine; decide, fun p hp => ?_⟩
    have sp := same_new hp (.lst [V.int 0])
    refine ⟨_, rfl, l, _, _, _, rfl, rfl, same_sql sp hA, a1, a0, _, rfl, .inr (same_sqt sp h0), p, ((d : Nat) : Int), [.int 0], rfl, by rw [nv_len, l0], upd_same, by omega, by omega, ?_, fun p2 hp2 => ?_⟩
    · rw [Int.toNat_natCast]
      show 1 * d ≤ sizeLine
      exact Nat.le_of_lt (sizeK (by omega))
    have sp2 := same_new hp2 (.lst (List.replicate (((d : Nat) : Int)).toNat [V.int 0]).flatten)
    have S2 := sp.trans sp2
    have e2 : (upd (upd H p (.lst [V.int 0])) p2 (.lst (List.replicate (((d : Nat) : Int)).toNat [V.int 0]).flatten)) p2 = some (.lst (nv (M7.z0 d))) := by
      rw [upd_same, Int.toNat_natCast, zeros_nvi]
    generalize (upd (upd H p (.lst [V.int 0])) p2 (.lst (List.replicate (((d : Nat) : Int)).toNat [V.int 0]).flatten)) = H2 at e2 S2 ⊢
    have hfree : H p2 = none := sp.free hp2
    refine ⟨_, rfl, _, rfl, _, rfl, p2, _, _, x, rfl, rfl, e2, ixN_nat (by rw [nv_len]; simpa using hx), ?_⟩
    rw [nv_set]
    have S3 : Same H (upd H2 p2 (.lst (nv ((M7.z0 d).set x e)))) := same_updL S2 hfree
    have e3 : (upd H2 p2 (.lst (nv ((M7.z0 d).set x e)))) p2 = some (.lst (nv (powN d x e))) := upd_same
    generalize (upd H2 p2 (.lst (nv ((M7.z0 d).set x e)))) = H3 at S3 e3 ⊢
    refine ⟨_, rfl, l, rfl, ⟨_, same_sql S3 hA⟩, fun D hD => ?_⟩
    have sD := same_new hD (.lst [])
    have hrl : rs.length = L.length := hL.length
    have fl : ∀ j, ((L.take j).filter fun r => decide (at0 r x < e)).length ≤ 60 := fun j => Nat.le_trans (List.length_filter_le _ _) (by rw [List.length_take]; omega)
    refine lc_list (K := K) (a := l) (xs := rs.map V.ref) (fun j H4 => Same H3 H4 ∧ ∃ es : List Addr, H4 D = some (.lst (es.map V.ref)) ∧ Tups K H4 es ((L.take j).filter fun r => decide (at0 r x < e))) ⟨sD, [], upd_same, .nil⟩ (fun j H4 _ hh => same_sql (S3.trans hh.1) hA) (fun j v H4 hv hh => ?_) (fun H4 hh => ?_)
    · obtain ⟨s4, es, eD, hTe⟩ := hh
      obtain ⟨a, t, rfl, _, ht, hs⟩ := tups_get (hL.same (S3.trans s4)) hv
      have htl := hl t (List.mem_of_getElem? ht)
      have hel : es.length = _ := hTe.length
      have hfl := fl j
      refine ⟨rfl, _, rfl, _, rfl, a, _, _, _, rfl, rfl, hs, at_nv (by rw [htl]; exact hx), _, rfl, _, _, rfl, rfl, _, rfl, ite2 (fun c => ?_) (fun c => ?_)⟩
      · have c' := of_decide_eq_true c
        refine ⟨_, rfl, _, eD, by rw [List.length_map]; exact sizeK (by omega), same_updL s4 hD, es ++ [a], by rw [upd_same, List.map_append]; rfl, ?_⟩
        rw [filtN_yes ht (decide_eq_true (by omega))]
        exact (hTe.updL eD).app (.cons (sqt_updL eD hs) .nil)
      · have c' : ¬ ((at0 t x : Nat) : Int) < ((e : Nat) : Int) := fun z => c (decide_eq_true z)
        refine ⟨s4, es, eD, ?_⟩
        rw [filtN_no ht (decide_eq_false (by omega))]
        exact hTe
    · obtain ⟨s4, es, eD, hTe⟩ := hh
      rw [List.length_map, hrl, List.take_length] at hTe
      have hel : es.length = _ := hTe.length
      have hfl := fl L.length
      rw [List.take_length] at hfl
      refine ⟨_, rfl, p2, _, rfl, .inl ⟨SqL.of (s4 _ _ e3), fun z hz2 => ?_⟩⟩
      have s5 := same_new hz2 (.tup (nv (powN d x e)))
      refine ⟨by show 1 ≤ sizeLine; decide, fun z3 hz3 => ?_⟩
      have s6 := same_new hz3 (.lst [V.ref z])
      have s56 := s5.trans s6
      refine ⟨D, z3, _, _, rfl, rfl, s56 _ _ eD, upd_same, by rw [List.length_map]; exact Nat.le_of_lt (sizeK (by show _ + 1 ≤ _; omega)), fun z4 hz4 => ?_⟩
      have s7 := same_new hz4 (.lst (es.map V.ref ++ [V.ref z]))
      refine q _ z4 (es ++ [z]) (S3.trans (s4.trans (s56.trans s7))) ((S3.trans (s4.trans s56)).free hz4) (by rw [upd_same, List.map_append]; rfl) ?_
      exact ((hTe.same s56).same s7).app (.cons (SqT.of ((s6.trans s7) _ _ upd_same)) .nil)
def sp_wop (K : PySem.W.Frag) : Sp := fun vs H Q _ => ∃ (l : Addr) (rs : List Addr) (L : List (List Nat)) (d x e B : Nat), vs = [.ref l, zV x, zV e] ∧ SqL K H l (rs.map V.ref) ∧ Tups K H rs L ∧ x < d ∧ d ≤ 1000 ∧ (∀ t ∈ L, t.length = d) ∧ (∀ t ∈ L, ∀ c ∈ t, c < B) ∧ L.length ≤ 60 ∧
  ∀ H' z rs', Same H H' → H z = none → H' z = some (.lst (rs'.map V.ref)) → Tups K H' rs' (withoutN d L x e) → Q (.ref z) H'
theorem sub_pow : ∀ (t : List Nat) (x e : Nat), x < t.length → M8.subN t (powN t.length x e) = t.take x ++ [at0 t x - e] ++ t.drop (x + 1)
  | [], x, e, h => by simp at h
  | a :: t, 0, e, _ => by
    show (a - e) :: M8.subN t (M7.z0 t.length) = (a - e) :: t
    rw [sub_z]
  | a :: t, x + 1, e, h => by
    have ih := sub_pow t x e (by simpa using h)
    show (a - 0) :: M8.subN t (powN t.length x e) = a :: (t.take x ++ [at0 t x - e] ++ t.drop (x + 1))
    rw [ih, Nat.sub_zero]
theorem cut_lo (xs : List V) (x : Nat) (h : x ≤ xs.length) : cutV xs none (some ((x : Nat) : Int)) = xs.take x := by
  unfold cutV
  rw [HT.sIx_none, HT.sIx_nat]
  show List.take _ (xs.drop 0) = _
  rw [List.drop_zero]
  congr 1
  omega
theorem cut_hi (xs : List V) (x : Nat) (h : x ≤ xs.length) : cutV xs (some ((x : Nat) : Int)) none = xs.drop x := by
  unfold cutV
  rw [HT.sIx_none, HT.sIx_nat]
  rw [show min x xs.length = x by omega]
  exact List.take_of_length_le (by rw [List.length_drop]; exact Nat.le_refl _)
theorem ok_wop (T : Txt K mg) : FnOk P w K mg base CX0 4 T.a_without_power T.d_without_power ["rows", "letter", "exponent"] (sp_wop K) := by
  refine T.F_without_power.ok sc_without_power (fun vs H Q E h => ?_) (fun cdv A outer s H vs Q E hr h => ?_)
  · obtain ⟨l, rs, L, d, x, e, B, rfl, _⟩ := h
    rfl
  · obtain ⟨l, rs, L, d, x, e, B, rfl, hA, hL, hx, hd, hl, hB, hz, q⟩ := h
    refine ⟨_, pss_one (ps_ret (pe_call (ok_least0 T) (hr.mono (by decide)) (by rfl) T.m_least_of T.F_least_of.kp T.e_least_of (.cons (show L2.RelV .non Value.none from rfl) .nil) pass0 (pa_cons
      (pe_lc (own := [("row", 3)]) (g := gName 3) (tt := tYes) rfl sc_without_power.nd (pi_list (pv 0)) (blkOk_by (own := [("row", 3)]) (N := N_without_power) (sc := defScope s_without_power) (by decide +kernel)) (fun _ _ _ _ _ => (pg_name (i := 3) sc_without_power.nd rfl (Or.inl rfl))) (fun _ _ _ _ _ => pts_nil) (fun _ _ _ _ _ => (pe_op (show OpR _ _ (rCatB K) from op_catB) (pe_op (show OpR _ _ (rCatB K) from op_catB) (pe_slice (show SlR _ (rSlB K) from sl_tupB) (pv 3) po_none (po_some (pv 1))) (pe_tup (pa_cons (pe_callB (call_max2 rfl) (by rfl) T.z_max (by decide +kernel) (pa_cons (pe_op op_sub (pe_ix (show IxR _ (rIxT K) from ix_tup) (pv 3) (pv 1) (fun _ _ => rfl)) (pv 2)) (pa_cons pe_int pa_nil))) pa_nil))) (pe_slice (show SlR _ (rSlB K) from sl_tupB) (pv 3) (po_some (pe_op op_add (pv 1) pe_int)) po_none)))) pa_nil))), ?_⟩
    refine ⟨_, rfl, l, rfl, ⟨_, hA⟩, fun D hD => ?_⟩
    have sD := same_new hD (.lst [])
    have hrl : rs.length = L.length := hL.length
    refine lc_list (K := K) (a := l) (xs := rs.map V.ref) (fun j H2 => Same H H2 ∧ ∃ es : List Addr, H2 D = some (.lst (es.map V.ref)) ∧ Tups K H2 es (M8.qN (L.take j) (powN d x e))) ⟨sD, [], upd_same, .nil⟩ (fun j H2 _ hh => same_sql hh.1 hA) (fun j v H2 hv hh => ?_) (fun H2 hh => ?_)
    · obtain ⟨s2, es, eD, hTe⟩ := hh
      obtain ⟨a, t, rfl, _, ht, hs⟩ := tups_get (hL.same s2) hv
      have htl := hl t (List.mem_of_getElem? ht)
      have hxt : x < t.length := by rw [htl]; exact hx
      have hel : es.length = _ := hTe.length
      rw [List.length_map, List.length_take] at hel
      have esub := sub_pow t x e hxt
      rw [htl] at esub
      refine ⟨rfl, _, rfl, _, rfl, _, rfl, a, _, rfl, hs, fun H3 z1 s3 hz1 => ?_⟩
      rw [cut_lo _ x (by rw [nv_len]; omega)] at hz1
      refine ⟨_, rfl, _, rfl, a, _, _, _, rfl, rfl, same_sqt s3 hs, at_nv hxt, _, rfl, _, _, rfl, rfl, _, _, rfl, by show 1 ≤ sizeLine; decide, fun z2 hz2 => ?_⟩
      have s4 := same_new hz2 (.tup [V.int (if (0 : Int) > ((at0 t x : Nat) : Int) - ((e : Nat) : Int) then 0 else ((at0 t x : Nat) : Int) - ((e : Nat) : Int))])
      have ev : (if (0 : Int) > ((at0 t x : Nat) : Int) - ((e : Nat) : Int) then (0 : Int) else ((at0 t x : Nat) : Int) - ((e : Nat) : Int)) = ((at0 t x - e : Nat) : Int) := by split <;> omega
      refine ⟨z1, z2, _, _, rfl, rfl, same_sqt s4 hz1, SqT.of upd_same, by rw [List.length_take, nv_len]; exact Nat.le_of_lt (sizeK (by show _ + 1 ≤ _; omega)), fun H5 z5 s5 hz5 => ?_⟩
      refine ⟨_, rfl, _, rfl, _, _, rfl, rfl, _, rfl, a, _, rfl, same_sqt (s3.trans (s4.trans s5)) hs, fun H6 z6 s6 hz6 => ?_⟩
      rw [show ((x : Nat) : Int) + 1 = ((x + 1 : Nat) : Int) from rfl, cut_hi _ (x + 1) (by rw [nv_len]; omega)] at hz6
      refine ⟨z5, z6, _, _, rfl, rfl, same_sqt s6 hz5, hz6, by rw [List.length_append, List.length_take, List.length_drop, nv_len]; exact Nat.le_of_lt (sizeK (by show _ + 1 + _ ≤ _; omega)), fun H7 z7 s7 hz7 => ?_⟩
      have S7 := s3.trans (s4.trans (s5.trans (s6.trans s7)))
      have hz8 : SqT K H7 z7 (nv (M8.subN t (powN d x e))) := by
        rw [esub]
        rw [ev] at hz7
        unfold nv at hz7 ⊢
        rw [List.map_append, List.map_append, List.map_take, List.map_drop]
        exact hz7
      refine ⟨_, S7 _ _ eD, by rw [List.length_map]; exact sizeK (by omega), same_updL (s2.trans S7) hD, es ++ [z7], by rw [upd_same, List.map_append]; rfl, ?_⟩
      rw [take_more ht]
      show Tups K _ _ (List.map _ (L.take j ++ [t]))
      rw [List.map_append]
      exact ((hTe.same S7).updL (S7 _ _ eD)).app (.cons (sqt_updL (S7 _ _ eD) hz8) .nil)
    · obtain ⟨s2, es, eD, hTe⟩ := hh
      rw [List.length_map, hrl, List.take_length] at hTe
      have hlq := M8.len_q (L := L) hl (pow_len d x e)
      refine ⟨D, es, _, d, B, rfl, .inl (SqL.of eD), hTe, by rw [M8.qN, List.length_map]; omega, by omega, hlq, fun t ht c hc => ?_, Nat.le_trans (M7.least_short _) (by rw [M8.qN, List.length_map]; omega), fun H3 z rs' s3 hzn hz3 hT3 => ?_⟩
      · obtain ⟨u, hu, rfl⟩ := List.mem_map.mp ht
        obtain ⟨i, hi, rfl⟩ := List.getElem_of_mem hc
        rw [List.getElem_zipWith]
        have := hB u hu (u[i]'(by rw [List.length_zipWith] at hi; omega)) (List.getElem_mem _)
        omega
      · exact q H3 z rs' (s2.trans s3) (s2.free hzn) hz3 hT3
theorem getD_zip : ∀ {A B : List Int} (j : Nat), A.length = B.length → (List.zipWith (fun x y => x - y) A B).getD j 0 = A.getD j 0 - B.getD j 0
  | [], [], j, _ => by simp
  | [], _ :: _, _, h => by simp at h
  | _ :: _, [], _, h => by simp at h
  | a :: A, b :: B, 0, _ => rfl
  | a :: A, b :: B, j + 1, h => getD_zip (A := A) (B := B) j (by simpa using h)
theorem getD_tail (s : List Int) (n j : Nat) : (s ++ List.replicate n (0 : Int)).getD j 0 = s.getD j 0 := by
  rw [List.getD_eq_getElem?_getD, List.getD_eq_getElem?_getD]
  by_cases h : j < s.length
  · rw [List.getElem?_append_left h]
  · rw [List.getElem?_append_right (by omega), List.getElem?_eq_none (l := s) (by omega), List.getElem?_replicate]
    split <;> rfl
theorem getD_lead (s : List Int) (n j : Nat) : (List.replicate n (0 : Int) ++ s).getD j 0 = sh n (fun i => s.getD i 0) j := by
  unfold sh
  rw [List.getD_eq_getElem?_getD]
  by_cases h : n ≤ j
  · rw [List.getElem?_append_right (by simpa using h), if_pos h, List.length_replicate]
    show _ = s.getD (j - n) 0
    rw [List.getD_eq_getElem?_getD]
  · rw [List.getElem?_append_left (by simp; omega), if_neg h, List.getElem?_replicate, if_pos (by omega)]
    rfl
abbrev lessL (s : List Int) (n : Nat) : List Int := List.zipWith (fun x y => x - y) (s ++ List.replicate n (0 : Int)) (List.replicate n (0 : Int) ++ s)
theorem less_len (s : List Int) (n : Nat) : (lessL s n).length = s.length + n := by
  rw [List.length_zipWith, List.length_append, List.length_append, List.length_replicate]
  omega
def sp_aps (K : PySem.W.Frag) : Sp := fun vs H Q _ => ∃ (l : Addr) (rs : List Addr) (L : List (List Nat)) (d : Nat), vs = [.ref l] ∧ SqL K H l (rs.map V.ref) ∧ Tups K H rs L ∧ (∀ t ∈ L, t.length = d) ∧ L.Pairwise Dis ∧ sumS L ≤ 1000 ∧
  ∀ H' z (s : List Int), Same H H' → H' z = some (.lst (s.map V.int)) → s.length = 1 + sumS L → (∀ j, s.getD j 0 = KN L j) → Q (.ref z) H'
theorem ok_aps (T : Txt K mg) : FnOk P w K mg base CX0 1 T.a_apart_series T.d_apart_series ["rows"] (sp_aps K) := by
  refine T.F_apart_series.ok sc_apart_series (fun vs H Q E h => ?_) (fun cdv A outer s H vs Q E hr h => ?_)
  · obtain ⟨l, rs, L, d, rfl, _⟩ := h
    rfl
  · obtain ⟨l, rs, L, d, rfl, hA, hL, hl, hdis, hz, q⟩ := h
    refine ⟨_, (pss_cons (ps_set (i := 1) sc_apart_series.nd rfl (Or.inl rfl) (pe_lst (pa_cons pe_int pa_nil)))
      (pss_cons (ps_for PassesOwn.never rfl (pi_list (pv 0)) (pg_name (i := 2) sc_apart_series.nd rfl (Or.inl rfl))
      (pss_cons (ps_set (i := 3) sc_apart_series.nd rfl (Or.inl rfl) (pe_op op_cat (pe_op op_rep (pe_lst (pa_cons pe_int pa_nil)) (pe_callB (cr_sumT rfl) (by rfl) T.z_sum boot_sum (pa_cons (pv 2) pa_nil))) (pv 1)))
      (pss_one (ps_setLc (i := 1) (own := [("one", 4), ("other", 5)]) (g := gTup K 2 (gCons (gName 4) (gCons (gName 5) gNil))) (tt := tYes) rfl sc_apart_series.nd rfl rfl (sw_true rfl rfl rfl (by decide +kernel)) (pi_zipA (by rfl) T.z_zip (pa_cons (pe_op op_cat (pv 1) (pe_op op_rep (pe_lst (pa_cons pe_int pa_nil)) (pe_callB (cr_sumT rfl) (by rfl) T.z_sum boot_sum (pa_cons (pv 2) pa_nil)))) (pa_cons (pv 3) pa_nil))) (blkOk_by (own := [("one", 4), ("other", 5)]) (N := N_apart_series) (sc := defScope s_apart_series) (by decide +kernel)) (fun _ _ _ _ _ => (pg_tup (by rfl) (pgs_cons (pg_name (i := 4) sc_apart_series.nd rfl (Or.inl rfl)) (pgs_cons (pg_name (i := 5) sc_apart_series.nd rfl (Or.inl rfl)) pgs_nil)))) (fun _ _ _ _ _ => pts_nil) (fun _ _ _ _ _ => (pe_op op_sub (pv 4) (pv 5)))))))
      (pss_one (ps_ret (pv 1))))), ?_⟩
    refine ⟨by show 1 ≤ sizeLine; decide, fun z0 hz0 => ?_⟩
    have s0 := same_new hz0 (.lst [V.int 1])
    have hrl : rs.length = L.length := hL.length
    refine ⟨_, rfl, l, rfl, ⟨_, same_sql s0 hA⟩, ?_⟩
    refine for_list (K := K) (a := l) (xs := rs.map V.ref) (fun i σ H' => ∃ (v2 v3 : Option V) (z : Addr) (c : List Int), σ = [some (.ref l), some (.ref z), v2, v3, none, none] ∧ Same H H' ∧ H' z = some (.lst (c.map V.int)) ∧ c.length = 1 + sumS (L.take i) ∧ ∀ j, c.getD j 0 = KN (L.take i) j)
      ⟨none, none, z0, [1], rfl, s0, upd_same, rfl, fun j => ?_⟩ ?_ ?_ ?_
    · rw [List.take_zero, K_nil]
      unfold oneK
      cases j with
      | zero => rfl
      | succ j => rfl
    · rintro i σ H1 _ ⟨v2, v3, z, c, rfl, s1, _⟩
      exact same_sql s1 hA
    · rintro i v σ H1 hv ⟨v2, v3, z, c, rfl, s1, hc, hcl, hck⟩
      obtain ⟨a, t, rfl, _, ht, hs⟩ := tups_get (hL.same s1) hv
      have htl := hl t (List.mem_of_getElem? ht)
      have hi : i < L.length := (List.getElem?_eq_some_iff.mp ht).1
      have hst : sumS (L.take (i + 1)) = sumS (L.take i) + t.sum := by
        rw [take_more ht, sumS_app]
        simp [sumS]
      have hle : sumS (L.take (i + 1)) ≤ 1000 := by
        have e := congrArg sumS (List.take_append_drop (i + 1) L)
        rw [sumS_app] at e
        omega
      have nz : (((t.sum : Nat) : Int)).toNat = t.sum := Int.toNat_natCast _
      have hzs : sumS (L.take i) ≤ 1000 := by omega
      refine ⟨by show 1 ≤ sizeLine; decide, fun p hp => ?_⟩
      have sp := same_new hp (.lst [V.int 0])
      refine ⟨_, rfl, a, _, rfl, by rw [← nv_ints]; exact same_sqt sp hs, p, ((t.sum : Nat) : Int), [.int 0], rfl, by rw [sum_ints], upd_same, by omega, by omega, by rw [nz]; show 1 * t.sum ≤ sizeLine; exact Nat.le_of_lt (sizeK (by omega)), fun p2 hp2 => ?_⟩
      have sp2 := same_new hp2 (.lst (List.replicate (((t.sum : Nat) : Int)).toNat [V.int 0]).flatten)
      rw [nz, zeros_int] at sp2 ⊢
      have S2 := sp.trans sp2
      refine ⟨_, rfl, p2, z, _, _, rfl, rfl, upd_same, S2 _ _ hc, by rw [List.length_map, List.length_map, List.length_replicate]; exact Nat.le_of_lt (sizeK (by omega)), fun p3 hp3 => ?_⟩
      rw [← List.map_append]
      have s3 := same_new hp3 (.lst ((List.replicate t.sum (0 : Int) ++ c).map V.int))
      have S3 := S2.trans s3
      have e3 : (upd (upd (upd H1 p (.lst [V.int 0])) p2 (.lst ((List.replicate t.sum (0 : Int)).map V.int))) p3 (.lst ((List.replicate t.sum (0 : Int) ++ c).map V.int))) p3 = some (.lst ((List.replicate t.sum (0 : Int) ++ c).map V.int)) := upd_same
      generalize (upd (upd (upd H1 p (.lst [V.int 0])) p2 (.lst ((List.replicate t.sum (0 : Int)).map V.int))) p3 (.lst ((List.replicate t.sum (0 : Int) ++ c).map V.int))) = H3 at S3 e3 ⊢
      refine ⟨_, rfl, by show 1 ≤ sizeLine; decide, fun p4 hp4 => ?_⟩
      have sp4 := same_new hp4 (.lst [V.int 0])
      refine ⟨_, rfl, a, _, rfl, by rw [← nv_ints]; exact same_sqt (S3.trans sp4) hs, p4, ((t.sum : Nat) : Int), [.int 0], rfl, by rw [sum_ints], upd_same, by omega, by omega, by rw [nz]; show 1 * t.sum ≤ sizeLine; exact Nat.le_of_lt (sizeK (by omega)), fun p5 hp5 => ?_⟩
      have sp5 := same_new hp5 (.lst (List.replicate (((t.sum : Nat) : Int)).toNat [V.int 0]).flatten)
      rw [nz, zeros_int] at sp5 ⊢
      have S5 := sp4.trans sp5
      refine ⟨z, p5, _, _, rfl, rfl, (S3.trans S5) _ _ hc, upd_same, by rw [List.length_map, List.length_map, List.length_replicate]; exact Nat.le_of_lt (sizeK (by omega)), fun p6 hp6 => ?_⟩
      rw [← List.map_append]
      have s6 := same_new hp6 (.lst ((c ++ List.replicate t.sum (0 : Int)).map V.int))
      have S6 := S5.trans s6
      have e6 : (upd (upd (upd H3 p4 (.lst [V.int 0])) p5 (.lst ((List.replicate t.sum (0 : Int)).map V.int))) p6 (.lst ((c ++ List.replicate t.sum (0 : Int)).map V.int))) p6 = some (.lst ((c ++ List.replicate t.sum (0 : Int)).map V.int)) := upd_same
      generalize (upd (upd (upd H3 p4 (.lst [V.int 0])) p5 (.lst ((List.replicate t.sum (0 : Int)).map V.int))) p6 (.lst ((c ++ List.replicate t.sum (0 : Int)).map V.int))) = H6 at S6 e6 ⊢
      have e36 := S6 _ _ e3
      refine ⟨_, rfl, p6, p3, _, _, rfl, .inl ⟨SqL.of e6, SqL.of e36, fun D hD => ?_⟩⟩
      have sD := same_new hD (.lst [])
      have hll : (lessL c t.sum).length = c.length + t.sum := less_len c t.sum
      refine lc_it (walk_zip (K := K) (a := p6) (b := p3) (xs := ((c ++ List.replicate t.sum (0 : Int)).map V.int)) (ys := ((List.replicate t.sum (0 : Int) ++ c).map V.int)) (n := c.length + t.sum) (by rw [List.length_map, List.length_map, List.length_append, List.length_append, List.length_replicate]; omega)) (fun j H' => Same H6 H' ∧ H' D = some (.lst (((lessL c t.sum).take j).map V.int))) ⟨sD, upd_same⟩ (fun j H' _ hh => ⟨SqL.of (hh.1 _ _ e6), SqL.of (hh.1 _ _ e36)⟩) ?_ ?_
      · rintro j v' H7 _ hj ⟨s7, eD⟩ ⟨T', x, y, rfl, hT', rfl, hx, hy⟩
        dsimp only at hx hy
        rw [List.getElem?_map] at hx hy
        obtain ⟨u1, hu1, rfl⟩ : ∃ u, (c ++ List.replicate t.sum (0 : Int))[j]? = some u ∧ x = V.int u := by
          cases h : (c ++ List.replicate t.sum (0 : Int))[j]? with
          | none => rw [h] at hx; cases hx
          | some u => rw [h] at hx; exact ⟨u, rfl, (Option.some.inj hx).symm⟩
        obtain ⟨u2, hu2, rfl⟩ : ∃ u, (List.replicate t.sum (0 : Int) ++ c)[j]? = some u ∧ y = V.int u := by
          cases h : (List.replicate t.sum (0 : Int) ++ c)[j]? with
          | none => rw [h] at hy; cases hy
          | some u => rw [h] at hy; exact ⟨u, rfl, (Option.some.inj hy).symm⟩
        have sT := same_new hT' (.tup [V.int u1, V.int u2])
        have hget : (lessL c t.sum)[j]? = some (u1 - u2) := by rw [List.getElem?_zipWith, hu1, hu2]
        refine ⟨T', _, rfl, SqT.of upd_same, rfl, _, _, rfl, _, _, rfl, rfl, ?_⟩
        refine ⟨rfl, _, rfl, _, rfl, _, _, rfl, rfl, _, sT _ _ eD, by rw [List.length_map, List.length_take]; exact sizeK (by omega), same_updL (s7.trans sT) hD, ?_⟩
        rw [upd_same, take_more hget, List.map_append]
        rfl
      · rintro H7 ⟨s7, eD⟩
        rw [List.take_of_length_le (by omega)] at eD
        refine ⟨_, _, D, lessL c t.sum, rfl, s1.trans (S3.trans (S6.trans s7)), eD, by omega, fun j => ?_⟩
        rw [getD_zip j (by rw [List.length_append, List.length_append, List.length_replicate]; omega), getD_tail, getD_lead, hck j, take_more ht]
        rw [K_next (d := d) (A := L.take i) (r := t) (fun u hu => hl u (List.mem_of_mem_take hu)) htl (fun u hu => ?_)]
        · have : (fun i_1 => c.getD i_1 0) = KN (L.take i) := funext hck
          rw [this]
        · have h1 : (L.take (i + 1)).Pairwise Dis := hdis.sublist (List.take_sublist _ _)
          rw [take_more ht] at h1
          exact (List.pairwise_append.mp h1).2.2 u hu t (List.mem_singleton.mpr rfl)
    · rintro σ H1 ⟨v2, v3, z, c, rfl, s1, hc, hcl, hck⟩
      rw [List.length_map, hrl, List.take_length] at hcl hck
      exact ⟨_, rfl, q H1 z c s1 hc hcl hck⟩
end
end K13

namespace K13
open PySem PySem.Spec PyProof.Rows L2 RZ L5 R7 XX
open M12 DD
/-- what waits: its tuple, its rows' list, the rows, how much later, their bound -/
structure En where
  t : Addr
  l : Addr
  rs : List Addr
  L : List (List Nat)
  k : Nat
  b : List Nat
structure EnOk (K : PySem.W.Frag) (f w : Addr) (d D : Nat) (H : Hp) (e : En) : Prop where
  tup : SqT K H e.t [.ref e.l, zV e.k]
  lst : H e.l = some (.lst (e.rs.map V.ref))
  rows : Tups K H e.rs e.L
  way : Way d e.b e.L
  far : e.k + e.b.sum ≤ D
  few : e.L.length ≤ 60
  nw : e.l ≠ w
  nf : e.l ≠ f
/-- all but the dict and the list that waits stands -/
def Bar2 (f w : Addr) (H H' : Hp) : Prop := ∀ b o, b ≠ f → b ≠ w → H b = some o → H' b = some o
theorem Bar2.trans {f w : Addr} {A B C : Hp} (a : Bar2 f w A B) (b : Bar2 f w B C) : Bar2 f w A C := fun c o n m h => b c o n m (a c o n m h)
theorem Bar2.same {f w : Addr} {A B : Hp} (a : Same A B) : Bar2 f w A B := fun c o _ _ h => a c o h
theorem Bar2.updF {f w : Addr} {A : Hp} {o : HO} : Bar2 f w A (upd A f o) := fun c u n _ h => by
  rw [upd_ne n]
  exact h
theorem Bar2.updW {f w : Addr} {A : Hp} {o : HO} : Bar2 f w A (upd A w o) := fun c u _ n h => by
  rw [upd_ne n]
  exact h
theorem bar2_sqt {K : PySem.W.Frag} {f w a : Addr} {H H' : Hp} {xs ys : List V} {kvs : List (Key × V)} (hf : H f = some (.dK kvs)) (hw : H w = some (.lst ys)) (b : Bar2 f w H H') (h : SqT K H a xs) : SqT K H' a xs := by
  have ne : ∀ {o : HO}, H a = some o → o ≠ .dK kvs → o ≠ .lst ys → a ≠ f ∧ a ≠ w := fun {o} e n1 n2 => ⟨fun k => by
    rw [k, hf] at e
    exact n1 (Option.some.inj e).symm, fun k => by
    rw [k, hw] at e
    exact n2 (Option.some.inj e).symm⟩
  rcases h with (h | ⟨o, h⟩) | h
  · exact .inl (.inl (b _ _ (ne h (fun k => nomatch k) (fun k => nomatch k)).1 (ne h (fun k => nomatch k) (fun k => nomatch k)).2 h))
  · exact .inl (.inr ⟨o, b _ _ (ne h (fun k => nomatch k) (fun k => nomatch k)).1 (ne h (fun k => nomatch k) (fun k => nomatch k)).2 h⟩)
  · exact .inr h
theorem bar2_tups {K : PySem.W.Frag} {f w : Addr} {H H' : Hp} {ys : List V} {kvs : List (Key × V)} (hf : H f = some (.dK kvs)) (hw : H w = some (.lst ys)) (b : Bar2 f w H H') : ∀ {rs : List Addr} {L : List (List Nat)}, Tups K H rs L → Tups K H' rs L
  | _, _, .nil => .nil
  | _, _, .cons h t => .cons (bar2_sqt hf hw b h) (bar2_tups hf hw b t)
theorem EnOk.bar {K : PySem.W.Frag} {f w : Addr} {d D : Nat} {H H' : Hp} {e : En} {ys : List V} {kvs : List (Key × V)} (hf : H f = some (.dK kvs)) (hw : H w = some (.lst ys)) (b : Bar2 f w H H') (h : EnOk K f w d D H e) : EnOk K f w d D H' e :=
  ⟨bar2_sqt hf hw b h.tup, b _ _ h.nf h.nw h.lst, bar2_tups hf hw b h.rows, h.way, h.far, h.few, h.nw, h.nf⟩
abbrev waitS (es : List En) (j : Nat) : Int := (es.map fun e => sh e.k (KN e.L) j).sum
abbrev waitM (es : List En) : Nat := (es.map fun e => 3 ^ sumS e.L).sum
theorem waitS_app (es : List En) (e : En) (j : Nat) : waitS (es ++ [e]) j = waitS es j + sh e.k (KN e.L) j := by
  show ((es ++ [e]).map _).sum = _
  rw [List.map_append, List.sum_append]
  show _ + (sh e.k (KN e.L) j + 0) = _
  rw [Int.add_zero]
theorem waitM_app (es : List En) (e : En) : waitM (es ++ [e]) = waitM es + 3 ^ sumS e.L := by
  show ((es ++ [e]).map _).sum = _
  rw [List.map_append, List.sum_append]
  rfl
theorem snoc_of {α : Type} {l : List α} (h : l ≠ []) : ∃ m a, l = m ++ [a] := ⟨l.dropLast, l.getLast h, (List.dropLast_concat_getLast h).symm⟩
theorem put_new (g : Nat → Int) {j : Nat} {ks : List Nat} (h : ¬ j ∈ ks) : putK (ks.map (entK g)) (Sum.inl ((j : Nat) : Int)) (.int (g j)) = (ks ++ [j]).map (entK g) := by
  rw [put_ent, if_neg h]
  congr 1
  funext i
  show ((Sum.inl ((i : Nat) : Int) : Key), V.int (if i = j then g j else g i)) = _
  by_cases e : i = j
  · rw [if_pos e, e]
  · rw [if_neg e]
structure SerI (K : PySem.W.Frag) (f w : Addr) (d D S0 : Nat) (F : Nat → Int) (es : List En) (g : Nat → Int) (ks : List Nat) (H : Hp) : Prop where
  fnd : H f = some (.dK (ks.map (entK g)))
  wat : H w = some (.lst (es.map fun e => V.ref e.t))
  dk : DK g ks
  low : ∀ j ∈ ks, j ≤ D
  ens : ∀ e ∈ es, EnOk K f w d D H e
  pos : ∀ (i : Nat) (e : En), es[i]? = some e → i + sumS e.L ≤ S0
  tot : ∀ j, F j = g j + waitS es j
def SerP (K : PySem.W.Frag) (m f w0 : Addr) (d D S0 : Nat) (F : Nat → Int) (H : Hp) (M : Nat) (σ : L2.St) (H' : Hp) : Prop := ∃ (v3 v4 v5 v6 v7 v8 : Option V) (es : List En) (g : Nat → Int) (ks : List Nat), σ = [some (.ref m), some (.ref f), some (.ref w0), v3, v4, v5, v6, v7, v8] ∧ Same H H' ∧ SerI K f w0 d D S0 F es g ks H' ∧ M = waitM es
theorem bar_back {p : Addr} {H H1 H2 : Hp} (s1 : Same H H1) (b : Bar p H1 H2) (hp : H p = none) : Same H H2 := fun c o h => b c o (fun e => by rw [e, hp] at h; cases h) (s1 c o h)
theorem mem_le_sum : ∀ {t : List Nat} {c : Nat}, c ∈ t → c ≤ t.sum
  | a :: t, c, h => by
    rw [List.sum_cons]
    rcases List.mem_cons.mp h with rfl | h
    · omega
    · have := mem_le_sum h
      omega
theorem pow3 {n k : Nat} (h : n < k) : 2 * 3 ^ n < 3 ^ k := by
  have h1 : 3 ^ (n + 1) ≤ 3 ^ k := Nat.pow_le_pow_right (by decide) h
  have h2 : 0 < 3 ^ n := Nat.pow_pos (by decide)
  rw [Nat.pow_succ] at h1
  omega
theorem low_len {ks : List Nat} {g : Nat → Int} {D : Nat} (h : DK g ks) (low : ∀ j ∈ ks, j ≤ D) (hD : D ≤ 60) : ks.length ≤ 61 := Nat.le_trans (nodup_len (n := D + 1) h.nd fun j hj => Nat.lt_succ_of_le (low j hj)) (by omega)
section
variable {P : Program} {w : World} {K : PySem.W.Frag} {mg : Str → Option Value} {base : Heap}
def sp_ser (K : PySem.W.Frag) : Sp := fun vs H Q _ => ∃ (m : Addr) (rs : List Addr) (L : List (List Nat)) (d : Nat) (b : List Nat), vs = [.ref m] ∧ SqT K H m (rs.map V.ref) ∧ Tups K H rs L ∧ Way d b L ∧ 1 ≤ d ∧ d ≤ 60 ∧ b.sum ≤ 60 ∧ L.length ≤ 60 ∧ sumS L ≤ 1000 ∧
  ∀ H' z, Same H H' → H z = none → H' z = some (.dK (numK (KN L))) → Q (.ref z) H'
theorem ok_ser (T : Txt K mg) : FnOk P w K mg base CX0 5 T.a_series_of T.d_series_of ["members"] (sp_ser K) := by
  refine T.F_series_of.ok sc_series_of (fun vs H Q E h => ?_) (fun cdv A outer s H vs Q E hr h => ?_)
  · obtain ⟨m, rs, L, d, b, rfl, _⟩ := h
    rfl
  · obtain ⟨m, rs, L, d, b, rfl, hA, hL, hw, hd1, hd, hb, hz, hS, q⟩ := h
    refine ⟨_, (pss_cons (ps_set (i := 1) sc_series_of.nd rfl (Or.inr rfl) pe_dnewK)
      (pss_cons (ps_set (i := 2) sc_series_of.nd rfl (Or.inl rfl) (pe_lst (pa_cons (pe_tup (pa_cons (pe_callTy call_list_of (by rfl) T.z_list boot_list (pa_cons (pv 0) pa_nil)) (pa_cons pe_int pa_nil))) pa_nil)))
      (pss_cons (ps_while PassesOwn.never (pt_truth (pv 2) (fun _ => rfl))
      (pss_cons (ps_asg (pe_bm0 PySem.F.plainAttrs_list PySem.F.slot_list_pop PySem.F.type_list_pop mt_pop (pv 2)) (pg_tup (by rfl) (pgs_cons (pg_name (i := 3) sc_series_of.nd rfl (Or.inl rfl)) (pgs_cons (pg_name (i := 4) sc_series_of.nd rfl (Or.inl rfl)) pgs_nil))))
      (pss_cons (ps_set (i := 5) sc_series_of.nd rfl (Or.inl rfl) (pe_call  (ok_shl T) (hr.mono (by decide)) (by rfl) T.m_shared_letter T.F_shared_letter.kp T.b_shared_letter .nil pass0 (pa_cons (pv 3) pa_nil)))
      (pss_one (ps_if (pt_cmpR op_isN (pv 5) pe_non (nomark _)) (pss_one (ps_for PassesOwn.never rfl (pi_enum (by rfl) T.z_enumerate (pa_cons (pe_call  (ok_aps T) (hr.mono (by decide)) (by rfl) T.m_apart_series T.F_apart_series.kp T.b_apart_series .nil pass0 (pa_cons (pv 3) pa_nil)) pa_nil)) (pg_tup (by rfl) (pgs_cons (pg_name (i := 6) sc_series_of.nd rfl (Or.inl rfl)) (pgs_cons (pg_name (i := 7) sc_series_of.nd rfl (Or.inl rfl)) pgs_nil)))
      (pss_one (ps_dput (hu_of hr) (pv 1) (pe_op op_add (pv 6) (pv 4)) (pe_op op_add (pe_dget2 (hu_of hr) (pv 1) (pe_op op_add (pv 6) (pv 4)) pe_int ⟨rfl, rfl, rfl, rfl⟩) (pv 7)) rfl)))) (pss_cons (ps_set (i := 8) sc_series_of.nd rfl (Or.inl rfl) (pe_call  (ok_mid T) (hr.mono (by decide)) (by rfl) T.m_middle_exponent T.F_middle_exponent.kp T.b_middle_exponent .nil pass0 (pa_cons (pv 3) (pa_cons (pv 5) pa_nil))))
      (pss_cons (ps_expr (pe_bm PySem.F.plainAttrs_list PySem.F.slot_list_append PySem.F.type_list_append mt_append (pv 2) (pa_cons (pe_tup (pa_cons (pe_call  (ok_wip T) (hr.mono (by decide)) (by rfl) T.m_with_power T.F_with_power.kp T.b_with_power .nil pass0 (pa_cons (pv 3) (pa_cons (pv 5) (pa_cons (pv 8) pa_nil)))) (pa_cons (pv 4) pa_nil))) pa_nil)))
      (pss_one (ps_expr (pe_bm PySem.F.plainAttrs_list PySem.F.slot_list_append PySem.F.type_list_append mt_append (pv 2) (pa_cons (pe_tup (pa_cons (pe_call  (ok_wop T) (hr.mono (by decide)) (by rfl) T.m_without_power T.F_without_power.kp T.b_without_power .nil pass0 (pa_cons (pv 3) (pa_cons (pv 5) (pa_cons (pv 8) pa_nil)))) (pa_cons (pe_op op_add (pv 4) (pv 8)) pa_nil))) pa_nil)))))))))))
      (pss_one (ps_ret (pe_dc (own := [("degree", 6)]) (g := gName 6) rfl sc_series_of.nd (pi_list (pe_callB (call_sortedDI rfl) (by rfl) T.z_sorted boot_sorted (pa_cons (pv 1) pa_nil))) (blkOk_by (own := [("degree", 6)]) (N := N_series_of) (sc := defScope s_series_of) (by decide +kernel)) (fun _ _ _ _ _ => (pg_name (i := 6) sc_series_of.nd rfl (Or.inl rfl))) (fun _ _ _ _ _ => pts_one (pt_cmpR op_ne (pe_dget (hu_of hr) (pv 1) (pv 6) (fun _ _ => rfl)) pe_int (nomark _))) (fun _ _ _ _ _ => (pv 6)) (fun _ _ _ _ _ => (pe_dget (hu_of hr) (pv 1) (pv 6) (fun _ _ => rfl))))))))), ?_⟩
    intro f hf0
    have sf := same_new hf0 (.dK [])
    refine ⟨_, rfl, m, _, rfl, .inr (same_sqt sf hA), fun l0 hl0 => ?_⟩
    have sl := same_new hl0 (.lst (rs.map V.ref))
    refine ⟨by show 2 ≤ sizeLine; decide, fun t0 ht0 => ?_⟩
    have st := same_new ht0 (.tup [.ref l0, .int 0])
    refine ⟨by show 1 ≤ sizeLine; decide, fun w0 hw0 => ?_⟩
    have sw := same_new hw0 (.lst [.ref t0])
    have S0 : Same H (upd (upd (upd (upd H f (.dK [])) l0 (.lst (rs.map V.ref))) t0 (.tup [.ref l0, .int 0])) w0 (.lst [.ref t0])) := sf.trans (sl.trans (st.trans sw))
    have e_f : (upd (upd (upd (upd H f (.dK [])) l0 (.lst (rs.map V.ref))) t0 (.tup [.ref l0, .int 0])) w0 (.lst [.ref t0])) f = some (.dK []) := (sl.trans (st.trans sw)) _ _ upd_same
    have e_l : (upd (upd (upd (upd H f (.dK [])) l0 (.lst (rs.map V.ref))) t0 (.tup [.ref l0, .int 0])) w0 (.lst [.ref t0])) l0 = some (.lst (rs.map V.ref)) := (st.trans sw) _ _ upd_same
    have e_t : (upd (upd (upd (upd H f (.dK [])) l0 (.lst (rs.map V.ref))) t0 (.tup [.ref l0, .int 0])) w0 (.lst [.ref t0])) t0 = some (.tup [.ref l0, .int 0]) := sw _ _ upd_same
    have e_w : (upd (upd (upd (upd H f (.dK [])) l0 (.lst (rs.map V.ref))) t0 (.tup [.ref l0, .int 0])) w0 (.lst [.ref t0])) w0 = some (.lst [.ref t0]) := upd_same
    have n_lw : l0 ≠ w0 := ne_of_none (st _ _ upd_same) hw0
    have n_lf : l0 ≠ f := fun e => ne_of_none (H := upd H f (.dK [])) upd_same hl0 e.symm
    have hf0' := hf0
    have hw0' : H w0 = none := (sf.trans (sl.trans st)).free hw0
    generalize (upd (upd (upd (upd H f (.dK [])) l0 (.lst (rs.map V.ref))) t0 (.tup [.ref l0, .int 0])) w0 (.lst [.ref t0])) = H0 at S0 e_f e_l e_t e_w ⊢
    refine ⟨SerP K m f w0 d b.sum (sumS L) (KN L) H, ⟨_, none, none, none, none, none, none, [⟨t0, l0, rs, L, 0, b⟩], fun _ => 0, [], rfl, S0, ⟨e_f, e_w, DK.nil, (fun _ h => nomatch h), fun e he => ?_, fun i e he => ?_, fun j => ?_⟩, rfl⟩, ?_⟩
    · rw [List.mem_singleton.mp he]
      exact ⟨SqT.of e_t, e_l, hL.same S0, hw, Nat.le_of_eq (Nat.zero_add _), hz, n_lw, n_lf⟩
    · cases i with
      | zero =>
        cases he
        show 0 + sumS L ≤ _
        omega
      | succ i => cases he
    · show KN L j = 0 + (sh 0 (KN L) j + 0)
      rw [sh_zero]
      omega
    rintro M σ H1 ⟨v3, v4, v5, v6, v7, v8, es, g, ks, rfl, s1, I, rfl⟩
    refine ⟨_, rfl, _, .inl ⟨_, SqL.of I.wat, rfl⟩, ?_⟩
    by_cases hne : es = []
    · subst hne
      refine iteF ?_
      have eg : g = KN L := funext fun j => by
        have := I.tot j
        rw [show waitS [] j = 0 from rfl] at this
        omega
      have hkl : ks.length ≤ 61 := Nat.le_trans (nodup_len (n := b.sum + 1) I.dk.nd fun j hj => Nat.lt_succ_of_le (I.low j hj)) (by omega)
      refine ⟨_, rfl, f, _, ks.map (fun n => ((n : Nat) : Int)), rfl, .inl I.fnd, by rw [List.map_map, List.map_map]; rfl, by rw [List.length_map]; omega, fun ys p hp hs hpn => ?_⟩
      have sp := same_new hpn (.lst (ys.map V.int))
      obtain ⟨zs, rfl, hznd, hfil, hzlow, hzm, hzl⟩ := sup_of I.dk (fun j hj => Nat.lt_of_le_of_lt (I.low j hj) (by omega)) hp hs
      refine ⟨p, rfl, ⟨_, SqL.of upd_same⟩, fun D hD => ?_⟩
      have hfs := sp _ _ I.fnd
      have hps : (upd H1 p (.lst ((zs.map fun n => ((n : Nat) : Int)).map V.int))) p = some (.lst (nv zs)) := by rw [upd_same, ← nv_ints]
      generalize (upd H1 p (.lst ((zs.map fun n => ((n : Nat) : Int)).map V.int))) = H2 at sp hD hfs hps ⊢
      have sD := same_new hD (.dK [])
      refine dc_it (walk_list (K := K) (a := p) (xs := nv zs)) (fun i H' => Same H2 H' ∧ H' D = some (.dK (((zs.take i).filter fun j => decide (g j ≠ 0)).map (entK g)))) ⟨sD, upd_same⟩ (fun i H' _ hh => SqL.of (hh.1 _ _ hps)) ?_ ?_
      · rintro i x Hx H3 hi ⟨s3, eD⟩ ⟨e4, hx⟩
        subst e4
        obtain ⟨j, hj, rfl⟩ := nv_get hx
        have hjk : j ∈ ks := (hzm j).mp (List.mem_of_getElem? hj)
        have hval : valV (ks.map (entK g)) (Sum.inl ((j : Nat) : Int)) = some (.int (g j)) := by rw [val_ent, if_pos hjk]
        have hget : DGet H3 f (.int ((j : Nat) : Int)) (some (.int (g j))) := hval ▸ DGet.k (k := Sum.inl ((j : Nat) : Int)) (s3 _ _ hfs)
        refine ⟨rfl, _, rfl, _, rfl, f, .int (g j), rfl, hget, rfl, _, rfl, ?_⟩
        have hnot : ¬ j ∈ ((zs.take i).filter fun j => decide (g j ≠ 0)) := fun hm => by
          have hm := (List.mem_filter.mp hm).1
          have : (zs.take (i + 1)).Nodup := hznd.sublist (List.take_sublist _ _)
          rw [take_more hj] at this
          exact (List.nodup_append.mp this).2.2 j hm j (List.mem_singleton.mpr rfl) rfl
        have flen : ((zs.take i).filter fun j => decide (g j ≠ 0)).length ≤ 61 := Nat.le_trans (List.length_filter_le _ _) (by rw [List.length_take]; omega)
        by_cases h0 : g j = 0
        · rw [show (!decide (V.int (g j) = V.int 0)) = false by rw [h0, decide_eq_true rfl]; rfl]
          refine iteF ⟨s3, ?_⟩
          rw [take_more hj, List.filter_append, List.filter_cons, if_neg (by rw [decide_eq_true_iff]; exact fun n => n h0), List.filter_nil, List.append_nil]
          exact eD
        · rw [show (!decide (V.int (g j) = V.int 0)) = true by rw [decide_eq_false (fun e => h0 (V.int.inj e))]; rfl]
          refine iteT ⟨_, rfl, _, rfl, _, rfl, f, _, rfl, hget, _, Sum.inl ((j : Nat) : Int), rfl, eD, by rw [List.length_map]; exact sizeK (by omega), same_updL s3 hD, ?_⟩
          rw [upd_same, put_new g hnot, take_more hj, List.filter_append, List.filter_cons, if_pos (decide_eq_true h0), List.filter_nil]
      · rintro H3 ⟨s3, eD⟩
        rw [nv_len, List.take_length, hfil, eg] at eD
        exact q H3 D (s1.trans (sp.trans s3)) ((s1.trans sp).free hD) eD
    · obtain ⟨es0, e, rfl⟩ := snoc_of hne
      have hlast : ((es0 ++ [e]).map fun e => V.ref e.t)[((es0 ++ [e]).map fun e => V.ref e.t).length - 1]? = some (.ref e.t) := by
        rw [List.length_map, List.length_append, List.map_append, List.getElem?_append_right (by rw [List.length_map]; show _ ≤ _ + 1 - 1; omega)]
        rw [List.length_map, show es0.length + [e].length - 1 - es0.length = 0 by show _ + 1 - 1 - _ = 0; omega]
        rfl
      rw [show (!((es0 ++ [e]).map fun e => V.ref e.t).isEmpty) = true by cases es0 <;> rfl]
      refine iteT ⟨fun σ' H' => ∃ m', m' < waitM (es0 ++ [e]) ∧ SerP K m f w0 d b.sum (sumS L) (KN L) H m' σ' H', fun _ _ h => h, ?_⟩
      refine ⟨_, rfl, .inl ⟨rfl, _, SqL.of I.wat⟩, w0, _, _, rfl, rfl, I.wat, hlast, ?_⟩
      rw [show ((es0 ++ [e]).map fun e => V.ref e.t).dropLast = es0.map fun e => V.ref e.t by rw [List.map_append]; exact List.dropLast_concat]
      have hE := I.ens e (List.mem_append.mpr (.inr (List.mem_singleton.mpr rfl)))
      have b2 : Bar2 f w0 H1 (upd H1 w0 (.lst (es0.map fun e => V.ref e.t))) := Bar2.updW
      have n_fw : f ≠ w0 := fun z => by
        have h1 := I.fnd
        rw [z, I.wat] at h1
        cases h1
      have hf2 : (upd H1 w0 (.lst (es0.map fun e => V.ref e.t))) f = some (.dK (ks.map (entK g))) := by rw [upd_ne n_fw]; exact I.fnd
      have hw2 : (upd H1 w0 (.lst (es0.map fun e => V.ref e.t))) w0 = some (.lst (es0.map fun e => V.ref e.t)) := upd_same
      have hE2 := hE.bar I.fnd I.wat b2
      have hens2 : ∀ e ∈ es0, EnOk K f w0 d b.sum (upd H1 w0 (.lst (es0.map fun e => V.ref e.t))) e := fun e he => (I.ens e (List.mem_append.mpr (.inl he))).bar I.fnd I.wat b2
      have s2 : Same H (upd H1 w0 (.lst (es0.map fun e => V.ref e.t))) := same_updL s1 hw0'
      have hpos0 : ∀ (i : Nat) (x : En), es0[i]? = some x → i + sumS x.L ≤ sumS L := fun i x hx => I.pos i x (by rw [List.getElem?_append_left (List.getElem?_eq_some_iff.mp hx).1]; exact hx)
      have hposE : es0.length + sumS e.L ≤ sumS L := I.pos es0.length e (by rw [List.getElem?_append_right (Nat.le_refl _), Nat.sub_self]; rfl)
      have htot : ∀ j, KN L j = g j + (waitS es0 j + sh e.k (KN e.L) j) := fun j => by rw [I.tot j, waitS_app]
      have hM := waitM_app es0 e
      have hdk := I.dk
      have hlow := I.low
      clear I
      generalize (upd H1 w0 (.lst (es0.map fun e => V.ref e.t))) = H2 at hf2 hw2 hE2 hens2 s2 ⊢
      refine ⟨e.t, _, rfl, hE2.tup, rfl, _, _, rfl, _, _, rfl, rfl, ?_⟩
      refine ⟨_, rfl, e.l, e.rs, e.L, d, rfl, SqL.of hE2.lst, hE2.rows, hd1, by omega, hE2.way.ant.len, by have := hE2.few; omega, fun hap H3 s3 => ?_, fun x hx h2x H3 s3 => ?_⟩
      · refine ⟨_, rfl, rfl, _, rfl, iteT ?_⟩
        have hdis := dis_of hE2.way.ant.len hap
        have hsum := apart_sum (L := e.L) (b := e.b) (fun r hr' => ⟨by rw [hE2.way.ant.len r hr', hE2.way.bl], hE2.way.low r hr'⟩) hdis
        have hfar := hE2.far
        refine ⟨_, rfl, e.l, e.rs, e.L, d, rfl, SqL.of (s3 _ _ hE2.lst), hE2.rows.same s3, hE2.way.ant.len, hdis, by omega, fun H4 z c s4 hc hcl hck => ?_⟩
        have S4 := s3.trans s4
        refine ⟨z, _, rfl, SqL.of hc, ?_⟩
        have hf4 := S4 _ _ hf2
        have hw4 := S4 _ _ hw2
        have n_zf : z ≠ f := fun k => by
          rw [k, hf4] at hc
          cases hc
        refine for_it (walk_enum (K := K) (a := z) (xs := c.map V.int)) (fun i σ H' => ∃ (v6 v7 : Option V) (g' : Nat → Int) (ks' : List Nat), σ = [some (.ref m), some (.ref f), some (.ref w0), some (.ref e.l), some (zV e.k), some .non, v6, v7, v8] ∧ Bar f H4 H' ∧ H' f = some (.dK (ks'.map (entK g'))) ∧ DK g' ks' ∧ (∀ j ∈ ks', j ≤ b.sum) ∧ ∀ j, g' j = g j + if e.k ≤ j ∧ j < e.k + i then c.getD (j - e.k) 0 else 0)
          ⟨v6, v7, g, ks, rfl, Bar.same (Same.refl _), hf4, hdk, hlow, fun j => ?_⟩ ?_ ?_ ?_
        · rw [if_neg (by omega)]
          omega
        · rintro i σ H' _ ⟨_, _, _, _, rfl, bb, _⟩
          exact SqL.of (bb _ _ n_zf hc)
        · rintro i v σ H5 H6 hi ⟨u6, u7, g', ks', rfl, bb, hf5, hdk5, hlow5, hg5⟩ ⟨T', x, y, rfl, hT', e6, hx, hy⟩
          subst e6
          cases hx
          dsimp only at hy
          rw [List.length_map] at hi
          have hcy : c[i]? = some (c.getD i 0) := by rw [List.getD_eq_getElem?_getD, List.getElem?_eq_getElem hi]; rfl
          rw [List.getElem?_map, hcy] at hy
          have hy' : y = .int (c.getD i 0) := (Option.some.inj hy).symm
          subst hy'
          have sT := same_new hT' (.tup [V.int ((i : Nat) : Int), V.int (c.getD i 0)])
          have hf6 := sT _ _ hf5
          have hlen5 := low_len hdk5 hlow5 hb
          refine ⟨T', _, rfl, SqT.of upd_same, rfl, _, _, rfl, _, _, rfl, rfl, ?_⟩
          have hkey : ((i : Nat) : Int) + ((e.k : Nat) : Int) = ((i + e.k : Nat) : Int) := rfl
          refine ⟨_, rfl, f, rfl, .inl ⟨_, .inl hf6⟩, _, rfl, _, rfl, _, _, rfl, rfl, valV (ks'.map (entK g')) (Sum.inl ((i + e.k : Nat) : Int)), DGet.k (k := Sum.inl ((i + e.k : Nat) : Int)) hf6, _, rfl, _, _, hdk5.getD (i + e.k), rfl, ?_⟩
          refine ⟨_, rfl, _, rfl, _, rfl, _, _, rfl, rfl, f, _, rfl, DPut.k (k := Sum.inl ((i + e.k : Nat) : Int)) hf6 (by rw [List.length_map]; exact sizeK (by omega)), ?_⟩
          refine ⟨_, _, fun j => if j = i + e.k then g' (i + e.k) + c.getD i 0 else g' j, (if i + e.k ∈ ks' then ks' else ks' ++ [i + e.k]), rfl, (bb.trans (Bar.same sT)).trans Bar.upd, ?_, hdk5.put (i + e.k) (g' (i + e.k) + c.getD i 0), fun j hj => ?_, fun j => ?_⟩
          · rw [upd_same, put_ent]
          · rcases mem_put hj with hj | rfl
            · exact hlow5 j hj
            · omega
          · dsimp only
            by_cases ej : j = i + e.k
            · subst ej
              rw [if_pos rfl, hg5, if_neg (by omega), if_pos (by omega), show i + e.k - e.k = i by omega]
              omega
            · rw [if_neg ej, hg5]
              by_cases hc2 : e.k ≤ j ∧ j < e.k + i
              · rw [if_pos hc2, if_pos (by omega)]
              · rw [if_neg hc2, if_neg (by omega)]
        · rintro σ H5 ⟨u6, u7, g', ks', rfl, bb, hf5, hdk5, hlow5, hg5⟩
          have B5 : Bar2 f w0 H2 H5 := (Bar2.same S4).trans fun b' o n _ h => bb b' o n h
          refine ⟨waitM es0, by rw [hM]; have := Nat.pow_pos (n := sumS e.L) (show 0 < 3 by decide); omega, _, _, _, _, _, _, es0, g', ks', rfl, bar_back (s2.trans S4) bb hf0', ⟨hf5, bb _ _ (Ne.symm n_fw) hw4, hdk5, hlow5, fun x hx => (hens2 x hx).bar hf2 hw2 B5, hpos0, fun j => ?_⟩, rfl⟩
          rw [htot j, hg5 j, List.length_map]
          have : (if e.k ≤ j ∧ j < e.k + c.length then c.getD (j - e.k) 0 else 0) = sh e.k (KN e.L) j := by
            unfold sh
            by_cases k1 : e.k ≤ j
            · rw [if_pos k1, ← hck]
              by_cases k2 : j < e.k + c.length
              · rw [if_pos ⟨k1, k2⟩]
              · rw [if_neg (fun h => k2 h.2), List.getD_eq_getElem?_getD, List.getElem?_eq_none (by omega)]
                rfl
            · rw [if_neg (fun h => k1 h.1), if_neg k1]
          rw [this]
          omega
      · refine ⟨_, rfl, rfl, _, rfl, iteF ?_⟩
        have hE3 := hE2.bar hf2 hw2 (Bar2.same s3)
        refine ⟨_, rfl, _, rfl, e.l, e.rs, e.L, d, x, rfl, SqL.of hE3.lst, hE3.rows, hx, hE3.way.ant.len, hE3.few, proper hE3.way.ant h2x, fun r hr1 h0 h1 H4 s4 => ?_⟩
        have S4 := s3.trans s4
        have hE4 := hE2.bar hf2 hw2 (Bar2.same S4)
        have hf4 := S4 _ _ hf2
        have hw4 := S4 _ _ hw2
        obtain ⟨w1, m1, l1⟩ := way_with hE4.way hr1 hx h0 h1
        obtain ⟨w2, m2, l2, hb2⟩ := way_without hE4.way hr1 hx h0
        have hbig : ∀ t ∈ e.L, ∀ c ∈ t, c < 61 := fun t ht c hc => by
          have := mem_le_sum hc
          have := (M7.fit_sum (by rw [hE4.way.bl, hE4.way.ant.len t ht]) (hE4.way.low t ht)).1
          have := hE4.far
          omega
        have es0l : es0.length ≤ 1000 := by omega
        refine ⟨_, rfl, .inl ⟨rfl, _, SqL.of hw4⟩, _, rfl, _, rfl, _, rfl, e.l, e.rs, e.L, d, x, at0 r x, rfl, SqL.of hE4.lst, hE4.rows, hx, by omega, hE4.way.ant.len, hE4.few, List.ne_nil_of_mem hr1, fun H5 z1 rs1 s5 hz1n hz1 hT1 => ?_⟩
        refine ⟨_, rfl, by show 2 ≤ sizeLine; decide, fun p1 hp1 => ?_⟩
        have s6 := same_new hp1 (.tup [.ref z1, zV e.k])
        have S6 := s5.trans s6
        have hw6 := S6 _ _ hw4
        refine ⟨w0, _, _, rfl, rfl, hw6, by rw [List.length_map]; exact sizeK (by omega), ?_⟩
        have n_z1w : z1 ≠ w0 := (ne_of_none hw4 hz1n).symm
        have n_z1f : z1 ≠ f := (ne_of_none hf4 hz1n).symm
        have n_p1 : p1 ≠ w0 := (ne_of_none (s5 _ _ hw4) hp1).symm
        have e1ok : EnOk K f w0 d b.sum (upd (upd H5 p1 (.tup [.ref z1, zV e.k])) w0 (.lst ((es0.map fun e => V.ref e.t) ++ [.ref p1]))) ⟨p1, z1, rs1, withN d e.L x (at0 r x), e.k, e.b⟩ :=
          ⟨SqT.of (by rw [upd_ne n_p1, upd_same]), by rw [upd_ne n_z1w]; exact s6 _ _ hz1, bar2_tups (S6 _ _ hf4) hw6 Bar2.updW (hT1.same s6), w1, hE4.far, Nat.le_trans l1 hE4.few, n_z1w, n_z1f⟩
        have B7 : Bar2 f w0 H2 (upd (upd H5 p1 (.tup [.ref z1, zV e.k])) w0 (.lst ((es0.map fun e => V.ref e.t) ++ [.ref p1]))) := (Bar2.same (S4.trans S6)).trans Bar2.updW
        have hE7 := hE2.bar hf2 hw2 B7
        have hens7 := fun y (hy : y ∈ es0) => (hens2 y hy).bar hf2 hw2 B7
        have hf7 : (upd (upd H5 p1 (.tup [.ref z1, zV e.k])) w0 (.lst ((es0.map fun e => V.ref e.t) ++ [.ref p1]))) f = some (.dK (ks.map (entK g))) := by rw [upd_ne n_fw]; exact S6 _ _ hf4
        have hw7 : (upd (upd H5 p1 (.tup [.ref z1, zV e.k])) w0 (.lst ((es0.map fun e => V.ref e.t) ++ [.ref p1]))) w0 = some (.lst ((es0.map fun e => V.ref e.t) ++ [.ref p1])) := upd_same
        have S7 : Same H (upd (upd H5 p1 (.tup [.ref z1, zV e.k])) w0 (.lst ((es0.map fun e => V.ref e.t) ++ [.ref p1]))) := same_updL (s2.trans (S4.trans S6)) hw0'
        generalize (upd (upd H5 p1 (.tup [.ref z1, zV e.k])) w0 (.lst ((es0.map fun e => V.ref e.t) ++ [.ref p1]))) = H7 at e1ok hE7 hens7 hf7 hw7 S7 ⊢
        refine ⟨_, rfl, .inl ⟨rfl, _, SqL.of hw7⟩, _, rfl, _, rfl, _, rfl, e.l, e.rs, e.L, d, x, at0 r x, 61, rfl, SqL.of hE7.lst, hE7.rows, hx, by omega, hE7.way.ant.len, hbig, hE7.few, fun H8 z2 rs2 s8 hz2n hz2 hT2 => ?_⟩
        refine ⟨_, rfl, _, rfl, _, _, rfl, rfl, by show 2 ≤ sizeLine; decide, fun p2 hp2 => ?_⟩
        have s9 := same_new hp2 (.tup [.ref z2, .int (((e.k : Nat) : Int) + ((at0 r x : Nat) : Int))])
        have S9 := s8.trans s9
        have hw9 := S9 _ _ hw7
        refine ⟨w0, _, _, rfl, rfl, hw9, by rw [List.length_append, List.length_map]; exact sizeK (by show _ + 1 ≤ _; omega), ?_⟩
        have n_z2w : z2 ≠ w0 := (ne_of_none hw7 hz2n).symm
        have n_z2f : z2 ≠ f := (ne_of_none hf7 hz2n).symm
        have n_p2 : p2 ≠ w0 := (ne_of_none (s8 _ _ hw7) hp2).symm
        have e2ok : EnOk K f w0 d b.sum (upd (upd H8 p2 (.tup [.ref z2, .int (((e.k : Nat) : Int) + ((at0 r x : Nat) : Int))])) w0 (.lst (((es0.map fun e => V.ref e.t) ++ [.ref p1]) ++ [.ref p2]))) ⟨p2, z2, rs2, withoutN d e.L x (at0 r x), e.k + at0 r x, M8.subN e.b (powN d x (at0 r x))⟩ :=
          ⟨SqT.of (by rw [upd_ne n_p2, upd_same]; rfl), by rw [upd_ne n_z2w]; exact s9 _ _ hz2, bar2_tups (S9 _ _ hf7) hw9 Bar2.updW (hT2.same s9), w2, (by have h9 := hE4.far; show e.k + at0 r x + (M8.subN e.b (powN d x (at0 r x))).sum ≤ b.sum; omega), Nat.le_trans l2 hE4.few, n_z2w, n_z2f⟩
        have B10 : Bar2 f w0 H7 (upd (upd H8 p2 (.tup [.ref z2, .int (((e.k : Nat) : Int) + ((at0 r x : Nat) : Int))])) w0 (.lst (((es0.map fun e => V.ref e.t) ++ [.ref p1]) ++ [.ref p2]))) := (Bar2.same S9).trans Bar2.updW
        have hw10 : (upd (upd H8 p2 (.tup [.ref z2, .int (((e.k : Nat) : Int) + ((at0 r x : Nat) : Int))])) w0 (.lst (((es0.map fun e => V.ref e.t) ++ [.ref p1]) ++ [.ref p2]))) w0 = some (.lst (((es0.map fun e => V.ref e.t) ++ [.ref p1]) ++ [.ref p2])) := upd_same
        have S10 : Same H (upd (upd H8 p2 (.tup [.ref z2, .int (((e.k : Nat) : Int) + ((at0 r x : Nat) : Int))])) w0 (.lst (((es0.map fun e => V.ref e.t) ++ [.ref p1]) ++ [.ref p2]))) := same_updL (S7.trans S9) hw0'
        have hf10 : (upd (upd H8 p2 (.tup [.ref z2, .int (((e.k : Nat) : Int) + ((at0 r x : Nat) : Int))])) w0 (.lst (((es0.map fun e => V.ref e.t) ++ [.ref p1]) ++ [.ref p2]))) f = some (.dK (ks.map (entK g))) := by rw [upd_ne n_fw]; exact S9 _ _ hf7
        generalize (upd (upd H8 p2 (.tup [.ref z2, .int (((e.k : Nat) : Int) + ((at0 r x : Nat) : Int))])) w0 (.lst (((es0.map fun e => V.ref e.t) ++ [.ref p1]) ++ [.ref p2]))) = H10 at e2ok B10 hw10 S10 hf10 ⊢
        refine ⟨waitM ((es0 ++ [⟨p1, z1, rs1, withN d e.L x (at0 r x), e.k, e.b⟩]) ++ [⟨p2, z2, rs2, withoutN d e.L x (at0 r x), e.k + at0 r x, M8.subN e.b (powN d x (at0 r x))⟩]), ?_, _, _, _, _, _, _, _, g, ks, rfl, S10, ⟨hf10, ?_, hdk, hlow, fun y hy => ?_, fun i y hy => ?_, fun j => ?_⟩, rfl⟩
        · rw [waitM_app, waitM_app, hM]
          have q1 := pow3 m1
          have q2 := pow3 m2
          show waitM es0 + 3 ^ sumS (withN d e.L x (at0 r x)) + 3 ^ sumS (withoutN d e.L x (at0 r x)) < _
          omega
        · rw [hw10, List.map_append, List.map_append]
          rfl
        · rcases List.mem_append.mp hy with hy | hy
          · rcases List.mem_append.mp hy with hy | hy
            · exact (hens7 y hy).bar hf7 hw7 B10
            · rw [List.mem_singleton.mp hy]
              exact e1ok.bar hf7 hw7 B10
          · rw [List.mem_singleton.mp hy]
            exact e2ok
        · by_cases k1 : i < es0.length
          · rw [List.getElem?_append_left (by rw [List.length_append]; omega), List.getElem?_append_left k1] at hy
            exact hpos0 i y hy
          · by_cases k2 : i = es0.length
            · subst k2
              rw [List.getElem?_append_left (by rw [List.length_append]; show _ < _ + 1; omega), List.getElem?_append_right (Nat.le_refl _), Nat.sub_self] at hy
              cases hy
              show es0.length + sumS (withN d e.L x (at0 r x)) ≤ _
              omega
            · have k3 : i = es0.length + 1 := by
                have := (List.getElem?_eq_some_iff.mp hy).1
                rw [List.length_append, List.length_append] at this
                have : i < es0.length + 1 + 1 := this
                omega
              subst k3
              rw [List.getElem?_append_right (by rw [List.length_append]; exact Nat.le_refl _), List.length_append, show es0.length + 1 - (es0.length + [(⟨p1, z1, rs1, withN d e.L x (at0 r x), e.k, e.b⟩ : En)].length) = 0 by show _ + 1 - (_ + 1) = 0; omega] at hy
              cases hy
              show es0.length + 1 + sumS (withoutN d e.L x (at0 r x)) ≤ _
              omega
        · rw [htot j, waitS_app, waitS_app, K_split hE4.way.ant.len hx (at0 r x)]
          have : sh e.k (fun j => KN (withN d e.L x (at0 r x)) j + sh (at0 r x) (KN (withoutN d e.L x (at0 r x))) j) j = sh e.k (KN (withN d e.L x (at0 r x))) j + sh (e.k + at0 r x) (KN (withoutN d e.L x (at0 r x))) j := by
            rw [← sh_sh]
            unfold sh
            split
            · rfl
            · rfl
          rw [this]
          show _ = g j + (waitS es0 j + sh e.k (KN (withN d e.L x (at0 r x))) j + sh (e.k + at0 r x) (KN (withoutN d e.L x (at0 r x))) j)
          omega
end
end K13

/-! the products of a degree: a mirror in plain Lean, and what is checked of it once for all -/
namespace L5
def foundN (d : Nat) : Nat → List (List Nat)
  | 0 => [[]]
  | n + 1 => (foundN d n).flatMap fun t => (List.range (d + 1 - t.sum)).map fun e => t ++ [e]
def asc (l d : Nat) : List (List Nat) := (foundN d (l - 1)).map fun t => t ++ [d - t.sum]
def listed (l d : Nat) : List (List Nat) := (asc l d).reverse
def lastPos (t : List Nat) : Nat → Option Nat
  | 0 => none
  | n + 1 => if t.getD n 0 = 0 then lastPos t n else some n
def nextAt (t : List Nat) (k : Nat) : List Nat := t.take k ++ [t.getD k 0 - 1, t.getD (t.length - 1) 0 + 1] ++ List.replicate (t.length - 1 - k - 1) 0
def next (t : List Nat) : Option (List Nat) := (lastPos t (t.length - 1)).map (nextAt t)
def chainB : List (List Nat) → Bool
  | [] => true
  | t :: r => (match r with
    | [] => (lastPos t (t.length - 1)).isNone
    | u :: _ => match lastPos t (t.length - 1) with
      | none => false
      | some k => nextAt t k == u) && chainB r
def sums : Nat → List Nat → List Nat
  | _, [] => []
  | a, x :: r => (a + x) :: sums (a + x) r
def rowN (d : Nat) : Nat → List Nat
  | 0 => 1 :: List.replicate d 0
  | n + 1 => sums 0 (rowN d n)
def choicesN (l d : Nat) : Nat := (rowN d l).getD d 0
def unitN (l k : Nat) : List Nat := (List.range l).map fun p => if p = k then 1 else 0
def lexB : List Nat → List Nat → Bool
  | [], _ => true
  | _ :: _, [] => false
  | x :: xs, y :: ys => if x < y then true else if x = y then lexB xs ys else false
def ascB : List (List Nat) → Bool
  | [] => true
  | t :: r => (match r with
    | [] => true
    | u :: _ => lexB t u) && ascB r
def prodB (l d : Nat) (t : List Nat) : Bool := t.length == l && t.sum == d && t.all (fun e => Nat.ble e 20)
def okB (l d : Nat) : Bool :=
  let L := listed l d
  let M := asc l (d + 1)
  (match L with | [] => false | t :: _ => t == d :: List.replicate (l - 1) 0) && chainB L && ascB (asc l d) && ascB M && L.length == choicesN l d && L.all (prodB l d) && M.all (prodB l (d + 1)) && Nat.ble M.length 400 &&
    (List.range l).all fun k => (L.map fun t => List.zipWith (· + ·) t (unitN l k)) == M.reverse.filter fun t => Nat.blt 0 (t.getD k 0)
def top (l : Nat) : Nat := if l < 4 then 13 else if l ≤ 6 then 5 else 4
def szB (l d : Nat) : Bool := (List.range l).all fun n => Nat.ble (foundN d n).length 400
theorem all_ok : (List.range 8).all (fun i => (List.range (top (i + 1))).all fun d => okB (i + 1) d && (szB (i + 1) d && szB (i + 1) (d + 1))) = true := by decide +kernel
theorem ok_of {l d : Nat} (h1 : 1 ≤ l) (h8 : l ≤ 8) (hd : d < top l) : okB l d = true ∧ szB l d = true ∧ szB l (d + 1) = true := by
  have h := List.all_eq_true.mp all_ok (l - 1) (List.mem_range.mpr (by omega))
  rw [show l - 1 + 1 = l by omega] at h
  have g := List.all_eq_true.mp h d (List.mem_range.mpr hd)
  rw [Bool.and_eq_true, Bool.and_eq_true] at g
  exact ⟨g.1, g.2.1, g.2.2⟩
theorem sz_of {l d n : Nat} (h : szB l d = true) (hn : n < l) : (foundN d n).length ≤ 400 := Nat.le_of_ble_eq_true (List.all_eq_true.mp h n (List.mem_range.mpr hn))
structure Ok (l d : Nat) : Prop where
  head : ∃ r, listed l d = (d :: List.replicate (l - 1) 0) :: r
  chain : chainB (listed l d) = true
  asc1 : ascB (asc l d) = true
  asc2 : ascB (asc l (d + 1)) = true
  len : (listed l d).length = choicesN l d
  prod1 : ∀ t ∈ listed l d, prodB l d t = true
  prod2 : ∀ t ∈ asc l (d + 1), prodB l (d + 1) t = true
  size : (asc l (d + 1)).length ≤ 400
  more : ∀ k, k < l → ((listed l d).map fun t => List.zipWith (· + ·) t (unitN l k)) = (listed l (d + 1)).filter fun t => Nat.blt 0 (t.getD k 0)
theorem okS {l d : Nat} (h : okB l d = true) : Ok l d := by
  unfold okB at h
  simp only [Bool.and_eq_true] at h
  obtain ⟨⟨⟨⟨⟨⟨⟨⟨h1, h2⟩, h3⟩, h4⟩, h5⟩, h6⟩, h7⟩, h8⟩, h9⟩ := h
  refine ⟨?_, h2, h3, h4, beq_iff_eq.mp h5, fun t ht => List.all_eq_true.mp h6 t ht, fun t ht => List.all_eq_true.mp h7 t ht, Nat.le_of_ble_eq_true h8, fun k hk => beq_iff_eq.mp (List.all_eq_true.mp h9 k (List.mem_range.mpr hk))⟩
  cases e : listed l d with
  | nil =>
    rw [e] at h1
    cases h1
  | cons t r =>
    rw [e] at h1
    rw [beq_iff_eq.mp h1]
    exact ⟨r, rfl⟩
theorem prod_of {l d : Nat} {t : List Nat} (h : prodB l d t = true) : t.length = l ∧ t.sum = d ∧ ∀ e ∈ t, e ≤ 20 := by
  unfold prodB at h
  rw [Bool.and_eq_true, Bool.and_eq_true] at h
  exact ⟨beq_iff_eq.mp h.1.1, beq_iff_eq.mp h.1.2, fun e he => Nat.le_of_ble_eq_true (List.all_eq_true.mp h.2 e he)⟩
theorem chain_last : ∀ {L : List (List Nat)} {i : Nat} {t : List Nat}, chainB L = true → L[i]? = some t → L[i + 1]? = none → lastPos t (t.length - 1) = none
  | [], _, _, _, h, _ => by simp at h
  | [u], 0, t, h, e, _ => by
    have e' : u = t := Option.some.inj e
    subst e'
    have h' : ((lastPos u (u.length - 1)).isNone && true) = true := h
    rw [Bool.and_true] at h'
    exact Option.isNone_iff_eq_none.mp h'
  | [_], i + 1, _, _, e, _ => by simp at e
  | u :: v :: r, 0, t, h, e, n => by simp at n
  | u :: v :: r, i + 1, t, h, e, n => by
    have h' : (_ && chainB (v :: r)) = true := h
    rw [Bool.and_eq_true] at h'
    exact chain_last h'.2 e n
theorem chain_next : ∀ {L : List (List Nat)} {i : Nat} {t u : List Nat}, chainB L = true → L[i]? = some t → L[i + 1]? = some u → ∃ k, lastPos t (t.length - 1) = some k ∧ nextAt t k = u
  | [], _, _, _, _, h, _ => by simp at h
  | [_], _, _, _, _, _, n => by simp at n
  | u :: v :: r, 0, t, w, h, e, n => by
    have e' : u = t := Option.some.inj e
    have n' : v = w := Option.some.inj n
    subst e' n'
    have h' : ((match lastPos u (u.length - 1) with | none => false | some k => nextAt u k == v) && chainB (v :: r)) = true := h
    rw [Bool.and_eq_true] at h'
    cases q : lastPos u (u.length - 1) with
    | none =>
      rw [q] at h'
      cases h'.1
    | some k =>
      rw [q] at h'
      exact ⟨k, rfl, beq_iff_eq.mp h'.1⟩
  | u :: v :: r, i + 1, t, w, h, e, n => by
    have h' : (_ && chainB (v :: r)) = true := h
    rw [Bool.and_eq_true] at h'
    exact chain_next (L := v :: r) h'.2 e n
theorem found_len (d : Nat) : ∀ n, ∀ t ∈ foundN d n, t.length = n
  | 0, t, h => by
    rw [List.mem_singleton.mp h]
    rfl
  | n + 1, t, h => by
    obtain ⟨u, hu, h2⟩ := List.mem_flatMap.mp h
    obtain ⟨e, _, rfl⟩ := List.mem_map.mp h2
    rw [List.length_append, found_len d n u hu]
    rfl
theorem found_sum (d : Nat) : ∀ n, ∀ t ∈ foundN d n, t.sum ≤ d
  | 0, t, h => by
    rw [List.mem_singleton.mp h]
    exact Nat.zero_le _
  | n + 1, t, h => by
    obtain ⟨u, hu, h2⟩ := List.mem_flatMap.mp h
    obtain ⟨e, he, rfl⟩ := List.mem_map.mp h2
    have h1 := found_sum d n u hu
    have h3 := List.mem_range.mp he
    rw [List.sum_append, List.sum_singleton]
    omega
theorem top_le (l : Nat) : top l ≤ 13 := by
  unfold top
  split
  · omega
  · split <;> omega
end L5

/-! places in the order of words: a mirror in plain Lean -/
namespace L6
def C : Nat → Nat → Nat
  | _, 0 => 1
  | 0, _ + 1 => 0
  | n + 1, k + 1 => C n k + C n (k + 1)
theorem C_zero (n : Nat) : C n 0 = 1 := by cases n <;> rfl
theorem C_succ (n k : Nat) : C (n + 1) (k + 1) = C n k + C n (k + 1) := rfl
theorem C_over : ∀ {n k : Nat}, n < k → C n k = 0
  | 0, _ + 1, _ => rfl
  | n + 1, k + 1, h => by rw [C_succ, C_over (show n < k by omega), C_over (show n < k + 1 by omega)]
theorem C_self : ∀ n : Nat, C n n = 1
  | 0 => rfl
  | n + 1 => by rw [C_succ, C_self n, C_over (Nat.lt_succ_self n)]
theorem C_next : ∀ n t : Nat, t ≤ n → (t + 1) * C n (t + 1) = (n - t) * C n t
  | 0, 0, _ => rfl
  | n + 1, 0, _ => by
    have h := C_next n 0 (Nat.zero_le _)
    rw [C_zero] at h
    rw [C_succ, C_zero, C_zero]
    omega
  | n + 1, s + 1, h => by
    have h1 := C_next n s (by omega)
    rw [C_succ, C_succ, Nat.mul_add, show n + 1 - (s + 1) = n - s by omega, Nat.mul_add, ← h1]
    by_cases c : s + 1 ≤ n
    · have h2 := C_next n (s + 1) c
      rw [h2, ← Nat.add_mul, ← Nat.add_mul]
      congr 1
      omega
    · have e : n = s := by omega
      subst e
      rw [C_over (show n < n + 1 by omega), C_over (show n < n + 1 + 1 by omega)]
      simp
theorem C_symm : ∀ n k : Nat, k ≤ n → C n (n - k) = C n k
  | n, 0, _ => by rw [C_zero, Nat.sub_zero, C_self]
  | n + 1, k + 1, h => by
    by_cases c : k + 1 ≤ n
    · have h1 := C_symm n (k + 1) c
      have h2 := C_symm n k (by omega)
      obtain ⟨j, hj⟩ : ∃ j, n - k = j + 1 := ⟨n - k - 1, by omega⟩
      rw [show n + 1 - (k + 1) = j + 1 by omega, C_succ, C_succ, ← h1, ← h2, hj, show n - (k + 1) = j by omega]
      omega
    · have e : k = n := by omega
      subst e
      rw [Nat.sub_self, C_zero, C_self]
theorem C_pos : ∀ {n k : Nat}, k ≤ n → 0 < C n k
  | n, 0, _ => by rw [C_zero]; exact Nat.one_pos
  | n + 1, k + 1, h => by
    have := C_pos (show k ≤ n by omega)
    rw [C_succ]
    omega
/-- so many products in k + 1 letters have a degree below m -/
def W : Nat → Nat → Nat
  | _, 0 => 0
  | k, m + 1 => C (m + k) k
theorem W_zero (k : Nat) : W k 0 = 0 := by cases k <;> rfl
theorem W_at (k m : Nat) : W k (m + 1) = C (m + k) k := by cases k <;> rfl
theorem W_one (m : Nat) : W 0 (m + 1) = 1 := by rw [W_at, C_zero]
theorem W_step (k m : Nat) : W (k + 1) (m + 1) = W (k + 1) m + W k (m + 1) := by
  rw [W_at, W_at]
  cases m with
  | zero =>
    simp only [W_zero, Nat.zero_add, C_self]
  | succ m =>
    rw [W_at, show m + 1 + (k + 1) = (m + 1 + k) + 1 by omega, C_succ, show m + (k + 1) = m + 1 + k by omega]
    omega
theorem W_mono (k : Nat) : ∀ {m n : Nat}, m ≤ n → W k m ≤ W k n := by
  intro m n h
  induction n with
  | zero =>
    rw [show m = 0 by omega]
    exact Nat.le_refl _
  | succ n ih =>
    by_cases c : m ≤ n
    · refine Nat.le_trans (ih c) ?_
      cases k with
      | zero =>
        rw [W_one]
        cases n with
        | zero => rw [W_zero]; exact Nat.zero_le _
        | succ n => rw [W_one]; exact Nat.le_refl _
      | succ k => rw [W_step]; omega
    · rw [show m = n + 1 by omega]
      exact Nat.le_refl _
def place : List Nat → Nat
  | [] => 0
  | _ :: r => W r.length r.sum + place r
theorem place_lt : ∀ (t : List Nat) (k : Nat), t.length = k + 1 → place t < W k (t.sum + 1)
  | [], _, h => by cases h
  | [e], k, h => by
    have : k = 0 := by simp at h; omega
    subst this
    rw [W_one]
    show W 0 0 + 0 < 1
    rw [W_zero]
    exact Nat.one_pos
  | e :: f :: r, k, h => by
    obtain ⟨j, rfl⟩ : ∃ j, k = j + 1 := ⟨k - 1, by simp at h; omega⟩
    have hl : (f :: r).length = j + 1 := by simpa using h
    have ih := place_lt (f :: r) j hl
    show W (f :: r).length (f :: r).sum + place (f :: r) < _
    rw [hl]
    have h1 : W (j + 1) ((f :: r).sum + 1) ≤ W (j + 1) ((e :: f :: r).sum + 1) := W_mono _ (by simp)
    rw [W_step] at h1
    omega
theorem place_ex : ∀ (k d q : Nat), q < W k (d + 1) → ∃ t : List Nat, t.length = k + 1 ∧ t.sum = d ∧ place t = q
  | 0, d, q, h => ⟨[d], rfl, by simp, by
      rw [W_one] at h
      show W 0 0 + 0 = q
      rw [W_zero]
      omega⟩
  | k + 1, d, q, h => by
    have key : ∀ d, q < W (k + 1) (d + 1) → ∃ j, j ≤ d ∧ W (k + 1) j ≤ q ∧ q < W (k + 1) (j + 1) := by
      intro d
      induction d with
      | zero => exact fun h => ⟨0, Nat.le_refl _, by rw [W_zero]; exact Nat.zero_le _, h⟩
      | succ d ih =>
        intro h
        by_cases c : q < W (k + 1) (d + 1)
        · obtain ⟨j, h1, h2⟩ := ih c
          exact ⟨j, by omega, h2⟩
        · exact ⟨d + 1, Nat.le_refl _, by omega, h⟩
    obtain ⟨j, hj, h1, h2⟩ := key d h
    rw [W_step] at h2
    obtain ⟨t, ht, hs, hp⟩ := place_ex k j (q - W (k + 1) j) (by omega)
    refine ⟨(d - j) :: t, by simp [ht], by simp [hs]; omega, ?_⟩
    show W t.length t.sum + place t = q
    rw [ht, hs, hp]
    omega
/-- u stands ahead of t: it is greater -/
def gtB : List Nat → List Nat → Bool
  | x :: xs, y :: ys => if x = y then gtB xs ys else decide (y < x)
  | _, _ => false
theorem place_gt : ∀ (t u : List Nat), t.length = u.length → t.sum = u.sum → gtB t u = true → place t < place u
  | [], _, _, _, h => by cases h
  | _ :: _, [], h, _, _ => by cases h
  | x :: xs, y :: ys, hl, hs, h => by
    have hl' : xs.length = ys.length := by simpa using hl
    have hs' : x + xs.sum = y + ys.sum := by simpa using hs
    show W xs.length xs.sum + place xs < W ys.length ys.sum + place ys
    unfold gtB at h
    by_cases c : x = y
    · rw [if_pos c] at h
      have := place_gt xs ys hl' (by omega) h
      rw [hl', show xs.sum = ys.sum by omega]
      omega
    · rw [if_neg c] at h
      have hx : y < x := of_decide_eq_true h
      cases xs with
      | nil =>
        have : ys = [] := List.eq_nil_of_length_eq_zero hl'.symm
        subst this
        simp at hs'
        omega
      | cons f r =>
        have h1 := place_lt (f :: r) r.length rfl
        have h2 : W ys.length ((f :: r).sum + 1) ≤ W ys.length ys.sum := W_mono _ (by omega)
        rw [← hl', show (f :: r).length = r.length + 1 from rfl, W_step] at h2
        rw [← hl', show (f :: r).length = r.length + 1 from rfl]
        omega
theorem gt_tri : ∀ (t u : List Nat), t.length = u.length → t = u ∨ gtB t u = true ∨ gtB u t = true
  | [], [], _ => .inl rfl
  | [], _ :: _, h => by cases h
  | _ :: _, [], h => by cases h
  | x :: xs, y :: ys, h => by
    have h' : xs.length = ys.length := by simpa using h
    unfold gtB
    by_cases c : x = y
    · subst c
      rw [if_pos rfl, if_pos rfl]
      rcases gt_tri xs ys h' with e | e
      · exact .inl (by rw [e])
      · exact .inr e
    · rw [if_neg c, if_neg (fun e => c e.symm)]
      by_cases d : y < x
      · exact .inr (.inl (decide_eq_true d))
      · exact .inr (.inr (decide_eq_true (by omega)))
theorem gt_iff {t u : List Nat} (hl : t.length = u.length) (hs : t.sum = u.sum) : gtB t u = decide (place t < place u) := by
  rcases gt_tri t u hl with e | e | e
  · subst e
    have : gtB t t = false := by
      cases h : gtB t t with
      | false => rfl
      | true => exact absurd (place_gt t t rfl rfl h) (Nat.lt_irrefl _)
    rw [this, decide_eq_false (Nat.lt_irrefl _)]
  · rw [e, decide_eq_true (place_gt t u hl hs e)]
  · have h := place_gt u t hl.symm hs.symm e
    rw [decide_eq_false (by omega)]
    cases g : gtB t u with
    | false => rfl
    | true =>
      have := place_gt t u hl hs g
      omega
theorem place_inj {t u : List Nat} (hl : t.length = u.length) (hs : t.sum = u.sum) (h : place t = place u) : t = u := by
  rcases gt_tri t u hl with e | e | e
  · exact e
  · have := place_gt t u hl hs e
    omega
  · have := place_gt u t hl.symm hs.symm e
    omega
/-- the ends -/
theorem sum_rep0 (n : Nat) : (List.replicate n 0).sum = 0 := by
  induction n with
  | zero => rfl
  | succ n ih => rw [List.replicate_succ, List.sum_cons, ih]
theorem place_first (d n : Nat) : place (d :: List.replicate n 0) = 0 := by
  show W _ _ + place _ = 0
  rw [sum_rep0, W_zero, Nat.zero_add]
  induction n with
  | zero => rfl
  | succ n ih =>
    rw [List.replicate_succ]
    show W _ _ + place _ = 0
    rw [sum_rep0, W_zero, ih]
theorem place_last (d : Nat) : ∀ n : Nat, place (List.replicate n 0 ++ [d]) + 1 = W n (d + 1)
  | 0 => by
    rw [W_one]
    show W 0 0 + 0 + 1 = 1
    rw [W_zero]
  | n + 1 => by
    have ih := place_last d n
    rw [List.replicate_succ, List.cons_append]
    show W (List.replicate n 0 ++ [d]).length (List.replicate n 0 ++ [d]).sum + place _ + 1 = _
    have e1 : (List.replicate n 0 ++ [d]).length = n + 1 := by simp
    have e2 : (List.replicate n 0 ++ [d]).sum = d := by rw [List.sum_append, sum_rep0]; simp
    rw [e1, e2, W_step]
    omega
end L6

/-! all products of a small degree: what is checked once for all -/
namespace L6
open L5
def pairsN (d : Nat) : Nat → List (List Nat × Nat)
  | 0 => [([], d)]
  | n + 1 => (pairsN d n).flatMap fun q => (List.range (q.2 + 1)).map fun e => (q.1 ++ [q.2 - e], e)
def rows (l d : Nat) : List (List Nat) := (pairsN d (l - 1)).map fun q => q.1 ++ [q.2]
def okB6 (l d : Nat) : Bool :=
  let L := rows l d
  (match L with | [] => false | t :: _ => t == d :: List.replicate (l - 1) 0) && chainB L && L.all (prodB l d) && (L.map place == List.range L.length) && L.length == W (l - 1) (d + 1) &&
    (List.range l).all fun n => Nat.ble (pairsN d n).length 400 && (pairsN d n).all fun q => Nat.ble q.2 d
theorem all_ok6 : (List.range 4).all (fun i => (List.range 7).all fun d => okB6 (i + 1) d) = true := by decide +kernel
structure Ok6 (l d : Nat) : Prop where
  head : ∃ r, rows l d = (d :: List.replicate (l - 1) 0) :: r
  chain : chainB (rows l d) = true
  prod : ∀ t ∈ rows l d, prodB l d t = true
  plc : (rows l d).map place = List.range (rows l d).length
  len : (rows l d).length = W (l - 1) (d + 1)
  size : ∀ n, n < l → (pairsN d n).length ≤ 400
  rest : ∀ n, n < l → ∀ q ∈ pairsN d n, q.2 ≤ d
theorem ok6 {l d : Nat} (h1 : 1 ≤ l) (h4 : l ≤ 4) (hd : d < 7) : Ok6 l d := by
  have h := List.all_eq_true.mp all_ok6 (l - 1) (List.mem_range.mpr (by omega))
  rw [show l - 1 + 1 = l by omega] at h
  have g := List.all_eq_true.mp h d (List.mem_range.mpr hd)
  unfold okB6 at g
  simp only [Bool.and_eq_true] at g
  obtain ⟨⟨⟨⟨⟨g1, g2⟩, g3⟩, g4⟩, g5⟩, g6⟩ := g
  have k6 : ∀ n, n < l → Nat.ble (pairsN d n).length 400 = true ∧ ∀ q ∈ pairsN d n, Nat.ble q.2 d = true := fun n hn => by
    have := List.all_eq_true.mp g6 n (List.mem_range.mpr hn)
    rw [Bool.and_eq_true] at this
    exact ⟨this.1, fun q hq => List.all_eq_true.mp this.2 q hq⟩
  refine ⟨?_, g2, fun t ht => List.all_eq_true.mp g3 t ht, beq_iff_eq.mp g4, beq_iff_eq.mp g5, fun n hn => Nat.le_of_ble_eq_true (k6 n hn).1, fun n hn q hq => Nat.le_of_ble_eq_true ((k6 n hn).2 q hq)⟩
  cases e : rows l d with
  | nil =>
    rw [e] at g1
    cases g1
  | cons t r =>
    rw [e] at g1
    rw [beq_iff_eq.mp g1]
    exact ⟨r, rfl⟩
theorem Ok6.at {l d i : Nat} {t : List Nat} (O : Ok6 l d) (h : (rows l d)[i]? = some t) : place t = i := by
  have h1 : ((rows l d).map place)[i]? = some (place t) := by rw [List.getElem?_map, h] <;> rfl
  rw [O.plc] at h1
  obtain ⟨hi, h2⟩ := List.getElem?_eq_some_iff.mp h1
  rw [List.getElem_range] at h2
  exact h2.symm
theorem W_le : ∀ l, l < 4 → ∀ d, d < 7 → W l (d + 1) ≤ 84 := by decide +kernel
end L6

namespace L6
open PySem PySem.W
theorem fp_up (n : Nat) : ∀ k : Nat, Builtin.Math.fallingProduct ((n : Int) + 1) (k + 1) = ((n : Int) + 1) * Builtin.Math.fallingProduct (n : Int) k
  | 0 => by rw [mc_fp_one, mc_fp_zero, Int.mul_one]
  | k + 1 => by
    rw [mc_fp_succ, fp_up n k, mc_fp_succ, Int.mul_assoc]
    congr 1
    congr 1
    omega
theorem fp_C (n : Nat) : ∀ k : Nat, k ≤ n → Builtin.Math.fallingProduct (n : Int) k = ((C n k : Nat) : Int) * Builtin.Math.fallingProduct (k : Int) k
  | 0, _ => by rw [mc_fp_zero, mc_fp_zero, C_zero]; rfl
  | k + 1, h => by
    have e := fp_up k k
    have e2 : ((k + 1 : Nat) : Int) = (k : Int) + 1 := by omega
    rw [mc_fp_succ, fp_C n k (by omega), e2, e]
    have h2 := C_next n k (by omega)
    have h3 : ((k : Int) + 1) * ((C n (k + 1) : Nat) : Int) = ((n : Int) - (k : Int)) * ((C n k : Nat) : Int) := by
      have h4 : (((k + 1) * C n (k + 1) : Nat) : Int) = (((n - k) * C n k : Nat) : Int) := by rw [h2]
      rw [Int.natCast_mul, Int.natCast_mul, e2, show ((n - k : Nat) : Int) = (n : Int) - (k : Int) by omega] at h4
      exact h4
    rw [← Int.mul_assoc, Int.mul_comm ((C n (k + 1) : Nat) : Int), h3, Int.mul_assoc, Int.mul_comm (Builtin.Math.fallingProduct (k : Int) k), ← Int.mul_assoc, Int.mul_comm ((C n k : Nat) : Int)]
theorem comb_C (n k : Nat) : mcComb (n : Int) (k : Int) = ((C n k : Nat) : Int) := by
  by_cases h : k ≤ n
  · have key : ∀ m : Nat, m ≤ n → C n m = C n k → Builtin.Math.fallingProduct (n : Int) m / Builtin.Math.fallingProduct (m : Int) m = ((C n k : Nat) : Int) := fun m hm e => by
      have hp := mc_fp_pos (n := (m : Int)) m (Int.le_refl _)
      rw [fp_C n m hm, e]
      exact Int.mul_ediv_cancel _ (by omega)
    by_cases c : k ≤ n - k
    · rw [mcComb_at (m := (k : Int)) (by omega) (by omega) (by omega)]
      exact key k h rfl
    · rw [mcComb_at (m := ((n - k : Nat) : Int)) (by omega) (by omega) (by omega)]
      exact key (n - k) (by omega) (C_symm n k h)
  · rw [mcComb_above (by omega), C_over (by omega)]
    rfl
end L6

/-! rules -/
namespace L6
open PySem PySem.Spec PyProof.Rows L2 L5 RZ
section
variable {K : PySem.W.Frag} {H H' : Hp}
theorem take_more {α : Type} {l : List α} {i : Nat} {x : α} (h : l[i]? = some x) : l.take (i + 1) = l.take i ++ [x] := by
  rw [List.take_add_one, h]
  rfl
theorem lastPos_some {t : List Nat} : ∀ {n k : Nat}, lastPos t n = some k → k < n ∧ t.getD k 0 ≠ 0
  | 0, _, h => by cases h
  | n + 1, k, h => by
    unfold lastPos at h
    by_cases c : t.getD n 0 = 0
    · rw [if_pos c] at h
      have := lastPos_some h
      exact ⟨by omega, this.2⟩
    · rw [if_neg c] at h
      cases h
      exact ⟨Nat.lt_succ_self _, c⟩
theorem getD_at {t : List Nat} {i : Nat} (h : i < t.length) : t[i]? = some (t.getD i 0) := by
  rw [List.getD_eq_getElem?_getD, List.getElem?_eq_getElem h]
  rfl
theorem nv_take (t : List Nat) (k : Nat) : nv (t.take k) = (nv t).take k := List.map_take
theorem cut_to (xs : List V) (k : Nat) (h : k ≤ xs.length) : cutV xs none (some (k : Int)) = xs.take k := by
  unfold cutV
  rw [show HT.sIx xs.length xs.length (some (k : Int)) = min k xs.length from HT.sIx_nat xs.length xs.length k, HT.sIx_none, Nat.min_eq_left h]
  rfl
theorem rep_nv (k : Nat) : (List.replicate k [V.int 0]).flatten = nv (List.replicate k 0) := by
  induction k with
  | zero => rfl
  | succ k ih =>
    rw [List.replicate_succ, List.flatten_cons, ih, List.replicate_succ]
    rfl
/-! ### tuple rules whose answer is told alike in all cases -/
def rCatB (K : PySem.W.Frag) : R2 := fun x y H Q => ∃ a b xs ys, x = .ref a ∧ y = .ref b ∧ SqT K H a xs ∧ SqT K H b ys ∧ xs.length + ys.length ≤ sizeLine ∧ ∀ H' z, Same H H' → SqT K H' z (xs ++ ys) → Q (.ref z) H'
theorem op_catB {X : Cx} : OpR X (binaryOp .Add) (rCatB X.K) := by
  intro pins s σ H x y v u Q I rx ry h
  obtain ⟨a, b, xs, ys, rfl, rfl, hx, hy, hz, q⟩ := h
  refine op_catA pins s σ H _ _ v u Q I rx ry ⟨a, b, xs, ys, rfl, rfl, hx, hy, hz, fun e => ?_, fun _ e => ?_, fun _ _ p hp => q _ p (same_new hp _) (SqT.of upd_same)⟩
  · subst e
    exact q H b (Same.refl H) hy
  · subst e
    rw [List.append_nil] at q
    exact q H a (Same.refl H) hx
def rSlB (K : PySem.W.Frag) : V → Option Int → Option Int → Hp → VK → Prop := fun x lo hi H Q => ∃ a xs, x = .ref a ∧ SqT K H a xs ∧ ∀ H' z, Same H H' → SqT K H' z (cutV xs lo hi) → Q (.ref z) H'
theorem sl_tupB {X : Cx} : SlR X (rSlB X.K) := by
  intro pins s σ H x v vl vu lo hi sl Q I rx hs pl pu h
  obtain ⟨a, xs, rfl, hx, q⟩ := h
  refine sl_tupA pins s σ H _ v vl vu lo hi sl Q I rx hs pl pu ⟨a, xs, rfl, hx, fun e => ?_, fun _ p hp => q _ p (same_new hp _) (SqT.of upd_same)⟩
  have e2 : cutV xs lo hi = xs := by
    unfold cutV
    rw [e.1, e.2]
    exact List.take_length
  rw [e2] at q
  exact q H a (Same.refl H) hx
def rRepB (K : PySem.W.Frag) : R2 := fun x y H Q => ∃ l k xs, x = .ref l ∧ y = .int k ∧ SqT K H l xs ∧ xs ≠ [] ∧ -1000 ≤ k ∧ k ≤ 1000 ∧ xs.length ≤ 1000 ∧ ∀ H' z, Same H H' → SqT K H' z (List.replicate k.toNat xs).flatten → Q (.ref z) H'
theorem op_repB {X : Cx} : OpR X (binaryOp .Mult) (rRepB X.K) := by
  intro pins s σ H x y v u Q I rx ry h
  obtain ⟨l, k, xs, rfl, rfl, hx, hne, h1, h2, hz, q⟩ := h
  refine op_repA pins s σ H _ _ v u Q I rx ry ⟨l, k, xs, rfl, rfl, hx, hne, h1, h2, hz, fun e => ?_, fun _ p hp => q _ p (same_new hp _) (SqT.of upd_same)⟩
  subst e
  refine q H l (Same.refl H) ?_
  have e2 : (List.replicate (1 : Int).toNat xs).flatten = xs := by
    show (List.replicate 1 xs).flatten = xs
    simp
  rw [e2]
  exact hx
def Bar (p : Addr) (H H' : Hp) : Prop := ∀ b o, b ≠ p → H b = some o → H' b = some o
theorem Bar.trans {p : Addr} {A B C : Hp} (a : Bar p A B) (b : Bar p B C) : Bar p A C := fun c o n h => b c o n (a c o n h)
theorem Bar.same {p : Addr} {A B : Hp} (a : Same A B) : Bar p A B := fun c o _ h => a c o h
theorem Bar.upd {p : Addr} {A : Hp} {o : HO} : Bar p A (upd A p o) := fun c u n h => by
  rw [upd_ne n]
  exact h
theorem passG {X : Cx} : Passes (CX X.prog X.w) X E0 := fun _ _ _ _ _ _ _ c => by
  obtain ⟨_, _, _, _, _, _, _, _, _, _, _, _, no⟩ := c
  exact no.elim
theorem nostop : NoStop K E0 := fun _ _ _ no => no.elim
theorem ref_get {rs : List Addr} {i : Nat} {x : V} (h : (rs.map V.ref)[i]? = some x) : ∃ a, rs[i]? = some a ∧ x = .ref a := by
  rw [List.getElem?_map] at h
  cases e : rs[i]? with
  | none =>
    rw [e] at h
    cases h
  | some n =>
    rw [e] at h
    exact ⟨n, rfl, (Option.some.inj h).symm⟩

theorem PE.weak {X : Cx} {e : Expr} {t t' : TE} (h : PE X e t) (i : ∀ σ H Q, t' σ H Q → t σ H Q) : PE X e t' := ⟨fun pins s σ H Q I h' => h.run pins s σ H Q I (i σ H Q h')⟩
theorem PS.weak {X : Cx} {s : Stmt} {t t' : TS} (h : PS X s t) (i : ∀ D σ H, t' D σ H → t D σ H) : PS X s t' := ⟨fun pins s0 σ H D I h' => h.run pins s0 σ H D I (i D σ H h')⟩
theorem cut_from (xs : List V) (k : Nat) (h : k ≤ xs.length) : cutV xs (some (k : Int)) none = xs.drop k := by
  unfold cutV
  rw [show HT.sIx xs.length 0 (some (k : Int)) = min k xs.length from HT.sIx_nat xs.length 0 k, HT.sIx_none, Nat.min_eq_left h]
  exact List.take_of_length_le (by rw [List.length_drop]; exact Nat.le_refl _)
theorem nv_drop (t : List Nat) (k : Nat) : nv (t.drop k) = (nv t).drop k := List.map_drop
/-! ### math.comb -/
def rComb : List V → Hp → VK → Prop := fun vs H Q => ∃ a b : Nat, vs = [.int ((a : Nat) : Int), .int ((b : Nat) : Int)] ∧ a ≤ 1000000000 ∧ b ≤ 1000 ∧ Q (.int ((C a b : Nat) : Int)) H
theorem cr_comb {X : Cx} : CallR X (.builtin "math.comb") rComb := by
  intro pins s σ H vs us Q I r h
  obtain ⟨a, b, rfl, ha, hb, q⟩ := h
  obtain ⟨t, u, rfl⟩ := Vals.int2 r
  refine PySem.W.mc_comb (by omega) (by omega) (by omega) (.inl (by omega)) fun _ => ?_
  rw [comb_C]
  exact ⟨.int _, H, I.tok _, ⟨_, rfl⟩, q⟩

/-! ### t > u of two tuples of one length -/
abbrev iv (t : List Nat) : List Int := t.map fun n => ((n : Nat) : Int)
theorem iv_at (t : List Nat) (j : Nat) : (iv t).getD j 0 = ((t.getD j 0 : Nat) : Int) := by
  rw [List.getD_eq_getElem?_getD, List.getD_eq_getElem?_getD, List.getElem?_map]
  cases t[j]? <;> rfl
theorem lexAt_gt (t u : List Nat) (hl : t.length = u.length) : ∀ (k i : Nat), i + k = t.length →
    Ob.lexAt (fun j => decide ((iv t).getD j 0 = (iv u).getD j 0)) (fun j => decide ((iv u).getD j 0 < (iv t).getD j 0)) false i k = gtB (t.drop i) (u.drop i)
  | 0, i, h => by
    rw [Ob.lexAt_zero, List.drop_of_length_le (by omega)]
    unfold gtB
    rfl
  | k + 1, i, h => by
    have h1 : i < t.length := by omega
    have h2 : i < u.length := by omega
    have e1 : t.getD i 0 = t[i] := by rw [List.getD_eq_getElem?_getD, List.getElem?_eq_getElem h1]; rfl
    have e2 : u.getD i 0 = u[i] := by rw [List.getD_eq_getElem?_getD, List.getElem?_eq_getElem h2]; rfl
    rw [Ob.lexAt_succ, lexAt_gt t u hl k (i + 1) (by omega), List.drop_eq_getElem_cons h1, List.drop_eq_getElem_cons h2]
    show (if decide ((iv t).getD i 0 = (iv u).getD i 0) = true then _ else decide ((iv u).getD i 0 < (iv t).getD i 0)) = (if t[i] = u[i] then _ else decide (u[i] < t[i]))
    rw [iv_at, iv_at, e1, e2]
    by_cases c : t[i] = u[i]
    · rw [if_pos c, if_pos (decide_eq_true (by rw [c]))]
    · rw [if_neg c, if_neg (fun z => c (by have := of_decide_eq_true z; omega))]
      by_cases d : u[i] < t[i]
      · rw [decide_eq_true d, decide_eq_true (by omega)]
      · rw [decide_eq_false d, decide_eq_false (by omega)]
def rGtN (K : PySem.W.Frag) : R2 := fun x y H Q => ∃ (a b : Addr) (t u : List Nat), x = .ref a ∧ y = .ref b ∧ SqT K H a (nv t) ∧ SqT K H b (nv u) ∧ t.length = u.length ∧ Q (.bl (gtB t u)) H
theorem op_gtN {X : Cx} (hu : X.A.units < cLine) : OpR X (compareOp .Gt) (rGtN X.K) := by
  intro pins s σ H x y v w Q I rx ry h
  obtain ⟨a, b, t, u, rfl, rfl, ha, hb, hl, q⟩ := h
  cases rx
  cases ry
  rw [nv_ints] at ha hb
  obtain ⟨its, r1, p1, _⟩ := I.tuple ha
  obtain ⟨its2, r2, p2, _⟩ := I.tuple hb
  have i1 : IntsAre its (iv t) := Vals.ints r1
  have i2 : IntsAre its2 (iv u) := Vals.ints r2
  have e1 : its.toArray.size = t.length := by rw [List.size_toArray, i1.length, List.length_map]
  have e2 : its2.toArray.size = t.length := by rw [List.size_toArray, i2.length, List.length_map, hl]
  have at1 : ∀ j (h1 : j < its.toArray.size), ∃ k, its.toArray[j] = .int ((iv t).getD j 0) k := fun j h1 => PyProof.Rows.IntsAre.int_at i1 _ _ (by simp at h1; simp [h1])
  have at2 : ∀ j (h1 : j < its2.toArray.size), ∃ k, its2.toArray[j] = .int ((iv u).getD j 0) k := fun j h1 => PyProof.Rows.IntsAre.int_at i2 _ _ (by simp at h1; simp [h1])
  have R := Ob.RcOp.tuples_gt (A := X.A) (s := s) (e := fun j => decide ((iv t).getD j 0 = (iv u).getD j 0)) (r := fun j => decide ((iv u).getD j 0 < (iv t).getD j 0)) p1 p2 hu (fun j h1 h2 => by
    obtain ⟨k, et⟩ := at1 j h1
    obtain ⟨k', et'⟩ := at2 j h2
    rw [et, et']
    have z : ((iv t).getD j 0 == (iv u).getD j 0) = decide ((iv t).getD j 0 = (iv u).getD j 0) := by
      by_cases q : (iv t).getD j 0 = (iv u).getD j 0
      · rw [decide_eq_true q]; exact beq_iff_eq.mpr q
      · rw [decide_eq_false q]; exact beq_eq_false_iff_ne.mpr q
    rw [← z]
    exact SeqAt.EqAt.int_int _ _ _ _) (fun j h1 h2 _ => by
    obtain ⟨k, et⟩ := at1 j h1
    obtain ⟨k', et'⟩ := at2 j h2
    rw [et, et']
    exact Ob.RcOp.gt_int _ _ _ _)
  rw [e1, e2, Nat.min_self, decide_eq_false (Nat.lt_irrefl _), lexAt_gt t u hl t.length 0 (Nat.zero_add _), List.drop_zero, List.drop_zero] at R
  have z : wpAny (model X.prog X.w) X.A (compareOp .Gt (.ref a) (.ref b)) (EP X pins σ Q) X.xe s := R X.prog X.w X.xe (EP X pins σ Q) ⟨.bl _, H, I, rfl, q⟩
  exact z
/-! ### a for over enumerate of a tuple -/
theorem for_enumT {K : PySem.W.Frag} {a : Addr} {xs : List V} {g : TG} {tb : TS} {D : Ends} {σ : L2.St} {H : Hp} (Pv : Nat → L2.St → Hp → Prop) (h0 : Pv 0 σ H) (hl : ∀ i σ H, i ≤ xs.length → Pv i σ H → SqT K H a xs)
    (hs : ∀ i x T σ H, xs[i]? = some x → Pv i σ H → H T = none → g (.ref T) σ (upd H T (.tup [.int (i : Nat), x])) fun σ2 H2 => tb { D with nx := Pv (i + 1), ct := Pv (i + 1), bk := D.nx } σ2 H2) (hd : ∀ σ H, Pv xs.length σ H → D.nx σ H) :
    ∃ W : Nat → Nat → L2.St → Hp → Prop, (∃ m, W 0 m σ H) ∧ ∀ i m σ H, W i m σ H →
      ((IteT K a).stop i H ∧ D.nx σ H) ∨ ((IteT K a).go i H ∧ ∃ N : L2.St → Hp → Prop, (∀ σ' H', N σ' H' → ∃ m', m' < m ∧ W (i + 1) m' σ' H') ∧ ∀ x H', (IteT K a).yld i H x H' → g x σ H' fun σ2 H2 => tb { D with nx := N, ct := N, bk := D.nx } σ2 H2) := by
  refine ⟨fun i m σ H => m = xs.length - i ∧ i ≤ xs.length ∧ Pv i σ H, ⟨xs.length, by simp, Nat.zero_le _, h0⟩, ?_⟩
  rintro i m σ H ⟨rfl, hi, p⟩
  have q := hl i σ H hi p
  by_cases hlt : i < xs.length
  · refine .inr ⟨⟨xs, xs[i], q, by simp [hlt]⟩, Pv (i + 1), fun σ' H' p' => ⟨xs.length - (i + 1), by omega, rfl, hlt, p'⟩, fun x H' y => ?_⟩
    obtain ⟨T, x', rfl, free, rfl, fx⟩ := y
    exact hs i x' T σ H (fx xs q) p free
  · have e : i = xs.length := by omega
    subst e
    exact .inl ⟨⟨xs, q, Nat.le_refl _⟩, hd σ H p⟩
end
end L6

namespace K13
open PySem PySem.Spec PyProof.Rows L2 RZ L5 R7 XX


open L6 (C cr_comb rComb)
section
variable {P : Program} {w : World} {K : PySem.W.Frag} {mg : Str → Option Value} {base : Heap}
/-! ### choices, number_of_products, word_place -/
def sp_cho : Sp := fun vs H Q _ => ∃ (a b : Int) (k : Nat), vs = [.int a, .int b] ∧ b = ((k : Nat) : Int) ∧ a ≤ 1000000000 ∧ k ≤ 1000 ∧ Q (.int (if a < k then 0 else ((C a.toNat k : Nat) : Int))) H
theorem ok_cho (T : Txt K mg) : FnOk P w K mg base CX0 1 T.a_choices T.d_choices ["top", "bottom"] sp_cho := by
  refine T.F_choices.ok sc_choices (fun vs H Q E h => ?_) (fun cdv A outer s H vs Q E hr h => ?_)
  · obtain ⟨a, b, k, rfl, _⟩ := h
    rfl
  · obtain ⟨a, b, k, rfl, rfl, ha, hk, q⟩ := h
    refine ⟨_, pss_cons (ps_if (PW.pt (pw_or (pt_cmpR op_lt (pv 1) pe_int (nomark _)) (pw_or1 (pt_cmpR op_gt (pv 1) (pv 0) (nomark _))))) (pss_one (ps_ret pe_int)) pss_nil)
      (pss_one (ps_ret (pe_callBfun cr_comb (by rfl) T.z_comb (pa_cons (pv 0) (pa_cons (pv 1) pa_nil))))), ?_⟩
    refine ⟨_, rfl, _, _, rfl, rfl, _, rfl, ?_⟩
    rw [decide_eq_false (show ¬ ((k : Nat) : Int) < 0 by omega)]
    refine iteF ⟨_, rfl, _, rfl, _, _, rfl, rfl, _, rfl, ite2 (fun c => ?_) (fun c => ?_)⟩
    · have c' := of_decide_eq_true c
      rw [if_pos c'] at q
      exact q
    · have c' : ¬ _ := fun z => c (decide_eq_true z)
      rw [if_neg c'] at q
      refine ⟨_, rfl, _, rfl, a.toNat, k, ?_, by omega, by omega, q⟩
      rw [show ((a.toNat : Nat) : Int) = a by omega]
end

end K13

namespace K13
open PySem PySem.Spec PyProof.Rows L2 RZ L5 R7 XX
section
variable {P : Program} {w : World} {K : PySem.W.Frag} {mg : Str → Option Value} {base : Heap}
/-! ### made_lot, the properties letters and members, check_letters -/
abbrev s_letters : Stmt := inClass LotS 2
abbrev s_members : Stmt := inClass LotS 3
theorem sc_letters : FnScope ["self"] ["self"] (defScope s_letters) := ⟨rfl, rfl, rfl, by decide +kernel, rfl, by decide +kernel, by decide +kernel⟩
theorem sc_members : FnScope ["self"] ["self"] (defScope s_members) := ⟨rfl, rfl, rfl, by decide +kernel, rfl, by decide +kernel, by decide +kernel⟩
structure LotP (K : PySem.W.Frag) (C : Addr) where
  pL : Addr
  gL : Addr
  dL : FuncData
  PL : PropOf K C "letters" pL gL
  FL : Fun K "letters" "Lot.letters" s_letters gL dL
  bL : Binds K dL ["self"] []
  pM : Addr
  gM : Addr
  dM : FuncData
  PM : PropOf K C "members" pM gM
  FM : Fun K "members" "Lot.members" s_members gM dM
  bM : Binds K dM ["self"] []
def sp_ltr (K : PySem.W.Frag) (C : Addr) : Sp := fun vs H Q _ => ∃ a d L, vs = [.ref a] ∧ LotAt K C H a d L ∧ Q (.int ((d : Nat) : Int)) H
theorem ok_ltr (O : LotT K mg) (R : LotP K O.C) : FnOk P w K mg base CX0 1 R.gL R.dL ["self"] (sp_ltr K O.C) := by
  refine R.FL.ok sc_letters (fun vs H Q E h => ?_) (fun cdv A outer s H vs Q E hr h => ?_)
  · obtain ⟨a, d, L, rfl, _⟩ := h
    rfl
  · obtain ⟨a, d, L, rfl, ⟨dx, m, rs, h1, h2, h3⟩, q⟩ := h
    exact ⟨_, pss_one (ps_ret (pe_fld (pv 0) rfl)), _, rfl, a, O.C, dx, _, _, rfl, h1, O.cl, O.nL, rfl, q⟩
def sp_mem (K : PySem.W.Frag) (C : Addr) : Sp := fun vs H Q _ => ∃ a d L, vs = [.ref a] ∧ LotAt K C H a d L ∧ ∀ m rs, SqT K H m (rs.map V.ref) → Tups K H rs L → Q (.ref m) H
theorem ok_mem (O : LotT K mg) (R : LotP K O.C) : FnOk P w K mg base CX0 1 R.gM R.dM ["self"] (sp_mem K O.C) := by
  refine R.FM.ok sc_members (fun vs H Q E h => ?_) (fun cdv A outer s H vs Q E hr h => ?_)
  · obtain ⟨a, d, L, rfl, _⟩ := h
    rfl
  · obtain ⟨a, d, L, rfl, ⟨dx, m, rs, h1, h2, h3⟩, q⟩ := h
    exact ⟨_, pss_one (ps_ret (pe_fld (pv 0) rfl)), _, rfl, a, O.C, dx, _, _, rfl, h1, O.cl, O.nM, rfl, q m rs h2 h3⟩
theorem few_nil {d : Nat} (h : 1 ≤ d) : Few d [] := ⟨h, fun _ h => (nomatch h), fun _ h => (nomatch h), by decide, by decide⟩
def sp_made (K : PySem.W.Frag) (C : Addr) : Sp := fun vs H Q _ => ∃ (d : Nat) (m : Addr) (rs : List Addr) (L : List (List Nat)), vs = [.int ((d : Nat) : Int), .ref m] ∧ 1 ≤ d ∧ d ≤ 8 ∧ SqT K H m (rs.map V.ref) ∧ Tups K H rs L ∧
  ∀ H' a, Same H H' → H a = none → LotAt K C H' a d L → Q (.ref a) H'
theorem ok_made (T : Txt K mg) (O : LotT K mg) : FnOk P w K mg base CX0 7 T.a_made_lot T.d_made_lot ["letters", "members"] (sp_made K O.C) := by
  refine T.F_made_lot.ok sc_made_lot (fun vs H Q E h => ?_) (fun cdv A outer s H vs Q E hr h => ?_)
  · obtain ⟨d, m, rs, L, rfl, _⟩ := h
    rfl
  · obtain ⟨d, m, rs, L, rfl, h1, h8, hm, hL, q⟩ := h
    refine ⟨_, pss_cons (ps_set (i := 2) sc_made_lot.nd rfl (Or.inl rfl) (pe_make O.M (ok_init T O) hr rfl O.gC O.bI .nil pass0 (pa_cons (pv 0) (pa_cons (pe_tup pa_nil) pa_nil))))
      (pss_cons (ps_fld (pv 2) (pv 1) rfl)
      (pss_one (ps_ret (pv 2)))), ?_⟩
    refine ⟨_, rfl, by show 0 ≤ sizeLine; exact Nat.zero_le _, fun t0 ht0 => ?_⟩
    have st0 := same_new ht0 (.tup [])
    intro x dx nx nd ne
    have hx0 : H x = none := st0.free nx
    have hd0 : H dx = none := st0.free nd
    have sx : Same (upd H t0 (.tup [])) (upd (upd (upd H t0 (.tup [])) dx (.own x)) x (.ins O.C dx [])) := (same_new nd (.own x)).trans (same_new (by rw [upd_ne (Ne.symm ne)]; exact nx) _)
    refine ⟨x, dx, t0, d, [], [], rfl, upd_same, SqT.of (sx _ _ upd_same), .nil, few_nil h1, h8, fun _ h => (nomatch h), fun H2 m2 rs2 st2 hx2 hm2 hT2 => ⟨rfl, ?_⟩⟩
    have S2 : Same H H2 := fun b o h => st2 b o (ne_of_none h hx0) (sx b o (st0 b o h))
    refine ⟨_, rfl, _, rfl, x, O.C, dx, _, rfl, hx2, O.cl, O.nM, by show 2 < 1000; decide, ?_⟩
    have st3 : ∀ b o, b ≠ x → H2 b = some o → (upd H2 x (.ins O.C dx (putF "_members" (.ref m) (lotF d m2)))) b = some o := fun b o n h => by
      rw [upd_ne n]
      exact h
    refine ⟨_, rfl, q _ x (fun b o h => st3 b o (ne_of_none h hx0) (S2 b o h)) hx0 ⟨dx, m, rs, ?_, sqt_ins hx2 st3 (same_sqt S2 hm), tups_ins hx2 st3 (hL.same S2)⟩⟩
    rw [upd_same]
    rfl
def sp_chl (K : PySem.W.Frag) (C : Addr) : Sp := fun vs H Q _ => ∃ a b d L M, vs = [.ref a, .ref b] ∧ LotAt K C H a d L ∧ LotAt K C H b d M ∧ Q .non H
theorem ok_chl (T : Txt K mg) (O : LotT K mg) (R : LotP K O.C) : FnOk P w K mg base CX0 3 T.a_check_letters T.d_check_letters ["one", "other"] (sp_chl K O.C) := by
  refine T.F_check_letters.ok sc_check_letters (fun vs H Q E h => ?_) (fun cdv A outer s H vs Q E hr h => ?_)
  · obtain ⟨a, b, d, L, M, rfl, _⟩ := h
    rfl
  · obtain ⟨a, b, d, L, M, rfl, hA, hB, q⟩ := h
    refine ⟨_, pss_one (ps_if (pt_cmpR op_ne (pe_prop (E := E0) (pv 0) O.cl R.PL (ok_ltr O R) hr R.bL .nil pass0 rfl) (pe_prop (E := E0) (pv 1) O.cl R.PL (ok_ltr O R) hr R.bL .nil pass0 rfl) (nomark _)) (pss_one ps_never) pss_nil), ?_⟩
    have ia := hA
    have ib := hB
    obtain ⟨dx, m, rs, h1, _⟩ := ia
    obtain ⟨dx2, m2, rs2, h2, _⟩ := ib
    refine ⟨_, rfl, a, dx, _, rfl, h1, a, d, L, rfl, hA, _, rfl, b, dx2, _, rfl, h2, b, d, M, rfl, hB, rfl, _, rfl, ?_⟩
    rw [decide_eq_true rfl]
    exact iteF q
end
end K13

namespace K13
open PySem PySem.Spec PyProof.Rows L2 RZ L5 R7 XX
section
variable {P : Program} {w : World} {K : PySem.W.Frag} {mg : Str → Option Value} {base : Heap}
/-! ### one + other -/
abbrev s_add : Stmt := inClass LotS 7
abbrev N_add : List Str := ["self", "other"]
theorem sc_add : FnScope N_add ["self", "other"] (defScope s_add) := ⟨rfl, rfl, rfl, by decide +kernel, rfl, by decide +kernel, by decide +kernel⟩
structure LotO (K : PySem.W.Frag) (mg : Str → Option Value) (C : Addr) where
  first : PySem.W.selfFirst K C = true
  ty : ∀ (H : Hp) (a dx : Addr) (fs : List (Str × V)), H a = some (.ins C dx fs) → TyX K H (.ref a) (.ref C)
  kit : PySem.W.kitOne K (.ref C) (.ref C) = some true
  fA : Addr
  dA : FuncData
  FA : Fun K "__add__" "Lot.__add__" s_add fA dA
  bA : Binds K dA ["self", "other"] []
  aA : PySem.W.findIn K (.ref C) (PySem.dunder Operator.Add.info.2) = some (some (.ref fA))
  nA : PySem.W.isFn K (.ref fA) = true
def sp_add (K : PySem.W.Frag) (C : Addr) : Sp := fun vs H Q _ => ∃ a b d L M, vs = [.ref a, .ref b] ∧ LotAt K C H a d L ∧ LotAt K C H b d M ∧ d ≤ 8 ∧ Few d (L ++ M) ∧ ∀ H' c, Same H H' → H c = none → LotAt K C H' c d (M7.leastN (L ++ M)) → Q (.ref c) H'
theorem ok_add (T : Txt K mg) (O : LotT K mg) (R : LotP K O.C) (W : LotO K mg O.C) : FnOk P w K mg base CX0 8 W.fA W.dA ["self", "other"] (sp_add K O.C) := by
  refine W.FA.ok sc_add (fun vs H Q E h => ?_) (fun cdv A outer s H vs Q E hr h => ?_)
  · obtain ⟨a, b, d, L, M, rfl, _⟩ := h
    rfl
  · obtain ⟨a, b, d, L, M, rfl, hA, hB, hd8, hf, q⟩ := h
    refine ⟨_, pss_cons (ps_if (pt_not (pt_val (pe_callB call_isi (by rfl) T.z_isinstance boot_isinstance (pa_cons (pv 1) (pa_cons (pe_glob (v := .ref O.C) rfl O.gC rfl) pa_nil))))) (pss_one ps_never) pss_nil)
      (pss_cons (ps_expr (pe_call (ok_chl T O R) (hr.mono (by decide)) (by rfl) T.m_check_letters T.F_check_letters.kp T.b_check_letters .nil pass0 (pa_cons (pv 0) (pa_cons (pv 1) pa_nil))))
      (pss_one (ps_ret (pe_call (ok_made T O) hr (by rfl) T.m_made_lot T.F_made_lot.kp T.b_made_lot .nil pass0 (pa_cons (pe_fld (pv 0) rfl)
        (pa_cons (pe_call (ok_lim T) (hr.mono (by decide)) (by rfl) T.m_limited_members T.F_limited_members.kp T.b_limited_members .nil pass0 (pa_cons (pe_op op_catB (pe_fld (pv 0) rfl) (pe_prop (E := E0) (pv 1) O.cl R.PM (ok_mem O R) (hr.mono (by decide)) R.bM .nil pass0 rfl)) pa_nil)) pa_nil)))))), ?_⟩
    have ia := hA
    have ib := hB
    obtain ⟨dx, m, rs, h1, h2, h3⟩ := ia
    obtain ⟨dy, m2, rs2, k1, k2, k3⟩ := ib
    refine ⟨_, rfl, _, _, _, _, true, rfl, .own _, W.ty H b dy _ k1, W.kit, true, rfl, iteF ?_⟩
    refine ⟨_, rfl, _, rfl, a, b, d, L, M, rfl, hA, hB, ?_⟩
    refine ⟨_, rfl, a, O.C, dx, _, _, rfl, h1, O.cl, O.nL, rfl, _, rfl, a, O.C, dx, _, _, rfl, h1, O.cl, O.nM, rfl, _, rfl, b, dy, _, rfl, k1, b, d, M, rfl, hB, fun m' rs' km kt => ?_⟩
    have hl1 : rs.length = L.length := h3.length
    have hl2 : rs'.length = M.length := kt.length
    have hfew := hf.few
    rw [List.length_append] at hfew
    refine ⟨m, m', _, _, rfl, rfl, h2, km, Nat.le_of_lt (sizeK (by rw [List.length_map, List.length_map]; omega)), fun H1 z s1 hz => ?_⟩
    rw [← List.map_append] at hz
    refine ⟨z, rs ++ rs', L ++ M, d, rfl, .inr hz, (h3.app kt).same s1, hf, fun H2 z2 rs2 s2 hz2 hT2 => ?_⟩
    exact ⟨d, z2, rs2, _, rfl, hf.pos, hd8, hz2, hT2, fun H3 c s3 hc hl => q H3 c (s1.trans (s2.trans s3)) ((s1.trans s2).free hc) hl⟩
end
end K13

/-! counts by numerators -/
namespace M12
open M7 M8 DD L6
/-- the number of products of degree t that are left, n letters -/
def cntL (f : Nat → Int) (n t : Nat) : Int := (((supN f).filter fun j => decide (j ≤ t)).map fun j => f j * ((C (t - j + n - 1) (n - 1) : Nat) : Int)).sum
def cntF (f : Nat → Int) (n t : Nat) (N : Nat) : Int := ((List.range N).map fun j => if j ≤ t then f j * ((C (t - j + n - 1) (n - 1) : Nat) : Int) else 0).sum
theorem cnt_LF (f : Nat → Int) (n t : Nat) : ∀ N, ((((List.range N).filter fun j => decide (f j ≠ 0)).filter fun j => decide (j ≤ t)).map fun j => f j * ((C (t - j + n - 1) (n - 1) : Nat) : Int)).sum = cntF f n t N
  | 0 => rfl
  | N + 1 => by
    have ih := cnt_LF f n t N
    unfold cntF at ih ⊢
    rw [List.range_succ, List.filter_append, List.filter_append, List.map_append, List.sum_append, List.map_append, List.sum_append, ih]
    congr 1
    by_cases h : f N = 0
    · simp [h]
    · rw [List.filter_cons, if_pos (decide_eq_true h)]
      by_cases k : N ≤ t
      · simp [k]
      · simp [k]
theorem cntF_succ (f : Nat → Int) (n t N : Nat) : cntF f n t (N + 1) = cntF f n t N + if N ≤ t then f N * ((C (t - N + n - 1) (n - 1) : Nat) : Int) else 0 := by
  unfold cntF
  rw [List.range_succ, List.map_append, List.sum_append]
  simp
theorem cntF_add (f g : Nat → Int) (n t : Nat) : ∀ N, cntF (fun j => f j + g j) n t N = cntF f n t N + cntF g n t N
  | 0 => rfl
  | N + 1 => by
    rw [cntF_succ, cntF_succ, cntF_succ, cntF_add f g n t N]
    split
    · rw [Int.add_mul]
      omega
    · omega
theorem cntF_sh (h : Nat → Int) (n t k : Nat) : ∀ N, cntF (sh k h) n t (k + N) = if k ≤ t then cntF h n (t - k) N else 0
  | 0 => by
    have z : ∀ M, M ≤ k → cntF (sh k h) n t M = 0 := fun M => by
      induction M with
      | zero => intro _; rfl
      | succ M ih =>
        intro hM
        rw [cntF_succ, ih (by omega)]
        have : sh k h M = 0 := by unfold sh; rw [if_neg (by omega)]
        rw [this]
        split <;> simp
    rw [Nat.add_zero, z k (Nat.le_refl _)]
    split <;> rfl
  | N + 1 => by
    rw [← Nat.add_assoc, cntF_succ, cntF_sh h n t k N]
    have e : sh k h (k + N) = h N := by unfold sh; rw [if_pos (by omega), show k + N - k = N by omega]
    rw [e]
    by_cases hk : k ≤ t
    · rw [if_pos hk, if_pos hk, cntF_succ]
      by_cases h2 : k + N ≤ t
      · rw [if_pos h2, if_pos (by omega), show t - (k + N) = t - k - N by omega]
      · rw [if_neg h2, if_neg (by omega)]
    · rw [if_neg hk, if_neg hk, if_neg (by omega)]
      rfl
theorem cntF_more (h : Nat → Int) (n t : Nat) {N : Nat} (hz : ∀ j, N ≤ j → h j = 0) : ∀ M, cntF h n t (N + M) = cntF h n t N
  | 0 => rfl
  | M + 1 => by
    rw [← Nat.add_assoc, cntF_succ, cntF_more h n t hz M, hz (N + M) (by omega)]
    split <;> simp
theorem cntL_F (f : Nat → Int) (n t : Nat) : cntL f n t = cntF f n t 200 := cnt_LF f n t 200
/-- counts go with a product more -/
theorem cnt_step {f g h : Nat → Int} {k : Nat} (e : f = fun j => g j + sh k h j) (hk : k ≤ 100) (hz : ∀ j, 100 ≤ j → h j = 0) (n t : Nat) : cntL f n t = cntL g n t + if k ≤ t then cntL h n (t - k) else 0 := by
  rw [cntL_F, cntL_F, cntL_F, e, cntF_add]
  congr 1
  have h1 : cntF (sh k h) n t 200 = cntF (sh k h) n t (k + 100) := by
    have := cntF_more (sh k h) n t (N := k + 100) (fun j hj => by unfold sh; rw [if_pos (by omega)]; exact hz _ (by omega)) (100 - k)
    rw [show k + 100 + (100 - k) = 200 by omega] at this
    exact this
  rw [h1, cntF_sh]
  have h2 := cntF_more h n (t - k) (N := 100) hz 100
  rw [show 100 + 100 = 200 from rfl] at h2
  rw [h2]
end M12

namespace K13
open PySem PySem.Spec PyProof.Rows L2 RZ L5 R7 XX
open M12 DD
open L6 (C)
section
variable {P : Program} {w : World} {K : PySem.W.Frag} {mg : Str → Option Value} {base : Heap}
def sp_chk (K : PySem.W.Frag) (C : Addr) : Sp := fun vs H Q _ => ∃ a d L, vs = [.ref a] ∧ LotAt K C H a d L ∧ Q .non H
theorem ok_chk (T : Txt K mg) (O : LotT K mg) (W : LotO K mg O.C) : FnOk P w K mg base CX0 1 T.a_check_lot T.d_check_lot ["value"] (sp_chk K O.C) := by
  refine T.F_check_lot.ok sc_check_lot (fun vs H Q E h => ?_) (fun cdv A outer s H vs Q E hr h => ?_)
  · obtain ⟨a, d, L, rfl, _⟩ := h
    rfl
  · obtain ⟨a, d, L, rfl, ⟨dx, m, rs, h1, h2, h3⟩, q⟩ := h
    refine ⟨_, (pss_one (ps_if (pt_not (pt_val (pe_callB call_isi (by rfl) T.z_isinstance boot_isinstance (pa_cons (pv 0) (pa_cons (pe_glob (v := .ref O.C) rfl O.gC rfl) pa_nil))))) (pss_one ps_never) pss_nil)), ?_⟩
    exact ⟨_, rfl, _, _, _, _, true, rfl, .own _, W.ty H a dx _ h1, W.kit, true, rfl, iteF q⟩
/-- a lot that is counted -/
structure CntOk (d : Nat) (b : List Nat) (L : List (List Nat)) : Prop where
  way : Way d b L
  pos : 1 ≤ d
  few : d ≤ 8
  far : b.sum ≤ 60
  num : L.length ≤ 60
  sum : sumS L ≤ 1000
def sp_numr (K : PySem.W.Frag) (C : Addr) : Sp := fun vs H Q _ => ∃ (a : Addr) (d : Nat) (L : List (List Nat)) (b : List Nat), vs = [.ref a] ∧ LotAt K C H a d L ∧ CntOk d b L ∧ ∀ H' z, Same H H' → H z = none → H' z = some (.dK (numK (KN L))) → Q (.ref z) H'
theorem ok_numr (T : Txt K mg) (O : LotT K mg) (R : LotP K O.C) (W : LotO K mg O.C) : FnOk P w K mg base CX0 6 T.a_numerator T.d_numerator ["lot"] (sp_numr K O.C) := by
  refine T.F_numerator.ok sc_numerator (fun vs H Q E h => ?_) (fun cdv A outer s H vs Q E hr h => ?_)
  · obtain ⟨a, d, L, b, rfl, _⟩ := h
    rfl
  · obtain ⟨a, d, L, b, rfl, hA, hS, q⟩ := h
    refine ⟨_, (pss_cons (ps_expr (pe_call  (ok_chk T O W) (hr.mono (by decide)) (by rfl) T.m_check_lot T.F_check_lot.kp T.b_check_lot .nil pass0 (pa_cons (pv 0) pa_nil)))
      (pss_one (ps_ret (pe_call  (ok_ser T) (hr.mono (by decide)) (by rfl) T.m_series_of T.F_series_of.kp T.b_series_of .nil pass0 (pa_cons (pe_prop (E := E0) (pv 0) O.cl R.PM (ok_mem O R) (hr.mono (by decide)) R.bM .nil pass0 rfl) pa_nil))))), ?_⟩
    refine ⟨_, rfl, a, d, L, rfl, hA, ?_⟩
    have ia := hA
    obtain ⟨dx, m, rs, h1, h2, h3⟩ := ia
    exact ⟨_, rfl, a, dx, _, rfl, h1, a, d, L, rfl, hA, fun m' rs' km kt => ⟨m', rs', L, d, b, rfl, km, kt, hS.way, hS.pos, by have := hS.few; omega, hS.far, hS.num, hS.sum, q⟩⟩
def sp_lnum (K : PySem.W.Frag) : Sp := fun vs H Q _ => ∃ (s : Addr) (f : Nat → Int) (n t : Nat), vs = [.ref s, zV n, zV t] ∧ H s = some (.dK (numK f)) ∧ (∀ j, (f j).natAbs < 2 ^ 62) ∧ 1 ≤ n ∧ n ≤ 8 ∧ t ≤ 1000000 ∧ ∀ H', Same H H' → Q (.int (cntL f n t)) H'
theorem sup_len (f : Nat → Int) : (supN f).length ≤ 200 := Nat.le_trans (List.length_filter_le _ _) (by rw [List.length_range]; exact Nat.le_refl _)
theorem take_getN {α : Type} {l : List α} {i : Nat} {x : α} (h : l[i]? = some x) : i < l.length := (List.getElem?_eq_some_iff.mp h).1
theorem ok_lnum (T : Txt K mg) : FnOk P w K mg base CX0 2 T.a_left_number T.d_left_number ["series", "letters", "degree"] (sp_lnum K) := by
  refine T.F_left_number.ok sc_left_number (fun vs H Q E h => ?_) (fun cdv A outer s H vs Q E hr h => ?_)
  · obtain ⟨s, f, n, t, rfl, _⟩ := h
    rfl
  · obtain ⟨s, f, n, t, rfl, hs, hf, h1, h8, ht, q⟩ := h
    refine ⟨_, (pss_cons (ps_lock (ps_setLc (i := 3) (own := [("place", 4)]) (g := gName 4) rfl sc_left_number.nd rfl rfl (sw_true rfl rfl rfl (by decide +kernel)) (pi_keys (pv 0)) (blkOk_by (own := [("place", 4)]) (N := N_left_number) (sc := defScope s_left_number) (by decide +kernel)) (fun _ _ _ _ _ => (pg_name (i := 4) sc_left_number.nd rfl (Or.inl rfl))) (fun _ _ _ _ _ => pts_one (pt_cmpR op_le (pv 4) (pv 2) (nomark _))) (fun _ _ _ _ _ => (pv 4))))
      (pss_one (ps_ret (pe_callB (cr_sum rfl) (by rfl) T.z_sum boot_sum (pa_cons (pe_lc (own := [("place", 4)]) (g := gName 4) (tt := tYes) rfl sc_left_number.nd (pi_list (pv 3)) (blkOk_by (own := [("place", 4)]) (N := N_left_number) (sc := defScope s_left_number) (by decide +kernel)) (fun _ _ _ _ _ => (pg_name (i := 4) sc_left_number.nd rfl (Or.inl rfl))) (fun _ _ _ _ _ => pts_nil) (fun _ _ _ _ _ => (pe_op op_mul (pe_dget (hu_of hr) (pv 0) (pv 4) (fun _ _ => rfl)) (pe_call  (ok_cho T) (hr.mono (by decide)) (by rfl) T.m_choices T.F_choices.kp T.b_choices .nil pass0 (pa_cons (pe_op op_sub (pe_op op_add (pe_op op_sub (pv 2) (pv 4)) (pv 1)) pe_int) (pa_cons (pe_op op_sub (pv 1) pe_int) pa_nil)))))) pa_nil))))), ?_⟩
    have hsl := sup_len f
    refine ⟨s, _, hs, trivial, fun od => ?_⟩
    have hfz : (upd H s (.frz od (.dK (numK f)))) s = some (.frz od (.dK (numK f))) := upd_same
    have bz : Bar s H (upd H s (.frz od (.dK (numK f)))) := Bar.upd
    refine ⟨_, rfl, s, od, rfl, .inl ⟨_, hfz, fun D hD => ?_⟩⟩
    have n_Ds : D ≠ s := (ne_of_none hfz hD).symm
    have hDn : H D = none := by rw [upd_ne n_Ds] at hD; exact hD
    generalize (upd H s (.frz od (.dK (numK f)))) = H1 at hfz bz hD ⊢
    have sD := same_new hD (.lst [])
    refine lc_it (walk_keys (d := s) (o := od) (kvs := numK f)) (fun i H' => Same H1 H' ∧ H' D = some (.lst (nv (((supN f).take i).filter fun j => decide (j ≤ t))))) ⟨sD, upd_same⟩ (fun i H' _ hh => hh.1 _ _ hfz) ?_ ?_
    · rintro i x Hx H3 hi ⟨s3, eD⟩ ⟨e4, k, v, hx, rfl⟩
      subst e4
      rw [List.getElem?_map] at hx
      obtain ⟨j, hj⟩ : ∃ j, (supN f)[i]? = some j := by
        cases h : (supN f)[i]? with
        | none => rw [h] at hx; cases hx
        | some j => exact ⟨j, rfl⟩
      rw [hj] at hx
      have ek : k = Sum.inl ((j : Nat) : Int) := (congrArg Prod.fst (Option.some.inj hx)).symm
      subst ek
      have flen : (((supN f).take i).filter fun j => decide (j ≤ t)).length ≤ 200 := Nat.le_trans (List.length_filter_le _ _) (by rw [List.length_take]; omega)
      refine ⟨rfl, _, rfl, _, rfl, _, _, rfl, rfl, _, rfl, ite2 (fun c => ?_) (fun c => ?_)⟩
      · have c' := of_decide_eq_true c
        refine ⟨_, rfl, _, eD, by rw [nv_len]; exact sizeK (by omega), same_updL s3 hD, ?_⟩
        rw [upd_same, take_more hj, List.filter_append, List.filter_cons, if_pos (decide_eq_true (show j ≤ t by omega)), List.filter_nil]
        unfold nv
        rw [List.map_append]
        rfl
      · have c' : ¬ ((j : Nat) : Int) ≤ ((t : Nat) : Int) := fun z => c (decide_eq_true z)
        refine ⟨s3, ?_⟩
        rw [take_more hj, List.filter_append, List.filter_cons, if_neg (by rw [decide_eq_true_iff]; omega), List.filter_nil, List.append_nil]
        exact eD
    · rintro H3 ⟨s3, eD⟩
      rw [List.length_map, List.take_length] at eD
      refine ⟨s3 _ _ hfz, ?_⟩
      have S4 : Same H (upd H3 s (.dK (numK f))) := fun b o h => by
        by_cases e : b = s
        · rw [e, upd_same, ← hs, ← e]
          exact h.symm ▸ h
        · rw [upd_ne e]
          exact s3 _ _ (bz b o e h)
      have hs4 : (upd H3 s (.dK (numK f))) s = some (.dK (numK f)) := upd_same
      have hD4 : (upd H3 s (.dK (numK f))) D = some (.lst (nv ((supN f).filter fun j => decide (j ≤ t)))) := by rw [upd_ne n_Ds]; exact eD
      generalize (upd H3 s (.dK (numK f))) = H4 at S4 hs4 hD4 ⊢
      refine ⟨_, rfl, D, rfl, ⟨_, SqL.of hD4⟩, fun D2 hD2 => ?_⟩
      have sD2 := same_new hD2 (.lst [])
      have hall : ∀ j ∈ ((supN f).filter fun j => decide (j ≤ t)), j ∈ supN f ∧ j ≤ t := fun j hj => ⟨(List.mem_filter.mp hj).1, of_decide_eq_true (List.mem_filter.mp hj).2⟩
      have hlen2 : ((supN f).filter fun j => decide (j ≤ t)).length ≤ 200 := Nat.le_trans (List.length_filter_le _ _) hsl
      have hcnt : cntL f n t = (((supN f).filter fun j => decide (j ≤ t)).map fun j => f j * ((C (t - j + n - 1) (n - 1) : Nat) : Int)).sum := rfl
      rw [hcnt] at q
      generalize ((supN f).filter fun j => decide (j ≤ t)) = ps at hD4 hall hlen2 q
      refine lc_list (K := K) (a := D) (xs := nv ps) (fun i H' => Same H4 H' ∧ H' D2 = some (.lst (((ps.take i).map fun j => f j * ((C (t - j + n - 1) (n - 1) : Nat) : Int)).map V.int))) ⟨sD2, upd_same⟩ (fun i H' _ hh => SqL.of (hh.1 _ _ hD4)) (fun i x H5 hx hh => ?_) (fun H5 hh => ?_)
      · obtain ⟨s5, eD2⟩ := hh
        obtain ⟨j, hj, rfl⟩ := nv_get hx
        obtain ⟨hm, hjt⟩ := hall j (List.mem_of_getElem? hj)
        have hval : valV (numK f) (Sum.inl ((j : Nat) : Int)) = some (.int (f j)) := by
          show valV ((supN f).map (entK f)) _ = _
          rw [val_ent, if_pos hm]
        have hget : DGet H5 s (.int ((j : Nat) : Int)) (some (.int (f j))) := hval ▸ DGet.k (k := Sum.inl ((j : Nat) : Int)) (s5 _ _ hs4)
        have hab := hf j
        have hb1 : -(2 ^ 64) < f j := by omega
        have hb2 : f j < 2 ^ 64 := by omega
        refine ⟨rfl, _, rfl, _, rfl, s, .int (f j), rfl, hget, _, rfl, _, rfl, _, _, rfl, rfl, _, rfl, _, _, rfl, rfl, _, _, rfl, rfl, _, rfl, _, _, rfl, rfl, _, _, n - 1, rfl, by omega, by omega, by omega, _, _, rfl, rfl, .inl ⟨hb1, hb2⟩, _, eD2, by rw [List.length_map, List.length_map, List.length_take]; exact sizeK (by omega), same_updL s5 hD2, ?_⟩
        rw [upd_same, take_more hj, List.map_append, List.map_append]
        have e1 : (((t : Nat) : Int) - ((j : Nat) : Int) + ((n : Nat) : Int) - 1).toNat = t - j + n - 1 := by omega
        rw [if_neg (by omega), e1]
        rfl
      · obtain ⟨s5, eD2⟩ := hh
        rw [nv_len, List.take_length] at eD2
        exact ⟨D2, _, rfl, SqL.of eD2, q H5 (S4.trans s5)⟩
def sp_cat (K : PySem.W.Frag) (C : Addr) : Sp := fun vs H Q _ => ∃ (a : Addr) (d t : Nat) (L : List (List Nat)) (b : List Nat), vs = [.ref a, zV t] ∧ LotAt K C H a d L ∧ CntOk d b L ∧ t ≤ 1000000 ∧ ∀ H', Same H H' → Q (.int (cntL (KN L) d t)) H'
theorem K_small {L : List (List Nat)} (h : L.length ≤ 60) (j : Nat) : (KN L j).natAbs < 2 ^ 62 := Nat.lt_of_le_of_lt (K_abs L.length L (Nat.le_refl _) j) (Nat.pow_lt_pow_right (by decide) (by omega))
theorem ok_cat (T : Txt K mg) (O : LotT K mg) (R : LotP K O.C) (W : LotO K mg O.C) : FnOk P w K mg base CX0 6 T.a_count_at T.d_count_at ["lot", "degree"] (sp_cat K O.C) := by
  refine T.F_count_at.ok sc_count_at (fun vs H Q E h => ?_) (fun cdv A outer s H vs Q E hr h => ?_)
  · obtain ⟨a, d, t, L, b, rfl, _⟩ := h
    rfl
  · obtain ⟨a, d, t, L, b, rfl, hA, hS, ht, q⟩ := h
    refine ⟨_, (pss_cons (ps_expr (pe_call  (ok_chk T O W) (hr.mono (by decide)) (by rfl) T.m_check_lot T.F_check_lot.kp T.b_check_lot .nil pass0 (pa_cons (pv 0) pa_nil)))
      (pss_cons (ps_expr (pe_call  (ok_checkw T) (hr.mono (by decide)) (by rfl) T.m_check_within T.F_check_within.kp T.b_check_within .nil pass0 (pa_cons (pv 1) (pa_cons pe_int (pa_cons (pe_glob (v := .int 1000000) rfl T.c_MOST_FAR ⟨_, rfl⟩) pa_nil)))))
      (pss_one (ps_ret (pe_call  (ok_lnum T) (hr.mono (by decide)) (by rfl) T.m_left_number T.F_left_number.kp T.b_left_number .nil pass0 (pa_cons (pe_call  (ok_ser T) (hr.mono (by decide)) (by rfl) T.m_series_of T.F_series_of.kp T.b_series_of .nil pass0 (pa_cons (pe_prop (E := E0) (pv 0) O.cl R.PM (ok_mem O R) (hr.mono (by decide)) R.bM .nil pass0 rfl) pa_nil)) (pa_cons (pe_prop (E := E0) (pv 0) O.cl R.PL (ok_ltr O R) (hr.mono (by decide)) R.bL .nil pass0 rfl) (pa_cons (pv 1) pa_nil)))))))), ?_⟩
    refine ⟨_, rfl, a, d, L, rfl, hA, _, rfl, _, _, _, rfl, by omega, by omega, ?_⟩
    have ia := hA
    obtain ⟨dx, m, rs, h1, h2, h3⟩ := ia
    refine ⟨_, rfl, a, dx, _, rfl, h1, a, d, L, rfl, hA, fun m' rs' km kt => ⟨m', rs', L, d, b, rfl, km, kt, hS.way, hS.pos, by have := hS.few; omega, hS.far, hS.num, hS.sum, fun H1 z s1 hzn hz => ?_⟩⟩
    exact ⟨_, rfl, a, dx, _, rfl, s1 _ _ h1, a, d, L, rfl, hA.same s1, _, rfl, z, KN L, d, t, rfl, hz, K_small hS.num, hS.pos, hS.few, ht, fun H2 s2 => q H2 (s1.trans s2)⟩
def sp_lcs (K : PySem.W.Frag) (C : Addr) : Sp := fun vs H Q _ => ∃ (a : Addr) (d t : Nat) (L : List (List Nat)) (b : List Nat), vs = [.ref a, zV t] ∧ LotAt K C H a d L ∧ CntOk d b L ∧ t ≤ 40 ∧ ∀ H' z, Same H H' → SqT K H' z (((List.range (t + 1)).map fun i => cntL (KN L) d i).map V.int) → Q (.ref z) H'
theorem ok_lcs (T : Txt K mg) (O : LotT K mg) (R : LotP K O.C) (W : LotO K mg O.C) : FnOk P w K mg base CX0 6 T.a_left_counts T.d_left_counts ["lot", "last"] (sp_lcs K O.C) := by
  refine T.F_left_counts.ok sc_left_counts (fun vs H Q E h => ?_) (fun cdv A outer s H vs Q E hr h => ?_)
  · obtain ⟨a, d, t, L, b, rfl, _⟩ := h
    rfl
  · obtain ⟨a, d, t, L, b, rfl, hA, hS, ht, q⟩ := h
    refine ⟨_, (pss_cons (ps_expr (pe_call  (ok_chk T O W) (hr.mono (by decide)) (by rfl) T.m_check_lot T.F_check_lot.kp T.b_check_lot .nil pass0 (pa_cons (pv 0) pa_nil)))
      (pss_cons (ps_expr (pe_call  (ok_checkw T) (hr.mono (by decide)) (by rfl) T.m_check_within T.F_check_within.kp T.b_check_within .nil pass0 (pa_cons (pv 1) (pa_cons pe_int (pa_cons (pe_glob (v := .int 40) rfl T.c_MOST_COUNTED ⟨_, rfl⟩) pa_nil)))))
      (pss_cons (ps_set (i := 2) sc_left_counts.nd rfl (Or.inr rfl) (pe_call  (ok_ser T) (hr.mono (by decide)) (by rfl) T.m_series_of T.F_series_of.kp T.b_series_of .nil pass0 (pa_cons (pe_prop (E := E0) (pv 0) O.cl R.PM (ok_mem O R) (hr.mono (by decide)) R.bM .nil pass0 rfl) pa_nil)))
      (pss_one (ps_ret (pe_callTy call_tuple_of (by rfl) T.z_tuple boot_tuple (pa_cons (pe_lc (own := [("degree", 3)]) (g := gName 3) (tt := tYes) rfl sc_left_counts.nd (pi_range1 rfl T.z_range (pa_cons (pe_op op_add (pv 1) pe_int) pa_nil)) (blkOk_by (own := [("degree", 3)]) (N := N_left_counts) (sc := defScope s_left_counts) (by decide +kernel)) (fun _ _ _ _ _ => (pg_name (i := 3) sc_left_counts.nd rfl (Or.inl rfl))) (fun _ _ _ _ _ => pts_nil) (fun _ _ _ _ _ => (pe_call  (ok_lnum T) (hr.mono (by decide)) (by rfl) T.m_left_number T.F_left_number.kp T.b_left_number .nil pass0 (pa_cons (pv 2) (pa_cons (pe_prop (E := E0) (pv 0) O.cl R.PL (ok_ltr O R) (hr.mono (by decide)) R.bL .nil pass0 rfl) (pa_cons (pv 3) pa_nil)))))) pa_nil))))))), ?_⟩
    refine ⟨_, rfl, a, d, L, rfl, hA, _, rfl, _, _, _, rfl, by omega, by omega, ?_⟩
    have ia := hA
    obtain ⟨dx, m, rs, h1, h2, h3⟩ := ia
    refine ⟨_, rfl, a, dx, _, rfl, h1, a, d, L, rfl, hA, fun m' rs' km kt => ⟨m', rs', L, d, b, rfl, km, kt, hS.way, hS.pos, by have := hS.few; omega, hS.far, hS.num, hS.sum, fun H1 z s1 hzn hz => ?_⟩⟩
    refine ⟨_, rfl, _, _, rfl, rfl, ((t + 1 : Nat) : Int), rfl, by omega, by omega, fun D hD => ?_⟩
    have sD := same_new hD (.lst [])
    refine lc_range (lo := 0) (n := (((t + 1 : Nat) : Int)).toNat) (fun i H' => Same H1 H' ∧ H' D = some (.lst (((List.range i).map fun i => cntL (KN L) d i).map V.int))) ⟨sD, upd_same⟩ (fun i H2 hi hh => ?_) (fun H2 hh => ?_)
    · obtain ⟨s2, eD⟩ := hh
      have hi' : i < t + 1 := hi
      rw [show (0 : Int) + ((i : Nat) : Int) = ((i : Nat) : Int) from Int.zero_add _]
      refine ⟨rfl, _, rfl, _, rfl, a, dx, _, rfl, s2 _ _ (s1 _ _ h1), a, d, L, rfl, hA.same (s1.trans s2), _, rfl, z, KN L, d, i, rfl, s2 _ _ hz, K_small hS.num, hS.pos, hS.few, by omega, fun H3 s3 => ?_⟩
      refine ⟨_, s3 _ _ eD, by rw [List.length_map, List.length_map, List.length_range]; exact sizeK (by omega), same_updL (s2.trans s3) hD, ?_⟩
      rw [upd_same, List.range_succ, List.map_append, List.map_append]
      rfl
    · obtain ⟨s2, eD⟩ := hh
      have eD : H2 D = some (.lst (((List.range (t + 1)).map fun i => cntL (KN L) d i).map V.int)) := eD
      refine ⟨D, _, rfl, .inl ⟨SqL.of eD, fun z2 hz2 => ?_⟩⟩
      have s3 := same_new hz2 (.tup (((List.range (t + 1)).map fun i => cntL (KN L) d i).map V.int))
      exact q _ z2 (s1.trans (s2.trans s3)) (SqT.of upd_same)
end
end K13

namespace W14
open PySem PySem.Spec PyProof.Rows L2
/-! ### max(xs, default=d) of a list of ints -/
theorem fold_most : ∀ (ns : List Int) (n : Int), (ns.foldl max n ∈ n :: ns) ∧ n ≤ ns.foldl max n ∧ ∀ y ∈ ns, y ≤ ns.foldl max n
  | [], n => ⟨List.mem_cons_self, Int.le_refl n, fun _ h => nomatch h⟩
  | a :: r, n => by
    obtain ⟨h1, h2, h3⟩ := fold_most r (max n a)
    have e : (a :: r).foldl max n = r.foldl max (max n a) := rfl
    rw [e]
    refine ⟨?_, by omega, fun y hy => ?_⟩
    · rcases List.mem_cons.mp h1 with h | h
      · rw [h]
        rcases Int.le_total n a with z | z
        · rw [Int.max_eq_right z]
          simp
        · rw [Int.max_eq_left z]
          simp
      · exact List.mem_cons_of_mem _ (List.mem_cons_of_mem _ h)
    · rcases List.mem_cons.mp hy with rfl | hy
      · omega
      · exact h3 y hy
theorem reads_are {h : Heap} : ∀ {us : List Value} {ns : List Int}, IntsAre us ns → ∃ as, ReadsAll h us (ns.map PyData.int) as
  | _, _, .nil => ⟨_, .nil⟩
  | _, _, .cons n t r => by
    obtain ⟨as, q⟩ := reads_are (h := h) r
    exact ⟨_, .cons (.int n t) q⟩
theorem flat_ints : ∀ ns : List Int, PyData.depthAll (ns.map PyData.int) = 0
  | [] => by simp [PyData.depthAll]
  | n :: ns => by simp [PyData.depthAll, PyData.depth, flat_ints ns]
theorem alike_ints (ns : List Int) : PySem.W.AlikeAll (ns.map PyData.int) := by
  refine ⟨fun x hx y hy => ?_, fun x hx e => ?_⟩
  · obtain ⟨a, _, rfl⟩ := List.mem_map.mp hx
    obtain ⟨b, _, rfl⟩ := List.mem_map.mp hy
    first | rfl | simp [PySem.W.alike] | decide
  · obtain ⟨a, _, rfl⟩ := List.mem_map.mp hx
    cases e
def rMaxDef (K : PySem.W.Frag) : List V → List V → Hp → VK → Prop := fun vs zs H Q => ∃ (a : Addr) (ns : List Int) (d : Int), vs = [V.ref a] ∧ zs = [V.int d] ∧ SqL K H a (ns.map V.int) ∧ ∀ m, (ns = [] → m = d) → (ns ≠ [] → m ∈ ns ∧ ∀ y ∈ ns, y ≤ m) → Q (.int m) H
theorem cr_maxDef {X : Cx} (hc : X.calm = true) (hu : X.A.units + 64 < cLine) : CallRK X (.builtin "max") [Str.ofString "default"] (rMaxDef X.K) := by
  intro pins s σ H vs zs us ws Q I r rz h
  obtain ⟨a, ns, d, rfl, rfl, hs, q⟩ := h
  obtain rfl := Vals.ref1 r
  obtain ⟨w1, rfl, e1⟩ := vals1 rz
  obtain ⟨t, rfl⟩ := e1
  obtain ⟨its, rv, hl, _⟩ := I.list hs
  obtain ⟨as, hr⟩ := reads_are (h := s.heap) rv.ints
  refine PySem.W.max_list_default (I.ok.hd hc) hl.isList (by simpa using hr) (alike_ints ns) (by rw [flat_ints]; omega) (fun e h' tk k => ?_) (fun y ys i v h' tk bs e hv hm k => ?_)
  · have e0 : ns = [] := List.map_eq_nil_iff.mp e
    exact ⟨.int d, H, I.kept k, ⟨_, rfl⟩, q d (fun _ => rfl) (fun n => absurd e0 n)⟩
  · cases ns with
    | nil => cases e
    | cons n ns =>
      rw [List.map_cons] at e
      injection e with e1 e2
      subst e1
      subst e2
      rw [PySem.W.maxD_ints] at hm
      obtain ⟨f1, f2, f3⟩ := fold_most ns n
      generalize ns.foldl max n = M at hm f1 f2 f3
      cases hm with
      | int _ t2 =>
        refine ⟨.int M, H, I.kept k, ⟨_, rfl⟩, q M (fun z => nomatch z) fun _ => ⟨f1, fun y hy => ?_⟩⟩
        rcases List.mem_cons.mp hy with rfl | hy
        · exact f2
        · exact f3 y hy
end W14

/-! sorted of a list of tuples of ints, of unlike lengths, none of them empty -/
namespace TM
open PySem PyProof.Rows TS
/-- the place of a tuple of up to m ints in [0, B) in the order of tuples -/
def cod (B : Int) : Nat → List Int → Int
  | 0, _ => 0
  | _ + 1, [] => 0
  | m + 1, d :: r => (d + 1) * (B + 1) ^ m + cod B m r
theorem cod_bd {B : Int} (hB : 0 ≤ B) : ∀ (m : Nat) (ns : List Int), Bd B ns → 0 ≤ cod B m ns ∧ cod B m ns < (B + 1) ^ m
  | 0, ns, _ => by
    constructor
    · show (0 : Int) ≤ 0; exact Int.le_refl _
    · show (0 : Int) < (B + 1) ^ 0
      rw [Int.pow_zero]; decide
  | m + 1, [], _ => by
    constructor
    · show (0 : Int) ≤ 0; exact Int.le_refl _
    · show (0 : Int) < (B + 1) ^ (m + 1)
      exact Int.pow_pos (by omega)
  | m + 1, d :: r, h => by
    obtain ⟨c0, c1⟩ := cod_bd hB m r h.tail
    obtain ⟨d0, d1⟩ := h.head
    show 0 ≤ (d + 1) * (B + 1) ^ m + cod B m r ∧ (d + 1) * (B + 1) ^ m + cod B m r < (B + 1) ^ (m + 1)
    rw [Int.pow_succ]
    exact num1 c0 c1 (by omega) (by omega)
theorem cod_nil {B : Int} (hB : 0 ≤ B) (m : Nat) {d : Int} {r : List Int} (h : Bd B (d :: r)) : cod B (m + 1) [] < cod B (m + 1) (d :: r) := by
  obtain ⟨c0, _⟩ := cod_bd hB m r h.tail
  obtain ⟨d0, d1⟩ := h.head
  show (0 : Int) < (d + 1) * (B + 1) ^ m + cod B m r
  have p : 0 < (d + 1) * (B + 1) ^ m := Int.mul_pos (by omega) (Int.pow_pos (by omega))
  omega
theorem cod_lt {B : Int} (hB : 0 ≤ B) (m : Nat) {d e : Int} {r q : List Int} (hr : Bd B r) (hq : Bd B q) (h : d < e) : cod B (m + 1) (d :: r) < cod B (m + 1) (e :: q) := by
  obtain ⟨c0, c1⟩ := cod_bd hB m r hr
  obtain ⟨g0, g1⟩ := cod_bd hB m q hq
  show (d + 1) * (B + 1) ^ m + cod B m r < (e + 1) * (B + 1) ^ m + cod B m q
  exact num2 c0 c1 g0 (by omega)
theorem cod_same {B : Int} (m : Nat) {d : Int} {r q : List Int} : cod B (m + 1) (d :: r) < cod B (m + 1) (d :: q) ↔ cod B m r < cod B m q := by
  show (d + 1) * (B + 1) ^ m + cod B m r < (d + 1) * (B + 1) ^ m + cod B m q ↔ _
  generalize (d + 1) * (B + 1) ^ m = X
  constructor <;> intro z <;> omega
/-- unlike tuples have unlike places -/
theorem cod_inj {B : Int} (hB : 0 ≤ B) : ∀ (m : Nat) {ns ms : List Int}, Bd B ns → Bd B ms → ns.length ≤ m → ms.length ≤ m → cod B m ns = cod B m ms → ns = ms
  | 0, [], [], _, _, _, _, _ => rfl
  | 0, _ :: _, _, _, _, h, _, _ => by simp at h
  | 0, [], _ :: _, _, _, _, h, _ => by simp at h
  | m + 1, [], [], _, _, _, _, _ => rfl
  | m + 1, [], e :: q, _, h2, _, _, h => by
    have := cod_nil hB m h2
    omega
  | m + 1, d :: r, [], h1, _, _, _, h => by
    have := cod_nil hB m h1
    omega
  | m + 1, d :: r, e :: q, h1, h2, l1, l2, h => by
    rcases Int.lt_trichotomy d e with z | z | z
    · have := cod_lt hB m h1.tail h2.tail z
      omega
    · subst z
      have hc : cod B m r = cod B m q := by
        have h' : (d + 1) * (B + 1) ^ m + cod B m r = (d + 1) * (B + 1) ^ m + cod B m q := h
        omega
      rw [cod_inj hB m h1.tail h2.tail (by simpa using l1) (by simpa using l2) hc]
    · have := cod_lt hB m h2.tail h1.tail z
      omega
section
variable {prog : Program} {w : World} {A : Around} {E : Value → Shared → Prop} {s : Shared} {Q : Bool → Shared → Prop}
theorem lex_mixed {B : Int} (hB : 0 ≤ B) {b fin : Bool} {xs ys : List Value} {ns ms : List Int} (m i : Nat) (hx : IntsAre xs ns) (hy : IntsAre ys ms) (h1 : Bd B ns) (h2 : Bd B ms) (l1 : ns.length ≤ m) (l2 : ms.length ≤ m)
    (hf : fin = decide (ns.length < ms.length)) (h : Q (decide (cod B m ns < cod B m ms)) s) : PySem.W.KatLex prog w A b fin Q (xs.zip ys) i s := by
  induction hx generalizing ys ms i m with
  | nil =>
    cases hy with
    | nil =>
      have e : decide (cod B m [] < cod B m []) = fin := by rw [hf, decide_eq_false (Int.lt_irrefl _)]; rfl
      rw [e] at h
      exact PySem.W.kat_nil h
    | @cons q u ys ms hy =>
      obtain ⟨k, rfl⟩ : ∃ k, m = k + 1 := ⟨m - 1, by simp at l2; omega⟩
      have e : decide (cod B (k + 1) [] < cod B (k + 1) (q :: ms)) = fin := by
        rw [hf, decide_eq_true (cod_nil hB k h2)]
        exact (decide_eq_true (by simp)).symm
      rw [e] at h
      exact PySem.W.kat_nil h
  | @cons p t xs ns hx ih =>
    obtain ⟨k, rfl⟩ : ∃ k, m = k + 1 := ⟨m - 1, by simp at l1; omega⟩
    cases hy with
    | nil =>
      have e : decide (cod B (k + 1) (p :: ns) < cod B (k + 1) []) = fin := by
        have := cod_nil hB k h1
        rw [hf, decide_eq_false (by omega)]
        exact (decide_eq_false (by simp)).symm
      rw [e] at h
      exact PySem.W.kat_nil h
    | @cons q u ys ms hy =>
      show PySem.W.KatLex prog w A b fin Q ((Value.int p t, Value.int q u) :: xs.zip ys) i s
      refine PySem.W.kat_cons (wpAny_eqBool_int ?_)
      by_cases e : p = q
      · subst e
        rw [beq_self_eq_true]
        have d : decide (cod B (k + 1) (p :: ns) < cod B (k + 1) (p :: ms)) = decide (cod B k ns < cod B k ms) := decide_eq_decide.mpr (cod_same k)
        rw [d] at h
        refine PySem.W.kat_yes ?_
        exact ih k (i + 1) hy h1.tail h2.tail (by simpa using l1) (by simpa using l2) (by rw [hf]; exact decide_eq_decide.mpr (by simp)) h
      · rw [show (p == q) = false from beq_eq_false_iff_ne.mpr e]
        refine PySem.W.kat_no (oneLt_ints _ ?_)
        have d : decide (cod B (k + 1) (p :: ns) < cod B (k + 1) (q :: ms)) = decide (p < q) := by
          refine decide_eq_decide.mpr ⟨fun x => ?_, fun x => cod_lt hB k h1.tail h2.tail x⟩
          rcases Int.lt_trichotomy p q with y | y | y
          · exact y
          · exact absurd y e
          · have := cod_lt hB k h2.tail h1.tail y
            omega
        rw [d] at h
        exact h
end
/-- what is sorted: tuples of 1 to m ints each in [0, B) -/
def TupsM (h : Heap) (m : Nat) (B : Int) (vs : List Value) : Prop := ∀ v, v ∈ vs → ∃ ns, TupInts h v ns ∧ 1 ≤ ns.length ∧ ns.length ≤ m ∧ Bd B ns
theorem TupsM.keeps {h h' : Heap} {m : Nat} {B : Int} {vs : List Value} (x : TupsM h m B vs) (k : ∀ b o, h.get? b = some o → o.cls = .type "tuple" → h'.get? b = some o) : TupsM h' m B vs := fun v hv =>
  let ⟨ns, t, r⟩ := x v hv; ⟨ns, t.keeps k, r⟩
theorem firsts_mixed {h : Heap} {m : Nat} {B : Int} : ∀ vs : List Value, TupsM h m B vs → ∃ fs, PySem.W.KatTups h vs fs ∧ fs.length = vs.length ∧ ∀ f, f ∈ fs → ∃ n t, f = Value.int n t
  | [], _ => ⟨[], PySem.W.KatTups.nil, rfl, fun f hf => by simp at hf⟩
  | v :: vs, x => by
    obtain ⟨fs, k, hl, hi⟩ := firsts_mixed vs fun u hu => x u (List.mem_cons_of_mem _ hu)
    obtain ⟨ns, ⟨a, xs, rfl, ⟨o, ho, hc, n, hdt⟩, i⟩, hn, _⟩ := x v (List.mem_cons_self ..)
    obtain ⟨y, ys, e⟩ : ∃ y ys, xs.toList = y :: ys := by
      cases q : xs.toList with
      | nil =>
        rw [q] at i
        have l := i.length
        rw [List.length_nil] at l
        omega
      | cons y ys => exact ⟨y, ys, rfl⟩
    obtain ⟨m, t, hy⟩ := i.all y (by rw [e]; exact List.mem_cons_self ..)
    refine ⟨y :: fs, PySem.W.KatTups.cons ho hc hdt ?_ k, by simp [hl], ?_⟩
    · have z := congrArg (fun l : List Value => l[0]?) e
      simpa using z
    · intro f hf
      rcases List.mem_cons.mp hf with rfl | hf
      · exact ⟨m, t, hy⟩
      · exact hi f hf
section
variable {prog : Program} {w : World} {A : Around} {E : Value → Shared → Prop} {s : Shared}
theorem kind_mixed {m : Nat} {B : Int} {vs : List Value} (hB : 0 ≤ B) (h2 : 2 ≤ vs.length) (x : TupsM s.heap m B vs) (r : Value → Int) (hr : ∀ v, v ∈ vs → ∀ ns, TupInts s.heap v ns → r v = cod B m ns) (Q : SortKind → Shared → Prop)
    (h : ∀ κ, Cmp prog w A s κ (pairsOf vs) r → Q κ s) : wpAny (model prog w) A (keyKind' vs.toArray) Q E s := by
  obtain ⟨fs, k, hl, hi⟩ := firsts_mixed vs x
  refine PySem.W.kat_kind (T := Value.type "int") k (by omega) (fun f hf => ?_) rfl (h _ ?_)
  · obtain ⟨n, t, rfl⟩ := hi f hf
    exact PySem.W.Looks.of_pure rfl
  · intro p q hp hq Q' E' hQ
    rw [pairsOf_toList] at hp hq
    obtain ⟨ns, tp, _, lp, bp⟩ := x _ (mem_zip_self hp).2
    obtain ⟨ms, tq, _, lq, bq⟩ := x _ (mem_zip_self hq).2
    have ep := hr _ (mem_zip_self hp).2 _ tp
    have eq2 := hr _ (mem_zip_self hq).2 _ tq
    have hQ' : Q' (decide (cod B m ns < cod B m ms)) s := by
      have z : decide (r p.1 < r q.1) = decide (cod B m ns < cod B m ms) := by rw [ep, eq2]
      rw [← z]; exact hQ
    obtain ⟨a, xs, e1, ⟨o, ho, hc, n, hdt⟩, i⟩ := tp
    obtain ⟨a', ys, e2, ⟨o', ho', hc', n', hdt'⟩, i'⟩ := tq
    rw [e1, e2]
    refine PySem.W.kat_lt ho hdt ho' hdt' ?_
    have l1 := i.length
    have l2 := i'.length
    rw [Array.length_toList] at l1 l2
    exact lex_mixed hB m 0 i i' bp bq lp lq (by rw [l1, l2]) hQ'
theorem sort_mixed {a : Addr} {vs : List Value} {n m : Nat} {B : Int} {P : PySem.Fin → Shared → Prop} (ho : s.heap.get? a = some (seqObj "list" vs.toArray n)) (h64 : vs.length < 64) (hB : 0 ≤ B) (x : TupsM s.heap m B vs)
    (r : Value → Int) (hr : ∀ v, v ∈ vs → ∀ ns, TupInts s.heap v ns → r v = cod B m ns)
    (h : ∀ out : Array Value, out.toList.Perm vs → out.toList.Pairwise (fun u v => r u ≤ r v) → P (.done (.ret .none)) { s with heap := sortedHeap s.heap a vs out }) :
    wpAny (model prog w) A (Builtin.«list.sort» ⟨[.ref a], []⟩) P E s := by
  have keep : ∀ b o, s.heap.get? b = some o → o.cls = .type "tuple" → (midHeap s.heap a vs).get? b = some o := fun b o e hc => by
    refine midHeap_old ?_ e
    rintro rfl
    rw [ho] at e
    have e' : seqObj "list" vs.toArray n = o := Option.some.inj e
    rw [← e'] at hc
    have c' : Value.type "list" = Value.type "tuple" := hc
    injection c' with c''
    exact absurd c'' (by decide)
  refine SK.plain_sort (r := r) ho h64 (fun h2 Q hQ => ?_) fun ps out h1 h2 h3 => ?_
  · refine kind_mixed (s := { s with heap := midHeap s.heap a vs }) hB h2 (x.keeps keep) r (fun v hv ns t => ?_) Q hQ
    obtain ⟨ns0, t0, _⟩ := x v hv
    have e : ns = ns0 := t.ints.symm.trans (t0.keeps keep).ints
    rw [e]
    exact hr v hv ns0 t0
  · obtain ⟨p, o⟩ := out_rank h1 h2 h3
    exact h out p o
theorem sorted_mixed {l : Addr} {vs : List Value} {m : Nat} {B : Int} {Q : Value → Shared → Prop} (hl : s.heap.IsList l vs.toArray) (h64 : vs.length < 64) (hB : 0 ≤ B) (x : TupsM s.heap m B vs)
    (h : ∀ out : Array Value, out.toList.Perm vs → out.toList.Pairwise (fun u v => cod B m (intsOf s.heap u) ≤ cod B m (intsOf s.heap v)) → Q (.ref (s.heap.objs.size + 1)) { s with heap := sortedAll s.heap vs out }) :
    wpAny (model prog w) A (call (.builtin "sorted") [.ref l]) Q E s := by
  refine Calls.call_function_entry kind_sorted plain_sorted entry_sorted (args_sorted1 _) ?_
  unfold Builtin.«sorted»
  refine wpAny_bind (m := checkCount "sorted" 1 1 _) (wpAny_pure ?_)
  refine wpAny_bind (collect_list hl ?_ (by rw [sizeLine_eq]; omega))
  refine wpAny_bind (wpAny_newList ?_ (by rw [sizeLine_eq]; omega))
  have hsz : ((s.heap.push (seqObj "list" #[] 0)).update s.heap.objs.size (Obj.mapSeq (· ++ vs.toArray))).objs.size = s.heap.objs.size + 1 := by
    rw [Heap.size_update, size_push']
  have hoL : (((s.heap.push (seqObj "list" #[] 0)).update s.heap.objs.size (Obj.mapSeq (· ++ vs.toArray))).push (seqObj "list" vs.toArray 0)).get? (s.heap.objs.size + 1) = some (seqObj "list" vs.toArray 0) := by
    rw [← hsz]; exact Heap.get?_push_size _ rfl
  have keep : ∀ b o, s.heap.get? b = some o → o.cls = .type "tuple" → (((s.heap.push (seqObj "list" #[] 0)).update s.heap.objs.size (Obj.mapSeq (· ++ vs.toArray))).push (seqObj "list" vs.toArray 0)).get? b = some o := fun b o q _ => by
    have hlt : b < s.heap.objs.size := Heap.lt_size q
    rw [Heap.get?_push_ne _ _ _ (by rw [hsz]; exact Nat.ne_of_lt (Nat.lt_succ_of_lt hlt)), Heap.get?_update_ne _ _ _ _ (Nat.ne_of_lt hlt), Heap.get?_push_ne _ _ _ (Nat.ne_of_lt hlt)]
    exact q
  show wpAny _ _ _ _ _ { s with heap := ((s.heap.push (seqObj "list" #[] 0)).update s.heap.objs.size (Obj.mapSeq (· ++ vs.toArray))).push (seqObj "list" vs.toArray 0) }
  rw [hsz]
  refine wpAny_bind (wpAny_holding (wpAny_call_entry slot_list_sort ⟨_, hoL, rfl⟩ entry_list_sort (sort_mixed hoL h64 hB (x.keeps keep) (fun v => cod B m (intsOf s.heap v)) (fun v hv ns t => ?_) fun out a1 a2 => ⟨_, rfl, ?_⟩) (args_list_sort _)))
  · obtain ⟨ns0, t0, _⟩ := x v hv
    have e : ns = ns0 := t.ints.symm.trans (t0.keeps keep).ints
    rw [e]
    show cod B m (intsOf s.heap v) = cod B m ns0
    rw [t0.ints]
  · exact wpAny_pure ⟨_, rfl, h out a1 a2⟩
end
end TM
namespace L2
open PySem PySem.Spec PyProof.Rows
section
variable {X : Cx}
def rSortM (K : PySem.W.Frag) (m : Nat) (B : Int) : List V → Hp → VK → Prop := fun vs H Q => ∃ (a : Addr) (xs : List V), vs = [V.ref a] ∧ SqL K H a xs ∧ xs.length < 64 ∧ (∀ x ∈ xs, ∃ ns, TupI K H x ns ∧ 1 ≤ ns.length ∧ ns.length ≤ m ∧ TS.Bd B ns) ∧
  ∀ (ys : List V) (p : Addr), ys.Perm xs → ys.Pairwise (fun x y => ∀ n k, TupI K H x n → TupI K H y k → TM.cod B m n ≤ TM.cod B m k) → H p = none → Q (.ref p) (upd H p (.lst ys))
theorem cr_sortM {m : Nat} {B : Int} (hB : 0 ≤ B) : CallR X (.builtin "sorted") (rSortM X.K m B) := by
  intro pins s σ H vs us Q I r h
  obtain ⟨a, xs, rfl, hs, h64, hx, q⟩ := h
  obtain ⟨its, rv, hl, hz⟩ := I.list hs
  rw [Vals.ref1 r]
  obtain ⟨e1, e2⟩ := bkV_refs rv fun x m => by
    obtain ⟨ns, ⟨t, e, _⟩, _⟩ := hx x m
    exact ⟨t, e⟩
  refine TM.sorted_mixed (m := m) (B := B) hl.isList (by rw [← rv.length]; exact h64) hB (fun v hv => ?_) fun out h1 h2 => ?_
  · obtain ⟨t, rfl⟩ := e2 v hv
    have hm : V.ref t ∈ xs := by
      rw [e1]
      exact List.mem_map.mpr ⟨_, hv, rfl⟩
    obtain ⟨ns, ⟨t', e, ht⟩, hn, hb⟩ := hx _ hm
    cases e
    exact ⟨ns, tupI_raw I ht, hn, hb⟩
  · obtain ⟨ep, he'⟩ := PyProof.Rows.sortedAll_at s.heap its out
    have h3 : ∀ u ∈ out.toList, ∃ a, u = Value.ref a := fun u hu => e2 u (h1.mem_iff.mp hu)
    have hp : (out.toList.map bkV).Perm xs := by
      rw [e1]
      exact h1.map bkV
    have hlen : (out.toList.map bkV).length ≤ sizeLine := by
      rw [hp.length_eq]
      exact hz
    refine ⟨.ref _, upd H (s.heap.objs.size + 1) (.lst (out.toList.map bkV)), I.laid (t' := s.toks) (fun _ _ => PyProof.Rows.sortedAll_old) (Nat.le_succ _) ⟨hlen, out.toList, ep, bkV_vals h3, he'⟩, rfl, q _ _ hp ?_ (I.hok.fresh (Nat.le_succ _))⟩
    rw [List.pairwise_map]
    refine List.Pairwise.imp (fun {u v} huv n m hn hm => ?_) h2
    obtain ⟨t, et, ht⟩ := hn
    obtain ⟨t', et', ht'⟩ := hm
    have eu := bkV_ref et
    have ev := bkV_ref et'
    have i1 : TS.intsOf s.heap u = n := by
      rw [eu]
      exact (tupI_raw I ht).ints
    have i2 : TS.intsOf s.heap v = m := by
      rw [ev]
      exact (tupI_raw I ht').ints
    rw [← i1, ← i2]
    exact huv
end
end L2

/-! general words: values of any kind, zips, bars, comparisons -/
namespace Gv
open PySem PySem.Spec PyProof.Rows L2 RZ L5
section
variable {K : PySem.W.Frag} {H H' : Hp}
inductive El (K : PySem.W.Frag) (H : Hp) : V → Option Int → Prop
  | int (i : Int) : El K H (.int i) (some i)
  | bl (b : Bool) : El K H (.bl b) none
  | non : El K H .non none
  | str (x : Str) (h : PyData.strOk x = true) : El K H (.str x) none
  | tup {a : Addr} {t : List Int} (h : SqT K H a (t.map V.int)) : El K H (.ref a) none
theorem El.same (s : Same H H') {v : V} {o : Option Int} (h : El K H v o) : El K H' v o := by
  cases h with
  | int i => exact .int i
  | bl b => exact .bl b
  | non => exact .non
  | str x h => exact .str x h
  | tup h => exact .tup (same_sqt s h)
theorem El.isi {v : V} {o : Option Int} (h : El K H v o) : ∃ t bi bb, TyX K H v t ∧ PySem.W.kitOne K t (.type "int") = some bi ∧ PySem.W.kitOne K t (.type "bool") = some bb ∧ o.isSome = (bi && !bb) ∧ ∀ i, o = some i → v = .int i := by
  cases h with
  | int i => exact ⟨_, true, false, .base (.int i), kit_ty (by decide +kernel), kit_ty (by decide +kernel), rfl, fun j e => by cases e; rfl⟩
  | bl b => exact ⟨_, true, true, .base (.bl b), kit_ty (by decide +kernel), kit_ty (by decide +kernel), rfl, fun j e => by cases e⟩
  | non => exact ⟨_, false, false, .base .non, kit_ty (by decide +kernel), kit_ty (by decide +kernel), rfl, fun j e => by cases e⟩
  | str x _ => exact ⟨_, false, false, .base (.str x), kit_ty (by decide +kernel), kit_ty (by decide +kernel), rfl, fun j e => by cases e⟩
  | tup h => exact ⟨_, false, false, sqt_ty h, kit_ty (by decide +kernel), kit_ty (by decide +kernel), rfl, fun j e => by cases e⟩
abbrev Els (K : PySem.W.Frag) (H : Hp) : List V → List (Option Int) → Prop := Paired (El K H)
theorem Els.same (s : Same H H') : ∀ {vs : List V} {os : List (Option Int)}, Els K H vs os → Els K H' vs os
  | _, _, .nil => .nil
  | _, _, .cons h t => .cons (h.same s) (Els.same s t)
theorem Els.length : ∀ {vs : List V} {os : List (Option Int)}, Els K H vs os → vs.length = os.length
  | _, _, .nil => rfl
  | _, _, .cons _ t => congrArg (· + 1) (Els.length t)
theorem Els.get : ∀ {vs : List V} {os : List (Option Int)} {i : Nat} {v : V}, Els K H vs os → vs[i]? = some v → ∃ o, os[i]? = some o ∧ El K H v o
  | _, _, _, _, .nil, e => by simp at e
  | _, _, 0, _, .cons h _, e => by simp at e; subst e; exact ⟨_, rfl, h⟩
  | _, _, i + 1, v, .cons _ t, e => by
    obtain ⟨u, h1, h2⟩ := Els.get (i := i) (v := v) t (by simpa using e)
    exact ⟨u, by simpa using h1, h2⟩
theorem Els.app : ∀ {vs us : List V} {os ps : List (Option Int)}, Els K H vs os → Els K H us ps → Els K H (vs ++ us) (os ++ ps)
  | _, _, _, _, .nil, s => s
  | _, _, _, _, .cons r t, s => .cons r (Els.app t s)
theorem els_nv : ∀ t : List Nat, Els K H (nv t) (t.map fun n => some ((n : Nat) : Int))
  | [] => .nil
  | n :: t => .cons (.int _) (els_nv t)
inductive Va (K : PySem.W.Frag) (H : Hp) : V → Option (List (Option Int)) → Prop
  | tup {a : Addr} {vs : List V} {os : List (Option Int)} (h : SqT K H a vs) (e : Els K H vs os) (hl : vs.length ≤ 1000) : Va K H (.ref a) (some os)
  | lst {a : Addr} {xs : List V} (h : SqL K H a xs) : Va K H (.ref a) none
  | dic {a : Addr} (h : H a = some (.dK [])) : Va K H (.ref a) none
  | non : Va K H .non none
  | int (i : Int) : Va K H (.int i) none
  | str (x : Str) : Va K H (.str x) none
  | own {a C dx : Addr} {fs : List (Str × V)} (h : H a = some (.ins C dx fs)) (t : ∀ H' : Hp, H' a = some (.ins C dx fs) → TyX K H' (.ref a) (.ref C)) (k : PySem.W.kitOne K (.ref C) (.type "tuple") = some false) : Va K H (.ref a) none
theorem same_sql {a : Addr} {xs : List V} (e : Same H H') (h : SqL K H a xs) : SqL K H' a xs := by
  rcases h with (h | ⟨o, h⟩) | h
  · exact .inl (.inl (e _ _ h))
  · exact .inl (.inr ⟨o, e _ _ h⟩)
  · exact .inr h
theorem sql_ty {a : Addr} {xs : List V} (h : SqL K H a xs) : TyX K H (.ref a) (.type "list") := by
  rcases h with (h | ⟨o, h⟩) | ⟨o, its, n, e, c, _⟩
  · exact .base (.lst h)
  · exact .base (.frz h)
  · exact .kList e c
theorem Va.same (s : Same H H') {v : V} {d : Option (List (Option Int))} (h : Va K H v d) : Va K H' v d := by
  cases h with
  | tup h e hl => exact .tup (same_sqt s h) (e.same s) hl
  | lst h => exact .lst (same_sql s h)
  | dic h => exact .dic (s _ _ h)
  | non => exact .non
  | int i => exact .int i
  | str x => exact .str x
  | own h t k => exact .own (s _ _ h) t k
theorem Va.isi {v : V} {d : Option (List (Option Int))} (h : Va K H v d) : ∃ t, TyX K H v t ∧ PySem.W.kitOne K t (.type "tuple") = some d.isSome := by
  cases h with
  | tup h e hl => exact ⟨_, sqt_ty h, kit_ty (show kitB "tuple" "tuple" = some true by decide +kernel)⟩
  | lst h => exact ⟨_, sql_ty h, kit_ty (by decide +kernel)⟩
  | dic h => exact ⟨_, .base (.dK h), kit_ty (by decide +kernel)⟩
  | non => exact ⟨_, .base .non, kit_ty (by decide +kernel)⟩
  | int i => exact ⟨_, .base (.int i), kit_ty (by decide +kernel)⟩
  | str x => exact ⟨_, .base (.str x), kit_ty (by decide +kernel)⟩
  | own h t k => exact ⟨_, t _ h, k⟩
theorem Va.get {v : V} {os : List (Option Int)} (h : Va K H v (some os)) : ∃ a vs, v = .ref a ∧ SqT K H a vs ∧ Els K H vs os ∧ vs.length ≤ 1000 := by
  cases h with
  | tup h e hl => exact ⟨_, _, rfl, h, e, hl⟩
def inB (o : Option Int) (a b : Int) : Bool := match o with
  | some i => decide (a ≤ i) && decide (i ≤ b)
  | none => false
theorem va_prod {a : Addr} {t : List Nat} (h : SqT K H a (nv t)) (hl : t.length ≤ 1000) : Va K H (.ref a) (some (t.map fun n => some ((n : Nat) : Int))) := .tup h (els_nv t) (by rw [nv_len]; exact hl)
theorem take_more {α : Type} {l : List α} {i : Nat} {x : α} (h : l[i]? = some x) : l.take (i + 1) = l.take i ++ [x] := by
  rw [List.take_add_one, h]
  rfl
abbrev lcTurn (D : Addr) (g : TG) (tt : TT) (te : TE) (vs : List Nat) (σ : L2.St) (Nx : Hp → Prop) (v : V) (H : Hp) : Prop := g v (wipe σ vs) H fun σ2 H2 => wipe σ2 vs = wipe σ vs ∧ tt σ2 H2 fun b H3 =>
  if b = true then te σ2 H3 fun y H4 => ∃ acc, H4 D = some (.lst acc) ∧ acc.length < sizeLine ∧ Nx (upd H4 D (.lst (acc ++ [y]))) else Nx H3
theorem lc_zipT {a b : Addr} {xs ys : List V} {g : TG} {tt : TT} {te : TE} {vs : List Nat} {σ : L2.St} {H1 : Hp} {D : Addr} {Qd : Hp → Prop} (hl : xs.length = ys.length) (Pv : Nat → Hp → Prop) (h0 : Pv 0 (upd H1 D (.lst []))) (hq : ∀ i H, Pv i H → SqT K H a xs ∧ SqT K H b ys)
    (hs : ∀ (i : Nat) (x y : V) (T : Addr) (H : Hp), xs[i]? = some x → ys[i]? = some y → Pv i H → H T = none → lcTurn D g tt te vs σ (Pv (i + 1)) (.ref T) (upd H T (.tup [x, y]))) (hd : ∀ H, Pv xs.length H → Qd H) :
    ∃ W : Nat → Nat → Hp → Prop, (∃ m, W 0 m (upd H1 D (.lst []))) ∧ ∀ i m H0, W i m H0 →
      ((ItzT K a b).stop i H0 ∧ Qd H0) ∨ ((ItzT K a b).go i H0 ∧ ∃ Nx : Hp → Prop, (∀ H', Nx H' → ∃ m', m' < m ∧ W (i + 1) m' H') ∧ ∀ v H', (ItzT K a b).yld i H0 v H' → lcTurn D g tt te vs σ Nx v H') := by
  refine ⟨fun i m H => i + m = xs.length ∧ Pv i H, ⟨xs.length, Nat.zero_add _, h0⟩, fun i m H0 hw => ?_⟩
  obtain ⟨em, pi⟩ := hw
  obtain ⟨ta, tb⟩ := hq i H0 pi
  cases m with
  | zero =>
    have ei : i = xs.length := em
    subst ei
    exact .inl ⟨⟨xs, ys, ta, tb, Or.inl (Nat.le_refl _)⟩, hd H0 pi⟩
  | succ m =>
    have i1 : i < xs.length := by omega
    have i2 : i < ys.length := hl ▸ i1
    refine .inr ⟨⟨xs, ys, _, _, ta, tb, List.getElem?_eq_getElem i1, List.getElem?_eq_getElem i2⟩, Pv (i + 1), fun H' p => ⟨m, Nat.lt_succ_self m, by omega, p⟩, fun v H' out => ?_⟩
    obtain ⟨T, _, _, rfl, free, rfl, fx, fy⟩ := out
    exact hs i _ _ T H0 (fx xs ta) (fy ys tb) pi free
theorem getD_at {t : List Nat} {i : Nat} (h : i < t.length) : t[i]? = some (t.getD i 0) := by
  rw [List.getD_eq_getElem?_getD, List.getElem?_eq_getElem h]
  rfl
theorem nv_take (t : List Nat) (k : Nat) : nv (t.take k) = (nv t).take k := List.map_take
theorem cut_to (xs : List V) (k : Nat) (h : k ≤ xs.length) : cutV xs none (some (k : Int)) = xs.take k := by
  unfold cutV
  rw [show HT.sIx xs.length xs.length (some (k : Int)) = min k xs.length from HT.sIx_nat xs.length xs.length k, HT.sIx_none, Nat.min_eq_left h]
  rfl
def rCatB (K : PySem.W.Frag) : R2 := fun x y H Q => ∃ a b xs ys, x = .ref a ∧ y = .ref b ∧ SqT K H a xs ∧ SqT K H b ys ∧ xs.length + ys.length ≤ sizeLine ∧ ∀ H' z, Same H H' → SqT K H' z (xs ++ ys) → Q (.ref z) H'
theorem op_catB {X : Cx} : OpR X (binaryOp .Add) (rCatB X.K) := by
  intro pins s σ H x y v u Q I rx ry h
  obtain ⟨a, b, xs, ys, rfl, rfl, hx, hy, hz, q⟩ := h
  refine op_catA pins s σ H _ _ v u Q I rx ry ⟨a, b, xs, ys, rfl, rfl, hx, hy, hz, fun e => ?_, fun _ e => ?_, fun _ _ p hp => q _ p (same_new hp _) (SqT.of upd_same)⟩
  · subst e
    exact q H b (Same.refl H) hy
  · subst e
    rw [List.append_nil] at q
    exact q H a (Same.refl H) hx
def rSlB (K : PySem.W.Frag) : V → Option Int → Option Int → Hp → VK → Prop := fun x lo hi H Q => ∃ a xs, x = .ref a ∧ SqT K H a xs ∧ ∀ H' z, Same H H' → SqT K H' z (cutV xs lo hi) → Q (.ref z) H'
theorem sl_tupB {X : Cx} : SlR X (rSlB X.K) := by
  intro pins s σ H x v vl vu lo hi sl Q I rx hs pl pu h
  obtain ⟨a, xs, rfl, hx, q⟩ := h
  refine sl_tupA pins s σ H _ v vl vu lo hi sl Q I rx hs pl pu ⟨a, xs, rfl, hx, fun e => ?_, fun _ p hp => q _ p (same_new hp _) (SqT.of upd_same)⟩
  have e2 : cutV xs lo hi = xs := by
    unfold cutV
    rw [e.1, e.2]
    exact List.take_length
  rw [e2] at q
  exact q H a (Same.refl H) hx
def Bar (p : Addr) (H H' : Hp) : Prop := ∀ b o, b ≠ p → H b = some o → H' b = some o
theorem Bar.trans {p : Addr} {A B C : Hp} (a : Bar p A B) (b : Bar p B C) : Bar p A C := fun c o n h => b c o n (a c o n h)
theorem Bar.same {p : Addr} {A B : Hp} (a : Same A B) : Bar p A B := fun c o _ h => a c o h
theorem Bar.upd {p : Addr} {A : Hp} {o : HO} : Bar p A (upd A p o) := fun c u n h => by
  rw [upd_ne n]
  exact h
theorem passG {X : Cx} : Passes (CX X.prog X.w) X E0 := fun _ _ _ _ _ _ _ c => by
  obtain ⟨_, _, _, _, _, _, _, _, _, _, _, _, no⟩ := c
  exact no.elim
theorem nostop : NoStop K E0 := fun _ _ _ no => no.elim
theorem ref_get {rs : List Addr} {i : Nat} {x : V} (h : (rs.map V.ref)[i]? = some x) : ∃ a, rs[i]? = some a ∧ x = .ref a := by
  rw [List.getElem?_map] at h
  cases e : rs[i]? with
  | none =>
    rw [e] at h
    cases h
  | some n =>
    rw [e] at h
    exact ⟨n, rfl, (Option.some.inj h).symm⟩
theorem mpos {j : Int} (h : (0 : Int) < j) : (0 : Int) < j := h
theorem same_back {H H' : Hp} (s : Same H H') {r : Addr} (h : H' r = none) : H r = none := s.free h
theorem PE.weak {X : Cx} {e : Expr} {t t' : TE} (h : PE X e t) (i : ∀ σ H Q, t' σ H Q → t σ H Q) : PE X e t' := ⟨fun pins s σ H Q I h' => h.run pins s σ H Q I (i σ H Q h')⟩
theorem PT.weak' {X : Cx} {e : Expr} {t t' : TT} (h : PT X e t) (i : ∀ σ H Q, t' σ H Q → t σ H Q) : PT X e t' := ⟨fun pins s σ H Q I h' => h.run pins s σ H Q I (i σ H Q h')⟩
theorem PS.weak' {X : Cx} {st : Stmt} {t t' : TS} (h : PS X st t) (i : ∀ D σ H, t' D σ H → t D σ H) : PS X st t' := ⟨fun pins s σ H D I h' => h.run pins s σ H D I (i D σ H h')⟩
theorem PS.ex {X : Cx} {st : Stmt} {α : Type} {t : α → TS} (h : ∀ x, PS X st (t x)) : PS X st (fun D σ H => ∃ x, t x D σ H) := ⟨fun pins s σ H D I ⟨x, h'⟩ => (h x).run pins s σ H D I h'⟩
theorem shaped_bool (b : Bool) : SeqAt.shaped (.bool b) = true := by cases b <;> decide +kernel
theorem eqv_bool (b : Bool) : PyData.eqv (.bool b) (.bool b) = true := by cases b <;> decide +kernel
theorem dp_ints {K : PySem.W.Frag} {H : Hp} : ∀ l : List Int, DpAll K H (l.map V.int) (l.map PyData.int)
  | [] => .nil
  | i :: l => .cons (.int i) (dp_ints l)
theorem can_ints : ∀ l : List Int, PyData.canLayAll0 (l.map PyData.int) = true ∧ PyData.depthAll (l.map PyData.int) = 0
  | [] => by simp [PyData.canLayAll0, PyData.depthAll]
  | i :: l => by
    obtain ⟨h1, h2⟩ := can_ints l
    constructor
    · rw [List.map_cons, PyData.canLayAll0, h1]
      simp [PyData.canLay0]
    · rw [List.map_cons, PyData.depthAll, h2]
      simp [PyData.depth]
theorem shaped_intsT (l : List Int) : SeqAt.shaped (.tuple (l.map PyData.int)) = true := by
  obtain ⟨h1, h2⟩ := can_ints l
  simp [SeqAt.shaped, PyData.canLay0, PyData.depth, h1, h2]
theorem eqv_intsT (l : List Int) : PyData.eqv (.tuple (l.map PyData.int)) (.tuple (l.map PyData.int)) = true := SeqAt.eqv_refl _ (by
  simp only [PyData.canLay0]
  exact (can_ints l).1)
theorem eqvAll_nats : ∀ t u : List Nat, PyData.eqvAll (t.map fun n => PyData.int ((n : Nat) : Int)) (u.map fun n => PyData.int ((n : Nat) : Int)) = decide (t = u)
  | [], [] => by simp [PyData.eqvAll]
  | [], _ :: _ => by simp [PyData.eqvAll]
  | _ :: _, [] => by simp [PyData.eqvAll]
  | a :: t, b :: u => by
    simp only [List.map_cons, PyData.eqvAll, PyData.eqv, eqvAll_nats t u]
    rw [show (((a : Nat) : Int) == ((b : Nat) : Int)) = decide (a = b) by
      rw [Bool.eq_iff_iff, beq_iff_eq, decide_eq_true_iff]
      omega, ← Bool.decide_and]
    exact decide_eq_decide.mpr (by simp)
theorem eqv_tupE (t u : List Nat) : PyData.eqv (encT t) (encT u) = decide (t = u) := by
  simp only [encT, PyData.eqv]
  exact eqvAll_nats t u
theorem tups_get {H : Hp} {rs : List Addr} {L : List (List Nat)} {i : Nat} {x : V} (hT : Tups K H rs L) (h : (rs.map V.ref)[i]? = some x) : ∃ a t, x = .ref a ∧ rs[i]? = some a ∧ L[i]? = some t ∧ SqT K H a (nv t) := by
  obtain ⟨a, ha, rfl⟩ := ref_get h
  obtain ⟨t, ht, hs⟩ := hT.get ha
  exact ⟨a, t, rfl, ha, ht, hs⟩
theorem any_take_step {l : List Bool} {i : Nat} {b : Bool} (h : l[i]? = some b) : (l.take (i + 1)).any id = ((l.take i).any id || b) := by
  rw [take_more h, List.any_append]
  simp
theorem any_drop {l : List Bool} {i : Nat} (h : (l.take i).any id = true) : l.any id = true := by
  rw [← List.take_append_drop i l, List.any_append, h, Bool.true_or]
theorem eqvAll_tups : ∀ L M : List (List Nat), PyData.eqvAll (L.map encT) (M.map encT) = decide (L = M)
  | [], [] => by simp [PyData.eqvAll]
  | [], _ :: _ => by simp [PyData.eqvAll]
  | _ :: _, [] => by simp [PyData.eqvAll]
  | t :: L, u :: M => by
    rw [List.map_cons, List.map_cons, PyData.eqvAll, eqv_tupE, eqvAll_tups L M, ← Bool.decide_and]
    exact decide_eq_decide.mpr (by simp)
theorem shaped_tupsT (L : List (List Nat)) : SeqAt.shaped (.tuple (L.map encT)) = true := by
  have h := can_tups L
  unfold SeqAt.shaped
  simp only [PyData.canLay0, PyData.depth, h.1, Bool.true_and]
  exact decide_eq_true (by omega)
theorem eqv_tupsSame (L : List (List Nat)) : PyData.eqv (.tuple (L.map encT)) (.tuple (L.map encT)) = true := SeqAt.eqv_refl _ (by
  simp only [PyData.canLay0]
  exact (can_tups L).1)
theorem shaped_natsL (t : List Nat) : SeqAt.shaped (.list (t.map fun n => PyData.int ((n : Nat) : Int))) = true := by
  have g := can_nats t
  unfold SeqAt.shaped
  simp only [PyData.canLay0, PyData.depth, g.1, g.2, Bool.true_and]
  exact decide_eq_true (by omega)
theorem eqv_nilL (l : List PyData) : PyData.eqv (.list l) (.list []) = decide (l = []) := by
  cases l with
  | nil => decide +kernel
  | cons a b =>
    rw [decide_eq_false (List.cons_ne_nil a b)]
    rfl
theorem sorted_one : ∀ {a b : List Int}, a.Perm b → a.Pairwise (· ≤ ·) → b.Pairwise (· ≤ ·) → a = b
  | [], b, p, _, _ => (List.nil_perm.mp p).symm
  | x :: a, [], p, _, _ => absurd p.length_eq (by simp)
  | x :: a, y :: b, p, ha, hb => by
    obtain ⟨a1, a2⟩ := List.pairwise_cons.mp ha
    obtain ⟨b1, b2⟩ := List.pairwise_cons.mp hb
    have e : x = y := by
      have h1 : x ∈ y :: b := p.mem_iff.mp List.mem_cons_self
      have h2 : y ∈ x :: a := p.mem_iff.mpr List.mem_cons_self
      rcases List.mem_cons.mp h1 with h1 | h1
      · exact h1
      · rcases List.mem_cons.mp h2 with h2 | h2
        · exact h2.symm
        · have := b1 x h1
          have := a1 y h2
          omega
    subst e
    rw [sorted_one (List.perm_cons x |>.mp p) a2 b2]
theorem bar_updL {p D : Addr} {o : HO} {H H' : Hp} (b : Bar p H H') (hD : H D = none) : Bar p H (upd H' D o) := fun c u n h => by
  rw [upd_ne (ne_of_none h hD)]
  exact b c u n h
theorem nat_of {i : Int} (h0 : 0 ≤ i) : ∃ n : Nat, i = ((n : Nat) : Int) := ⟨i.toNat, by omega⟩
theorem sqt_but {H H' : Hp} {z a : Addr} {xs ys : List V} (hz : H z = some (.lst ys)) (st : ∀ b o, b ≠ z → H b = some o → H' b = some o) (h : SqT K H a xs) : SqT K H' a xs := by
  have ne : ∀ {o : HO}, H a = some o → o ≠ .lst ys → a ≠ z := fun {o} e n k => by
    rw [k, hz] at e
    exact n (Option.some.inj e).symm
  rcases h with (h | ⟨o, h⟩) | h
  · exact .inl (.inl (st _ _ (ne h fun k => nomatch k) h))
  · exact .inl (.inr ⟨o, st _ _ (ne h fun k => nomatch k) h⟩)
  · exact .inr h
theorem tups_but {H H' : Hp} {z : Addr} {ys : List V} (hz : H z = some (.lst ys)) (st : ∀ b o, b ≠ z → H b = some o → H' b = some o) : ∀ {rs : List Addr} {L : List (List Nat)}, Tups K H rs L → Tups K H' rs L
  | _, _, .nil => .nil
  | _, _, .cons h t => .cons (sqt_but hz st h) (tups_but hz st t)
theorem all_take_step {l : List Bool} {i : Nat} {b : Bool} (h : l[i]? = some b) : (l.take (i + 1)).all id = ((l.take i).all id && b) := by
  rw [take_more h, List.all_append]
  show _ = _
  simp
end
end Gv

/-! tuples of ints, zips of unlike lengths -/
namespace Gv
open PySem PySem.Spec PyProof.Rows L2 RZ L5
section
variable {K : PySem.W.Frag} {H H' : Hp}
abbrev iv (t : List Int) : List V := t.map V.int
theorem iv_len (t : List Int) : (iv t).length = t.length := List.length_map _
theorem iv_app (t u : List Int) : iv (t ++ u) = iv t ++ iv u := List.map_append
theorem iv_get {t : List Int} {i : Nat} {x : V} (h : (iv t)[i]? = some x) : ∃ n, t[i]? = some n ∧ x = .int n := by
  rw [List.getElem?_map] at h
  cases e : t[i]? with
  | none => rw [e] at h; cases h
  | some n => rw [e] at h; exact ⟨n, rfl, (Option.some.inj h).symm⟩
theorem iv_at {t : List Int} {i : Nat} {n : Int} (h : t[i]? = some n) : atI (iv t) (i : Int) = some (.int n) := atI_nat (by rw [List.getElem?_map, h] <;> rfl)
theorem els_iv : ∀ t : List Int, Els K H (iv t) (t.map some)
  | [] => .nil
  | n :: t => .cons (.int n) (els_iv t)
theorem va_iv {a : Addr} {t : List Int} (h : SqT K H a (iv t)) (hl : t.length ≤ 1000) : Va K H (.ref a) (some (t.map some)) := .tup h (els_iv t) (by rw [iv_len]; exact hl)
def intsO (os : List (Option Int)) : List Int := os.map fun o => o.getD 0
theorem ints_back (t : List Int) : intsO (t.map some) = t := by
  unfold intsO
  rw [List.map_map]
  exact (List.map_congr_left fun n _ => rfl).trans (List.map_id _)
theorem els_all {f : Option Int → Bool} (hf : f none = false) : ∀ {vs : List V} {os : List (Option Int)}, Els K H vs os → os.all f = true → vs = iv (intsO os) ∧ os = (intsO os).map some
  | _, _, .nil, _ => ⟨rfl, rfl⟩
  | _, _, .cons (b := o) h t, ha => by
    rw [List.all_cons, Bool.and_eq_true] at ha
    obtain ⟨e1, e2⟩ := els_all hf t ha.2
    cases o with
    | none => rw [hf] at ha; exact absurd ha.1 Bool.false_ne_true
    | some i =>
      obtain ⟨_, _, _, _, _, _, _, e⟩ := h.isi
      obtain rfl := e i rfl
      refine ⟨?_, ?_⟩
      · show _ = V.int i :: iv (intsO _)
        rw [← e1]
      · show _ = some i :: (intsO _).map some
        rw [← e2]
/-! ### many tuples -/
def TupsI (K : PySem.W.Frag) (H : Hp) : List Addr → List (List Int) → Prop := Paired fun a t => SqT K H a (iv t)
theorem TupsI.same (e : Same H H') : ∀ {rs : List Addr} {L : List (List Int)}, TupsI K H rs L → TupsI K H' rs L
  | _, _, .nil => .nil
  | _, _, .cons h t => .cons (same_sqt e h) (TupsI.same e t)
theorem TupsI.updL {p : Addr} {ys : List V} {o : HO} (hp : H p = some (.lst ys)) : ∀ {rs : List Addr} {L : List (List Int)}, TupsI K H rs L → TupsI K (upd H p o) rs L
  | _, _, .nil => .nil
  | _, _, .cons h t => .cons (sqt_updL hp h) (TupsI.updL hp t)
theorem TupsI.length : ∀ {rs : List Addr} {L : List (List Int)}, TupsI K H rs L → rs.length = L.length
  | _, _, .nil => rfl
  | _, _, .cons _ t => congrArg (· + 1) (TupsI.length t)
theorem TupsI.app : ∀ {rs qs : List Addr} {L M : List (List Int)}, TupsI K H rs L → TupsI K H qs M → TupsI K H (rs ++ qs) (L ++ M)
  | _, _, _, _, .nil, s => s
  | _, _, _, _, .cons r t, s => .cons r (TupsI.app t s)
theorem tupsI_get {rs : List Addr} {L : List (List Int)} {i : Nat} {x : V} (hT : TupsI K H rs L) (h : (rs.map V.ref)[i]? = some x) : ∃ a t, x = .ref a ∧ rs[i]? = some a ∧ L[i]? = some t ∧ SqT K H a (iv t) := by
  obtain ⟨a, ha, rfl⟩ := ref_get h
  refine ⟨a, ?_⟩
  have key : ∀ {rs : List Addr} {L : List (List Int)} {i : Nat}, TupsI K H rs L → rs[i]? = some a → ∃ t, L[i]? = some t ∧ SqT K H a (iv t) := fun {rs L} => by
    induction rs generalizing L with
    | nil => intro i _ e; simp at e
    | cons r rs ih =>
      intro i hT e
      cases hT with
      | cons hh tt =>
        cases i with
        | zero =>
          have e2 : r = a := by simpa using e
          subst e2
          exact ⟨_, rfl, hh⟩
        | succ i =>
          obtain ⟨u, h1, h2⟩ := ih (i := i) tt (by simpa using e)
          exact ⟨u, by simpa using h1, h2⟩
  obtain ⟨t, h1, h2⟩ := key hT ha
  exact ⟨t, rfl, ha, h1, h2⟩
abbrev encI (t : List Int) : PyData := .tuple (t.map PyData.int)
theorem dp_tupI {a : Addr} {t : List Int} (h : SqT K H a (iv t)) : Dp K H (.ref a) (encI t) := .tup h (dp_ints t)
theorem dp_tupsI : ∀ {rs : List Addr} {L : List (List Int)}, TupsI K H rs L → DpAll K H (rs.map V.ref) (L.map encI)
  | _, _, .nil => .nil
  | _, _, .cons h t => .cons (dp_tupI h) (dp_tupsI t)
end
theorem can_tupsI : ∀ L : List (List Int), PyData.canLayAll0 (L.map encI) = true ∧ PyData.depthAll (L.map encI) ≤ 1
  | [] => by simp [PyData.canLayAll0, PyData.depthAll]
  | t :: L => by
    obtain ⟨h1, h2⟩ := can_tupsI L
    obtain ⟨h3, h4⟩ := can_ints t
    constructor
    · rw [List.map_cons, PyData.canLayAll0, h1, PyData.canLay0, h3]
      rfl
    · rw [List.map_cons, PyData.depthAll, PyData.depth, h4]
      omega
theorem shaped_tupsIT (L : List (List Int)) : SeqAt.shaped (.tuple (L.map encI)) = true := by
  obtain ⟨h1, h2⟩ := can_tupsI L
  simp [SeqAt.shaped, PyData.canLay0, PyData.depth, h1]
  omega
theorem shaped_tupsIL (L : List (List Int)) : SeqAt.shaped (.list (L.map encI)) = true := by
  obtain ⟨h1, h2⟩ := can_tupsI L
  simp [SeqAt.shaped, PyData.canLay0, PyData.depth, h1]
  omega
theorem eqvAll_ints : ∀ t u : List Int, PyData.eqvAll (t.map PyData.int) (u.map PyData.int) = decide (t = u)
  | [], [] => by simp [PyData.eqvAll]
  | [], _ :: _ => by simp [PyData.eqvAll]
  | _ :: _, [] => by simp [PyData.eqvAll]
  | a :: t, b :: u => by
    rw [List.map_cons, List.map_cons, PyData.eqvAll, eqvAll_ints t u]
    have e : PyData.eqv (.int a) (.int b) = decide (a = b) := by
      simp only [PyData.eqv]
      rfl
    rw [e, ← Bool.decide_and]
    exact decide_eq_decide.mpr ⟨fun h => by rw [h.1, h.2], fun h => by cases h; exact ⟨rfl, rfl⟩⟩
theorem eqv_tupIE (t u : List Int) : PyData.eqv (encI t) (encI u) = decide (t = u) := by
  simp only [PyData.eqv]
  exact eqvAll_ints t u
theorem eqv_tupsIT (L : List (List Int)) : PyData.eqv (.tuple (L.map encI)) (.tuple (L.map encI)) = true := SeqAt.eqv_refl _ (by
  simp only [PyData.canLay0]
  exact (can_tupsI L).1)
section
variable {K : PySem.W.Frag} {H H' : Hp}
/-! ### a comprehension over zip of two tuples -/
theorem lc_zipM {a b : Addr} {xs ys : List V} {g : TG} {tt : TT} {te : TE} {vs : List Nat} {σ : L2.St} {H1 : Hp} {D : Addr} {Qd : Hp → Prop} (n : Nat) (hn : n = min xs.length ys.length) (Pv : Nat → Hp → Prop) (h0 : Pv 0 (upd H1 D (.lst []))) (hq : ∀ i H, Pv i H → SqT K H a xs ∧ SqT K H b ys)
    (hs : ∀ (i : Nat) (x y : V) (T : Addr) (H : Hp), xs[i]? = some x → ys[i]? = some y → Pv i H → H T = none → lcTurn D g tt te vs σ (Pv (i + 1)) (.ref T) (upd H T (.tup [x, y]))) (hd : ∀ H, Pv n H → Qd H) :
    ∃ W : Nat → Nat → Hp → Prop, (∃ m, W 0 m (upd H1 D (.lst []))) ∧ ∀ i m H0, W i m H0 →
      ((ItzT K a b).stop i H0 ∧ Qd H0) ∨ ((ItzT K a b).go i H0 ∧ ∃ Nx : Hp → Prop, (∀ H', Nx H' → ∃ m', m' < m ∧ W (i + 1) m' H') ∧ ∀ v H', (ItzT K a b).yld i H0 v H' → lcTurn D g tt te vs σ Nx v H') := by
  refine ⟨fun i m H => i + m = n ∧ Pv i H, ⟨n, Nat.zero_add _, h0⟩, fun i m H0 hw => ?_⟩
  obtain ⟨em, pi⟩ := hw
  obtain ⟨ta, tb⟩ := hq i H0 pi
  cases m with
  | zero =>
    have ei : i = n := em
    subst ei
    exact .inl ⟨⟨xs, ys, ta, tb, by omega⟩, hd H0 pi⟩
  | succ m =>
    have i1 : i < xs.length := by omega
    have i2 : i < ys.length := by omega
    refine .inr ⟨⟨xs, ys, _, _, ta, tb, List.getElem?_eq_getElem i1, List.getElem?_eq_getElem i2⟩, Pv (i + 1), fun H' p => ⟨m, Nat.lt_succ_self m, by omega, p⟩, fun v H' out => ?_⟩
    obtain ⟨T, _, _, rfl, free, rfl, fx, fy⟩ := out
    exact hs i _ _ T H0 (fx xs ta) (fy ys tb) pi free
/-! ### pairs of ints -/
abbrev zbI (f : Int → Int → Bool) (t u : List Int) : List Bool := List.zipWith f t u
theorem zbI_get {f : Int → Int → Bool} {t u : List Int} {i : Nat} {n m : Int} (h1 : t[i]? = some n) (h2 : u[i]? = some m) : (zbI f t u)[i]? = some (f n m) := by
  rw [List.getElem?_zipWith, h1, h2]
theorem zbI_len {f : Int → Int → Bool} {t u : List Int} : (zbI f t u).length = min t.length u.length := List.length_zipWith
theorem cut_tailI (u : List Int) : cutV (iv u) (some 1) none = iv (u.drop 1) := by
  unfold cutV
  rw [show HT.sIx (iv u).length 0 (some 1) = min 1 (iv u).length from HT.sIx_nat _ _ 1, HT.sIx_none]
  cases u with
  | nil => rfl
  | cons a r =>
    show List.take _ (List.drop (min 1 (r.length.succ)) _) = _
    rw [iv_len]
    show List.take (r.length + 1 - min 1 (r.length + 1)) (List.drop (min 1 (r.length + 1)) (V.int _ :: iv r)) = iv r
    rw [show min 1 (r.length + 1) = 1 by omega]
    show List.take r.length (iv r) = iv r
    exact List.take_of_length_le (by rw [iv_len]; exact Nat.le_refl _)
theorem cut_toI (u : List Int) (k : Nat) (h : k ≤ u.length) : cutV (iv u) none (some (k : Int)) = iv (u.take k) := by
  rw [cut_to _ _ (by rw [iv_len]; exact h)]
  exact List.map_take.symm
theorem cut_fromI (u : List Int) (k : Nat) : cutV (iv u) (some (k : Int)) none = iv (u.drop k) := by
  unfold cutV
  rw [show HT.sIx (iv u).length 0 (some (k : Int)) = min k (iv u).length from HT.sIx_nat _ _ k, HT.sIx_none]
  by_cases h : k ≤ u.length
  · rw [iv_len, Nat.min_eq_left h, List.take_of_length_le (by rw [List.length_drop, iv_len]; exact Nat.le_refl _)]
    exact List.map_drop.symm
  · rw [iv_len, Nat.min_eq_right (by omega), Nat.sub_self, List.take_zero, List.drop_of_length_le (show u.length ≤ k by omega)]
    rfl
theorem cut_initI (u : List Int) : cutV (iv u) none (some (-1)) = iv (u.take (u.length - 1)) := by
  unfold cutV
  rw [HT.sIx_none, List.drop_zero, iv_len]
  show List.take _ _ = List.map _ _
  rw [List.map_take]
  congr 1
  show (if (-1 : Int) < 0 then ((-1 : Int) + ((u.length : Nat) : Int)).toNat else min (-1 : Int).toNat u.length) - 0 = _
  rw [if_pos (by decide)]
  omega
end
end Gv

namespace K13
open PySem PySem.Spec PyProof.Rows L2 RZ L5 R7 XX
section
variable {K : PySem.W.Frag} {H : Hp}
end
def lensL (S : List (List Nat)) : List Int := S.map fun c => ((c.length : Nat) : Int)
theorem lens_big {S : List (List Nat)} {m : Int} (h0 : lensL S = [] → m = -1) (h : lensL S ≠ [] → m ∈ lensL S ∧ ∀ y ∈ lensL S, y ≤ m) : m = bigL S := by
  refine big_is (fun e => h0 (by rw [e]; rfl)) fun n => ?_
  obtain ⟨h1, h2⟩ := h (fun e => n (List.map_eq_nil_iff.mp e))
  obtain ⟨c, hc, e⟩ := List.mem_map.mp h1
  exact ⟨⟨c, hc, e.symm⟩, fun c hc => h2 _ (List.mem_map_of_mem hc)⟩
section
variable {P : Program} {w : World} {K : PySem.W.Frag} {mg : Str → Option Value} {base : Heap}
def sp_size (K : PySem.W.Frag) : Sp := fun vs H Q _ => ∃ (l : Addr) (rs : List Addr) (S : List (List Nat)), vs = [.ref l] ∧ SqL K H l (rs.map V.ref) ∧ Tups K H rs S ∧ S.length ≤ 256 ∧ ∀ H', Same H H' → Q (.int (bigL S)) H'
theorem ok_size (T : Txt K mg) : FnOk P w K mg base CX0 1 T.a_greatest_size T.d_greatest_size ["sets"] (sp_size K) := by
  refine T.F_greatest_size.ok sc_greatest_size (fun vs H Q E h => ?_) (fun cdv A outer s H vs Q E hr h => ?_)
  · obtain ⟨l, rs, S, rfl, _⟩ := h
    rfl
  · obtain ⟨l, rs, S, rfl, hA, hS, hn, q⟩ := h
    refine ⟨_, pss_one (ps_ret (pe_callBK (W14.cr_maxDef rfl hr.units) (by rfl) T.z_max boot_max (pa_cons
      (pe_lc (own := [("chosen", 1)]) (g := gName 1) (tt := tYes) rfl sc_greatest_size.nd (pi_list (pv 0)) (blkOk_by (own := [("chosen", 1)]) (N := N_greatest_size) (sc := defScope s_greatest_size) (by decide +kernel))
        (fun _ _ _ _ _ => pg_name (i := 1) sc_greatest_size.nd rfl (Or.inl rfl)) (fun _ _ _ _ _ => pts_nil)
        (fun _ _ _ _ _ => pe_callB (show CallR _ _ (fun xs H Q => ∃ p ys, xs = [V.ref p] ∧ (SqL K H p ys ∨ SqT K H p ys) ∧ Q (V.int ((ys.length : Nat) : Int)) H) from call_len_seq) (by rfl) T.z_len boot_len (pa_cons (pv 1) pa_nil))) pa_nil)
      (pk_cons (pe_un un_neg pe_int) pk_nil))), ?_⟩
    have hrl : rs.length = _ := hS.length
    refine ⟨_, rfl, l, rfl, ⟨_, hA⟩, fun D hD => ?_⟩
    have sD := same_new hD (.lst [])
    refine lc_list (K := K) (a := l) (xs := rs.map V.ref) (fun i H' => Same H H' ∧ H' D = some (.lst (((lensL S).take i).map V.int))) ⟨sD, upd_same⟩ (fun i H' _ hh => same_sql hh.1 hA) (fun i x H2 hx hh => ?_) (fun H2 hh => ?_)
    · obtain ⟨s4, eD⟩ := hh
      obtain ⟨c, t, rfl, _, ht, hs⟩ := tups_get (hS.same s4) hx
      have hlt : i < S.length := (List.getElem?_eq_some_iff.mp ht).1
      refine ⟨rfl, _, rfl, c, _, rfl, .inr hs, ?_⟩
      refine ⟨_, eD, by rw [List.length_map, List.length_take]; unfold lensL; rw [List.length_map]; exact sizeK (by omega), same_updL s4 hD, ?_⟩
      have hl : (lensL S)[i]? = some ((t.length : Nat) : Int) := by
        unfold lensL
        rw [List.getElem?_map, ht]
        rfl
      rw [upd_same, take_more hl, List.map_append, nv_len]
      rfl
    · obtain ⟨s4, eD⟩ := hh
      have el : (rs.map V.ref).length = (lensL S).length := by
        unfold lensL
        rw [List.length_map, List.length_map, hrl]
      rw [el, List.take_length] at eD
      refine ⟨_, rfl, D, lensL S, -1, rfl, rfl, SqL.of eD, fun m h0 h1 => ?_⟩
      rw [lens_big h0 h1]
      exact q H2 s4
def sp_fs (K : PySem.W.Frag) : Sp := fun vs H Q _ => ∃ (d : Nat) (l : Addr) (rs : List Addr) (L : List (List Nat)), vs = [.int ((d : Nat) : Int), .ref l] ∧ d ≤ 8 ∧ SqA K H l (rs.map V.ref) ∧ Tups K H rs L ∧ (∀ t ∈ L, t.length ≤ 8) ∧
  ∀ H' z qs, Same H H' → SqL K H' z (qs.map V.ref) → Tups K H' qs (freeS d L) → Q (.ref z) H'
theorem free_few {d : Nat} (L : List (List Nat)) (h : d ≤ 8) : (freeS d L).length ≤ 256 := Nat.le_trans (List.length_filter_le _ _) (sets_few h)
theorem ok_fs (T : Txt K mg) : FnOk P w K mg base CX0 2 T.a_free_sets T.d_free_sets ["letters", "members"] (sp_fs K) := by
  refine T.F_free_sets.ok sc_free_sets (fun vs H Q E h => ?_) (fun cdv A outer s H vs Q E hr h => ?_)
  · obtain ⟨d, l, rs, L, rfl, _⟩ := h
    rfl
  · obtain ⟨d, l, rs, L, rfl, hd, hA, hL, h8, q⟩ := h
    refine ⟨_, pss_one (ps_ret (pe_lc (own := [("chosen", 2)]) (g := gName 2) rfl sc_free_sets.nd (pi_list (pe_call (ok_sets T) hr (by rfl) T.m_letter_sets T.F_letter_sets.kp T.b_letter_sets .nil pass0 (pa_cons (pv 0) pa_nil))) (blkOk_by (own := [("chosen", 2)]) (N := N_free_sets) (sc := defScope s_free_sets) (by decide +kernel))
        (fun _ _ _ _ _ => pg_name (i := 2) sc_free_sets.nd rfl (Or.inl rfl))
        (fun _ _ _ _ _ => pts_one (pt_val (pe_call (ok_free T) hr (by rfl) T.m_is_free T.F_is_free.kp T.b_is_free .nil pass0 (pa_cons (pv 2) (pa_cons (pv 1) pa_nil)))))
        (fun _ _ _ _ _ => pv 2))), ?_⟩
    refine ⟨_, rfl, d, rfl, hd, fun H1 z es s1 hz hT => ?_⟩
    refine ⟨z, rfl, ⟨_, hz⟩, fun D hD => ?_⟩
    have sD := same_new hD (.lst [])
    have hel : es.length = _ := hT.length
    have hfew := sets_few hd
    refine lc_list (K := K) (a := z) (xs := es.map V.ref) (fun i H' => Same H1 H' ∧ ∃ qs : List Addr, H' D = some (.lst (qs.map V.ref)) ∧ Tups K H' qs (((setsL d).take i).filter fun c => freeB c L)) ⟨sD, [], upd_same, .nil⟩ (fun i H' _ hh => same_sql hh.1 hz) (fun i x H2 hx hh => ?_) (fun H2 hh => ?_)
    · obtain ⟨s4, qs, eD, hQ⟩ := hh
      obtain ⟨c, t, rfl, _, ht, hs⟩ := tups_get hT hx
      have hql : qs.length ≤ 256 := by
        have e1 : qs.length = _ := hQ.length
        have e2 := List.length_filter_le (fun c => freeB c L) ((setsL d).take i)
        rw [List.length_take] at e2
        omega
      have S4 := s1.trans s4
      refine ⟨rfl, _, rfl, _, rfl, c, l, t, rs, L, rfl, same_sqt s4 hs, hA.same S4, hL.same S4, h8, fun H3 s3 => ⟨_, rfl, ?_⟩⟩
      have hs3 := same_sqt (s4.trans s3) hs
      refine ite2 (fun cb => ?_) (fun cb => ?_)
      · refine ⟨_, rfl, _, s3 _ _ eD, by rw [List.length_map]; exact sizeK (by omega), same_updL (s4.trans s3) hD, qs ++ [c], by rw [upd_same, List.map_append]; rfl, ?_⟩
        rw [filtN_yes (f := fun c => freeB c L) ht cb]
        exact ((hQ.same s3).updL (s3 _ _ eD)).app (.cons (sqt_updL (s3 _ _ eD) hs3) .nil)
      · refine ⟨s4.trans s3, qs, s3 _ _ eD, ?_⟩
        rw [filtN_no (f := fun c => freeB c L) ht (Bool.eq_false_iff.mpr cb)]
        exact hQ.same s3
    · obtain ⟨s4, qs, eD, hQ⟩ := hh
      rw [List.length_map, hel, List.take_length] at hQ
      exact q H2 D qs (s1.trans s4) (SqL.of eD) hQ
end
end K13

/-! steady rows: numbers by a numerator, for all integers -/
namespace M13
open M7 M8 M12 L6
def sgn (k : Nat) : Int := if k % 2 = 1 then -1 else 1
theorem sgn_succ (k : Nat) : sgn (k + 1) = - sgn k := by
  unfold sgn
  by_cases h : k % 2 = 1
  · rw [if_pos h, if_neg (by omega)]; rfl
  · rw [if_neg h, if_pos (by omega)]
/-- the polynomial x over k -/
def bq (k : Nat) (x : Int) : Int := if 0 ≤ x then ((C x.toNat k : Nat) : Int) else sgn k * ((C ((k : Int) - x - 1).toNat k : Nat) : Int)
theorem bq_nat (k n : Nat) : bq k ((n : Nat) : Int) = ((C n k : Nat) : Int) := by
  unfold bq
  rw [if_pos (by omega)]
  rfl
theorem bq_neg (k y : Nat) : bq k (-(((y : Nat) : Int) + 1)) = sgn k * ((C (k + y) k : Nat) : Int) := by
  unfold bq
  rw [if_neg (by omega), show (((k : Nat) : Int) - -(((y : Nat) : Int) + 1) - 1).toNat = k + y by omega]
theorem bq_zero (x : Int) : bq 0 x = 1 := by
  unfold bq
  by_cases h : 0 ≤ x
  · rw [if_pos h, C_zero]; rfl
  · rw [if_neg h, C_zero]; rfl
theorem bq_pascal (k : Nat) (x : Int) : bq (k + 1) (x + 1) = bq k x + bq (k + 1) x := by
  by_cases h : 0 ≤ x
  · obtain ⟨n, rfl⟩ : ∃ n : Nat, x = ((n : Nat) : Int) := ⟨x.toNat, by omega⟩
    rw [show ((n : Nat) : Int) + 1 = ((n + 1 : Nat) : Int) by omega, bq_nat, bq_nat, bq_nat, C_succ]
    omega
  · obtain ⟨y, rfl⟩ : ∃ y : Nat, x = -(((y : Nat) : Int) + 1) := ⟨(-x - 1).toNat, by omega⟩
    rw [bq_neg, bq_neg]
    cases y with
    | zero =>
      rw [show -(((0 : Nat) : Int) + 1) + 1 = ((0 : Nat) : Int) by omega, bq_nat, sgn_succ]
      simp only [Nat.add_zero]
      rw [C_self, C_self, C_over (by omega), Int.neg_mul]
      omega
    | succ y =>
      rw [show -(((y + 1 : Nat) : Int) + 1) + 1 = -(((y : Nat) : Int) + 1) by omega, bq_neg, sgn_succ]
      have e : C (k + 1 + (y + 1)) (k + 1) = C (k + (y + 1)) k + C (k + (y + 1)) (k + 1) := by
        rw [show k + 1 + (y + 1) = (k + (y + 1)) + 1 by omega, C_succ]
      rw [e, show k + 1 + y = k + (y + 1) by omega]
      rw [Int.natCast_add, Int.mul_add, Int.neg_mul, Int.neg_mul]
      omega
/-- sums below N -/
def sumR (φ : Nat → Int) (N : Nat) : Int := ((List.range N).map φ).sum
theorem sumR_succ (φ : Nat → Int) (N : Nat) : sumR φ (N + 1) = sumR φ N + φ N := by
  unfold sumR
  rw [List.range_succ, List.map_append, List.sum_append]
  simp
theorem sumR_add (φ ψ : Nat → Int) : ∀ N, sumR (fun j => φ j + ψ j) N = sumR φ N + sumR ψ N
  | 0 => rfl
  | N + 1 => by rw [sumR_succ, sumR_succ, sumR_succ, sumR_add φ ψ N]; omega
theorem sumR_sub (φ ψ : Nat → Int) : ∀ N, sumR (fun j => φ j - ψ j) N = sumR φ N - sumR ψ N
  | 0 => rfl
  | N + 1 => by rw [sumR_succ, sumR_succ, sumR_succ, sumR_sub φ ψ N]; omega
theorem sumR_ext {φ ψ : Nat → Int} : ∀ {N : Nat}, (∀ j, j < N → φ j = ψ j) → sumR φ N = sumR ψ N
  | 0, _ => rfl
  | N + 1, h => by rw [sumR_succ, sumR_succ, sumR_ext fun j hj => h j (by omega), h N (by omega)]
theorem sumR_zero {φ : Nat → Int} : ∀ {N : Nat}, (∀ j, j < N → φ j = 0) → sumR φ N = 0
  | 0, _ => rfl
  | N + 1, h => by rw [sumR_succ, sumR_zero fun j hj => h j (by omega), h N (by omega)]; rfl
theorem sumR_more {φ : Nat → Int} {N : Nat} (h : ∀ j, N ≤ j → φ j = 0) : ∀ M, sumR φ (N + M) = sumR φ N
  | 0 => rfl
  | M + 1 => by rw [← Nat.add_assoc, sumR_succ, sumR_more h M, h _ (by omega)]; omega
theorem sumR_sh (φ : Nat → Int) (k : Nat) : ∀ N, sumR (fun j => if k ≤ j then φ (j - k) else 0) (k + N) = sumR φ N
  | 0 => sumR_zero fun j hj => by rw [if_neg (by omega)]
  | N + 1 => by
    rw [← Nat.add_assoc, sumR_succ, sumR_sh φ k N, sumR_succ, if_pos (by omega), show k + N - k = N by omega]
/-- the steady numbers of a numerator in d letters -/
def stN (f : Nat → Int) (d : Nat) (t : Int) : Int := sumR (fun j => f j * bq (d - 1) (t - j + d - 1)) 200
theorem st_add (f g : Nat → Int) (d : Nat) (t : Int) : stN (fun j => f j + g j) d t = stN f d t + stN g d t := by
  unfold stN
  rw [← sumR_add]
  exact sumR_ext fun j _ => Int.add_mul ..
theorem st_sub (f g : Nat → Int) (d : Nat) (t : Int) : stN (fun j => f j - g j) d t = stN f d t - stN g d t := by
  unfold stN
  rw [← sumR_sub]
  exact sumR_ext fun j _ => Int.sub_mul ..
theorem st_sh {f : Nat → Int} {k : Nat} (hk : k ≤ 100) (hz : ∀ j, 100 ≤ j → f j = 0) (d : Nat) (t : Int) : stN (sh k f) d t = stN f d (t - k) := by
  have e1 : sumR (fun j => sh k f j * bq (d - 1) (t - j + d - 1)) 200 = sumR (fun j => if k ≤ j then f (j - k) * bq (d - 1) (t - k - ((j - k : Nat) : Int) + d - 1) else 0) (k + (200 - k)) := by
    rw [show k + (200 - k) = 200 by omega]
    refine sumR_ext fun j _ => ?_
    unfold sh
    by_cases h : k ≤ j
    · rw [if_pos h, if_pos h]
      congr 2
      omega
    · rw [if_neg h, if_neg h, Int.zero_mul]
  unfold stN
  rw [e1, sumR_sh (fun j => f j * bq (d - 1) (t - k - ((j : Nat) : Int) + d - 1)) k (200 - k)]
  have h1 := sumR_more (φ := fun j => f j * bq (d - 1) (t - k - ((j : Nat) : Int) + d - 1)) (N := 100) (fun j hj => by rw [hz j hj, Int.zero_mul])
  rw [show 200 - k = 100 + (100 - k) by omega, h1, show (200 : Nat) = 100 + 100 from rfl, h1]
/-- differences -/
def dif : Nat → (Int → Int) → Int → Int
  | 0, g => g
  | k + 1, g => fun t => dif k g (t + 1) - dif k g t
theorem dif_ext {g h : Int → Int} (e : ∀ t, g t = h t) (k : Nat) (t : Int) : dif k g t = dif k h t := by
  rw [show g = h from funext e]
theorem dif_add (g h : Int → Int) : ∀ (k : Nat) (t : Int), dif k (fun t => g t + h t) t = dif k g t + dif k h t
  | 0, _ => rfl
  | k + 1, t => by
    show dif k _ (t + 1) - dif k _ t = dif k g (t + 1) - dif k g t + (dif k h (t + 1) - dif k h t)
    rw [dif_add g h k, dif_add g h k]
    omega
theorem dif_sub (g h : Int → Int) : ∀ (k : Nat) (t : Int), dif k (fun t => g t - h t) t = dif k g t - dif k h t
  | 0, _ => rfl
  | k + 1, t => by
    show dif k _ (t + 1) - dif k _ t = dif k g (t + 1) - dif k g t - (dif k h (t + 1) - dif k h t)
    rw [dif_sub g h k, dif_sub g h k]
    omega
theorem dif_sh (g : Int → Int) (e : Int) : ∀ (k : Nat) (t : Int), dif k (fun t => g (t + e)) t = dif k g (t + e)
  | 0, _ => rfl
  | k + 1, t => by
    show dif k _ (t + 1) - dif k _ t = dif k g (t + e + 1) - dif k g (t + e)
    rw [dif_sh g e k, dif_sh g e k, show t + 1 + e = t + e + 1 by omega]
theorem dif_in (g : Int → Int) : ∀ (k : Nat) (t : Int), dif (k + 1) g t = dif k (fun t => g (t + 1) - g t) t := fun k t => by
  rw [dif_sub (fun t => g (t + 1)) g k t, dif_sh g 1 k t]
  rfl
theorem dif_const {g : Int → Int} {c : Int} (h : ∀ t, g t = c) (k : Nat) (t : Int) : dif (k + 1) g t = 0 := by
  induction k generalizing t with
  | zero =>
    show g (t + 1) - g t = 0
    rw [h, h]
    omega
  | succ k ih =>
    show dif (k + 1) g (t + 1) - dif (k + 1) g t = 0
    rw [ih, ih]
    rfl
theorem dif_dif (g : Int → Int) (a : Nat) : ∀ (b : Nat) (t : Int), dif (a + b) g t = dif b (dif a g) t
  | 0, _ => rfl
  | b + 1, t => by
    show dif (a + b) g (t + 1) - dif (a + b) g t = dif b (dif a g) (t + 1) - dif b (dif a g) t
    rw [dif_dif g a b, dif_dif g a b]
theorem dif_zero {g : Int → Int} {k : Nat} (h : ∀ t, dif k g t = 0) {m : Nat} (hm : k ≤ m) (t : Int) : dif m g t = 0 := by
  obtain ⟨b, rfl⟩ : ∃ b, m = k + b := ⟨m - k, by omega⟩
  rw [dif_dif]
  cases b with
  | zero => exact h t
  | succ b => exact dif_const h b t
theorem dif_bq (k : Nat) : ∀ (i : Nat) (c t : Int), i ≤ k → dif i (fun t => bq k (t + c)) t = bq (k - i) (t + c)
  | 0, _, _, _ => rfl
  | i + 1, c, t, h => by
    show dif i _ (t + 1) - dif i _ t = _
    rw [dif_bq k i c (t + 1) (by omega), dif_bq k i c t (by omega)]
    obtain ⟨m, hm⟩ : ∃ m, k - i = m + 1 := ⟨k - i - 1, by omega⟩
    rw [hm, show k - (i + 1) = m by omega, show t + 1 + c = t + c + 1 by omega, bq_pascal]
    omega
/-- telescoped -/
theorem dif_tel (g : Int → Int) : ∀ (a : Nat) (t : Int), g t - g (t - a) = sumR (fun i => dif 1 g (t - a + i)) a
  | 0, t => by
    show g t - g (t - ((0 : Nat) : Int)) = 0
    rw [show t - ((0 : Nat) : Int) = t by omega]
    omega
  | a + 1, t => by
    have ih := dif_tel g a t
    have e1 : sumR (fun i => dif 1 g (t - ((a + 1 : Nat) : Int) + i)) (a + 1) = dif 1 g (t - ((a + 1 : Nat) : Int)) + sumR (fun i => dif 1 g (t - ((a : Nat) : Int) + i)) a := by
      have gen : ∀ (N : Nat) (φ : Nat → Int), sumR φ (N + 1) = φ 0 + sumR (fun i => φ (i + 1)) N := fun N => by
        induction N with
        | zero => intro φ; rw [sumR_succ]; show 0 + φ 0 = φ 0 + 0; omega
        | succ N ih => intro φ; rw [sumR_succ, ih φ, sumR_succ]; omega
      rw [gen]
      congr 1
      · rw [show t - ((a + 1 : Nat) : Int) + ((0 : Nat) : Int) = t - ((a + 1 : Nat) : Int) by omega]
      · refine sumR_ext fun i _ => ?_
        rw [show t - ((a + 1 : Nat) : Int) + ((i + 1 : Nat) : Int) = t - ((a : Nat) : Int) + ((i : Nat) : Int) by omega]
    rw [e1, ← ih]
    show _ = g (t - ((a + 1 : Nat) : Int) + 1) - g (t - ((a + 1 : Nat) : Int)) + _
    rw [show t - ((a + 1 : Nat) : Int) + 1 = t - ((a : Nat) : Int) by omega]
    omega
theorem sumR_const {c : Int} {φ : Nat → Int} (h : ∀ i, φ i = c) : ∀ N : Nat, sumR φ N = N * c
  | 0 => by show (0 : Int) = ((0 : Nat) : Int) * c; rw [Int.natCast_zero, Int.zero_mul]
  | N + 1 => by
    rw [sumR_succ, sumR_const h N, h]
    rw [show ((N + 1 : Nat) : Int) = ((N : Nat) : Int) + 1 by omega, Int.add_mul]
    omega
end M13

/-! the steady numbers have the degree of the dimension -/
namespace M13
open M7 M8 M12 L6
/-- no member stands in these letters alone -/
def FrP (c : List Nat) (L : List (List Nat)) : Prop := ∀ t ∈ L, ∃ j, 0 < at0 t j ∧ j ∉ c
def dimLe (d : Nat) (L : List (List Nat)) (k : Nat) : Prop := ∀ c : List Nat, c.Nodup → (∀ i ∈ c, i < d) → FrP c L → c.length ≤ k
def dimGe (d : Nat) (L : List (List Nat)) (k : Nat) : Prop := ∃ c : List Nat, c.Nodup ∧ (∀ i ∈ c, i < d) ∧ FrP c L ∧ k ≤ c.length
structure Hil (d : Nat) (L : List (List Nat)) : Prop where
  zero : dimLe d L 0 → ∀ t, stN (KN L) d t = 0
  const : ∀ k, dimLe d L (k + 1) → ∃ c : Int, 0 ≤ c ∧ (dimGe d L (k + 1) → 1 ≤ c) ∧ ∀ t, dif k (stN (KN L) d) t = c
theorem at_lt {t : List Nat} {j : Nat} (h : 0 < at0 t j) : j < t.length := by
  refine Nat.lt_of_not_le fun k => ?_
  unfold at0 at h
  rw [List.getD_eq_getElem?_getD, List.getElem?_eq_none k] at h
  exact absurd h (by decide)
theorem at_ex : ∀ {t : List Nat}, 1 ≤ t.sum → ∃ j, 0 < at0 t j
  | [], h => by simp at h
  | n :: t, h => by
    cases n with
    | zero =>
      obtain ⟨j, hj⟩ := at_ex (t := t) (by simpa using h)
      exact ⟨j + 1, hj⟩
    | succ n => exact ⟨0, Nat.succ_pos n⟩
section
variable {d x e : Nat} {L : List (List Nat)} {c : List Nat}
theorem fr_with (hx : x < d) (he : 0 < e) (h : FrP c (withN d L x e)) : FrP c L := fun t ht => by
  by_cases k : at0 t x < e
  · exact h t (List.mem_append_left _ (List.mem_filter.mpr ⟨ht, decide_eq_true k⟩))
  · obtain ⟨j, hj, hc⟩ := h (powN d x e) (List.mem_append_right _ (List.mem_singleton.mpr rfl))
    rw [pow_at] at hj
    by_cases q : j = x ∧ x < d
    · exact ⟨x, by omega, q.1 ▸ hc⟩
    · rw [if_neg q] at hj
      exact absurd hj (by decide)
theorem fr_without (hL : Len d L) (h : FrP c (withoutN d L x e)) : FrP c L := fun t ht => by
  have hp := pow_len d x e
  obtain ⟨l, hl, hf⟩ := (up_least (len_q hL hp) (t := subN t (powN d x e))).mpr ⟨_, List.mem_map_of_mem (f := fun u => subN u (powN d x e)) ht, fit_refl _⟩
  obtain ⟨j, hj, hc⟩ := h l hl
  have hll := len_least (len_q hL hp) l hl
  have h1 := fit_at (by rw [len_sub (hL t ht) hp, hll]) hf j
  rw [sub_at _ _ _ (by rw [hp, hL t ht])] at h1
  exact ⟨j, by omega, hc⟩
theorem fr_one (hL : Len d L) (hx : x < d) (he : 0 < e) (h : FrP c L) : FrP c (withN d L x e) ∨ FrP c (withoutN d L x e) := by
  by_cases k : x ∈ c
  · refine .inr fun l hl => ?_
    obtain ⟨t, ht, rfl⟩ := List.mem_map.mp (mem_least.mp hl).1
    obtain ⟨j, hj, hc⟩ := h t ht
    refine ⟨j, ?_, hc⟩
    rw [sub_at _ _ _ (by rw [pow_len, hL t ht]), pow_at, if_neg (fun q : j = x ∧ x < d => hc (q.1 ▸ k))]
    omega
  · refine .inl fun t ht => ?_
    rcases List.mem_append.mp ht with ht | ht
    · exact h t (List.mem_filter.mp ht).1
    · rw [List.mem_singleton.mp ht]
      exact ⟨x, by rw [pow_at, if_pos ⟨rfl, hx⟩]; exact he, k⟩
end
/-! pure powers of letters -/
structure Pure (d : Nat) (b : List Nat) (L : List (List Nat)) : Prop where
  len : Len d L
  dis : L.Pairwise Dis
  pos : ∀ r ∈ L, 1 ≤ r.sum
  one : ∀ r ∈ L, ∀ x, at0 r x = 0 ∨ r.sum ≤ at0 r x
  low : ∀ r ∈ L, fitB r b = true
def c0 (d : Nat) (L : List (List Nat)) : List Nat := (List.range d).filter fun j => L.all fun t => at0 t j == 0
theorem mem_c0 {d : Nat} {L : List (List Nat)} {j : Nat} : j ∈ c0 d L ↔ j < d ∧ ∀ t ∈ L, at0 t j = 0 := by
  unfold c0
  rw [List.mem_filter, List.mem_range, List.all_eq_true]
  exact and_congr_right fun _ => ⟨fun h t ht => eq_of_beq (h t ht), fun h t ht => beq_iff_eq.mpr (h t ht)⟩
theorem nd_c0 (d : Nat) (L : List (List Nat)) : (c0 d L).Nodup := List.nodup_range.sublist List.filter_sublist
theorem filter_out {α : Type} [DecidableEq α] {x : α} : ∀ {l : List α}, l.Nodup → x ∈ l → (l.filter fun y => decide (y ≠ x)).length + 1 = l.length
  | y :: l, hn, h => by
    obtain ⟨h1, h2⟩ := List.nodup_cons.mp hn
    by_cases e : y = x
    · subst e
      have e : l.filter (fun z => decide (z ≠ y)) = l := List.filter_eq_self.mpr fun z hz => decide_eq_true fun q => h1 (q ▸ hz)
      rw [List.filter_cons, if_neg (by simp), e, List.length_cons]
    · rw [List.filter_cons, if_pos (decide_eq_true e), List.length_cons, filter_out h2 ((List.mem_cons.mp h).resolve_left fun q => e q.symm), List.length_cons]
theorem fr_c0 {d : Nat} {b : List Nat} {L : List (List Nat)} (h : Pure d b L) : FrP (c0 d L) L := fun t ht => by
  obtain ⟨j, hj⟩ := at_ex (h.pos t ht)
  exact ⟨j, hj, fun k => by have := (mem_c0.mp k).2 t ht; omega⟩
theorem fr_sub {d : Nat} {b : List Nat} {L : List (List Nat)} (h : Pure d b L) {c : List Nat} (hc : ∀ i ∈ c, i < d) (hf : FrP c L) : ∀ i ∈ c, i ∈ c0 d L := fun i hi => by
  refine mem_c0.mpr ⟨hc i hi, fun t ht => ?_⟩
  obtain ⟨j, hj, hjc⟩ := hf t ht
  rcases h.one t ht i with k | k
  · exact k
  · have hne : i ≠ j := fun e => hjc (e ▸ hi)
    have := at_two t i j hne
    omega
theorem K_zero {d : Nat} {b : List Nat} {L : List (List Nat)} (hb : b.length = d) (hbs : b.sum ≤ 60) (h : ∀ t ∈ L, t.length = d ∧ fitB t b = true) : ∀ j, 100 ≤ j → KN L j = 0 := fun j hj =>
  K_far L.length L b (Nat.le_refl _) (fun t ht => ⟨by rw [(h t ht).1, hb], (h t ht).2⟩) j (by omega)
theorem st_one (d : Nat) (t : Int) : stN (KN []) d t = bq (d - 1) (t + ((d : Int) - 1)) := by
  unfold stN
  rw [K_nil, show (200 : Nat) = 1 + 199 from rfl, sumR_more (N := 1) (fun j hj => by unfold oneK; rw [if_neg (by omega), Int.zero_mul])]
  rw [show (1 : Nat) = 0 + 1 from rfl, sumR_succ]
  show 0 + oneK 0 * _ = _
  unfold oneK
  rw [if_pos rfl, Int.one_mul, Int.zero_add, show t - ((0 : Nat) : Int) + (d : Int) - 1 = t + ((d : Int) - 1) by omega]
theorem pure_st {d : Nat} (hd : 1 ≤ d) {b : List Nat} (hb : b.length = d) (hbs : b.sum ≤ 60) : ∀ (n : Nat) (L : List (List Nat)), L.length = n → Pure d b L → (c0 d L).length + n = d ∧ (n = d → ∀ t, stN (KN L) d t = 0) ∧ (n < d → ∃ c : Int, 1 ≤ c ∧ ∀ t, dif (d - 1 - n) (stN (KN L) d) t = c)
  | 0, L, hl, _ => by
    obtain rfl := List.length_eq_zero_iff.mp hl
    refine ⟨?_, fun h => by omega, fun _ => ⟨1, by omega, fun t => ?_⟩⟩
    · have e : c0 d [] = List.range d := List.filter_eq_self.mpr fun _ _ => rfl
      rw [e, List.length_range]
      rfl
    · rw [dif_ext (st_one d), dif_bq (d - 1) (d - 1 - 0) _ t (by omega), show d - 1 - (d - 1 - 0) = 0 by omega, bq_zero]
  | n + 1, L, hl, h => by
    obtain ⟨B, r, rfl⟩ : ∃ B r, L = B ++ [r] := by
      refine ⟨L.dropLast, L.getLast (fun e => by rw [e] at hl; simp at hl), (List.dropLast_concat_getLast _).symm⟩
    rw [List.length_append] at hl
    have hlB : B.length = n := by simpa using hl
    obtain ⟨p1, _, p3⟩ := List.pairwise_append.mp h.dis
    have hr : r ∈ B ++ [r] := List.mem_append_right _ (List.mem_singleton.mpr rfl)
    have hB : Pure d b B := ⟨fun t ht => h.len t (List.mem_append_left _ ht), p1, fun t ht => h.pos t (List.mem_append_left _ ht), fun t ht => h.one t (List.mem_append_left _ ht), fun t ht => h.low t (List.mem_append_left _ ht)⟩
    have hdr : ∀ u ∈ B, Dis u r := fun u hu => p3 u hu r (List.mem_singleton.mpr rfl)
    obtain ⟨i1, i2, i3⟩ := pure_st hd hb hbs n B hlB hB
    obtain ⟨x, hx⟩ := at_ex (h.pos r hr)
    have hxd : x < d := by rw [← h.len r hr]; exact at_lt hx
    have hxr := (h.one r hr x).resolve_left (by omega)
    have hxB : x ∈ c0 d B := mem_c0.mpr ⟨hxd, fun t ht => (hdr t ht x).resolve_right (by omega)⟩
    have e0 : c0 d (B ++ [r]) = (c0 d B).filter fun y => decide (y ≠ x) := by
      unfold c0
      rw [List.filter_filter]
      refine List.filter_congr fun j _ => ?_
      rw [List.all_append, List.all_cons, List.all_nil, Bool.and_true, Bool.and_comm]
      congr 1
      by_cases e : j = x
      · subst e
        rw [show (at0 r j == 0) = false from beq_eq_false_iff_ne.mpr (by omega)]
        simp
      · have h2 := at_two r x j (fun q => e q.symm)
        rw [show (at0 r j == 0) = true from beq_iff_eq.mpr (by omega)]
        simp [e]
    have hlen := filter_out (nd_c0 d B) hxB
    rw [← e0] at hlen
    have hnd : n < d := by omega
    obtain ⟨c, hc, hcc⟩ := i3 hnd
    have hr100 : r.sum ≤ 100 := by
      have := (fit_sum (t := r) (u := b) (by rw [hb, h.len r hr]) (h.low r hr)).1
      omega
    have hst : ∀ t, stN (KN (B ++ [r])) d t = stN (KN B) d t - stN (KN B) d (t - r.sum) := fun t => by
      rw [K_next hB.len (h.len r hr) hdr, st_sub (KN B) (sh r.sum (KN B)) d t, st_sh hr100 (K_zero hb hbs fun t ht => ⟨hB.len t ht, hB.low t ht⟩)]
    refine ⟨by omega, fun e t => ?_, fun hlt => ⟨r.sum * c, ?_, fun t => ?_⟩⟩
    · rw [hst]
      have z := hcc t
      have z2 := hcc (t - r.sum)
      rw [show d - 1 - n = 0 by omega] at z z2
      have z' : stN (KN B) d t = c := z
      have z2' : stN (KN B) d (t - r.sum) = c := z2
      omega
    · have h1 := h.pos r hr
      have : (1 : Int) * 1 ≤ ((r.sum : Nat) : Int) * c := Int.mul_le_mul (by omega) hc (by omega) (by omega)
      omega
    · obtain ⟨m, hm⟩ : ∃ m, d - 1 - n = m + 1 := ⟨d - 1 - n - 1, by omega⟩
      rw [show d - 1 - (n + 1) = m by omega, dif_ext hst, dif_sub (stN (KN B) d) (fun t => stN (KN B) d (t - r.sum)) m t]
      have e3 : dif m (fun t => stN (KN B) d (t - r.sum)) t = dif m (stN (KN B) d) (t - r.sum) := by
        have := dif_sh (stN (KN B) d) (-((r.sum : Nat) : Int)) m t
        exact this
      rw [e3, dif_tel (dif m (stN (KN B) d)) r.sum t]
      refine sumR_const (fun i => ?_) r.sum
      rw [← dif_dif, ← hm]
      exact hcc _
/-- THE steady numbers -/
theorem hil {d : Nat} (hd : 1 ≤ d) : ∀ (n : Nat) (L : List (List Nat)) (b : List Nat), sumS L ≤ n → Way d b L → b.sum ≤ 60 → Hil d L := by
  intro n
  induction n using Nat.strongRecOn with
  | ind n ih =>
    intro L b hn w hbs
    by_cases hp : ∃ r ∈ L, ∃ x, 0 < at0 r x ∧ at0 r x < r.sum
    · obtain ⟨r, hr, x, h0, h1⟩ := hp
      have hxd : x < d := by rw [← w.ant.len r hr]; exact at_lt h0
      obtain ⟨w1, s1, _⟩ := way_with w hr hxd h0 h1
      obtain ⟨w2, s2, _, b2⟩ := way_without w hr hxd h0
      have A := ih (sumS (withN d L x (at0 r x))) (by omega) _ _ (Nat.le_refl _) w1 hbs
      have B := ih (sumS (withoutN d L x (at0 r x))) (by omega) _ _ (Nat.le_refl _) w2 (by omega)
      have he : at0 r x ≤ 100 := by omega
      have hst : ∀ t, stN (KN L) d t = stN (KN (withN d L x (at0 r x))) d t + stN (KN (withoutN d L x (at0 r x))) d (t - at0 r x) := fun t => by
        rw [K_split w.ant.len hxd (at0 r x), st_add (KN (withN d L x (at0 r x))) (sh (at0 r x) (KN (withoutN d L x (at0 r x)))) d t, st_sh he (K_zero w2.bl (by omega) fun t ht => ⟨w2.ant.len t ht, w2.low t ht⟩)]
      have leA : ∀ k, dimLe d L k → dimLe d (withN d L x (at0 r x)) k := fun k h c hc hl hf => h c hc hl (fr_with hxd h0 hf)
      have leB : ∀ k, dimLe d L k → dimLe d (withoutN d L x (at0 r x)) k := fun k h c hc hl hf => h c hc hl (fr_without w.ant.len hf)
      refine ⟨fun h t => ?_, fun k h => ?_⟩
      · rw [hst, A.zero (leA 0 h), B.zero (leB 0 h)]
        rfl
      · obtain ⟨ca, a1, a2, a3⟩ := A.const k (leA _ h)
        obtain ⟨cb, b1, b2', b3⟩ := B.const k (leB _ h)
        refine ⟨ca + cb, by omega, fun g => ?_, fun t => ?_⟩
        · obtain ⟨c, g1, g2, g3, g4⟩ := g
          rcases fr_one w.ant.len hxd h0 g3 with q | q
          · have := a2 ⟨c, g1, g2, q, g4⟩
            omega
          · have := b2' ⟨c, g1, g2, q, g4⟩
            omega
        · have e3 : dif k (fun t => stN (KN (withoutN d L x (at0 r x))) d (t - at0 r x)) t = dif k (stN (KN (withoutN d L x (at0 r x))) d) (t - at0 r x) := dif_sh (stN (KN (withoutN d L x (at0 r x))) d) (-((at0 r x : Nat) : Int)) k t
          rw [dif_ext hst, dif_add (stN (KN (withN d L x (at0 r x))) d) (fun t => stN (KN (withoutN d L x (at0 r x))) d (t - at0 r x)) k t, e3, a3, b3]
    · have one : ∀ r ∈ L, ∀ x, at0 r x = 0 ∨ r.sum ≤ at0 r x := fun r hr x => by
        by_cases h0 : at0 r x = 0
        · exact .inl h0
        · exact .inr (Nat.le_of_not_lt fun h1 => hp ⟨r, hr, x, by omega, h1⟩)
      by_cases hz : ∃ r ∈ L, r.sum = 0
      · obtain ⟨r, hr, h0⟩ := hz
        have hall : ∀ q ∈ L, q = r := fun q hq => (w.ant.one r hr q hq (fit_of (by rw [w.ant.len q hq, w.ant.len r hr]) fun y _ => by have := at_le_sum r y; omega)).symm
        have e1 : L = [r] := by
          cases L with
          | nil => cases hr
          | cons a l =>
            have ha := hall a List.mem_cons_self
            cases l with
            | nil => rw [ha]
            | cons a2 l =>
              have hb := hall a2 (List.mem_cons_of_mem _ List.mem_cons_self)
              exact absurd (ha.trans hb.symm) fun q => (List.nodup_cons.mp w.ant.nd).1 (q ▸ List.mem_cons_self)
        have hK : ∀ j, KN L j = 0 := fun j => by
          rw [e1, K_cons, h0, sh_zero]
          show KN [] j - KN [] j = 0
          omega
        have hS : ∀ t, stN (KN L) d t = 0 := fun t => sumR_zero fun j _ => by rw [hK, Int.zero_mul]
        refine ⟨fun _ => hS, fun k _ => ⟨0, by omega, fun ⟨c, _, _, g3, _⟩ => ?_, fun t => ?_⟩⟩
        · obtain ⟨j, hj, _⟩ := g3 r hr
          have := at_le_sum r j
          omega
        · exact dif_zero (k := 0) hS (Nat.zero_le _) t
      · have pos : ∀ r ∈ L, 1 ≤ r.sum := fun r hr => Nat.pos_of_ne_zero fun q => hz ⟨r, hr, q⟩
        have dis : L.Pairwise Dis := dis_of w.ant.len fun x hx => Nat.le_of_not_lt fun h2 => by
          obtain ⟨r, hr, h0, h1⟩ := proper w.ant h2
          exact hp ⟨r, hr, x, h0, h1⟩
        have P : Pure d b L := ⟨w.ant.len, dis, pos, one, w.low⟩
        obtain ⟨j1, j2, j3⟩ := pure_st hd w.bl hbs L.length L rfl P
        have geq : ∀ k, dimLe d L k → d - L.length ≤ k := fun k h => by
          have := h (c0 d L) (nd_c0 d L) (fun i hi => (mem_c0.mp hi).1) (fr_c0 P)
          omega
        have leq : ∀ k, dimGe d L k → k ≤ d - L.length := fun k ⟨c, g1, g2, g3, g4⟩ => by
          have := nd_sub g1 (fr_sub P g2 g3)
          omega
        refine ⟨fun h => j2 (by have := geq 0 h; omega), fun k h => ?_⟩
        have hk := geq _ h
        by_cases hf : L.length = d
        · exact ⟨0, by omega, fun g => by have := leq _ g; omega, fun t => dif_zero (k := 0) (j2 hf) (Nat.zero_le _) t⟩
        · obtain ⟨c, hc, hcc⟩ := j3 (by omega)
          by_cases hke : d - L.length = k + 1
          · refine ⟨c, by omega, fun _ => hc, fun t => ?_⟩
            rw [show k = d - 1 - L.length by omega]
            exact hcc t
          · refine ⟨0, by omega, fun g => by have := leq _ g; omega, fun t => ?_⟩
            refine dif_zero (k := d - 1 - L.length + 1) (fun t => ?_) (by omega) t
            show dif (d - 1 - L.length) _ (t + 1) - dif (d - 1 - L.length) _ t = 0
            rw [hcc, hcc]
            omega
end M13

/-! steady rows: by their first numbers; sums of counts -/
namespace M13
open M7 M8 M12 L6
theorem int_zero {g : Int → Int} (h0 : g 0 = 0) (h : ∀ t, g (t + 1) = g t) (t : Int) : g t = 0 := by
  have up : ∀ n : Nat, g ((n : Nat) : Int) = 0 := fun n => by
    induction n with
    | zero => exact h0
    | succ n ih => rw [show ((n + 1 : Nat) : Int) = ((n : Nat) : Int) + 1 by omega, h, ih]
  have dn : ∀ n : Nat, g (-((n : Nat) : Int)) = 0 := fun n => by
    induction n with
    | zero => exact h0
    | succ n ih =>
      rw [← h, show -((n + 1 : Nat) : Int) + 1 = -((n : Nat) : Int) by omega]
      exact ih
  by_cases k : 0 ≤ t
  · have := up t.toNat
    rwa [show ((t.toNat : Nat) : Int) = t by omega] at this
  · have := dn (-t).toNat
    rwa [show -(((-t).toNat : Nat) : Int) = t by omega] at this
theorem bq_at0 (k : Nat) : bq (k + 1) 0 = 0 := by
  rw [show (0 : Int) = ((0 : Nat) : Int) from rfl, bq_nat, C_over (by omega)]
theorem sumR_first : ∀ (N : Nat) (φ : Nat → Int), sumR φ (N + 1) = φ 0 + sumR (fun i => φ (i + 1)) N
  | 0, φ => by rw [sumR_succ]; show 0 + φ 0 = φ 0 + 0; omega
  | N + 1, φ => by rw [sumR_succ, sumR_first N φ, sumR_succ]; omega
/-- by the first differences, for all integers -/
theorem newton : ∀ (D : Nat) (g : Int → Int), (∀ t, dif D g t = 0) → ∀ t, g t = sumR (fun k => dif k g 0 * bq k t) D
  | 0, g, h, t => h t
  | D + 1, g, h, t => by
    have ih := newton D (fun t => g (t + 1) - g t) (fun t => by rw [← dif_in]; exact h t)
    have z : ∀ t, g t - sumR (fun k => dif k g 0 * bq k t) (D + 1) = 0 := int_zero (g := fun t => g t - sumR (fun k => dif k g 0 * bq k t) (D + 1)) (by
        show g 0 - sumR (fun k => dif k g 0 * bq k 0) (D + 1) = 0
        rw [sumR_first, sumR_zero (fun i _ => by rw [bq_at0, Int.mul_zero]), bq_zero]
        show g 0 - (g 0 * 1 + 0) = 0
        omega) (fun t => by
        show g (t + 1) - sumR (fun k => dif k g 0 * bq k (t + 1)) (D + 1) = g t - sumR (fun k => dif k g 0 * bq k t) (D + 1)
        have e : sumR (fun k => dif k g 0 * bq k (t + 1)) (D + 1) = sumR (fun k => dif k g 0 * bq k t) (D + 1) + (g (t + 1) - g t) := by
          rw [sumR_first, sumR_first, bq_zero, bq_zero, ih t]
          rw [show sumR (fun i => dif (i + 1) g 0 * bq (i + 1) (t + 1)) D = sumR (fun i => dif (i + 1) g 0 * bq (i + 1) t) D + sumR (fun k => dif k (fun t => g (t + 1) - g t) 0 * bq k t) D by
            rw [← sumR_add]
            refine sumR_ext fun i _ => ?_
            rw [bq_pascal, ← dif_in, Int.mul_add]
            omega]
          omega
        rw [e]
        omega)
    have := z t
    omega
/-- the counts and the steady numbers, from a degree on -/
theorem cnt_st {f : Nat → Int} {n : Nat} (hn : 1 ≤ n) {M : Nat} (hM : ∀ j, M < j → f j = 0) {t : Nat} (ht : M + 1 ≤ t + n) : cntL f n t = stN f n t := by
  rw [cntL_F]
  show sumR _ 200 = sumR _ 200
  refine sumR_ext fun j _ => ?_
  by_cases h : j ≤ t
  · rw [if_pos h, show ((t : Nat) : Int) - ((j : Nat) : Int) + ((n : Nat) : Int) - 1 = ((t - j + n - 1 : Nat) : Int) by omega, bq_nat]
  · rw [if_neg h]
    by_cases k : j ≤ M
    · rw [show ((t : Nat) : Int) - ((j : Nat) : Int) + ((n : Nat) : Int) - 1 = ((t + n - 1 - j : Nat) : Int) by omega, bq_nat, C_over (by omega), Int.natCast_zero, Int.mul_zero]
    · rw [hM j (by omega), Int.zero_mul]
/-- many times summed -/
def FF (f : Nat → Int) : Nat → Int → Int
  | 0, t => if 0 ≤ t then f t.toNat else 0
  | k + 1, t => if 0 ≤ t then cntL f (k + 1) t.toNat else 0
theorem FF_neg (f : Nat → Int) (k : Nat) {t : Int} (h : t < 0) : FF f k t = 0 := by
  cases k <;> exact if_neg (by omega)
theorem FF_nat0 (f : Nat → Int) (t : Nat) : FF f 0 ((t : Nat) : Int) = f t := by
  show (if 0 ≤ ((t : Nat) : Int) then f ((t : Nat) : Int).toNat else 0) = _
  rw [if_pos (by omega), Int.toNat_natCast]
theorem FF_nat (f : Nat → Int) (k t : Nat) : FF f (k + 1) ((t : Nat) : Int) = cntL f (k + 1) t := by
  show (if 0 ≤ ((t : Nat) : Int) then cntL f (k + 1) ((t : Nat) : Int).toNat else 0) = _
  rw [if_pos (by omega), Int.toNat_natCast]
theorem cnt_sum (f : Nat → Int) (n t : Nat) : cntL f n t = sumR (fun j => if j ≤ t then f j * ((C (t - j + n - 1) (n - 1) : Nat) : Int) else 0) 200 := cntL_F f n t
/-- one sum less -/
theorem FF_step {f : Nat → Int} (hz : ∀ j, 200 ≤ j → f j = 0) (k : Nat) (t : Int) : FF f k t = FF f (k + 1) t - FF f (k + 1) (t - 1) := by
  by_cases h : 0 ≤ t
  · obtain ⟨n, rfl⟩ : ∃ n : Nat, t = ((n : Nat) : Int) := ⟨t.toNat, by omega⟩
    cases k with
    | zero =>
      rw [FF_nat0, FF_nat, cnt_sum]
      have one : ∀ m, sumR (fun j => if j ≤ m then f j * ((C (m - j + (0 + 1) - 1) (0 + 1 - 1) : Nat) : Int) else 0) 200 = sumR (fun j => if j ≤ m then f j else 0) 200 := fun m => sumR_ext fun j _ => by
        by_cases q : j ≤ m
        · rw [if_pos q, if_pos q, show 0 + 1 - 1 = 0 from rfl, C_zero]
          simp
        · rw [if_neg q, if_neg q]
      have all : ∀ m, sumR (fun j => if j ≤ m then f j else 0) 200 = sumR f (m + 1) := fun m => by
        have a := sumR_more (φ := fun j => if j ≤ m then f j else 0) (N := 200) (fun j hj => by
          by_cases q : j ≤ m
          · rw [if_pos q, hz j hj]
          · rw [if_neg q]) (m + 1)
        have b := sumR_more (φ := fun j => if j ≤ m then f j else 0) (N := m + 1) (fun j hj => if_neg (by omega)) 200
        rw [← a, Nat.add_comm, b]
        exact sumR_ext fun j hj => if_pos (by omega)
      rw [one, all]
      cases n with
      | zero =>
        rw [FF_neg f 1 (by omega)]
        show f 0 = sumR f (0 + 1) - 0
        rw [sumR_succ]
        show f 0 = 0 + f 0 - 0
        omega
      | succ n =>
        rw [show ((n + 1 : Nat) : Int) - 1 = ((n : Nat) : Int) by omega, FF_nat, cnt_sum, one, all, sumR_succ f (n + 1)]
        omega
    | succ k =>
      rw [FF_nat, FF_nat, cnt_sum, cnt_sum]
      cases n with
      | zero =>
        rw [FF_neg f (k + 1 + 1) (by omega), Int.sub_zero]
        refine sumR_ext fun j _ => ?_
        by_cases q : j ≤ 0
        · rw [if_pos q, if_pos q, show 0 - j + (k + 1) - 1 = k by omega, show k + 1 - 1 = k by omega, show 0 - j + (k + 1 + 1) - 1 = k + 1 by omega, show k + 1 + 1 - 1 = k + 1 by omega, C_self, C_self]
        · rw [if_neg q, if_neg q]
      | succ n =>
        rw [show ((n + 1 : Nat) : Int) - 1 = ((n : Nat) : Int) by omega, FF_nat, cnt_sum, ← sumR_sub]
        refine sumR_ext fun j _ => ?_
        by_cases q : j ≤ n
        · rw [if_pos (by omega), if_pos (by omega), if_pos q, show n + 1 - j + (k + 1) - 1 = n + 1 - j + k by omega, show k + 1 - 1 = k by omega, show n + 1 - j + (k + 1 + 1) - 1 = (n + 1 - j + k) + 1 by omega, show k + 1 + 1 - 1 = k + 1 by omega, C_succ, show n - j + (k + 1 + 1) - 1 = n + 1 - j + k by omega, Int.natCast_add, Int.mul_add]
          omega
        · by_cases q2 : j ≤ n + 1
          · rw [if_pos q2, if_pos q2, if_neg q, show n + 1 - j + (k + 1) - 1 = k by omega, show k + 1 - 1 = k by omega, show n + 1 - j + (k + 1 + 1) - 1 = k + 1 by omega, show k + 1 + 1 - 1 = k + 1 by omega, C_self, C_self]
            omega
          · rw [if_neg q2, if_neg q2, if_neg q]
            rfl
  · rw [FF_neg f k (by omega), FF_neg f (k + 1) (by omega), FF_neg f (k + 1) (by omega)]
    rfl
theorem FF_dif {f : Nat → Int} (hz : ∀ j, 200 ≤ j → f j = 0) (k : Nat) : ∀ (i : Nat) (t : Int), FF f k t = dif i (FF f (k + i)) (t - i)
  | 0, t => by
    show _ = FF f (k + 0) (t - ((0 : Nat) : Int))
    rw [show t - ((0 : Nat) : Int) = t by omega]
    rfl
  | i + 1, t => by
    have e : dif (i + 1) (FF f (k + (i + 1))) (t - ((i + 1 : Nat) : Int)) = dif i (FF f (k + i)) (t - ((i : Nat) : Int)) := by
      rw [dif_in, show (fun t => FF f (k + (i + 1)) (t + 1) - FF f (k + (i + 1)) t) = fun t => FF f (k + i) (t + 1) from funext fun t => by
        rw [FF_step hz (k + i) (t + 1), show t + 1 - 1 = t by omega]
        rfl]
      rw [dif_sh (FF f (k + i)) 1 i, show t - ((i + 1 : Nat) : Int) + 1 = t - ((i : Nat) : Int) by omega]
    rw [e]
    exact FF_dif hz k i t
/-- from a degree on the counts are the steady numbers, below 0 too -/
theorem FF_st {f : Nat → Int} {n : Nat} (hn : 1 ≤ n) {M : Nat} (hM : ∀ j, M < j → f j = 0) {t : Int} (ht : ((M : Nat) : Int) + 1 ≤ t + n) : FF f n t = stN f n t := by
  obtain ⟨k, rfl⟩ : ∃ k, n = k + 1 := ⟨n - 1, by omega⟩
  by_cases h : 0 ≤ t
  · obtain ⟨m, rfl⟩ : ∃ m : Nat, t = ((m : Nat) : Int) := ⟨t.toNat, by omega⟩
    rw [FF_nat]
    exact cnt_st (by omega) hM (by omega)
  · rw [FF_neg f (k + 1) (by omega)]
    symm
    refine sumR_zero fun j _ => ?_
    by_cases q : j ≤ M
    · obtain ⟨m, hm⟩ : ∃ m : Nat, t - ((j : Nat) : Int) + ((k + 1 : Nat) : Int) - 1 = ((m : Nat) : Int) := ⟨(t - ((j : Nat) : Int) + ((k + 1 : Nat) : Int) - 1).toNat, by omega⟩
      rw [hm, bq_nat, C_over (by omega), Int.natCast_zero, Int.mul_zero]
    · rw [hM j (by omega), Int.zero_mul]
theorem dif_local {g h : Int → Int} : ∀ (k : Nat) (t : Int), (∀ s, t ≤ s → g s = h s) → dif k g t = dif k h t
  | 0, t, e => e t (Int.le_refl _)
  | k + 1, t, e => by
    show dif k g (t + 1) - dif k g t = dif k h (t + 1) - dif k h t
    rw [dif_local k (t + 1) fun s hs => e s (by omega), dif_local k t e]
/-- what is summed k times is over soon -/
theorem FF_over {f : Nat → Int} {n D : Nat} (hn : 1 ≤ n) (hD : D ≤ n) {M : Nat} (hM : ∀ j, M < j → f j = 0) (hz : ∀ j, 200 ≤ j → f j = 0) (hS : ∀ t, dif D (stN f n) t = 0) {k : Nat} (hk : k + D ≤ n) {t : Int} (ht : ((M : Nat) : Int) + 1 ≤ t + k) : FF f k t = 0 := by
  rw [FF_dif hz k (n - k) t, show k + (n - k) = n by omega, dif_local (n - k) (t - ((n - k : Nat) : Int)) (h := stN f n) fun s hs => FF_st hn hM (by omega)]
  exact dif_zero hS (by omega) _
/-- the next sum, by a sum -/
theorem FF_sum {f : Nat → Int} (hz : ∀ j, 200 ≤ j → f j = 0) (k : Nat) : ∀ N : Nat, sumR (fun t => FF f k ((t : Nat) : Int)) (N + 1) = FF f (k + 1) ((N : Nat) : Int)
  | 0 => by
    rw [sumR_succ]
    show 0 + FF f k 0 = _
    rw [FF_step hz k 0, FF_neg f (k + 1) (t := 0 - 1) (by omega)]
    show 0 + (FF f (k + 1) 0 - 0) = FF f (k + 1) 0
    omega
  | N + 1 => by
    rw [sumR_succ, FF_sum hz k N, FF_step hz k ((N + 1 : Nat) : Int), show ((N + 1 : Nat) : Int) - 1 = ((N : Nat) : Int) by omega]
    omega
/-- the last sum is the last difference -/
theorem FF_last {f : Nat → Int} {n D : Nat} (hn : 1 ≤ n) (hD : D + 1 ≤ n) {M : Nat} (hM : ∀ j, M < j → f j = 0) (hz : ∀ j, 200 ≤ j → f j = 0) {c : Int} (hS : ∀ t, dif D (stN f n) t = c) {N : Nat} (hN : M + 1 ≤ N + (n - D)) : FF f (n - D) ((N : Nat) : Int) = c := by
  rw [FF_dif hz (n - D) D, show n - D + D = n by omega, dif_local D _ (h := stN f n) fun s hs => FF_st hn hM (by omega), hS]
end M13

/-! what is left in all, where that is little; first differences from another place -/
namespace M13
open M7 M8 M12 L6
theorem sumR_tail {φ : Nat → Int} {c : Int} {N : Nat} (h : ∀ t, N ≤ t → φ t = c) : ∀ a : Nat, sumR φ (N + a) = sumR φ N + a * c
  | 0 => by show sumR φ N = _; rw [show ((0 : Nat) : Int) = 0 from rfl, Int.zero_mul]; omega
  | a + 1 => by
    rw [← Nat.add_assoc, sumR_succ, sumR_tail h a, h _ (by omega), show ((a + 1 : Nat) : Int) = ((a : Nat) : Int) + 1 by omega, Int.add_mul]
    omega
theorem K_past {d : Nat} {b : List Nat} {L : List (List Nat)} (w : Way d b L) : ∀ j, b.sum < j → KN L j = 0 := fun j hj =>
  K_far L.length L b (Nat.le_refl _) (fun t ht => ⟨by rw [w.ant.len t ht, w.bl], w.low t ht⟩) j hj
/-- a lot that leaves few: all that is left -/
theorem few_left {d : Nat} (hd : 1 ≤ d) : ∀ (n : Nat) (L : List (List Nat)) (b : List Nat), sumS L ≤ n → Way d b L → b.sum ≤ 60 → dimLe d L 0 → ∃ c : Int, 0 ≤ c ∧ (dimGe d L 0 → 1 ≤ c) ∧ sumR (fun t => cntL (KN L) d t) 200 = c := by
  intro n
  induction n using Nat.strongRecOn with
  | ind n ih =>
    intro L b hn w hbs h
    by_cases hp : ∃ r ∈ L, ∃ x, 0 < at0 r x ∧ at0 r x < r.sum
    · obtain ⟨r, hr, x, h0, h1⟩ := hp
      have hxd : x < d := by rw [← w.ant.len r hr]; exact at_lt h0
      obtain ⟨w1, s1, _⟩ := way_with w hr hxd h0 h1
      obtain ⟨w2, s2, _, b2⟩ := way_without w hr hxd h0
      have leB : dimLe d (withoutN d L x (at0 r x)) 0 := fun c hc hl hf => h c hc hl (fr_without w.ant.len hf)
      obtain ⟨ca, a1, a2, a3⟩ := ih (sumS (withN d L x (at0 r x))) (by omega) _ _ (Nat.le_refl _) w1 hbs (fun c hc hl hf => h c hc hl (fr_with hxd h0 hf))
      obtain ⟨cb, b1, b3, b4⟩ := ih (sumS (withoutN d L x (at0 r x))) (by omega) _ _ (Nat.le_refl _) w2 (by omega) leB
      have he : at0 r x ≤ 60 := by omega
      have past := K_past w2
      have hz : ∀ j, 100 ≤ j → KN (withoutN d L x (at0 r x)) j = 0 := fun j hj => past j (by omega)
      have H2 : ∀ t, 61 ≤ t → cntL (KN (withoutN d L x (at0 r x))) d t = 0 := fun t ht => by
        rw [cnt_st hd past (by omega)]
        exact (hil hd _ _ _ (Nat.le_refl _) w2 (by omega)).zero leB _
      have hst : ∀ t, cntL (KN L) d t = cntL (KN (withN d L x (at0 r x))) d t + if at0 r x ≤ t then cntL (KN (withoutN d L x (at0 r x))) d (t - at0 r x) else 0 := fun t => cnt_step (K_split w.ant.len hxd (at0 r x)) (by omega) hz d t
      refine ⟨ca + cb, by omega, fun g => ?_, ?_⟩
      · obtain ⟨c, g1, g2, g3, g4⟩ := g
        rcases fr_one w.ant.len hxd h0 g3 with q | q
        · have := a2 ⟨c, g1, g2, q, g4⟩
          omega
        · have := b3 ⟨c, g1, g2, q, g4⟩
          omega
      · rw [sumR_ext (fun t _ => hst t), sumR_add, a3]
        congr 1
        have e1 := sumR_sh (fun t => cntL (KN (withoutN d L x (at0 r x))) d t) (at0 r x) (200 - at0 r x)
        rw [show at0 r x + (200 - at0 r x) = 200 by omega] at e1
        rw [e1]
        have e2 := sumR_more (φ := fun t => cntL (KN (withoutN d L x (at0 r x))) d t) (N := 200 - at0 r x) (fun t ht => H2 t (by omega)) (at0 r x)
        rw [show 200 - at0 r x + at0 r x = 200 by omega] at e2
        rw [← e2, b4]
    · have one : ∀ r ∈ L, ∀ x, at0 r x = 0 ∨ r.sum ≤ at0 r x := fun r hr x => by
        by_cases h0 : at0 r x = 0
        · exact .inl h0
        · exact .inr (Nat.le_of_not_lt fun h1 => hp ⟨r, hr, x, by omega, h1⟩)
      by_cases hz : ∃ r ∈ L, r.sum = 0
      · obtain ⟨r, hr, h0⟩ := hz
        have hall : ∀ q ∈ L, q = r := fun q hq => (w.ant.one r hr q hq (fit_of (by rw [w.ant.len q hq, w.ant.len r hr]) fun y _ => by have := at_le_sum r y; omega)).symm
        have e1 : L = [r] := by
          cases L with
          | nil => cases hr
          | cons a l =>
            have ha := hall a List.mem_cons_self
            cases l with
            | nil => rw [ha]
            | cons a2 l =>
              have hb := hall a2 (List.mem_cons_of_mem _ List.mem_cons_self)
              exact absurd (ha.trans hb.symm) fun q => (List.nodup_cons.mp w.ant.nd).1 (q ▸ List.mem_cons_self)
        have hK : ∀ j, KN L j = 0 := fun j => by
          rw [e1, K_cons, h0, sh_zero]
          show KN [] j - KN [] j = 0
          omega
        refine ⟨0, by omega, fun ⟨c, _, _, g3, _⟩ => ?_, sumR_zero fun t _ => ?_⟩
        · obtain ⟨j, hj, _⟩ := g3 r hr
          have := at_le_sum r j
          omega
        · rw [cnt_sum]
          exact sumR_zero fun j _ => by
            rw [hK, Int.zero_mul]
            split <;> rfl
      · have pos : ∀ r ∈ L, 1 ≤ r.sum := fun r hr => Nat.pos_of_ne_zero fun q => hz ⟨r, hr, q⟩
        have dis : L.Pairwise Dis := dis_of w.ant.len fun x hx => Nat.le_of_not_lt fun h2 => by
          obtain ⟨r, hr, h0, h1⟩ := proper w.ant h2
          exact hp ⟨r, hr, x, h0, h1⟩
        have P : Pure d b L := ⟨w.ant.len, dis, pos, one, w.low⟩
        obtain ⟨j1, _, _⟩ := pure_st hd w.bl hbs L.length L rfl P
        have hld : L.length = d := by
          have := h (c0 d L) (nd_c0 d L) (fun i hi => (mem_c0.mp hi).1) (fr_c0 P)
          omega
        obtain ⟨B, r, rfl⟩ : ∃ B r, L = B ++ [r] := ⟨L.dropLast, L.getLast (fun e => by rw [e] at hld; simp at hld; omega), (List.dropLast_concat_getLast _).symm⟩
        rw [List.length_append] at hld
        have hlB : B.length + 1 = d := hld
        obtain ⟨p1, _, p3⟩ := List.pairwise_append.mp P.dis
        have hr : r ∈ B ++ [r] := List.mem_append_right _ (List.mem_singleton.mpr rfl)
        have hB : Pure d b B := ⟨fun t ht => P.len t (List.mem_append_left _ ht), p1, fun t ht => P.pos t (List.mem_append_left _ ht), fun t ht => P.one t (List.mem_append_left _ ht), fun t ht => P.low t (List.mem_append_left _ ht)⟩
        obtain ⟨_, _, i3⟩ := pure_st hd w.bl hbs B.length B rfl hB
        obtain ⟨c, hc, hcc⟩ := i3 (by omega)
        rw [show d - 1 - B.length = 0 by omega] at hcc
        have hr60 : r.sum ≤ 60 := by
          have := (fit_sum (t := r) (u := b) (by rw [w.bl, P.len r hr]) (P.low r hr)).1
          omega
        have pastB : ∀ j, b.sum < j → KN B j = 0 := fun j hj => K_far B.length B b (Nat.le_refl _) (fun t ht => ⟨by rw [hB.len t ht, w.bl], hB.low t ht⟩) j hj
        have HB : ∀ t, 61 ≤ t → cntL (KN B) d t = c := fun t ht => by
          rw [cnt_st hd pastB (by omega)]
          exact hcc _
        have e : KN B = fun j => KN (B ++ [r]) j + sh r.sum (KN B) j := by
          rw [K_next hB.len (P.len r hr) fun u hu => p3 u hu r (List.mem_singleton.mpr rfl)]
          funext j
          show KN B j = KN B j - sh r.sum (KN B) j + sh r.sum (KN B) j
          omega
        have hst : ∀ t, cntL (KN B) d t = cntL (KN (B ++ [r])) d t + if r.sum ≤ t then cntL (KN B) d (t - r.sum) else 0 := fun t => cnt_step e (by omega) (fun j hj => pastB j (by omega)) d t
        have s0 : sumR (fun t => cntL (KN B) d t) 200 = sumR (fun t => cntL (KN (B ++ [r])) d t) 200 + sumR (fun t => cntL (KN B) d t) (200 - r.sum) := by
          have e1 := sumR_sh (fun t => cntL (KN B) d t) r.sum (200 - r.sum)
          rw [show r.sum + (200 - r.sum) = 200 by omega] at e1
          rw [← e1, ← sumR_add]
          exact sumR_ext fun t _ => hst t
        have s1 := sumR_tail (φ := fun t => cntL (KN B) d t) (c := c) (N := 200 - r.sum) (fun t ht => HB t (by omega)) r.sum
        rw [show 200 - r.sum + r.sum = 200 by omega] at s1
        have hmul : (1 : Int) * 1 ≤ ((r.sum : Nat) : Int) * c := Int.mul_le_mul (by have := P.pos r hr; omega) hc (by omega) (by omega)
        exact ⟨((r.sum : Nat) : Int) * c, by omega, fun _ => by omega, by omega⟩
/-- the first differences at 0 by those at s -/
theorem moved {g : Int → Int} {D l : Nat} (hl : l ≤ D) (h : ∀ t, dif D g t = 0) (s : Int) : dif l g 0 = sumR (fun j => dif (l + j) g s * bq j (-s)) (D - l) := by
  have n := newton (D - l) (fun t => dif l g (t + s)) (fun t => by
    rw [dif_sh (dif l g) s, ← dif_dif, show l + (D - l) = D by omega]
    exact h _) (-s)
  have e : dif l g 0 = dif l g (-s + s) := by rw [show -s + s = 0 by omega]
  rw [e]
  refine n.trans (sumR_ext fun j _ => ?_)
  rw [dif_sh (dif l g) s, ← dif_dif, Int.zero_add]
/-- what is signed -/
theorem bq_back (j s : Nat) : bq j (-((s : Nat) : Int)) = sgn j * ((C (s + j - 1) j : Nat) : Int) := by
  cases s with
  | zero =>
    cases j with
    | zero => rw [bq_zero, C_zero]; rfl
    | succ j =>
      rw [show -((0 : Nat) : Int) = 0 from rfl, bq_at0, C_over (by omega), Int.natCast_zero, Int.mul_zero]
  | succ s =>
    rw [show -((s + 1 : Nat) : Int) = -(((s : Nat) : Int) + 1) by omega, bq_neg, show s + 1 + j - 1 = j + s by omega]
end M13

namespace K13
open PySem PySem.Spec PyProof.Rows L2 RZ L5 R7 XX
open M12 DD M13
open L6 (C)
/-! ### the dimension by lists of letters -/
theorem oth_mem {c t : List Nat} {n j : Nat} : j ∈ othN c t n ↔ j < n ∧ 0 < t.getD j 0 ∧ j ∉ c := by
  unfold othN
  rw [List.mem_filter, List.mem_range, Bool.and_eq_true, decide_eq_true_iff, Bool.not_eq_true', List.contains_eq_mem, decide_eq_false_iff_not]
theorem free_FrP {c : List Nat} {L : List (List Nat)} : freeB c L = true ↔ FrP c L := by
  unfold freeB FrP
  rw [List.all_eq_true]
  refine ⟨fun h t ht => ?_, fun h t ht => ?_⟩
  · have h1 := h t ht
    cases e : othN c t t.length with
    | nil => rw [e] at h1; cases h1
    | cons j r =>
      have hj : j ∈ othN c t t.length := by rw [e]; exact List.mem_cons_self
      obtain ⟨_, h2, h3⟩ := oth_mem.mp hj
      exact ⟨j, h2, h3⟩
  · obtain ⟨j, h2, h3⟩ := h t ht
    have hj : j ∈ othN c t t.length := oth_mem.mpr ⟨at_lt h2, h2, h3⟩
    cases e : othN c t t.length with
    | nil => rw [e] at hj; cases hj
    | cons j r => rfl
theorem sets_filt (p : Nat → Bool) : ∀ k, (List.range k).filter p ∈ setsL k
  | 0 => List.mem_singleton.mpr rfl
  | k + 1 => by
    rw [List.range_succ, List.filter_append]
    refine List.mem_append.mpr ?_
    cases h : p k with
    | true =>
      refine .inr (List.mem_map.mpr ⟨_, sets_filt p k, ?_⟩)
      rw [List.filter_cons, if_pos h, List.filter_nil]
    | false =>
      refine .inl ?_
      rw [List.filter_cons, if_neg (by rw [h]; decide), List.filter_nil, List.append_nil]
      exact sets_filt p k
theorem free_of {d : Nat} {L : List (List Nat)} {c : List Nat} (hn : c.Nodup) (hc : ∀ i ∈ c, i < d) (hf : FrP c L) : ∃ e ∈ freeS d L, e.length = c.length := by
  have hm : ∀ a, a ∈ (List.range d).filter (fun j => decide (j ∈ c)) ↔ a ∈ c := fun a => by
    rw [List.mem_filter, List.mem_range, decide_eq_true_iff]
    exact ⟨fun h => h.2, fun h => ⟨hc a h, h⟩⟩
  refine ⟨_, List.mem_filter.mpr ⟨sets_filt (fun j => decide (j ∈ c)) d, free_FrP.mpr fun t ht => ?_⟩, ((List.perm_ext_iff_of_nodup (List.nodup_range.sublist List.filter_sublist) hn).mpr hm).length_eq⟩
  obtain ⟨j, h1, h2⟩ := hf t ht
  exact ⟨j, h1, fun z => h2 ((hm j).mp z)⟩
theorem sets_nd : ∀ (k : Nat) (c : List Nat), c ∈ setsL k → c.Nodup
  | 0, c, h => by
    rw [List.mem_singleton.mp h]
    exact List.nodup_nil
  | k + 1, c, h => by
    rcases List.mem_append.mp h with h | h
    · exact sets_nd k c h
    · obtain ⟨e, he, rfl⟩ := List.mem_map.mp h
      refine List.nodup_append.mpr ⟨sets_nd k e he, List.nodup_cons.mpr ⟨fun h => (nomatch h), List.nodup_nil⟩, fun a ha b hb => ?_⟩
      rw [List.mem_singleton.mp hb]
      exact Nat.ne_of_lt ((sets_short k e he).2 a ha)
abbrev dimI (d : Nat) (L : List (List Nat)) : Int := bigL (freeS d L)
theorem dim_le {d : Nat} {L : List (List Nat)} {k : Nat} (h : dimI d L ≤ (k : Int)) : dimLe d L k := fun c hn hc hf => by
  obtain ⟨e, he, hl⟩ := free_of hn hc hf
  have := (big_ge (freeS d L)).2 e he
  show c.length ≤ k
  unfold dimI at h
  omega
theorem dim_ge {d : Nat} {L : List (List Nat)} {k : Nat} (h : (k : Int) ≤ dimI d L) : dimGe d L k := by
  have hne : freeS d L ≠ [] := fun e => by
    have := big_none.mpr e
    unfold dimI at h
    omega
  obtain ⟨c, hc, hl⟩ := big_at _ hne
  obtain ⟨h1, h2⟩ := List.mem_filter.mp hc
  refine ⟨c, sets_nd d c h1, (sets_short d c h1).2, free_FrP.mp h2, ?_⟩
  unfold dimI at h
  omega
theorem dim_top (d : Nat) (L : List (List Nat)) : dimI d L ≤ d := by
  by_cases hne : freeS d L = []
  · have := big_none.mpr hne
    show bigL (freeS d L) ≤ d
    omega
  · obtain ⟨c, hc, hl⟩ := big_at _ hne
    have := (sets_short d c (List.mem_filter.mp hc).1).1
    show bigL (freeS d L) ≤ d
    omega
theorem dim_low (d : Nat) (L : List (List Nat)) : -1 ≤ dimI d L := (big_ge _).1
section
variable {P : Program} {w : World} {K : PySem.W.Frag} {mg : Str → Option Value} {base : Heap}
def sp_dim (K : PySem.W.Frag) (C : Addr) : Sp := fun vs H Q _ => ∃ (a : Addr) (d : Nat) (L : List (List Nat)), vs = [.ref a] ∧ LotAt K C H a d L ∧ d ≤ 8 ∧ (∀ t ∈ L, t.length = d) ∧ ∀ H', Same H H' → Q (.int (dimI d L)) H'
theorem ok_dim (T : Txt K mg) (O : LotT K mg) (R : LotP K O.C) (W : LotO K mg O.C) : FnOk P w K mg base CX0 3 T.a_dimension T.d_dimension ["lot"] (sp_dim K O.C) := by
  refine T.F_dimension.ok sc_dimension (fun vs H Q E h => ?_) (fun cdv A outer s H vs Q E hr h => ?_)
  · obtain ⟨a, d, L, rfl, _⟩ := h
    rfl
  · obtain ⟨a, d, L, rfl, hA, hd, hl, q⟩ := h
    refine ⟨_, (pss_cons (ps_expr (pe_call  (ok_chk T O W) (hr.mono (by decide)) (by rfl) T.m_check_lot T.F_check_lot.kp T.b_check_lot .nil pass0 (pa_cons (pv 0) pa_nil)))
      (pss_one (ps_ret (pe_call  (ok_size T) (hr.mono (by decide)) (by rfl) T.m_greatest_size T.F_greatest_size.kp T.b_greatest_size .nil pass0 (pa_cons (pe_call  (ok_fs T) (hr.mono (by decide)) (by rfl) T.m_free_sets T.F_free_sets.kp T.b_free_sets .nil pass0 (pa_cons (pe_prop (E := E0) (pv 0) O.cl R.PL (ok_ltr O R) (hr.mono (by decide)) R.bL .nil pass0 rfl) (pa_cons (pe_prop (E := E0) (pv 0) O.cl R.PM (ok_mem O R) (hr.mono (by decide)) R.bM .nil pass0 rfl) pa_nil))) pa_nil))))), ?_⟩
    refine ⟨_, rfl, a, d, L, rfl, hA, ?_⟩
    have ia := hA
    obtain ⟨dx, m, rs, h1, h2, h3⟩ := ia
    refine ⟨_, rfl, a, dx, _, rfl, h1, a, d, L, rfl, hA, _, rfl, a, dx, _, rfl, h1, a, d, L, rfl, hA, fun m2 rs2 hm2 hT2 => ?_⟩
    refine ⟨d, m2, rs2, L, rfl, hd, .inr hm2, hT2, (fun t ht => by rw [hl t ht]; exact hd), fun H1 z qs s1 hz hQ => ?_⟩
    exact ⟨z, qs, freeS d L, rfl, hz, hQ, free_few L hd, fun H2 s2 => q H2 (s1.trans s2)⟩
def sp_str : Sp := fun vs H Q _ => ∃ (t : Int) (k : Nat), vs = [.int t, .int ((k : Nat) : Int)] ∧ -1000000 ≤ t ∧ t ≤ 1000100 ∧ k ≤ 8 ∧ Q (.int (bq k t)) H
theorem ok_str (T : Txt K mg) : FnOk P w K mg base CX0 2 T.a_stretched T.d_stretched ["top", "bottom"] sp_str := by
  refine T.F_stretched.ok sc_stretched (fun vs H Q E h => ?_) (fun cdv A outer s H vs Q E hr h => ?_)
  · obtain ⟨t, k, rfl, _⟩ := h
    rfl
  · obtain ⟨t, k, rfl, hlo, hhi, hk, q⟩ := h
    refine ⟨_, (pss_cons (ps_if (pt_cmpR op_ge (pv 0) pe_int (nomark _)) (pss_one (ps_ret (pe_call  (ok_cho T) (hr.mono (by decide)) (by rfl) T.m_choices T.F_choices.kp T.b_choices .nil pass0 (pa_cons (pv 0) (pa_cons (pv 1) pa_nil))))) pss_nil)
      (pss_cons (ps_set (i := 2) sc_stretched.nd rfl (Or.inl rfl) (pe_ifExp (pt_cmpR op_eq (pe_op op_mod (pv 1) pe_int) pe_int (nomark _)) (pe_un un_neg pe_int) pe_int))
      (pss_one (ps_ret (pe_op op_mul (pv 2) (pe_call  (ok_cho T) (hr.mono (by decide)) (by rfl) T.m_choices T.F_choices.kp T.b_choices .nil pass0 (pa_cons (pe_op op_sub (pe_op op_sub (pv 1) (pv 0)) pe_int) (pa_cons (pv 1) pa_nil)))))))), ?_⟩
    refine ⟨_, rfl, _, _, rfl, rfl, _, rfl, ite2 (fun c => ?_) (fun c => ?_)⟩
    · have c' := of_decide_eq_true c
      refine ⟨_, rfl, _, rfl, t, _, k, rfl, rfl, by omega, by omega, ?_⟩
      have e : (if t < (k : Int) then 0 else ((C t.toNat k : Nat) : Int)) = bq k t := by
        unfold bq
        rw [if_pos c']
        by_cases h : t < (k : Int)
        · rw [if_pos h, L6.C_over (by omega)]
          rfl
        · rw [if_neg h]
      rw [e]
      exact q
    · have c' : ¬ (0 : Int) ≤ t := fun z => c (decide_eq_true z)
      have e : sgn k * (if ((k : Nat) : Int) - t - 1 < (k : Int) then 0 else ((C (((k : Nat) : Int) - t - 1).toNat k : Nat) : Int)) = bq k t := by
        unfold bq
        rw [if_neg c', if_neg (by omega)]
      refine ⟨_, rfl, _, _, rfl, rfl, by show (0 : Int) < 2; decide, rfl, _, rfl, ite2 (fun m => ?_) (fun m => ?_)⟩
      · have m' := V.int.inj (of_decide_eq_true m)
        have es : sgn k = -1 := by
          unfold sgn
          rw [if_pos (by omega)]
        rw [← e, es] at q
        refine ⟨_, rfl, _, rfl, _, rfl, _, rfl, _, _, rfl, rfl, _, _, rfl, rfl, _, rfl, _, _, k, rfl, rfl, by omega, by omega, ?_⟩
        exact ⟨_, _, rfl, rfl, .inl ⟨by decide, by decide⟩, q⟩
      · have m' : ¬ ((k : Nat) : Int) % 2 = 1 := fun z => m (decide_eq_true (by show V.int (((k : Nat) : Int) % 2) = V.int 1; rw [z]))
        have es : sgn k = 1 := by
          unfold sgn
          rw [if_neg (by omega)]
        rw [← e, es] at q
        refine ⟨_, rfl, _, rfl, _, rfl, _, _, rfl, rfl, _, _, rfl, rfl, _, rfl, _, _, k, rfl, rfl, by omega, by omega, ?_⟩
        exact ⟨_, _, rfl, rfl, .inl ⟨by decide, by decide⟩, q⟩
theorem sum_filt (f g : Nat → Int) : ∀ l : List Nat, ((l.filter fun j => decide (f j ≠ 0)).map fun j => f j * g j).sum = (l.map fun j => f j * g j).sum
  | [] => rfl
  | j :: l => by
    rw [List.filter_cons, List.map_cons, List.sum_cons]
    by_cases h : f j = 0
    · rw [if_neg (by rw [decide_eq_true_iff]; exact fun n => n h), sum_filt f g l, h]
      omega
    · rw [if_pos (decide_eq_true h), List.map_cons, List.sum_cons, sum_filt f g l]
theorem st_sup (f : Nat → Int) (n : Nat) (t : Int) : ((supN f).map fun j => f j * bq (n - 1) (t - j + n - 1)).sum = stN f n t := sum_filt f (fun j => bq (n - 1) (t - j + n - 1)) (List.range 200)
def sp_stn (K : PySem.W.Frag) : Sp := fun vs H Q _ => ∃ (s : Addr) (f : Nat → Int) (n t : Nat), vs = [.ref s, zV n, zV t] ∧ H s = some (.dK (numK f)) ∧ (∀ j, (f j).natAbs < 2 ^ 62) ∧ 1 ≤ n ∧ n ≤ 8 ∧ t ≤ 1000000 ∧ ∀ H', Same H H' → Q (.int (stN f n t)) H'
theorem ok_stn (T : Txt K mg) : FnOk P w K mg base CX0 3 T.a_steady_number T.d_steady_number ["series", "letters", "degree"] (sp_stn K) := by
  refine T.F_steady_number.ok sc_steady_number (fun vs H Q E h => ?_) (fun cdv A outer s H vs Q E hr h => ?_)
  · obtain ⟨s, f, n, t, rfl, _⟩ := h
    rfl
  · obtain ⟨s, f, n, t, rfl, hs, hf, h1, h8, ht, q⟩ := h
    refine ⟨_, (pss_one (ps_lock (ps_ret (pe_callB (cr_sum rfl) (by rfl) T.z_sum boot_sum (pa_cons (pe_lc (own := [("place", 3)]) (g := gName 3) (tt := tYes) rfl sc_steady_number.nd (pi_keys (pv 0)) (blkOk_by (own := [("place", 3)]) (N := N_steady_number) (sc := defScope s_steady_number) (by decide +kernel)) (fun _ _ _ _ _ => (pg_name (i := 3) sc_steady_number.nd rfl (Or.inl rfl))) (fun _ _ _ _ _ => pts_nil) (fun _ _ _ _ _ => (pe_op op_mul (pe_dget (hu_of hr) (pv 0) (pv 3) (fun _ _ => rfl)) (pe_call  (ok_str T) (hr.mono (by decide)) (by rfl) T.m_stretched T.F_stretched.kp T.b_stretched .nil pass0 (pa_cons (pe_op op_sub (pe_op op_add (pe_op op_sub (pv 2) (pv 3)) (pv 1)) pe_int) (pa_cons (pe_op op_sub (pv 1) pe_int) pa_nil)))))) pa_nil))))), ?_⟩
    have hsl := sup_len f
    refine ⟨s, _, hs, trivial, fun od => ?_⟩
    have hfz : (upd H s (.frz od (.dK (numK f)))) s = some (.frz od (.dK (numK f))) := upd_same
    have bz : Bar s H (upd H s (.frz od (.dK (numK f)))) := Bar.upd
    refine ⟨_, rfl, s, od, rfl, .inl ⟨_, hfz, fun D hD => ?_⟩⟩
    have n_Ds : D ≠ s := (ne_of_none hfz hD).symm
    have hDn : H D = none := by rw [upd_ne n_Ds] at hD; exact hD
    generalize (upd H s (.frz od (.dK (numK f)))) = H1 at hfz bz hD ⊢
    have sD := same_new hD (.lst [])
    refine lc_it (walk_keys (d := s) (o := od) (kvs := numK f)) (fun i H' => Same H1 H' ∧ H' D = some (.lst ((((supN f).take i).map fun j => f j * bq (n - 1) (((t : Nat) : Int) - j + n - 1)).map V.int))) ⟨sD, upd_same⟩ (fun i H' _ hh => hh.1 _ _ hfz) ?_ ?_
    · rintro i x Hx H3 hi ⟨s3, eD⟩ ⟨e4, k, v, hx, rfl⟩
      subst e4
      rw [List.getElem?_map] at hx
      obtain ⟨j, hj⟩ : ∃ j, (supN f)[i]? = some j := by
        cases h : (supN f)[i]? with
        | none => rw [h] at hx; cases hx
        | some j => exact ⟨j, rfl⟩
      rw [hj] at hx
      have ek : k = Sum.inl ((j : Nat) : Int) := (congrArg Prod.fst (Option.some.inj hx)).symm
      subst ek
      have hm : j ∈ supN f := List.mem_of_getElem? hj
      have hj200 : j < 200 := List.mem_range.mp (List.mem_filter.mp hm).1
      have hval : valV (numK f) (Sum.inl ((j : Nat) : Int)) = some (.int (f j)) := by
        show valV ((supN f).map (entK f)) _ = _
        rw [val_ent, if_pos hm]
      have hget : DGet H3 s (.int ((j : Nat) : Int)) (some (.int (f j))) := .inl ⟨_, Sum.inl ((j : Nat) : Int), .inr ⟨_, s3 _ _ hfz⟩, rfl, hval.symm⟩
      have hab := hf j
      have hb1 : -(2 ^ 64) < f j := by omega
      have hb2 : f j < 2 ^ 64 := by omega
      refine ⟨rfl, _, rfl, _, rfl, s, .int (f j), rfl, hget, _, rfl, _, rfl, _, _, rfl, rfl, _, rfl, _, _, rfl, rfl, _, _, rfl, rfl, _, rfl, _, _, rfl, rfl, ((t : Nat) : Int) - ((j : Nat) : Int) + ((n : Nat) : Int) - 1, n - 1, ?_, by omega, by omega, by omega, ?_⟩
      · rw [show ((n - 1 : Nat) : Int) = ((n : Nat) : Int) - 1 by omega]
        rfl
      refine ⟨_, _, rfl, rfl, .inl ⟨hb1, hb2⟩, _, eD, by rw [List.length_map, List.length_map, List.length_take]; exact sizeK (by omega), same_updL s3 hD, ?_⟩
      rw [upd_same, take_more hj, List.map_append, List.map_append]
      rfl
    · rintro H3 ⟨s3, eD⟩
      rw [List.length_map, List.take_length] at eD
      refine ⟨D, _, rfl, SqL.of eD, s3 _ _ hfz, ?_⟩
      have S4 : Same H (upd H3 s (.dK (numK f))) := fun b o h => by
        by_cases e : b = s
        · rw [e, upd_same, ← hs, ← e]
          exact h.symm ▸ h
        · rw [upd_ne e]
          exact s3 _ _ (bz b o e h)
      rw [st_sup]
      exact q _ S4
def sp_iss (K : PySem.W.Frag) : Sp := fun vs H Q _ => ∃ (s : Addr) (f : Nat → Int) (n t : Nat), vs = [.ref s, zV n, zV t] ∧ H s = some (.dK (numK f)) ∧ (∀ j, (f j).natAbs < 2 ^ 62) ∧ 1 ≤ n ∧ n ≤ 8 ∧ t ≤ 1000000 ∧ ∀ H', Same H H' → Q (.bl (decide (cntL f n t = stN f n t))) H'
theorem ok_iss (T : Txt K mg) : FnOk P w K mg base CX0 4 T.a_is_steady T.d_is_steady ["series", "letters", "degree"] (sp_iss K) := by
  refine T.F_is_steady.ok sc_is_steady (fun vs H Q E h => ?_) (fun cdv A outer s H vs Q E hr h => ?_)
  · obtain ⟨s, f, n, t, rfl, _⟩ := h
    rfl
  · obtain ⟨s, f, n, t, rfl, hs, hf, h1, h8, ht, q⟩ := h
    refine ⟨_, (pss_one (ps_ret (pe_cmpR op_eq (pe_call  (ok_lnum T) (hr.mono (by decide)) (by rfl) T.m_left_number T.F_left_number.kp T.b_left_number .nil pass0 (pa_cons (pv 0) (pa_cons (pv 1) (pa_cons (pv 2) pa_nil)))) (pe_call  (ok_stn T) (hr.mono (by decide)) (by rfl) T.m_steady_number T.F_steady_number.kp T.b_steady_number .nil pass0 (pa_cons (pv 0) (pa_cons (pv 1) (pa_cons (pv 2) pa_nil)))) (nomark _)))), ?_⟩
    refine ⟨_, rfl, _, rfl, _, rfl, s, f, n, t, rfl, hs, hf, h1, h8, ht, fun H1 s1 => ?_⟩
    refine ⟨_, rfl, _, rfl, _, rfl, s, f, n, t, rfl, s1 _ _ hs, hf, h1, h8, ht, fun H2 s2 => ?_⟩
    have e : decide (V.int (cntL f n t) = V.int (stN f n t)) = decide (cntL f n t = stN f n t) := decide_eq_decide.mpr ⟨fun h => V.int.inj h, fun h => by rw [h]⟩
    have q2 := q H2 (s1.trans s2)
    rw [← e] at q2
    exact ⟨rfl, q2⟩
/-- from here on the counts are the steady numbers, and not before -/
structure StDeg (f : Nat → Int) (n σ : Nat) : Prop where
  eq : ∀ t, σ ≤ t → cntL f n t = stN f n t
  ne : 0 < σ → cntL f n (σ - 1) ≠ stN f n (σ - 1 : Nat)
  low : σ = 0 ∨ ∃ j, f j ≠ 0 ∧ σ + n ≤ j + 1
def sp_sdg (K : PySem.W.Frag) (C : Addr) : Sp := fun vs H Q _ => ∃ (a : Addr) (d : Nat) (L : List (List Nat)) (b : List Nat), vs = [.ref a] ∧ LotAt K C H a d L ∧ CntOk d b L ∧ ∀ H' σ, Same H H' → StDeg (KN L) d σ → Q (zV σ) H'
theorem ok_sdg (T : Txt K mg) (O : LotT K mg) (R : LotP K O.C) (W : LotO K mg O.C) : FnOk P w K mg base CX0 6 T.a_steady_degree T.d_steady_degree ["lot"] (sp_sdg K O.C) := by
  refine T.F_steady_degree.ok sc_steady_degree (fun vs H Q E h => ?_) (fun cdv A outer s H vs Q E hr h => ?_)
  · obtain ⟨a, d, L, b, rfl, _⟩ := h
    rfl
  · obtain ⟨a, d, L, b, rfl, hA, hS, q⟩ := h
    refine ⟨_, (pss_cons (ps_expr (pe_call  (ok_chk T O W) (hr.mono (by decide)) (by rfl) T.m_check_lot T.F_check_lot.kp T.b_check_lot .nil pass0 (pa_cons (pv 0) pa_nil)))
      (pss_cons (ps_asg (pe_tup (pa_cons (pe_call  (ok_ser T) (hr.mono (by decide)) (by rfl) T.m_series_of T.F_series_of.kp T.b_series_of .nil pass0 (pa_cons (pe_prop (E := E0) (pv 0) O.cl R.PM (ok_mem O R) (hr.mono (by decide)) R.bM .nil pass0 rfl) pa_nil)) (pa_cons (pe_prop (E := E0) (pv 0) O.cl R.PL (ok_ltr O R) (hr.mono (by decide)) R.bL .nil pass0 rfl) pa_nil))) (pg_tup (by rfl) (pgs_cons (pg_name (i := 1) sc_steady_degree.nd rfl (Or.inl rfl)) (pgs_cons (pg_name (i := 2) sc_steady_degree.nd rfl (Or.inr rfl)) pgs_nil))))
      (pss_cons (ps_lock (ps_set (i := 3) sc_steady_degree.nd rfl (Or.inl rfl) (pe_callB (cr_max rfl) (by rfl) T.z_max (by decide +kernel) (pa_cons (pe_op op_cat (pe_lst (pa_cons pe_int pa_nil)) (pe_lc (own := [("place", 4)]) (g := gName 4) (tt := tYes) rfl sc_steady_degree.nd (pi_keys (pv 1)) (blkOk_by (own := [("place", 4)]) (N := N_steady_degree) (sc := defScope s_steady_degree) (by decide +kernel)) (fun _ _ _ _ _ => (pg_name (i := 4) sc_steady_degree.nd rfl (Or.inl rfl))) (fun _ _ _ _ _ => pts_nil) (fun _ _ _ _ _ => (pe_op op_add (pe_op op_sub (pv 4) (pv 2)) pe_int)))) pa_nil))))
      (pss_cons (ps_while PassesOwn.never (PW.pt (pw_and (pt_cmpR op_gt (pv 3) pe_int (nomark _)) (pw_and1 (pt_val (pe_call  (ok_iss T) (hr.mono (by decide)) (by rfl) T.m_is_steady T.F_is_steady.kp T.b_is_steady .nil pass0 (pa_cons (pv 1) (pa_cons (pv 2) (pa_cons (pe_op op_sub (pv 3) pe_int) pa_nil))))))))
      (pss_one (ps_aug (i := 3) sc_steady_degree.nd rfl (Or.inl rfl) pe_int ip_sub)))
      (pss_one (ps_ret (pv 3))))))), ?_⟩
    have ia := hA
    obtain ⟨dx, m, rs, h1, h2, h3⟩ := ia
    refine ⟨_, rfl, a, d, L, rfl, hA, ?_⟩
    refine ⟨_, rfl, a, dx, _, rfl, h1, a, d, L, rfl, hA, fun m' rs' km kt => ⟨m', rs', L, d, b, rfl, km, kt, hS.way, hS.pos, by have := hS.few; omega, hS.far, hS.num, hS.sum, fun H1 z s1 hzn hz => ?_⟩⟩
    refine ⟨_, rfl, a, dx, _, rfl, s1 _ _ h1, a, d, L, rfl, hA.same s1, ?_⟩
    refine ⟨by show 2 ≤ sizeLine; decide, fun p hp => ⟨p, _, rfl, SqT.of upd_same, rfl, _, _, rfl, _, _, rfl, rfl, ?_⟩⟩
    have sp := same_new hp (.tup [.ref z, .int ((d : Nat) : Int)])
    have hz2 := sp _ _ hz
    have hA2 := hA.same (s1.trans sp)
    have S2 := s1.trans sp
    generalize (upd H1 p (.tup [.ref z, .int ((d : Nat) : Int)])) = H2 at hz2 S2 ⊢
    clear sp hp
    have hf : ∀ j, (KN L j).natAbs < 2 ^ 62 := K_small hS.num
    have hz0 : ∀ j, 200 ≤ j → KN L j = 0 := fun j hj => K_past hS.way j (by have := hS.far; omega)
    have hd1 := hS.pos
    have hd8 := hS.few
    generalize KN L = f at hf hz0 hz2 q
    have hsl := sup_len f
    refine ⟨z, _, hz2, trivial, fun od => ?_⟩
    have hfz : (upd H2 z (.frz od (.dK (numK f)))) z = some (.frz od (.dK (numK f))) := upd_same
    have bz : Bar z H2 (upd H2 z (.frz od (.dK (numK f)))) := Bar.upd
    have hback : ∀ p, (upd H2 z (.frz od (.dK (numK f)))) p = none → H2 p = none := fun p hp => by
      rw [upd_ne (ne_of_none hfz hp).symm] at hp
      exact hp
    generalize (upd H2 z (.frz od (.dK (numK f)))) = H3 at hfz bz hback ⊢
    refine ⟨by show 1 ≤ sizeLine; decide, fun p2 hp2 => ?_⟩
    have sp2 := same_new hp2 (.lst [V.int 0])
    have e_p2 : (upd H3 p2 (.lst [V.int 0])) p2 = some (.lst [V.int 0]) := upd_same
    generalize (upd H3 p2 (.lst [V.int 0])) = H4 at sp2 e_p2 ⊢
    refine ⟨_, rfl, z, od, rfl, .inl ⟨_, sp2 _ _ hfz, fun D hD => ?_⟩⟩
    have sD := same_new hD (.lst [])
    refine lc_it (walk_keys (d := z) (o := od) (kvs := numK f)) (fun i H' => Same H4 H' ∧ H' D = some (.lst ((((supN f).take i).map fun j => ((j : Nat) : Int) - d + 1).map V.int))) ⟨sD, upd_same⟩ (fun i H' _ hh => hh.1 _ _ (sp2 _ _ hfz)) ?_ ?_
    · rintro i x Hx H5 hi ⟨s5, eD⟩ ⟨e4, k, v, hx, rfl⟩
      subst e4
      rw [List.getElem?_map] at hx
      obtain ⟨j, hj⟩ : ∃ j, (supN f)[i]? = some j := by
        cases h : (supN f)[i]? with
        | none => rw [h] at hx; cases hx
        | some j => exact ⟨j, rfl⟩
      rw [hj] at hx
      have ek : k = Sum.inl ((j : Nat) : Int) := (congrArg Prod.fst (Option.some.inj hx)).symm
      subst ek
      refine ⟨rfl, _, rfl, _, rfl, _, _, rfl, rfl, _, _, rfl, rfl, _, eD, by rw [List.length_map, List.length_map, List.length_take]; exact sizeK (by omega), same_updL s5 hD, ?_⟩
      rw [upd_same, take_more hj, List.map_append, List.map_append]
      rfl
    · rintro H5 ⟨s5, eD⟩
      rw [List.length_map, List.take_length] at eD
      refine ⟨p2, D, _, _, rfl, rfl, s5 _ _ e_p2, eD, by rw [List.length_map, List.length_map]; exact Nat.le_of_lt (sizeK (by show 1 + _ ≤ _; omega)), fun p3 hp3 => ?_⟩
      have sp3 := same_new hp3 (.lst ([V.int 0] ++ ((supN f).map fun j => ((j : Nat) : Int) - d + 1).map V.int))
      refine ⟨p3, 0 :: (supN f).map (fun j => ((j : Nat) : Int) - d + 1), rfl, SqL.of upd_same, Nat.succ_pos _, fun mx hm hy => ?_⟩
      have hm0 : 0 ≤ mx := hy 0 List.mem_cons_self
      obtain ⟨μ, rfl⟩ := Int.eq_ofNat_of_zero_le hm0
      have hall : ∀ j, f j ≠ 0 → j + 1 ≤ μ + d := fun j hj => by
        have hj200 : j < 200 := Nat.lt_of_not_le fun h => hj (hz0 j h)
        have := hy _ (List.mem_cons_of_mem _ (List.mem_map.mpr ⟨j, List.mem_filter.mpr ⟨List.mem_range.mpr hj200, decide_eq_true hj⟩, rfl⟩))
        omega
      have hlow : μ = 0 ∨ ∃ j, f j ≠ 0 ∧ μ + d ≤ j + 1 := by
        rcases List.mem_cons.mp hm with h | h
        · exact .inl (by omega)
        · obtain ⟨j, hj, e⟩ := List.mem_map.mp h
          exact .inr ⟨j, of_decide_eq_true (List.mem_filter.mp hj).2, by omega⟩
      have hμ : μ ≤ 200 := by
        rcases hlow with h | ⟨j, hj, h⟩
        · omega
        · have hj200 : j < 200 := Nat.lt_of_not_le fun h => hj (hz0 j h)
          omega
      have hst : ∀ t, μ ≤ t → cntL f d t = stN f d t := fun t ht => cnt_st hd1 (M := t + d - 1) (fun j hj => Classical.byContradiction fun h => by have := hall j h; omega) (by omega)
      refine ⟨(s5.trans sp3) _ _ (sp2 _ _ hfz), ?_⟩
      have S6 : Same H2 (upd (upd H5 p3 (.lst ([V.int 0] ++ ((supN f).map fun j => ((j : Nat) : Int) - d + 1).map V.int))) z (.dK (numK f))) := fun b o h => by
        by_cases e : b = z
        · rw [e, upd_same, ← hz2, ← e]
          exact h.symm ▸ h
        · rw [upd_ne e]
          exact (sp2.trans (s5.trans sp3)) _ _ (bz b o e h)
      have hz6 : (upd (upd H5 p3 (.lst ([V.int 0] ++ ((supN f).map fun j => ((j : Nat) : Int) - d + 1).map V.int))) z (.dK (numK f))) z = some (.dK (numK f)) := upd_same
      generalize (upd (upd H5 p3 (.lst ([V.int 0] ++ ((supN f).map fun j => ((j : Nat) : Int) - d + 1).map V.int))) z (.dK (numK f))) = H6 at S6 hz6 ⊢
      refine ⟨fun M σ H' => ∃ g : Nat, σ = [some (.ref a), some (.ref z), some (zV d), some (zV g), none] ∧ Same H6 H' ∧ M = g ∧ g ≤ μ ∧ ∀ t, g ≤ t → cntL f d t = stN f d t, ⟨μ, μ, rfl, Same.refl _, rfl, Nat.le_refl _, hst⟩, ?_⟩
      rintro M σ H7 ⟨g, rfl, s7, rfl, hg, hgt⟩
      refine ⟨_, rfl, _, _, rfl, rfl, _, rfl, ?_⟩
      by_cases h0 : 0 < M
      · rw [decide_eq_true (show (0 : Int) < ((M : Nat) : Int) by omega)]
        refine iteT ⟨_, rfl, _, rfl, _, rfl, _, _, rfl, rfl, z, f, d, M - 1, by rw [show zV (M - 1) = V.int (((M : Nat) : Int) - 1) from congrArg V.int (by omega)]; rfl, s7 _ _ hz6, hf, hd1, hd8, by omega, fun H8 s8 => ⟨_, rfl, ite2 (fun c => ?_) (fun c => ?_)⟩⟩
        · have c' := of_decide_eq_true c
          refine ⟨_, fun _ _ h => h, _, rfl, _, _, rfl, rfl, M - 1, by omega, M - 1, ?_, s7.trans s8, rfl, by omega, fun t ht => ?_⟩
          · rw [show V.int (((M : Nat) : Int) - 1) = zV (M - 1) from congrArg V.int (by omega)]
            rfl
          · by_cases e : t = M - 1
            · rw [e]
              exact c'
            · exact hgt t (by omega)
        · refine ⟨_, rfl, q _ M (S2.trans (S6.trans (s7.trans s8))) ⟨hgt, fun _ h => c (decide_eq_true h), ?_⟩⟩
          rcases hlow with h | ⟨j, hj, h⟩
          · omega
          · exact .inr ⟨j, hj, by omega⟩
      · rw [decide_eq_false (show ¬ (0 : Int) < ((M : Nat) : Int) by omega)]
        exact iteF ⟨_, rfl, q _ M (S2.trans (S6.trans s7)) ⟨hgt, fun h => absurd h h0, .inl (by omega)⟩⟩
/-- the i-th differences of the steady numbers, and the row after i turns -/
def numsL (g : Int → Int) (D i : Nat) : List Int := (List.range (D - i)).map fun t => dif i g ((t : Nat) : Int)
def rowL (g : Int → Int) (i : Nat) : List Int := (List.range i).map fun k => dif k g 0
theorem nums_len (g : Int → Int) (D i : Nat) : (numsL g D i).length = D - i := by
  unfold numsL
  rw [List.length_map, List.length_range]
theorem nums_at {g : Int → Int} {D i t : Nat} (h : t < D - i) : (numsL g D i)[t]? = some (dif i g ((t : Nat) : Int)) := by
  unfold numsL
  rw [List.getElem?_map, List.getElem?_range h]
  rfl
theorem row_more (g : Int → Int) (i : Nat) : rowL g (i + 1) = rowL g i ++ [dif i g 0] := by
  unfold rowL
  rw [List.range_succ, List.map_append]
  rfl
theorem row_len (g : Int → Int) (i : Nat) : (rowL g i).length = i := by
  unfold rowL
  rw [List.length_map, List.length_range]
def sp_srow (K : PySem.W.Frag) (C : Addr) : Sp := fun vs H Q _ => ∃ (a : Addr) (d : Nat) (L : List (List Nat)) (b : List Nat), vs = [.ref a] ∧ LotAt K C H a d L ∧ CntOk d b L ∧ ∀ H' z, Same H H' → SqT K H' z ((rowL (stN (KN L) d) (dimI d L).toNat).map V.int) → Q (.ref z) H'
theorem ok_srow (T : Txt K mg) (O : LotT K mg) (R : LotP K O.C) (W : LotO K mg O.C) : FnOk P w K mg base CX0 6 T.a_steady_row T.d_steady_row ["lot"] (sp_srow K O.C) := by
  refine T.F_steady_row.ok sc_steady_row (fun vs H Q E h => ?_) (fun cdv A outer s H vs Q E hr h => ?_)
  · obtain ⟨a, d, L, b, rfl, _⟩ := h
    rfl
  · obtain ⟨a, d, L, b, rfl, hA, hS, q⟩ := h
    refine ⟨_, (pss_cons (ps_expr (pe_call  (ok_chk T O W) (hr.mono (by decide)) (by rfl) T.m_check_lot T.F_check_lot.kp T.b_check_lot .nil pass0 (pa_cons (pv 0) pa_nil)))
      (pss_cons (ps_set (i := 1) sc_steady_row.nd rfl (Or.inr rfl) (pe_call  (ok_ser T) (hr.mono (by decide)) (by rfl) T.m_series_of T.F_series_of.kp T.b_series_of .nil pass0 (pa_cons (pe_prop (E := E0) (pv 0) O.cl R.PM (ok_mem O R) (hr.mono (by decide)) R.bM .nil pass0 rfl) pa_nil)))
      (pss_cons (ps_setLc (i := 2) (own := [("degree", 4)]) (g := gName 4) (tt := tYes) rfl sc_steady_row.nd rfl rfl (sw_true rfl rfl rfl (by decide +kernel)) (pi_range1 rfl T.z_range (pa_cons (pe_call  (ok_dim T O R W) (hr.mono (by decide)) (by rfl) T.m_dimension T.F_dimension.kp T.b_dimension .nil pass0 (pa_cons (pv 0) pa_nil)) pa_nil)) (blkOk_by (own := [("degree", 4)]) (N := N_steady_row) (sc := defScope s_steady_row) (by decide +kernel)) (fun _ _ _ _ _ => (pg_name (i := 4) sc_steady_row.nd rfl (Or.inl rfl))) (fun _ _ _ _ _ => pts_nil) (fun _ _ _ _ _ => (pe_call  (ok_stn T) (hr.mono (by decide)) (by rfl) T.m_steady_number T.F_steady_number.kp T.b_steady_number .nil pass0 (pa_cons (pv 1) (pa_cons (pe_prop (E := E0) (pv 0) O.cl R.PL (ok_ltr O R) (hr.mono (by decide)) R.bL .nil pass0 rfl) (pa_cons (pv 4) pa_nil))))))
      (pss_cons (ps_set (i := 3) sc_steady_row.nd rfl (Or.inl rfl) (pe_lst pa_nil))
      (pss_cons (ps_while PassesOwn.never (pt_truth (pv 2) (fun _ => rfl))
      (pss_cons (ps_expr (pe_bm PySem.F.plainAttrs_list PySem.F.slot_list_append PySem.F.type_list_append mt_append (pv 3) (pa_cons (pe_ix ix_list (pv 2) pe_int (fun _ _ => rfl)) pa_nil)))
      (pss_one (ps_setLc (i := 2) (own := [("before", 5), ("after", 6)]) (g := gTup K 2 (gCons (gName 5) (gCons (gName 6) gNil))) (tt := tYes) rfl sc_steady_row.nd rfl rfl (sw_true rfl rfl rfl (by decide +kernel)) (pi_zipA (by rfl) T.z_zip (pa_cons (pv 2) (pa_cons (pe_slice sl_list (pv 2) (po_some pe_int) po_none) pa_nil))) (blkOk_by (own := [("before", 5), ("after", 6)]) (N := N_steady_row) (sc := defScope s_steady_row) (by decide +kernel)) (fun _ _ _ _ _ => (pg_tup (by rfl) (pgs_cons (pg_name (i := 5) sc_steady_row.nd rfl (Or.inl rfl)) (pgs_cons (pg_name (i := 6) sc_steady_row.nd rfl (Or.inl rfl)) pgs_nil)))) (fun _ _ _ _ _ => pts_nil) (fun _ _ _ _ _ => (pe_op op_sub (pv 6) (pv 5)))))))
      (pss_one (ps_ret (pe_callTy call_tuple_of (by rfl) T.z_tuple boot_tuple (pa_cons (pv 3) pa_nil))))))))), ?_⟩
    have ia := hA
    obtain ⟨dx, m, rs, h1, h2, h3⟩ := ia
    have hd1 := hS.pos
    have hd8 := hS.few
    have hl : ∀ t ∈ L, t.length = d := hS.way.ant.len
    refine ⟨_, rfl, a, d, L, rfl, hA, ?_⟩
    refine ⟨_, rfl, a, dx, _, rfl, h1, a, d, L, rfl, hA, fun m' rs' km kt => ⟨m', rs', L, d, b, rfl, km, kt, hS.way, hS.pos, by omega, hS.far, hS.num, hS.sum, fun H1 z s1 hzn hz => ?_⟩⟩
    refine ⟨_, rfl, a, d, L, rfl, hA.same s1, hd8, hl, fun H2 s2 => ?_⟩
    have hlo := dim_low d L
    have hto := dim_top d L
    refine ⟨_, rfl, by omega, by omega, fun D hD => ?_⟩
    have S2 := s1.trans s2
    have hz2 := s2 _ _ hz
    have sD := same_new hD (.lst [])
    have hf : ∀ j, (KN L j).natAbs < 2 ^ 62 := K_small hS.num
    generalize KN L = f at hf hz2 q
    obtain ⟨δ, hδ⟩ : ∃ δ : Nat, δ = (dimI d L).toNat := ⟨_, rfl⟩
    have hδ8 : δ ≤ 8 := by omega
    rw [← hδ] at q ⊢
    refine lc_range (lo := 0) (n := δ) (fun i H' => Same H2 H' ∧ H' D = some (.lst (((List.range i).map fun t => stN f d ((t : Nat) : Int)).map V.int))) ⟨sD, upd_same⟩ (fun i H3 hi hh => ?_) (fun H3 hh => ?_)
    · obtain ⟨s3, eD⟩ := hh
      rw [show (0 : Int) + ((i : Nat) : Int) = ((i : Nat) : Int) from Int.zero_add _]
      refine ⟨rfl, _, rfl, _, rfl, a, dx, _, rfl, s3 _ _ (S2 _ _ h1), a, d, L, rfl, hA.same (S2.trans s3), _, rfl, z, f, d, i, rfl, s3 _ _ hz2, hf, hd1, hd8, by omega, fun H4 s4 => ?_⟩
      refine ⟨_, s4 _ _ eD, by rw [List.length_map, List.length_map, List.length_range]; exact sizeK (by omega), same_updL (s3.trans s4) hD, ?_⟩
      rw [upd_same, List.range_succ, List.map_append, List.map_append]
      rfl
    · obtain ⟨s3, eD⟩ := hh
      have eD : H3 D = some (.lst ((numsL (stN f d) δ 0).map V.int)) := eD
      have S3 := S2.trans s3
      refine ⟨by show 0 ≤ sizeLine; decide, fun r hr0 => ?_⟩
      have sr := same_new hr0 (.lst [])
      have S4 := S3.trans sr
      have hrH : H r = none := S3.free hr0
      have e_r : (upd H3 r (.lst [])) r = some (.lst ((rowL (stN f d) 0).map V.int)) := upd_same
      have e_D := sr _ _ eD
      generalize (upd H3 r (.lst [])) = H4 at S4 e_r e_D ⊢
      refine ⟨fun M σ H' => ∃ (nb : Addr) (i : Nat) (v4 v5 v6 : Option V), σ = [some (.ref a), some (.ref z), some (.ref nb), some (.ref r), v4, v5, v6] ∧ Same H H' ∧ i + M = δ ∧ H' nb = some (.lst ((numsL (stN f d) δ i).map V.int)) ∧ H' r = some (.lst ((rowL (stN f d) i).map V.int)) ∧ nb ≠ r, ⟨δ, D, 0, _, _, _, rfl, S4, Nat.zero_add _, e_D, e_r, ?_⟩, ?_⟩
      · exact (ne_of_none eD hr0)
      rintro M σ H5 ⟨nb, i, v4, v5, v6, rfl, s5, hi, hnb, hrr, n_r⟩
      refine ⟨_, rfl, _, .inl ⟨_, SqL.of hnb, rfl⟩, ?_⟩
      have hnl := nums_len (stN f d) δ i
      by_cases hM : M = 0
      · have e0 : numsL (stN f d) δ i = [] := List.eq_nil_of_length_eq_zero (by omega)
        rw [e0]
        refine iteF ⟨_, rfl, r, _, rfl, .inl ⟨SqL.of hrr, fun z2 hz2 => ?_⟩⟩
        have s6 := same_new hz2 (.tup ((rowL (stN f d) i).map V.int))
        rw [show δ = i by omega] at q
        exact q _ z2 (s5.trans s6) (SqT.of upd_same)
      · have hat : atI ((numsL (stN f d) δ i).map V.int) (0 : Int) = some (.int (dif i (stN f d) 0)) := atI_nat (j := 0) (by rw [List.getElem?_map, nums_at (by omega)]; rfl)
        have e0 : ((numsL (stN f d) δ i).map V.int).isEmpty = false := by
          rw [List.isEmpty_map]
          cases h : numsL (stN f d) δ i with
          | nil => rw [h] at hnl; have : 0 = δ - i := hnl; omega
          | cons _ _ => rfl
        rw [e0]
        refine iteT ⟨_, fun _ _ h => h, _, rfl, .inl ⟨rfl, _, SqL.of hrr⟩, _, rfl, nb, _, _, _, rfl, rfl, SqL.of hnb, hat, r, _, _, rfl, rfl, hrr, by rw [List.length_map, row_len]; exact sizeK (by omega), ?_⟩
        have S6 : Same H (upd H5 r (.lst ((rowL (stN f d) i).map V.int ++ [V.int (dif i (stN f d) 0)]))) := same_updL s5 hrH
        have hnb6 : (upd H5 r (.lst ((rowL (stN f d) i).map V.int ++ [V.int (dif i (stN f d) 0)]))) nb = some (.lst ((numsL (stN f d) δ i).map V.int)) := by rw [upd_ne n_r]; exact hnb
        have hr6 : (upd H5 r (.lst ((rowL (stN f d) i).map V.int ++ [V.int (dif i (stN f d) 0)]))) r = some (.lst ((rowL (stN f d) (i + 1)).map V.int)) := by
          rw [upd_same, row_more, List.map_append]
          rfl
        generalize (upd H5 r (.lst ((rowL (stN f d) i).map V.int ++ [V.int (dif i (stN f d) 0)]))) = H6 at S6 hnb6 hr6 ⊢
        refine ⟨_, rfl, _, rfl, _, rfl, nb, _, rfl, SqL.of hnb6, fun p hp => ?_⟩
        have ec : cutV ((numsL (stN f d) δ i).map V.int) (some 1) none = ((numsL (stN f d) δ i).drop 1).map V.int := by
          rw [List.map_drop]
          exact cut_hi _ 1 (by rw [List.length_map]; omega)
        rw [ec]
        have sp := same_new hp (.lst (((numsL (stN f d) δ i).drop 1).map V.int))
        have hp7 : (upd H6 p (.lst (((numsL (stN f d) δ i).drop 1).map V.int))) p = some (.lst (((numsL (stN f d) δ i).drop 1).map V.int)) := upd_same
        have hnb7 := sp _ _ hnb6
        have hr7 := sp _ _ hr6
        have S7 := S6.trans sp
        generalize (upd H6 p (.lst (((numsL (stN f d) δ i).drop 1).map V.int))) = H7 at hp7 hnb7 hr7 S7 ⊢
        refine ⟨nb, p, _, _, rfl, .inl ⟨SqL.of hnb7, SqL.of hp7, fun D2 hD2 => ?_⟩⟩
        have sD2 := same_new hD2 (.lst [])
        have hn' : δ - (i + 1) = min ((numsL (stN f d) δ i).map V.int).length (((numsL (stN f d) δ i).drop 1).map V.int).length := by
          rw [List.length_map, List.length_map, List.length_drop, hnl]
          omega
        refine lc_it (walk_zip (K := K) (a := nb) (b := p) hn') (fun j H' => Same H7 H' ∧ H' D2 = some (.lst (((numsL (stN f d) δ (i + 1)).take j).map V.int))) ⟨sD2, upd_same⟩ (fun j H' _ hh => ⟨SqL.of (hh.1 _ _ hnb7), SqL.of (hh.1 _ _ hp7)⟩) ?_ ?_
        · rintro j v H8 H9 hj ⟨s8, eD2⟩ ⟨T', x, y, rfl, hT', e9, hx, hy⟩
          subst e9
          dsimp only at hx hy
          rw [List.getElem?_map, nums_at (by omega)] at hx
          rw [List.getElem?_map, List.getElem?_drop, nums_at (by omega)] at hy
          obtain rfl := Option.some.inj hx
          obtain rfl := Option.some.inj hy
          have sT := same_new hT' (.tup [V.int (dif i (stN f d) ((j : Nat) : Int)), V.int (dif i (stN f d) (((1 + j : Nat)) : Int))])
          refine ⟨T', _, rfl, SqT.of upd_same, rfl, _, _, rfl, _, _, rfl, rfl, ?_⟩
          refine ⟨rfl, _, rfl, _, rfl, _, _, rfl, rfl, _, sT _ _ eD2, by rw [List.length_map, List.length_take, nums_len]; exact sizeK (by omega), same_updL (s8.trans sT) hD2, ?_⟩
          rw [upd_same, take_more (nums_at (i := i + 1) (t := j) (by omega)), List.map_append, show ((1 + j : Nat) : Int) = ((j : Nat) : Int) + 1 by omega]
          rfl
        · rintro H8 ⟨s8, eD2⟩
          rw [List.take_of_length_le (by rw [nums_len]; omega)] at eD2
          exact ⟨M - 1, by omega, D2, i + 1, _, _, _, rfl, S7.trans s8, by omega, eD2, s8 _ _ hr7, (ne_of_none hr7 hD2).symm⟩
/-- the weight -/
def wtI (d : Nat) (L : List (List Nat)) : Int := if 0 < dimI d L then dif ((dimI d L).toNat - 1) (stN (KN L) d) 0 else sumR (fun t => cntL (KN L) d t) 200
theorem cnt_low {d : Nat} {b : List Nat} {L : List (List Nat)} (hS : CntOk d b L) (h0 : ¬ 0 < dimI d L) {σ : Nat} (hσ : StDeg (KN L) d σ) : σ ≤ 200 ∧ sumR (fun t => cntL (KN L) d t) σ = sumR (fun t => cntL (KN L) d t) 200 := by
  have hd1 := hS.pos
  have hfar := hS.far
  have hz := (hil hd1 (sumS L) L b (Nat.le_refl _) hS.way hS.far).zero (dim_le (by omega))
  have h200 : σ ≤ 200 := by
    rcases hσ.low with h | ⟨j, hj, h⟩
    · omega
    · have : j ≤ 60 := Nat.le_of_not_lt fun k => hj (K_past hS.way j (by omega))
      omega
  refine ⟨h200, ?_⟩
  have e := sumR_more (φ := fun t => cntL (KN L) d t) (N := σ) (fun j hj => by rw [hσ.eq j hj, hz]) (200 - σ)
  rw [show σ + (200 - σ) = 200 by omega] at e
  exact e.symm
def sp_wt (K : PySem.W.Frag) (C : Addr) : Sp := fun vs H Q _ => ∃ (a : Addr) (d : Nat) (L : List (List Nat)) (b : List Nat), vs = [.ref a] ∧ LotAt K C H a d L ∧ CntOk d b L ∧ ∀ H', Same H H' → Q (.int (wtI d L)) H'
theorem ok_wt (T : Txt K mg) (O : LotT K mg) (R : LotP K O.C) (W : LotO K mg O.C) : FnOk P w K mg base CX0 7 T.a_weight T.d_weight ["lot"] (sp_wt K O.C) := by
  refine T.F_weight.ok sc_weight (fun vs H Q E h => ?_) (fun cdv A outer s H vs Q E hr h => ?_)
  · obtain ⟨a, d, L, b, rfl, _⟩ := h
    rfl
  · obtain ⟨a, d, L, b, rfl, hA, hS, q⟩ := h
    refine ⟨_, (pss_cons (ps_set (i := 1) sc_weight.nd rfl (Or.inl rfl) (pe_call  (ok_srow T O R W) (hr.mono (by decide)) (by rfl) T.m_steady_row T.F_steady_row.kp T.b_steady_row .nil pass0 (pa_cons (pv 0) pa_nil)))
      (pss_cons (ps_if (pt_truth (pv 1) (fun _ => rfl)) (pss_one (ps_ret (pe_ix ix_tup (pv 1) (pe_un un_neg pe_int) (fun _ _ => rfl)))) pss_nil)
      (pss_cons (ps_set (i := 2) sc_weight.nd rfl (Or.inr rfl) (pe_call  (ok_ser T) (hr.mono (by decide)) (by rfl) T.m_series_of T.F_series_of.kp T.b_series_of .nil pass0 (pa_cons (pe_prop (E := E0) (pv 0) O.cl R.PM (ok_mem O R) (hr.mono (by decide)) R.bM .nil pass0 rfl) pa_nil)))
      (pss_one (ps_ret (pe_callB (cr_sum rfl) (by rfl) T.z_sum boot_sum (pa_cons (pe_lc (own := [("degree", 3)]) (g := gName 3) (tt := tYes) rfl sc_weight.nd (pi_range1 rfl T.z_range (pa_cons (pe_call  (ok_sdg T O R W) (hr.mono (by decide)) (by rfl) T.m_steady_degree T.F_steady_degree.kp T.b_steady_degree .nil pass0 (pa_cons (pv 0) pa_nil)) pa_nil)) (blkOk_by (own := [("degree", 3)]) (N := N_weight) (sc := defScope s_weight) (by decide +kernel)) (fun _ _ _ _ _ => (pg_name (i := 3) sc_weight.nd rfl (Or.inl rfl))) (fun _ _ _ _ _ => pts_nil) (fun _ _ _ _ _ => (pe_call  (ok_lnum T) (hr.mono (by decide)) (by rfl) T.m_left_number T.F_left_number.kp T.b_left_number .nil pass0 (pa_cons (pv 2) (pa_cons (pe_prop (E := E0) (pv 0) O.cl R.PL (ok_ltr O R) (hr.mono (by decide)) R.bL .nil pass0 rfl) (pa_cons (pv 3) pa_nil)))))) pa_nil))))))), ?_⟩
    have hd1 := hS.pos
    have hd8 := hS.few
    refine ⟨_, rfl, a, d, L, b, rfl, hA, hS, fun H1 z s1 hz => ?_⟩
    refine ⟨_, rfl, _, .inr (.inl ⟨_, hz, rfl⟩), ?_⟩
    have hrl := row_len (stN (KN L) d) (dimI d L).toNat
    by_cases h0 : 0 < dimI d L
    · have e0 : ((rowL (stN (KN L) d) (dimI d L).toNat).map V.int) = ((rowL (stN (KN L) d) ((dimI d L).toNat - 1)).map V.int) ++ [V.int (wtI d L)] := by
        unfold wtI
        rw [if_pos h0, show rowL (stN (KN L) d) (dimI d L).toNat = rowL (stN (KN L) d) ((dimI d L).toNat - 1 + 1) from congrArg _ (by omega), row_more, List.map_append]
        rfl
      have e1 : ((rowL (stN (KN L) d) (dimI d L).toNat).map V.int).isEmpty = false := by
        rw [e0]
        cases (rowL (stN (KN L) d) ((dimI d L).toNat - 1)).map V.int <;> rfl
      rw [e1]
      refine iteT ⟨_, rfl, _, rfl, z, _, _, _, rfl, rfl, hz, ?_, q H1 s1⟩
      rw [e0]
      exact atI_last _ _
    · have e1 : rowL (stN (KN L) d) (dimI d L).toNat = [] := List.eq_nil_of_length_eq_zero (by omega)
      rw [e1]
      refine iteF ?_
      have ia := hA
      obtain ⟨dx, m, rs, h1, h2, h3⟩ := ia
      refine ⟨_, rfl, a, dx, _, rfl, s1 _ _ h1, a, d, L, rfl, hA.same s1, fun m' rs' km kt => ⟨m', rs', L, d, b, rfl, km, kt, hS.way, hS.pos, by omega, hS.far, hS.num, hS.sum, fun H2 y s2 hyn hy => ?_⟩⟩
      have S2 := s1.trans s2
      refine ⟨_, rfl, a, d, L, b, rfl, hA.same S2, hS, fun H3 σ s3 hσ => ?_⟩
      obtain ⟨h200, hsum⟩ := cnt_low hS h0 hσ
      have S3 := S2.trans s3
      have hy3 := s3 _ _ hy
      have ew : wtI d L = sumR (fun t => cntL (KN L) d t) σ := by
        unfold wtI
        rw [if_neg h0, hsum]
      rw [ew] at q
      refine ⟨_, rfl, by omega, by omega, fun D hD => ?_⟩
      have sD := same_new hD (.lst [])
      refine lc_range (lo := 0) (n := σ) (fun i H' => Same H3 H' ∧ H' D = some (.lst (((List.range i).map fun t => cntL (KN L) d t).map V.int))) ⟨sD, upd_same⟩ (fun i H4 hi hh => ?_) (fun H4 hh => ?_)
      · obtain ⟨s4, eD⟩ := hh
        rw [show (0 : Int) + ((i : Nat) : Int) = ((i : Nat) : Int) from Int.zero_add _]
        refine ⟨rfl, _, rfl, _, rfl, a, dx, _, rfl, s4 _ _ (S3 _ _ h1), a, d, L, rfl, hA.same (S3.trans s4), _, rfl, y, KN L, d, i, rfl, s4 _ _ hy3, K_small hS.num, hd1, hd8, by omega, fun H5 s5 => ?_⟩
        refine ⟨_, s5 _ _ eD, by rw [List.length_map, List.length_map, List.length_range]; exact sizeK (by omega), same_updL (s4.trans s5) hD, ?_⟩
        rw [upd_same, List.range_succ, List.map_append, List.map_append]
        rfl
      · obtain ⟨s4, eD⟩ := hh
        exact ⟨D, _, rfl, SqL.of eD, q _ (S3.trans s4)⟩
end
end K13

/-! t[::-1] of a tuple -/
namespace W7
open PySem PySem.Spec PyProof.Rows L2 HT
section
variable {prog : Program} {w : World} {A : Around} {E : Value → Shared → Prop} {s : Shared}
theorem rev_pick (xs : Array Value) : ((List.range xs.size).filterMap fun (m : Nat) => xs[(((xs.size : Int) - 1) + (m : Int) * (-1)).toNat]?).toArray = xs.toList.reverse.toArray := by
  congr 1
  have e2 : ∀ (l : List Value), (List.range l.length).filterMap (fun m => l[m]?) = l := fun l => by
    induction l with
    | nil => rfl
    | cons x l ih =>
      rw [List.length_cons, List.range_succ_eq_map, List.filterMap_cons, List.filterMap_map]
      show x :: (List.range l.length).filterMap ((fun m => (x :: l)[m]?) ∘ Nat.succ) = _
      rw [show ((fun m => (x :: l)[m]?) ∘ Nat.succ) = (fun m => l[m]?) from rfl, ih]
  have e3 := e2 xs.toList.reverse
  rw [List.length_reverse, Array.length_toList] at e3
  rw [← e3]
  have cg : ∀ {l : List Nat} {f g : Nat → Option Value}, (∀ m ∈ l, f m = g m) → l.filterMap f = l.filterMap g := fun {l f g} h => by
    induction l with
    | nil => rfl
    | cons m l ih => rw [List.filterMap_cons, List.filterMap_cons, h m List.mem_cons_self, ih fun k hk => h k (List.mem_cons_of_mem _ hk)]
  refine cg fun m hm => ?_
  have hlt := List.mem_range.mp hm
  rw [List.getElem?_reverse (by rw [Array.length_toList]; exact hlt), Array.length_toList, show (((xs.size : Int) - 1) + (m : Int) * (-1)).toNat = xs.size - 1 - m by omega, Array.getElem?_toList]
theorem places_rev (n : Nat) : Builtin.Slice.slicePlaces ((n : Int) - 1) (-1) (-1) = n := by
  unfold Builtin.Slice.slicePlaces
  have h1 : ¬ (-1 : Int) > 0 := by omega
  simp only [h1, if_false, Int.neg_neg, Int.ediv_one]
  split <;> omega
theorem sliceApplied_rev {sl : Addr} {vl vu vs : Value} {n : Nat} {Q : Int × Int × Nat → Shared → Prop} (hs : s.heap.IsSliceOf sl vl vu vs) (pl : IsPart vl none) (pu : IsPart vu none) (ps : IsPart vs (some (-1)))
    (h : Q ((n : Int) - 1, -1, n) s) : wpAny (model prog w) A (Builtin.Slice.sliceApplied (.ref sl) (pure (n : Int))) Q E s := by
  obtain ⟨os, hos, hcs, hds⟩ := id hs
  unfold Builtin.Slice.sliceApplied Builtin.Slice.sliceFields
  refine wpAny_bind (wpAny_bind (wpAny_field hos hds (x := vl) rfl (wpAny_bind (wpAny_field hos hds (x := vu) rfl (wpAny_bind (wpAny_field hos hds (x := vs) rfl (wpAny_pure ?_)))))))
  refine wpAny_bind (slicePart_ ps ?_)
  show wpAny _ _ (if ((-1 : Int) == 0) = true then _ else _) _ _ s
  rw [if_neg (by decide)]
  refine wpAny_bind (slicePart_ pl (wpAny_bind (slicePart_ pu (wpAny_bind (wpAny_pure ?_)))))
  show wpAny _ _ (pure ((n : Int) - 1, (-1 : Int), Builtin.Slice.slicePlaces ((n : Int) - 1) (-1) (-1))) _ _ s
  rw [places_rev]
  exact wpAny_pure h
theorem getItem_tuple_rev {t sl : Addr} {items : Array Value} {vl vu vs : Value} {Q : Value → Shared → Prop} (ht : IsTup s.heap t items) (hs : s.heap.IsSliceOf sl vl vu vs) (pl : IsPart vl none) (pu : IsPart vu none) (ps : IsPart vs (some (-1)))
    (h : Q (.ref s.heap.objs.size) { s with heap := s.heap.push { cls := .type "tuple", data := .seq items.toList.reverse.toArray } })
    (hsz : items.size ≤ sizeLine) : wpAny (model prog w) A (getItem (.ref t) (.ref sl)) Q E s := by
  have htake : sizeOk (.seq items.toList.reverse.toArray) := by
    show items.toList.reverse.toArray.size ≤ sizeLine
    rw [List.size_toArray, List.length_reverse, Array.length_toList]
    exact hsz
  obtain ⟨os, hos, hcs, hds⟩ := id hs
  have hTs : s.TypeIs (.ref sl) "slice" := ⟨os, hos, hcs⟩
  unfold getItem
  try with_reducible refine wpAny_holding ?_
  first | refine wpAny_bind (wpAny_pure ?_) | skip
  refine wpAny_bind (wpAny_sequenceKey ht.typeIs (by decide) ?_)
  refine wpAny_bind (wpAny_callSpecial?_slot (name := Str.ofString "__getitem__") ht.typeIs PyProof.Rows.slot_tuple_getitem
    (wpAny_call_entry PyProof.Rows.slot_tuple_getitem ht.typeIs entry_tuple_getitem ?_ (args_tuple_getitem _ _)))
  show wpAny _ _ (Builtin.Tuple.tupleItemsOf (.ref t) >>= _) _ _ s
  refine wpAny_bind (tupleItemsOf_ ht ?_)
  refine wpAny_bind (wpAny_typeOf hTs ?_)
  rw [if_pos (by decide)]
  refine wpAny_bind (sliceApplied_rev hs pl pu ps ?_)
  have hno : ¬ (((((items.size : Nat) : Int) - 1) == 0 && (-1 : Int) == 1 && items.size == items.size) = true) := by
    rw [show ((-1 : Int) == 1) = false by decide, Bool.and_false, Bool.false_and]
    exact Bool.false_ne_true
  show wpAny _ _ (if ((((items.size : Nat) : Int) - 1) == 0 && (-1 : Int) == 1 && items.size == items.size) = true then _ else _) _ _ s
  rw [if_neg hno, rev_pick]
  first
    | exact wpAny_bind (m := Builtin.Tuple.tupleExact _) (wpAny_newObj_type (wpAny_pure ⟨_, rfl, wpAny_pure h⟩) htake)
    | exact wpAny_bind (m := Builtin.Tuple.tupleExact _) (wpAny_newObj_type (wpAny_bind (wpAny_pure (wpAny_pure ⟨_, rfl, wpAny_pure h⟩))) htake)
    | exact wpAny_bind (wpAny_bind (m := Builtin.Tuple.tupleExact _) (wpAny_newObj_type (wpAny_pure (wpAny_pure ⟨_, rfl, wpAny_pure h⟩)) htake))
    | exact wpAny_bind (wpAny_bind (m := Builtin.Tuple.tupleExact _) (wpAny_newObj_type (wpAny_pure ⟨_, rfl, wpAny_pure h⟩) htake))
end
section
variable {X : Cx}
def tRevT (K : PySem.W.Frag) (te : TE) : TE := fun σ H Q => te σ H fun x H1 => ∃ a xs, x = .ref a ∧ SqT K H1 a xs ∧ ∀ p, H1 p = none → Q (.ref p) (upd H1 p (.tup xs.reverse))
theorem pe_revT {e : Expr} {te : TE} {k : Nat} {p1 p2 p3 pos : Pos} (he : PE X e te) : PE X (.Subscript e (.Slice none none (some (.UnaryOp .USub (.Constant (.int 1) k p1) p2)) p3) pos) (tRevT X.K te) := by
  refine ⟨fun pins s σ H Q I h => ?_⟩
  refine Subscript_ (thn (he.run pins s σ H _ I h) fun v s1 ⟨x, H1, I1, r1, q1⟩ => ?_)
  obtain ⟨a, xs, ex, hx, q⟩ := q1
  subst ex
  cases r1
  have hst : PO X (some (.UnaryOp .USub (.Constant (.int 1) k p1) p2)) (tPart (tUn (rU fun i => .int (-i)) (tC (.int 1)))) := po_some (pe_un un_neg pe_int)
  refine wpAny_Slice (thn (po_none.run pins s1 σ H1 (fun o H2 => o = none ∧ H2 = H1) I1 ⟨rfl, rfl⟩) fun vl s2 ⟨l, H2, I2, pl, el, e2⟩ => ?_)
  subst el e2
  refine thn (po_none.run pins s2 σ H2 (fun o H3 => o = none ∧ H3 = H2) I2 ⟨rfl, rfl⟩) fun vu s3 ⟨u, H3, I3, pu, eu, e3⟩ => ?_
  subst eu e3
  refine thn (hst.run pins s3 σ H3 (fun o H4 => o = some (-1) ∧ H4 = H3) I3 ⟨1, rfl, -1, rfl, rfl, rfl⟩) fun vs s4 ⟨o, H4, I4, ps, eo, e4⟩ => ?_
  subst eo e4
  have I5 : Inv X pins σ H4 { s4 with heap := s4.heap.push { cls := .type "slice", data := .fields #[vl, vu, vs] } } := I4.kept (t' := s4.toks) fun b ob q => Heap.get?_push_of_some _ q
  obtain ⟨its, r, ht, hz⟩ := I5.tuple hx
  have hlen := r.length
  show wpAny (model X.prog X.w) X.A (subscriptTail e (.Slice none none (some (.UnaryOp .USub (.Constant (.int 1) k p1) p2)) p3) (.ref a) (.ref s4.heap.objs.size)) (EP X pins σ Q) X.xe { s4 with heap := s4.heap.push { cls := .type "slice", data := .fields #[vl, vu, vs] } }
  refine tail_any (ops := [.ref a, .ref s4.heap.objs.size]) ht.typeIs (PyProof.Rows.slot_tuple_getitem.lookup) ?_ (by with_unfolding_all rfl)
  refine getItem_tuple_rev ht (Heap.IsSliceOf.new _ vl vu vs) pl pu ps ?_ (by rw [List.size_toArray]; omega)
  refine ⟨.ref _, _, I5.laid (t' := s4.toks) (o := .tup xs.reverse) (fun b ob q => Heap.get?_push_of_some _ q) (Nat.le_refl _) ?_, rfl, q _ (I5.hok.fresh (Nat.le_refl _))⟩
  exact ⟨by rw [List.length_reverse]; exact hz, _, r.reverse, IsTup.new _ _⟩
end
end W7

namespace K13
open PySem PySem.Spec PyProof.Rows L2 RZ L5 R7 XX
theorem bar_updL {p D : Addr} {o : HO} {H H' : Hp} (b : Bar p H H') (hD : H D = none) : Bar p H (upd H' D o) := fun c u n h => by
  rw [upd_ne (ne_of_none h hD)]
  exact b c u n h
theorem nat_of {i : Int} (h0 : 0 ≤ i) : ∃ n : Nat, i = ((n : Nat) : Int) := ⟨i.toNat, by omega⟩
def Pail (p : Addr) (H : Hp) : Prop := ∃ g x c : Int, H p = some (pailO g x c)
theorem Pail.same {p : Addr} {H H' : Hp} (s : Same H H') : Pail p H → Pail p H' := fun ⟨g, x, c, h⟩ => ⟨g, x, c, s _ _ h⟩
theorem ne_pail {p y : Addr} {H : Hp} (hp : Pail p H) (hy : H y = none) : y ≠ p := fun z => by
  obtain ⟨g, x, c, hp⟩ := hp
  rw [z, hp] at hy
  cases hy
theorem bar_sqt {K : PySem.W.Frag} {p a : Addr} {H H' : Hp} {xs : List V} (hp : Pail p H) (b : Bar p H H') (h : SqT K H a xs) : SqT K H' a xs := by
  obtain ⟨g, x, c, hp⟩ := hp
  exact sqt_but hp (fun c o n h => b c o n h) h
theorem bar_tups {K : PySem.W.Frag} {p : Addr} {H H' : Hp} {rs : List Addr} {L : List (List Nat)} (hp : Pail p H) (b : Bar p H H') (h : Tups K H rs L) : Tups K H' rs L := by
  obtain ⟨g, x, c, hp⟩ := hp
  exact tups_but hp (fun c o n h => b c o n h) h
theorem filter_yes {f : List Nat → Bool} {A : List (List Nat)} {i : Nat} {t : List Nat} (h : A[i]? = some t) (e : f t = true) : (A.take (i + 1)).filter f = (A.take i).filter f ++ [t] := filtN_yes h e
theorem filter_no {f : List Nat → Bool} {A : List (List Nat)} {i : Nat} {t : List Nat} (h : A[i]? = some t) (e : f t = false) : (A.take (i + 1)).filter f = (A.take i).filter f := filtN_no h e
theorem filter_nil_min (A : List (List Nat)) (t : List Nat) : decide ((A.filter fun q => decide (q ≠ t) && M7.fitB q t) = []) = M7.minB A t := by
  unfold M7.minB
  rw [Bool.eq_iff_iff, decide_eq_true_iff, List.filter_eq_nil_iff, Bool.not_eq_true', List.any_eq_false]
theorem least_short (L : List (List Nat)) : (M7.leastN L).length ≤ L.length := Nat.le_trans (List.length_filter_le _ _) (M7.canon_len L)
/-- ones, one for each -/
abbrev ones (c : Nat) : List Int := List.replicate c 1
theorem shaped_intsL (l : List Int) : SeqAt.shaped (.list (l.map PyData.int)) = true := by
  obtain ⟨h1, h2⟩ := Gv.can_ints l
  simp [SeqAt.shaped, PyData.canLay0, PyData.depth, h1, h2]
theorem eqv_nil_L (l : List PyData) : PyData.eqv (.list l) (.list []) = decide (l = []) := Gv.eqv_nilL l
theorem eqv_ones (c : Nat) : PyData.eqv (.list ((ones c).map PyData.int)) (.list []) = decide (c = 0) := by
  rw [eqv_nil_L]
  refine decide_eq_decide.mpr ?_
  cases c with
  | zero => simp
  | succ c => simp [List.replicate_succ]
theorem none_broken {l : List Bool} {i c : Nat} {b : Bool} (h : l[i]? = some b) (e : c = 0 ↔ (l.take i).all id = true) : (c + (if b = true then 0 else 1) = 0 ↔ (l.take (i + 1)).all id = true) := by
  rw [all_take_step h, Bool.and_eq_true, ← e]
  cases b <;> simp
section
variable {P : Program} {w : World} {K : PySem.W.Frag} {mg : Str → Option Value} {base : Heap}
def sp_wdiv (K : PySem.W.Frag) : Sp := fun vs H Q _ => ∃ (p r : Addr) (t u : List Nat), vs = [.ref p, .ref r] ∧ SqT K H p (nv t) ∧ SqT K H r (nv u) ∧ u.length = t.length ∧ t.length ≤ 1000 ∧ ∀ H', Same H H' → Q (.bl (M7.fitB t u)) H'
theorem ok_wdiv (T : Txt K mg) : FnOk P w K mg base CX0 1 T.a_w_divides T.d_w_divides ["_law_one", "_law_other"] (sp_wdiv K) := by
  refine T.F_w_divides.ok sc_w_divides (fun vs H Q E h => ?_) (fun cdv A outer s H vs Q E hr h => ?_)
  · obtain ⟨p, r, t, u, rfl, _⟩ := h
    rfl
  · obtain ⟨p, r, t, u, rfl, hT, hU, hl, hz, q⟩ := h
    refine ⟨_, pss_one (ps_ret (pe_cmpR (op_eqD hr.units)
        (pe_lc (own := [("_law_left", 2), ("_law_right_here", 3)]) (g := gTup K 2 (gCons (gName 2) (gCons (gName 3) gNil))) rfl sc_w_divides.nd (pi_zipA (by rfl) T.z_zip (pa_cons (pv 0) (pa_cons (pv 1) pa_nil)))
          (blkOk_by (own := [("_law_left", 2), ("_law_right_here", 3)]) (N := N_w_divides) (sc := defScope s_w_divides) (by decide +kernel))
          (fun _ _ _ _ _ => pg_tup (by rfl) (pgs_cons (pg_name (i := 2) sc_w_divides.nd rfl (Or.inl rfl)) (pgs_cons (pg_name (i := 3) sc_w_divides.nd rfl (Or.inl rfl)) pgs_nil)))
          (fun _ _ _ _ _ => pts_one (pt_cmpR op_gt (pv 2) (pv 3) (nomark _)))
          (fun _ _ _ _ _ => pe_int)) (pe_lst pa_nil) (nomark _))), ?_⟩
    have fin : (fitL t u).all id = M7.fitB t u := fit_eq t u
    refine ⟨_, rfl, _, rfl, p, r, nv t, nv u, rfl, .inr ⟨hT, hU, fun D hD => ?_⟩⟩
    have s3 := same_new hD (.lst [])
    refine lc_zipT (by rw [nv_len, nv_len, hl]) (fun i H3 => Same H H3 ∧ ∃ k : Nat, H3 D = some (.lst ((ones k).map V.int)) ∧ k ≤ i ∧ (k = 0 ↔ ((fitL t u).take i).all id = true)) ⟨s3, 0, upd_same, Nat.le_refl _, by simp⟩ (fun i H3 hh => ⟨same_sqt hh.1 hT, same_sqt hh.1 hU⟩) (fun i x y T' H3 hx hy hh hT3 => ?_) (fun H3 hh => ?_)
    · obtain ⟨s4, k, eD4, hk, hall⟩ := hh
      obtain ⟨n1, hn1, rfl⟩ := nv_get hx
      obtain ⟨n2, hn2, rfl⟩ := nv_get hy
      have hlt : i < t.length := (List.getElem?_eq_some_iff.mp hn1).1
      have sT : Same H3 (upd H3 T' (.tup [.int ((n1 : Nat) : Int), .int ((n2 : Nat) : Int)])) := same_new hT3 _
      have nb := none_broken (fit_get hn1 hn2) hall
      refine ⟨T', _, rfl, SqT.of upd_same, rfl, _, _, rfl, _, _, rfl, rfl, ?_⟩
      refine ⟨rfl, _, rfl, _, rfl, _, _, rfl, rfl, _, rfl, ite2 (fun cc => ?_) (fun cc => ?_)⟩
      · have c' := of_decide_eq_true cc
        rw [decide_eq_false (show ¬ n1 ≤ n2 by omega)] at nb
        refine ⟨_, sT _ _ eD4, by rw [List.length_map, List.length_replicate]; exact sizeK (by omega), same_updL (s4.trans sT) hD, k + 1, ?_, by omega, nb⟩
        rw [upd_same, show ones (k + 1) = ones k ++ [1] from List.replicate_succ', List.map_append]
        rfl
      · have c' : ¬ ((n1 : Nat) : Int) > ((n2 : Nat) : Int) := fun z => cc (decide_eq_true z)
        rw [decide_eq_true (show n1 ≤ n2 by omega)] at nb
        exact ⟨s4.trans sT, k, sT _ _ eD4, by omega, nb⟩
    · obtain ⟨s4, k, eD4, hk, hall⟩ := hh
      rw [List.take_of_length_le (by rw [nv_len, List.length_zipWith]; omega), fin] at hall
      refine ⟨Nat.zero_le _, fun z hz0 => ?_⟩
      have s5 := same_new hz0 (.lst [])
      refine ⟨_, .list [], .lst (SqL.of (s5 _ _ eD4)) (Gv.dp_ints (ones k)), .lst (SqL.of upd_same) .nil, shaped_intsL _, by decide, ?_⟩
      rw [eqv_ones]
      have e2 : decide (k = 0) = M7.fitB t u := by
        rw [Bool.eq_iff_iff, decide_eq_true_iff]
        exact hall
      rw [e2]
      exact q _ (s4.trans s5)
def sp_wleast (K : PySem.W.Frag) : Sp := fun vs H Q _ => ∃ (l : Addr) (rs : List Addr) (L : List (List Nat)) (d : Nat), vs = [.ref l] ∧ SqA K H l (rs.map V.ref) ∧ Tups K H rs L ∧ L.length < 64 ∧ 1 ≤ d ∧ d ≤ 8 ∧ (∀ t ∈ L, t.length = d) ∧ (∀ t ∈ L, ∀ e ∈ t, e ≤ 60) ∧
  ∀ H' q rs', Same H H' → SqT K H' q (rs'.map V.ref) → Tups K H' rs' (M7.leastN L) → Q (.ref q) H'
theorem ok_wleast (T : Txt K mg) : FnOk P w K mg base CX0 2 T.a_w_least T.d_w_least ["_law_products"] (sp_wleast K) := by
  refine T.F_w_least.ok sc_w_least (fun vs H Q E h => ?_) (fun cdv A outer s H vs Q E hr h => ?_)
  · obtain ⟨l, rs, L, d, rfl, _⟩ := h
    rfl
  · obtain ⟨l, rs, L, d, rfl, hA, hL, hz, hd1, hd8, hd, hB, q⟩ := h
    refine ⟨_, pss_cons (ps_set (i := 1) sc_w_least.nd rfl (Or.inl rfl) (pe_sset rfl hr.units (by rfl) T.z_sorted (by rfl) T.z_set (pv 0)))
      (pss_cons (ps_set (i := 2) sc_w_least.nd rfl (Or.inl rfl) (pe_lst pa_nil))
      (pss_cons (ps_for PassesOwn.never rfl (pi_list (pv 1)) (pg_name (i := 3) sc_w_least.nd rfl (Or.inr rfl))
        (pss_one (ps_if (pt_cmpR (op_eqD hr.units)
          (pe_lc (own := [("_law_other", 4)]) (g := gName 4) rfl sc_w_least.nd (pi_list (pv 1)) (blkOk_by (own := [("_law_other", 4)]) (N := N_w_least) (sc := defScope s_w_least) (by decide +kernel))
            (fun _ _ _ _ _ => pg_name (i := 4) sc_w_least.nd rfl (Or.inl rfl))
            (fun _ _ _ _ _ => pts_one (PW.pt (pw_and (pt_cmpR (show OpR _ _ (rNeD K) from op_neD hr.units) (pv 4) (pv 3) (nomark _)) (pw_and1 (pt_val (pe_call (ok_wdiv T) hr (by rfl) T.m_w_divides T.F_w_divides.kp T.b_w_divides .nil pass0 (pa_cons (pv 4) (pa_cons (pv 3) pa_nil))))))))
            (fun _ _ _ _ _ => pv 4)) (pe_lst pa_nil) (nomark _))
          (pss_one (ps_expr (pe_bm PySem.F.plainAttrs_list PySem.F.slot_list_append PySem.F.type_list_append mt_append (pv 2) (pa_cons (pv 3) pa_nil)))) pss_nil)))
      (pss_one (ps_ret (pe_callTy call_tuple_of (by rfl) T.z_tuple boot_tuple (pa_cons (pv 2) pa_nil)))))), ?_⟩
    refine ⟨_, rfl, l, rs, L, d, 61, rfl, hA, hL, hz, hd1, hd, fun t ht e he => Nat.lt_succ_of_le (hB t ht e he), fun H1 y qs s1 hyf hy hT => ?_⟩
    have hlc : qs.length = (M7.canonN L).length := hT.length
    have hcl := M7.canon_len L
    have hdc : ∀ t ∈ M7.canonN L, t.length = d := fun t ht => hd t (M7.mem_canon.mp ht)
    have e0 : M7.leastN L = (M7.canonN L).filter (M7.minB (M7.canonN L)) := rfl
    rw [e0] at q
    generalize M7.canonN L = B at hT hlc hcl hdc q
    have flen : ∀ (f : List Nat → Bool) (i : Nat), ((B.take i).filter f).length ≤ 1000000 := fun f i => by
      have h1 := List.length_filter_le f (B.take i)
      rw [List.length_take] at h1
      omega
    refine ⟨by show 0 ≤ sizeLine; exact Nat.zero_le _, fun D hD => ?_⟩
    have sD := same_new hD (.lst [])
    have hyD : (upd H1 D (.lst [])) y = some (.lst (qs.map V.ref)) := sD _ _ hy
    have hDy : D ≠ y := fun e => by rw [e, hy] at hD; cases hD
    refine ⟨_, rfl, y, rfl, ⟨_, SqL.of hyD⟩, for_list (K := K) (a := y) (xs := qs.map V.ref) (fun i σ H' => ∃ (v3 : Option V) (ds : List Addr), σ = [some (.ref l), some (.ref y), some (.ref D), v3, none] ∧ Same H1 H' ∧ H' D = some (.lst (ds.map V.ref)) ∧ Tups K H' ds ((B.take i).filter (M7.minB B))) ⟨none, [], rfl, sD, upd_same, .nil⟩ (fun i σ H' _ ⟨_, _, _, sm, _⟩ => SqL.of (sm _ _ hy)) ?_ ?_⟩
    · rintro i x σ H' hx ⟨v3, ds, rfl, sm, eD, hTd⟩
      obtain ⟨a, t, rfl, _, ht, hs⟩ := tups_get (hT.same sm) hx
      have htd := hdc t (List.mem_of_getElem? ht)
      refine ⟨_, rfl, y, rfl, ⟨_, SqL.of (sm _ _ hy)⟩, fun D2 hD2 => ?_⟩
      have sD2 := same_new hD2 (.lst [])
      refine lc_list (K := K) (a := y) (xs := qs.map V.ref) (fun j H2 => Same H' H2 ∧ ∃ es : List Addr, H2 D2 = some (.lst (es.map V.ref)) ∧ Tups K H2 es ((B.take j).filter fun q => decide (q ≠ t) && M7.fitB q t)) ⟨sD2, [], upd_same, .nil⟩ (fun j H2 _ h => SqL.of (h.1 _ _ (sm _ _ hy))) (fun j x H2 hx2 hh => ?_) (fun H2 hh => ?_)
      · obtain ⟨s2, es, eD2, hTe⟩ := hh
        obtain ⟨b, u, rfl, _, hu, hsu⟩ := tups_get ((hT.same sm).same s2) hx2
        have hud := hdc u (List.mem_of_getElem? hu)
        have hs2 := same_sqt s2 hs
        refine ⟨rfl, _, rfl, _, rfl, _, _, dp_tup hsu, dp_tup hs2, shaped_tup u, shaped_tup t, _, rfl, ?_⟩
        rw [eqv_tupE]
        by_cases hut : u = t
        · rw [decide_eq_true hut]
          refine iteF (iteF ⟨s2, es, eD2, ?_⟩)
          rw [filter_no hu (by rw [decide_eq_false (fun h => h hut), Bool.false_and])]
          exact hTe
        · rw [decide_eq_false hut]
          refine iteT ⟨_, rfl, _, rfl, b, a, u, t, rfl, hsu, hs2, by rw [hud, htd], by omega, fun H3 s3 => ⟨_, rfl, ?_⟩⟩
          have eD3 := s3 _ _ eD2
          cases hf : M7.fitB u t with
          | true =>
            refine iteT ⟨_, rfl, _, eD3, by rw [List.length_map, show es.length = _ from hTe.length]; exact sizeK (flen _ j), same_updL (s2.trans s3) hD2, es ++ [b], by rw [upd_same, List.map_append]; rfl, ?_⟩
            rw [filter_yes hu (by rw [hf, decide_eq_true (show u ≠ t from hut)]; rfl)]
            exact ((hTe.same s3).updL eD3).app (.cons (sqt_updL eD3 (same_sqt s3 hsu)) .nil)
          | false =>
            refine iteF ⟨s2.trans s3, es, eD3, ?_⟩
            rw [filter_no hu (by rw [hf, Bool.and_false])]
            exact hTe.same s3
      · obtain ⟨s2, es, eD2, hTe⟩ := hh
        rw [List.length_map, hlc, List.take_length] at hTe
        refine ⟨Nat.zero_le _, fun z hz8 => ?_⟩
        have s8 := same_new hz8 (.lst [])
        refine ⟨_, .list [], .lst (SqL.of (s8 _ _ eD2)) (dp_tups (hTe.same s8)), .lst (SqL.of upd_same) .nil, shaped_tups _, by decide, _, rfl, ?_⟩
        have S := s2.trans s8
        have eD3 := S _ _ eD
        have e3 : PyData.eqv (.list ((B.filter fun q => decide (q ≠ t) && M7.fitB q t).map encT)) (.list []) = M7.minB B t := by
          rw [eqv_nil_L, ← filter_nil_min]
          exact decide_eq_decide.mpr List.map_eq_nil_iff
        rw [e3]
        cases hf : M7.minB B t with
        | true =>
          refine iteT ⟨_, rfl, .inl ⟨rfl, _, SqL.of eD3⟩, _, rfl, D, _, _, rfl, rfl, eD3, by rw [List.length_map, show ds.length = _ from hTd.length]; exact sizeK (flen _ i), ?_⟩
          refine ⟨_, ds ++ [a], rfl, same_updL (sm.trans S) hD, by rw [upd_same, List.map_append]; rfl, ?_⟩
          rw [filter_yes ht hf]
          exact ((hTd.same S).updL eD3).app (.cons (sqt_updL eD3 (same_sqt S hs)) .nil)
        | false =>
          refine iteF ⟨_, ds, rfl, sm.trans S, eD3, ?_⟩
          rw [filter_no ht hf]
          exact hTd.same S
    · rintro σ H' ⟨v3, ds, rfl, sm, eD, hTd⟩
      rw [List.length_map, hlc, List.take_length] at hTd
      refine ⟨_, rfl, D, _, rfl, .inl ⟨SqL.of eD, fun z hz2 => ?_⟩⟩
      have s9 := same_new hz2 (.tup (ds.map V.ref))
      exact q _ z ds (s1.trans (sm.trans s9)) (SqT.of upd_same) (hTd.same s9)
end
end K13

namespace K13
open PySem PySem.Spec PyProof.Rows L2 RZ L5 R7 XX
section
variable {P : Program} {w : World} {K : PySem.W.Frag} {mg : Str → Option Value} {base : Heap}
/-! ### the law's own sets of letters, products and members by chance -/
def sp_wprod (K : PySem.W.Frag) : Sp := fun vs H Q _ => ∃ (p : Addr) (l mm : Nat), vs = [.ref p, .int ((l : Nat) : Int), .int ((mm : Nat) : Int)] ∧ Pail p H ∧ l ≤ 8 ∧ mm ≤ 60 ∧
  ∀ H' z t, Bar p H H' → Pail p H' → SqT K H' z (nv t) → t.length = l → (∀ e ∈ t, e ≤ mm) → Q (.ref z) H'
theorem ok_wprod (T : Txt K mg) : FnOk P w K mg base CX0 2 T.a_w_product T.d_w_product ["_law_jug_here", "_law_letters", "_law_most"] (sp_wprod K) := by
  refine T.F_w_product.ok sc_w_product (fun vs H Q E h => ?_) (fun cdv A outer s H vs Q E hr h => ?_)
  · obtain ⟨p, l, mm, rfl, _⟩ := h
    rfl
  · obtain ⟨p, l, mm, rfl, hp, h8, m10, q⟩ := h
    refine ⟨_, pss_cons (ps_set (i := 3) sc_w_product.nd rfl (Or.inl rfl) (pe_lst pa_nil))
      (pss_cons (ps_for PassesOwn.never rfl (pi_range1 rfl T.z_range (pa_cons (pv 1) pa_nil)) (pg_name (i := 4) sc_w_product.nd rfl (Or.inl rfl))
        (pss_one (ps_expr (pe_bm PySem.F.plainAttrs_list PySem.F.slot_list_append PySem.F.type_list_append mt_append (pv 3) (pa_cons
          (PE.weak (t' := fun σ' H' Q' => ∃ (a l4 v4 : Option V), σ' = [some (.ref p), a, some (.int ((mm : Nat) : Int)), l4, v4] ∧ Pail p H' ∧ ∀ (n : Nat) H2, n ≤ mm → Pail p H2 → (∀ b, b ≠ p → H2 b = H' b) → Q' (.int ((n : Nat) : Int)) H2)
            (pe_ifExp (pt_cmpR op_eq (pe_call (ok_dip T) hr (by rfl) T.m_w_pour T.F_w_pour.kp T.b_w_pour .nil pass0 (pa_cons (pv 0) (pa_cons pe_int pa_nil))) pe_int (nomark _)) pe_int
              (pe_call (ok_dip T) hr (by rfl) T.m_w_pour T.F_w_pour.kp T.b_w_pour .nil pass0 (pa_cons (pv 0) (pa_cons (pe_op op_add (pv 2) pe_int) pa_nil)))) ?imp) pa_nil)))))
      (pss_one (ps_ret (pe_callTy call_tuple_of (by rfl) T.z_tuple boot_tuple (pa_cons (pv 3) pa_nil))))), ?_⟩
    case imp =>
      rintro σ' H' Q' ⟨a, l4, v4, rfl, ⟨g, x, c, hp⟩, q'⟩
      refine ⟨_, rfl, p, _, g, x, c, rfl, hp, by decide, by decide, fun g2 x2 c2 r hr0 hr1 => ?_⟩
      refine ⟨rfl, _, rfl, ite2 (fun cc => ?_) (fun cc => ?_)⟩
      · exact q' 0 _ (Nat.zero_le _) ⟨_, _, _, upd_same⟩ fun b n => upd_ne n
      · refine ⟨_, rfl, _, rfl, _, _, rfl, rfl, p, _, g2, x2, c2, rfl, upd_same, by omega, by omega, fun g3 x3 c3 r2 h20 h21 => ?_⟩
        obtain ⟨n, rfl⟩ := nat_of h20
        exact q' n _ (by omega) ⟨_, _, _, upd_same⟩ fun b n => by rw [upd_ne n, upd_ne n]
    refine ⟨by show 0 ≤ sizeLine; exact Nat.zero_le _, fun D hD => ?_⟩
    have hDp := ne_pail hp hD
    have sD := same_new hD (.lst [])
    refine ⟨_, rfl, _, rfl, by omega, by omega, ?_⟩
    refine for_range (lo := 0) (n := (((l : Nat) : Int)).toNat) (fun i σ H' => ∃ (v4 : Option V) (t : List Nat), σ = [some (.ref p), some (.int ((l : Nat) : Int)), some (.int ((mm : Nat) : Int)), some (.ref D), v4] ∧ Bar p H H' ∧ Pail p H' ∧ H' D = some (.lst (nv t)) ∧ t.length = i ∧ ∀ e ∈ t, e ≤ mm)
      ⟨none, [], rfl, Bar.same sD, hp.same sD, upd_same, rfl, fun _ h => nomatch h⟩ ?_ ?_
    · rintro i σ H1 hi ⟨v4, t, rfl, b1, p1, hD1, hl1, ht1⟩
      have hi8 : i < l := hi
      refine ⟨_, rfl, .inl ⟨rfl, _, SqL.of hD1⟩, _, _, _, rfl, p1, fun n H2 hn p2 same => ?_⟩
      have hD2 : H2 D = some (.lst (nv t)) := by rw [same D hDp]; exact hD1
      have b2 : Bar p H H2 := b1.trans fun b o nb h => by rw [same b nb]; exact h
      refine ⟨D, _, _, rfl, rfl, hD2, by rw [nv_len]; exact sizeK (by omega), ?_⟩
      obtain ⟨g2, x2, c2, hp2⟩ := p2
      refine ⟨_, t ++ [n], rfl, bar_updL b2 hD, ⟨g2, x2, c2, by rw [upd_ne (Ne.symm hDp)]; exact hp2⟩, ?_, by rw [List.length_append, hl1]; rfl, fun e he => ?_⟩
      · rw [upd_same]
        unfold nv
        rw [List.map_append]
        rfl
      · rcases List.mem_append.mp he with he | he
        · exact ht1 e he
        · rw [List.mem_singleton.mp he]
          exact hn
    · rintro σ H1 ⟨v4, t, rfl, b1, p1, hD1, hl1, ht1⟩
      have hl2 : t.length = l := hl1
      refine ⟨_, rfl, D, _, rfl, .inl ⟨SqL.of hD1, fun z hz => ?_⟩⟩
      have s2 := same_new hz (.tup (nv t))
      exact q _ z t (b1.trans (Bar.same s2)) (p1.same s2) (SqT.of upd_same) hl2 ht1
def sp_wmem (K : PySem.W.Frag) : Sp := fun vs H Q _ => ∃ (p : Addr) (l many mm : Nat), vs = [.ref p, .int ((l : Nat) : Int), .int ((many : Nat) : Int), .int ((mm : Nat) : Int)] ∧ Pail p H ∧ 1 ≤ l ∧ l ≤ 8 ∧ many ≤ 10 ∧ mm ≤ 60 ∧
  ∀ H' z rs L, Bar p H H' → Pail p H' → SqT K H' z (rs.map V.ref) → Tups K H' rs (M7.leastN L) → L.length ≤ many → (∀ t ∈ L, t.length = l) → (∀ t ∈ L, ∀ e ∈ t, e ≤ mm) → Q (.ref z) H'
theorem ok_wmem (T : Txt K mg) : FnOk P w K mg base CX0 3 T.a_w_members T.d_w_members ["_law_jug_here", "_law_letters", "_law_total", "_law_most"] (sp_wmem K) := by
  refine T.F_w_members.ok sc_w_members (fun vs H Q E h => ?_) (fun cdv A outer s H vs Q E hr h => ?_)
  · obtain ⟨p, l, many, mm, rfl, _⟩ := h
    rfl
  · obtain ⟨p, l, many, mm, rfl, ⟨g, x, c, hp⟩, h1, h8, hmany, m10, q⟩ := h
    refine ⟨_, pss_one (ps_ret (pe_call (ok_wleast T) hr (by rfl) T.m_w_least T.F_w_least.kp T.b_w_least .nil pass0 (pa_cons
      (pe_lc (own := [("_law_turn", 4)]) (g := gName 4) (tt := tYes) rfl sc_w_members.nd (pi_range1 rfl T.z_range (pa_cons (pe_call (ok_dip T) (hr.mono (by decide)) (by rfl) T.m_w_pour T.F_w_pour.kp T.b_w_pour .nil pass0 (pa_cons (pv 0) (pa_cons (pe_op op_add (pv 2) pe_int) pa_nil))) pa_nil)) (blkOk_by (own := [("_law_turn", 4)]) (N := N_w_members) (sc := defScope s_w_members) (by decide +kernel))
        (fun _ _ _ _ _ => pg_name (i := 4) sc_w_members.nd rfl (Or.inl rfl)) (fun _ _ _ _ _ => pts_nil)
        (fun _ _ _ _ _ => pe_call (ok_wprod T) hr (by rfl) T.m_w_product T.F_w_product.kp T.b_w_product .nil pass0 (pa_cons (pv 0) (pa_cons (pv 1) (pa_cons (pv 3) pa_nil))))) pa_nil))), ?_⟩
    refine ⟨_, rfl, _, rfl, _, _, rfl, rfl, p, _, g, x, c, rfl, hp, by omega, by omega, fun g0 x0 c0 r hr0 hr1 => ?_⟩
    obtain ⟨n, rfl⟩ := nat_of hr0
    have hp0 : Pail p (upd H p (pailO g0 x0 c0)) := ⟨_, _, _, upd_same⟩
    have sb0 : Bar p H (upd H p (pailO g0 x0 c0)) := Bar.upd
    generalize upd H p (pailO g0 x0 c0) = H0 at hp0 sb0 ⊢
    refine ⟨_, rfl, by omega, by omega, fun D hD => ?_⟩
    have hDp := ne_pail hp0 hD
    have sD := same_new hD (.lst [])
    refine lc_range (lo := 0) (n := ((n : Nat) : Int).toNat) (fun i H' => ∃ (rs : List Addr) (L : List (List Nat)), Bar p H0 H' ∧ Pail p H' ∧ H' D = some (.lst (rs.map V.ref)) ∧ Tups K H' rs L ∧ L.length = i ∧ (∀ t ∈ L, t.length = l) ∧ ∀ t ∈ L, ∀ e ∈ t, e ≤ mm)
      ⟨[], [], Bar.same sD, hp0.same sD, upd_same, .nil, rfl, fun _ h => (nomatch h), fun _ h => (nomatch h)⟩ (fun i H' hi h => ?_) (fun H' h => ?_)
    · obtain ⟨rs, L, sb, hp1, eD, hT, hz, hl, ht⟩ := h
      refine ⟨rfl, _, rfl, _, rfl, _, rfl, p, l, mm, rfl, hp1, h8, m10, fun H2 z t b2 hp2 hz2 hzl hzt => ?_⟩
      have eD2 : H2 D = some (.lst (rs.map V.ref)) := b2 D _ hDp eD
      have hrl : rs.length = L.length := hT.length
      have hin : i < n := by
        have : i < ((n : Nat) : Int).toNat := hi
        omega
      obtain ⟨g2, x2, c2, hq2⟩ := hp2
      refine ⟨_, eD2, by rw [List.length_map]; exact sizeK (by omega), rs ++ [z], L ++ [t], bar_updL (sb.trans b2) hD, ⟨g2, x2, c2, by rw [upd_ne (Ne.symm hDp)]; exact hq2⟩, by rw [upd_same, List.map_append]; rfl, ((bar_tups hp1 b2 hT).updL eD2).app (.cons (sqt_updL eD2 hz2) .nil), by rw [List.length_append, hz]; rfl, fun u hu => ?_, fun u hu => ?_⟩
      · rcases List.mem_append.mp hu with hu | hu
        · exact hl u hu
        · rw [List.mem_singleton.mp hu]
          exact hzl
      · rcases List.mem_append.mp hu with hu | hu
        · exact ht u hu
        · rw [List.mem_singleton.mp hu]
          exact hzt
    · obtain ⟨rs, L, sb, hp1, eD, hT, hz, hl, ht⟩ := h
      have hzn : L.length = n := hz
      refine ⟨D, rs, L, l, rfl, .inl (SqL.of eD), hT, by omega, h1, h8, hl, fun t htm e he => Nat.le_trans (ht t htm e he) m10, fun H2 z rs' s2 hz2 hT2 => ?_⟩
      exact q H2 z rs' L (sb0.trans (sb.trans (Bar.same s2))) (hp1.same s2) hz2 hT2 (by omega) hl ht
end
end K13

namespace K13
open PySem PySem.Spec PyProof.Rows L2 RZ L5 R7 XX
open M12 DD M13
open L6 (C)
theorem C_pow : ∀ n k : Nat, C n k ≤ n ^ k
  | n, 0 => by rw [L6.C_zero]; exact Nat.le_refl 1
  | 0, k + 1 => by rw [L6.C_over (Nat.succ_pos k)]; exact Nat.zero_le _
  | n + 1, k + 1 => by
    rw [L6.C_succ]
    have h1 := C_pow n k
    have h2 := C_pow n (k + 1)
    have h3 : n ^ k ≤ (n + 1) ^ k := Nat.pow_le_pow_left (Nat.le_succ n) k
    have h4 : n ^ (k + 1) = n ^ k * n := rfl
    have h5 : (n + 1) ^ (k + 1) = (n + 1) ^ k * n + (n + 1) ^ k := by rw [Nat.pow_succ, Nat.mul_add, Nat.mul_one]
    have h6 : n ^ k * n ≤ (n + 1) ^ k * n := Nat.mul_le_mul_right n h3
    omega
theorem C_small {n k : Nat} (hn : n ≤ 6000) (hk : k ≤ 4) : C n k < 2 ^ 64 := by
  have h1 := C_pow n k
  have h2 : n ^ k ≤ 6000 ^ k := Nat.pow_le_pow_left hn k
  have h3 : 6000 ^ k ≤ 6000 ^ 4 := Nat.pow_le_pow_right (by decide) hk
  have h4 : 6000 ^ 4 < 2 ^ 64 := by decide
  omega
/-- the law's choices -/
def chI (a : Int) (k : Nat) : Int := if k = 0 then 1 else ((C a.toNat k : Nat) : Int)
theorem ch_step (n t : Nat) : ((C n t : Nat) : Int) * (((n : Nat) : Int) - ((t : Nat) : Int)) / (((t : Nat) : Int) + 1) = ((C n (t + 1) : Nat) : Int) := by
  by_cases h : t ≤ n
  · have e := L6.C_next n t h
    have e2 : ((C n t : Nat) : Int) * (((n : Nat) : Int) - ((t : Nat) : Int)) = ((C n (t + 1) : Nat) : Int) * (((t : Nat) : Int) + 1) := by
      have := congrArg (fun x : Nat => (x : Int)) e
      rw [Nat.mul_comm (t + 1), Nat.mul_comm (n - t)] at this
      have h3 : (((C n t * (n - t) : Nat)) : Int) = ((C n t : Nat) : Int) * (((n : Nat) : Int) - ((t : Nat) : Int)) := by
        rw [Int.natCast_mul, Int.ofNat_sub h]
      rw [← h3, ← show (((C n (t + 1) * (t + 1) : Nat)) : Int) = ((C n (t + 1) : Nat) : Int) * (((t : Nat) : Int) + 1) from by rw [Int.natCast_mul]; rfl]
      exact this.symm
    rw [e2, Int.mul_ediv_cancel _ (by omega)]
  · rw [L6.C_over (by omega : n < t), L6.C_over (by omega : n < t + 1)]
    show (0 : Int) * _ / _ = 0
    rw [Int.zero_mul, Int.zero_ediv]
section
variable {P : Program} {w : World} {K : PySem.W.Frag} {mg : Str → Option Value} {base : Heap}
def sp_wch : Sp := fun vs H Q _ => ∃ (a : Int) (k : Nat), vs = [.int a, zV k] ∧ (k = 0 ∨ 0 ≤ a) ∧ a ≤ 6000 ∧ k ≤ 8 ∧ ∀ H', Same H H' → Q (.int (chI a k)) H'
theorem ok_wch (T : Txt K mg) : FnOk P w K mg base CX0 1 T.a_w_choices T.d_w_choices ["_law_top", "_law_bottom"] sp_wch := by
  refine T.F_w_choices.ok sc_w_choices (fun vs H Q E h => ?_) (fun cdv A outer s H vs Q E hr h => ?_)
  · obtain ⟨a, k, rfl, _⟩ := h
    rfl
  · obtain ⟨a, k, rfl, ha, hb, hk, q⟩ := h
    refine ⟨_, (pss_cons (ps_set (i := 2) sc_w_choices.nd rfl (Or.inl rfl) pe_int)
      (pss_cons (ps_for PassesOwn.never rfl (pi_range1 rfl T.z_range (pa_cons (pv 1) pa_nil)) (pg_name (i := 3) sc_w_choices.nd rfl (Or.inl rfl))
      (pss_one (ps_set (i := 2) sc_w_choices.nd rfl (Or.inl rfl) (pe_op op_fdiv (pe_op op_mul (pv 2) (pe_op op_sub (pv 0) (pv 3))) (pe_op op_add (pv 3) pe_int)))))
      (pss_one (ps_ret (pv 2))))), ?_⟩
    refine ⟨_, rfl, _, rfl, by omega, by omega, ?_⟩
    refine for_range (lo := 0) (n := k) (fun i σ H' => ∃ v3 : Option V, σ = [some (.int a), some (zV k), some (.int (chI a i)), v3] ∧ Same H H') ⟨none, rfl, Same.refl H⟩ ?_ ?_
    · rintro i σ H1 hi ⟨v3, rfl, s1⟩
      have hi' : i < k := hi
      obtain ⟨n, rfl⟩ := Int.eq_ofNat_of_zero_le (by omega : 0 ≤ a)
      rw [show (0 : Int) + ((i : Nat) : Int) = ((i : Nat) : Int) from Int.zero_add _]
      have e : chI ((n : Nat) : Int) i * (((n : Nat) : Int) - ((i : Nat) : Int)) / (((i : Nat) : Int) + 1) = chI ((n : Nat) : Int) (i + 1) := by
        have e1 : ∀ t, chI ((n : Nat) : Int) t = ((C n t : Nat) : Int) := fun t => by
          unfold chI
          by_cases h : t = 0
          · rw [if_pos h, h, L6.C_zero]
            rfl
          · rw [if_neg h]
            rfl
        rw [e1, e1]
        exact ch_step n i
      refine ⟨_, rfl, _, rfl, _, rfl, _, _, rfl, rfl, _, _, rfl, rfl, .inr ⟨by omega, by omega⟩, _, rfl, _, _, rfl, rfl, _, _, rfl, rfl, ?_, ?_⟩
      · exact ⟨by omega, by omega⟩
      · exact ⟨_, by rw [← e]; rfl, s1⟩
    · rintro σ H1 ⟨v3, rfl, s1⟩
      exact ⟨_, rfl, q H1 s1⟩
def atS (r : List Int) (t : Nat) : Int := sumR (fun k => r.getD k 0 * ((C t k : Nat) : Int)) r.length
def sp_wat (K : PySem.W.Frag) : Sp := fun vs H Q _ => ∃ (z : Addr) (r : List Int) (t : Nat), vs = [.ref z, zV t] ∧ SqT K H z (r.map V.int) ∧ r.length ≤ 5 ∧ t ≤ 5000 ∧ ∀ H', Same H H' → Q (.int (atS r t)) H'
theorem ok_wat (T : Txt K mg) : FnOk P w K mg base CX0 2 T.a_w_at T.d_w_at ["_law_row", "_law_degree"] (sp_wat K) := by
  refine T.F_w_at.ok sc_w_at (fun vs H Q E h => ?_) (fun cdv A outer s H vs Q E hr h => ?_)
  · obtain ⟨z, r, t, rfl, _⟩ := h
    rfl
  · obtain ⟨z, r, t, rfl, hz, hrl, ht, q⟩ := h
    refine ⟨_, (pss_one (ps_ret (pe_callB (cr_sum rfl) (by rfl) T.z_sum boot_sum (pa_cons (pe_lc (own := [("_law_at_here", 2), ("_law_entry", 3)]) (g := gTup K 2 (gCons (gName 2) (gCons (gName 3) gNil))) (tt := tYes) rfl sc_w_at.nd (show PI _ _ _ (iEnumT K _) from pi_enumT (by rfl) T.z_enumerate (pa_cons (pv 0) pa_nil)) (blkOk_by (own := [("_law_at_here", 2), ("_law_entry", 3)]) (N := N_w_at) (sc := defScope s_w_at) (by decide +kernel)) (fun _ _ _ _ _ => (pg_tup (by rfl) (pgs_cons (pg_name (i := 2) sc_w_at.nd rfl (Or.inl rfl)) (pgs_cons (pg_name (i := 3) sc_w_at.nd rfl (Or.inl rfl)) pgs_nil)))) (fun _ _ _ _ _ => pts_nil) (fun _ _ _ _ _ => (pe_op op_mul (pv 3) (pe_call  (ok_wch T) (hr.mono (by decide)) (by rfl) T.m_w_choices T.F_w_choices.kp T.b_w_choices .nil pass0 (pa_cons (pv 1) (pa_cons (pv 2) pa_nil)))))) pa_nil)))), ?_⟩
    refine ⟨_, rfl, z, _, rfl, hz, fun D hD => ?_⟩
    have sD := same_new hD (.lst [])
    refine lc_enumT (K := K) (a := z) (xs := r.map V.int) (fun j H2 => Same H H2 ∧ H2 D = some (.lst (((List.range j).map fun k => r.getD k 0 * ((C t k : Nat) : Int)).map V.int))) ⟨sD, upd_same⟩ (fun j H2 h => same_sqt h.1 hz) ?_ ?_
    · rintro j x D2 H2 hx ⟨s2, hD2⟩ hfree
      have hj : j < r.length := by
        have := (List.getElem?_eq_some_iff.mp hx).1
        rw [List.length_map] at this
        exact this
      have hcy : r[j]? = some (r.getD j 0) := by rw [List.getD_eq_getElem?_getD, List.getElem?_eq_getElem hj]; rfl
      rw [List.getElem?_map, hcy] at hx
      obtain rfl := Option.some.inj hx
      have sT := same_new hfree (.tup [V.int ((j : Nat) : Int), V.int (r.getD j 0)])
      have hD3 := sT _ _ hD2
      refine ⟨D2, _, rfl, SqT.of upd_same, rfl, _, _, rfl, _, _, rfl, rfl, ?_⟩
      have hsm := C_small (n := t) (k := j) (by omega) (by omega)
      have ech : chI ((t : Nat) : Int) j = ((C t j : Nat) : Int) := by
        unfold chI
        by_cases h : j = 0
        · rw [if_pos h, h, L6.C_zero]
          rfl
        · rw [if_neg h]
          rfl
      refine ⟨rfl, _, rfl, _, rfl, _, rfl, _, j, rfl, by omega, by omega, by omega, fun H4 s4 => ?_⟩
      rw [ech]
      refine ⟨_, _, rfl, rfl, .inr ⟨by omega, by omega⟩, _, s4 _ _ hD3, by rw [List.length_map, List.length_map, List.length_range]; exact sizeK (by omega), same_updL (s2.trans (sT.trans s4)) hD, ?_⟩
      rw [upd_same, List.range_succ, List.map_append, List.map_append]
      rfl
    · rintro H2 ⟨s2, hD2⟩
      rw [List.length_map] at hD2
      exact ⟨D, _, rfl, SqL.of hD2, q _ s2⟩
theorem flat_one {α : Type} (x : α) : ∀ n : Nat, (List.replicate n [x]).flatten = List.replicate n x
  | 0 => rfl
  | n + 1 => by
    rw [List.replicate_succ, List.flatten_cons, flat_one x n, List.replicate_succ]
    rfl
theorem range_set {D l : Nat} {F F' : Nat → Int} (hl : l < D) (h : ∀ i, i ≠ l → F' i = F i) : ((List.range D).map F).set l (F' l) = (List.range D).map F' := by
  refine List.ext_getElem? fun i => ?_
  rw [List.getElem?_set, List.getElem?_map, List.getElem?_map, List.length_map, List.length_range]
  by_cases e : l = i
  · rw [if_pos e, if_pos hl, ← e, List.getElem?_range hl]
    rfl
  · rw [if_neg e]
    by_cases hi : i < D
    · rw [List.getElem?_range hi]
      show some (F i) = some (F' i)
      rw [h i (fun z => e z.symm)]
    · rw [List.getElem?_eq_none (by rw [List.length_range]; omega)]
      rfl
theorem ch_small {a : Int} {k : Nat} (ha : a ≤ 6000) (hk : k ≤ 4) : 0 ≤ chI a k ∧ chI a k < 2 ^ 64 := by
  unfold chI
  by_cases h : k = 0
  · rw [if_pos h]
    decide
  · rw [if_neg h]
    have := C_small (n := a.toNat) (k := k) (by omega) hk
    omega
def phiI (g : Int → Int) (s l j : Nat) : Int := dif (l + j) g 0 * sgn j * chI (((s : Nat) : Int) + j - 1) j
def mvL (g : Int → Int) (s D A i : Nat) : List Int := (List.range D).map fun l => sumR (phiI g s l) (if l < i then A + 1 - l else A - l)
theorem mv_next (g : Int → Int) (s D A : Nat) : mvL g s D A (A + 1) = mvL g s D (A + 1) 0 := by
  unfold mvL
  refine List.map_congr_left fun l _ => ?_
  rw [if_neg (Nat.not_lt_zero l)]
  by_cases h : l < A + 1
  · rw [if_pos h]
  · rw [if_neg h, show A - l = A + 1 - l by omega]
theorem mv_set (g : Int → Int) (s D A i : Nat) (hi : i ≤ A) (hA : A < D) : (mvL g s D A i).set i (sumR (phiI g s i) (A - i) + phiI g s i (A - i)) = mvL g s D A (i + 1) := by
  unfold mvL
  have := range_set (D := D) (l := i) (F := fun l => sumR (phiI g s l) (if l < i then A + 1 - l else A - l)) (F' := fun l => sumR (phiI g s l) (if l < i + 1 then A + 1 - l else A - l)) (by omega) (fun l hl => by
    by_cases h : l < i
    · rw [if_pos h, if_pos (by omega)]
    · rw [if_neg h, if_neg (by omega)])
  rw [← this]
  congr 1
  rw [if_pos (Nat.lt_succ_self i), show A + 1 - i = (A - i) + 1 by omega, sumR_succ]
theorem mv_len (g : Int → Int) (s D A i : Nat) : (mvL g s D A i).length = D := by
  unfold mvL
  rw [List.length_map, List.length_range]
theorem mv_at (g : Int → Int) (s D A i : Nat) (hi : i ≤ A) (hA : A < D) : (mvL g s D A i)[i]? = some (sumR (phiI g s i) (A - i)) := by
  unfold mvL
  rw [List.getElem?_map, List.getElem?_range (by omega)]
  show some (sumR _ (if i < i then _ else _)) = _
  rw [if_neg (Nat.lt_irrefl i)]
theorem cut_both (xs : List V) (p q : Nat) (h : q ≤ xs.length) (hp : p ≤ q) : cutV xs (some ((p : Nat) : Int)) (some ((q : Nat) : Int)) = (xs.drop p).take (q - p) := by
  have e1 : HT.sIx xs.length 0 (some ((p : Nat) : Int)) = p := by
    show (if ((p : Nat) : Int) < 0 then (((p : Nat) : Int) + (xs.length : Int)).toNat else min (((p : Nat) : Int)).toNat xs.length) = p
    rw [if_neg (by omega)]
    omega
  have e2 : HT.sIx xs.length xs.length (some ((q : Nat) : Int)) = q := by
    show (if ((q : Nat) : Int) < 0 then (((q : Nat) : Int) + (xs.length : Int)).toNat else min (((q : Nat) : Int)).toNat xs.length) = q
    rw [if_neg (by omega)]
    omega
  unfold cutV
  rw [e1, e2]
def sp_wby (K : PySem.W.Frag) : Sp := fun vs H Q _ => ∃ (z : Addr) (c : List Int) (g : Int → Int) (s D : Nat), vs = [.ref z, zV s, zV D] ∧ SqT K H z (c.map V.int) ∧ s + D + 1 < c.length ∧ c.length ≤ 50 ∧ D ≤ 5 ∧ (∀ t, t ≤ D → c[s + t]? = some (g ((t : Nat) : Int))) ∧
  ∀ H' y, Same H H' → SqT K H' y ((mvL g s D D 0).map V.int) → Q (.ref y) H'
theorem ok_wby (T : Txt K mg) : FnOk P w K mg base CX0 2 T.a_w_by_differences T.d_w_by_differences ["_law_counts", "_law_start", "_law_size"] (sp_wby K) := by
  refine T.F_w_by_differences.ok sc_w_by_differences (fun vs H Q E h => ?_) (fun cdv A outer s H vs Q E hr h => ?_)
  · obtain ⟨z, c, g, s, D, rfl, _⟩ := h
    rfl
  · obtain ⟨z, c, g, σ0, D, rfl, hz, hlen, h50, hD5, hc, q⟩ := h
    refine ⟨_, (pss_cons (ps_par (i := 3) (j := 4) (by rfl) sc_w_by_differences.nd rfl rfl (by decide) rfl rfl (pa_cons (pe_callTy call_list_of (by rfl) T.z_list boot_list (pa_cons (pe_slice sl_tup (pv 0) (po_some (pv 1)) (po_some (pe_op op_add (pe_op op_add (pv 1) (pv 2)) pe_int))) pa_nil)) (pa_cons (pe_lst pa_nil) pa_nil)) (by rfl))
      (pss_cons (ps_for PassesOwn.never rfl (pi_range1 rfl T.z_range (pa_cons (pv 2) pa_nil)) (pg_name (i := 5) sc_w_by_differences.nd rfl (Or.inl rfl))
      (pss_cons (ps_expr (pe_bm PySem.F.plainAttrs_list PySem.F.slot_list_append PySem.F.type_list_append mt_append (pv 4) (pa_cons (pe_ix ix_list (pv 3) pe_int (fun _ _ => rfl)) pa_nil)))
      (pss_one (ps_setLc (i := 3) (own := [("_law_one", 11), ("_law_other", 12)]) (g := gTup K 2 (gCons (gName 11) (gCons (gName 12) gNil))) (tt := tYes) rfl sc_w_by_differences.nd rfl rfl (sw_true rfl rfl rfl (by decide +kernel)) (pi_zipA (by rfl) T.z_zip (pa_cons (pv 3) (pa_cons (pe_slice sl_list (pv 3) (po_some pe_int) po_none) pa_nil))) (blkOk_by (own := [("_law_one", 11), ("_law_other", 12)]) (N := N_w_by_differences) (sc := defScope s_w_by_differences) (by decide +kernel)) (fun _ _ _ _ _ => (pg_tup (by rfl) (pgs_cons (pg_name (i := 11) sc_w_by_differences.nd rfl (Or.inl rfl)) (pgs_cons (pg_name (i := 12) sc_w_by_differences.nd rfl (Or.inl rfl)) pgs_nil)))) (fun _ _ _ _ _ => pts_nil) (fun _ _ _ _ _ => (pe_op op_sub (pv 12) (pv 11)))))))
      (pss_cons (ps_set (i := 6) sc_w_by_differences.nd rfl (Or.inl rfl) (pe_op op_rep (pe_lst (pa_cons pe_int pa_nil)) (pv 2)))
      (pss_cons (ps_for PassesOwn.never rfl (pi_enum (by rfl) T.z_enumerate (pa_cons (pv 4) pa_nil)) (pg_tup (by rfl) (pgs_cons (pg_name (i := 7) sc_w_by_differences.nd rfl (Or.inl rfl)) (pgs_cons (pg_name (i := 8) sc_w_by_differences.nd rfl (Or.inl rfl)) pgs_nil)))
      (pss_one (ps_for PassesOwn.never rfl (pi_range1 rfl T.z_range (pa_cons (pe_op op_add (pv 7) pe_int) pa_nil)) (pg_name (i := 9) sc_w_by_differences.nd rfl (Or.inl rfl))
      (pss_cons (ps_set (i := 10) sc_w_by_differences.nd rfl (Or.inl rfl) (pe_ifExp (pt_cmpR op_eq (pe_op op_mod (pe_callTy call_int1 (by rfl) T.z_int boot_int (pa_cons (pe_op op_sub (pv 7) (pv 9)) pa_nil)) pe_int) pe_int (nomark _)) (pe_un un_neg pe_int) pe_int))
      (pss_one (ps_asg (pe_op op_add (pe_ix ix_list (pv 6) (pv 9) (fun _ _ => rfl)) (pe_op op_mul (pe_op op_mul (pv 8) (pv 10)) (pe_call  (ok_wch T) (hr.mono (by decide)) (by rfl) T.m_w_choices T.F_w_choices.kp T.b_w_choices .nil pass0 (pa_cons (pe_op op_sub (pe_op op_sub (pe_op op_add (pv 1) (pv 7)) (pv 9)) pe_int) (pa_cons (pe_op op_sub (pv 7) (pv 9)) pa_nil))))) (pg_sub (pv 6) (pv 9) set_list)))))))
      (pss_one (ps_ret (pe_callTy call_tuple_of (by rfl) T.z_tuple boot_tuple (pa_cons (pv 6) pa_nil)))))))), ?_⟩
    refine ⟨_, rfl, _, rfl, _, rfl, _, rfl, _, rfl, _, _, rfl, rfl, _, _, rfl, rfl, _, rfl, z, _, rfl, hz, ?_, fun p hp => ?_⟩
    · rintro ⟨_, h2⟩
      have h2 : (if (((σ0 : Nat) : Int) + ((D : Nat) : Int) + 1) < 0 then ((((σ0 : Nat) : Int) + ((D : Nat) : Int) + 1) + ((c.map V.int).length : Int)).toNat else min (((σ0 : Nat) : Int) + ((D : Nat) : Int) + 1).toNat (c.map V.int).length) = (c.map V.int).length := h2
      rw [if_neg (by omega), List.length_map] at h2
      omega
    have ec : cutV (c.map V.int) (some ((σ0 : Nat) : Int)) (some (((σ0 : Nat) : Int) + ((D : Nat) : Int) + 1)) = (numsL g (D + 1) 0).map V.int := by
      rw [show ((σ0 : Nat) : Int) + ((D : Nat) : Int) + 1 = (((σ0 + D + 1 : Nat)) : Int) by omega, cut_both _ _ _ (by rw [List.length_map]; omega) (by omega)]
      refine List.ext_getElem? fun i => ?_
      by_cases hi : i ≤ D
      · rw [List.getElem?_take_of_lt (by omega), List.getElem?_drop, List.getElem?_map, hc i hi, List.getElem?_map, nums_at (by omega)]
        rfl
      · rw [List.getElem?_eq_none (by rw [List.length_take]; omega), List.getElem?_eq_none (by rw [List.length_map, nums_len]; omega)]
    rw [ec]
    have sp := same_new hp (.tup ((numsL g (D + 1) 0).map V.int))
    refine ⟨p, _, rfl, .inr (SqT.of upd_same), fun l hl => ⟨by show 0 ≤ sizeLine; decide, fun r hr0 => ⟨_, _, rfl, ?_⟩⟩⟩
    have sl := same_new hl (.lst ((numsL g (D + 1) 0).map V.int))
    have sr := same_new hr0 (.lst [])
    have S4 := sp.trans (sl.trans sr)
    have hlH : H l = none := sp.free hl
    have hrH : H r = none := (sp.trans sl).free hr0
    have e_r : (upd (upd (upd H p (.tup ((numsL g (D + 1) 0).map V.int))) l (.lst ((numsL g (D + 1) 0).map V.int))) r (.lst [])) r = some (.lst ((rowL g 0).map V.int)) := upd_same
    have e_l := sr _ _ (upd_same (H := upd H p (.tup ((numsL g (D + 1) 0).map V.int))) (a := l) (o := .lst ((numsL g (D + 1) 0).map V.int)))
    have n_lr : l ≠ r := ne_of_none (H := upd (upd H p (.tup ((numsL g (D + 1) 0).map V.int))) l (.lst ((numsL g (D + 1) 0).map V.int))) upd_same hr0
    generalize (upd (upd (upd H p (.tup ((numsL g (D + 1) 0).map V.int))) l (.lst ((numsL g (D + 1) 0).map V.int))) r (.lst [])) = H4 at S4 e_r e_l ⊢
    refine ⟨_, rfl, _, rfl, by omega, by omega, ?_⟩
    refine for_range (lo := 0) (n := D) (fun i σ H' => ∃ (nb : Addr) (v5 v11 v12 : Option V), σ = [some (.ref z), some (zV σ0), some (zV D), some (.ref nb), some (.ref r), v5, none, none, none, none, none, v11, v12] ∧ Same H H' ∧ H' nb = some (.lst ((numsL g (D + 1) i).map V.int)) ∧ H' r = some (.lst ((rowL g i).map V.int)) ∧ nb ≠ r) ⟨l, none, none, none, rfl, S4, e_l, e_r, n_lr⟩ ?_ ?_
    · rintro i σ H5 hi ⟨nb, v5, v11, v12, rfl, s5, hnb, hrr, n_r⟩
      have hi' : i < D := hi
      have hnl := nums_len g (D + 1) i
      have hat : atI ((numsL g (D + 1) i).map V.int) (0 : Int) = some (.int (dif i g 0)) := atI_nat (j := 0) (by rw [List.getElem?_map, nums_at (by omega)]; rfl)
      refine ⟨_, rfl, .inl ⟨rfl, _, SqL.of hrr⟩, _, rfl, nb, _, _, _, rfl, rfl, SqL.of hnb, hat, r, _, _, rfl, rfl, hrr, by rw [List.length_map, row_len]; exact sizeK (by omega), ?_⟩
      have S6 : Same H (upd H5 r (.lst ((rowL g i).map V.int ++ [V.int (dif i g 0)]))) := same_updL s5 hrH
      have hnb6 : (upd H5 r (.lst ((rowL g i).map V.int ++ [V.int (dif i g 0)]))) nb = some (.lst ((numsL g (D + 1) i).map V.int)) := by rw [upd_ne n_r]; exact hnb
      have hr6 : (upd H5 r (.lst ((rowL g i).map V.int ++ [V.int (dif i g 0)]))) r = some (.lst ((rowL g (i + 1)).map V.int)) := by
        rw [upd_same, row_more, List.map_append]
        rfl
      generalize (upd H5 r (.lst ((rowL g i).map V.int ++ [V.int (dif i g 0)]))) = H6 at S6 hnb6 hr6 ⊢
      refine ⟨_, rfl, _, rfl, _, rfl, nb, _, rfl, SqL.of hnb6, fun p hp => ?_⟩
      have ec : cutV ((numsL g (D + 1) i).map V.int) (some 1) none = ((numsL g (D + 1) i).drop 1).map V.int := by
        rw [List.map_drop]
        exact cut_hi _ 1 (by rw [List.length_map]; omega)
      rw [ec]
      have sp := same_new hp (.lst (((numsL g (D + 1) i).drop 1).map V.int))
      have hp7 : (upd H6 p (.lst (((numsL g (D + 1) i).drop 1).map V.int))) p = some (.lst (((numsL g (D + 1) i).drop 1).map V.int)) := upd_same
      have hnb7 := sp _ _ hnb6
      have hr7 := sp _ _ hr6
      have S7 := S6.trans sp
      generalize (upd H6 p (.lst (((numsL g (D + 1) i).drop 1).map V.int))) = H7 at hp7 hnb7 hr7 S7 ⊢
      refine ⟨nb, p, _, _, rfl, .inl ⟨SqL.of hnb7, SqL.of hp7, fun D2 hD2 => ?_⟩⟩
      have sD2 := same_new hD2 (.lst [])
      have hn' : D + 1 - (i + 1) = min ((numsL g (D + 1) i).map V.int).length (((numsL g (D + 1) i).drop 1).map V.int).length := by
        rw [List.length_map, List.length_map, List.length_drop, hnl]
        omega
      refine lc_it (walk_zip (K := K) (a := nb) (b := p) hn') (fun j H' => Same H7 H' ∧ H' D2 = some (.lst (((numsL g (D + 1) (i + 1)).take j).map V.int))) ⟨sD2, upd_same⟩ (fun j H' _ hh => ⟨SqL.of (hh.1 _ _ hnb7), SqL.of (hh.1 _ _ hp7)⟩) ?_ ?_
      · rintro j v H8 H9 hj ⟨s8, eD2⟩ ⟨T', x, y, rfl, hT', e9, hx, hy⟩
        subst e9
        dsimp only at hx hy
        rw [List.getElem?_map, nums_at (by omega)] at hx
        rw [List.getElem?_map, List.getElem?_drop, nums_at (by omega)] at hy
        obtain rfl := Option.some.inj hx
        obtain rfl := Option.some.inj hy
        have sT := same_new hT' (.tup [V.int (dif i g ((j : Nat) : Int)), V.int (dif i g (((1 + j : Nat)) : Int))])
        refine ⟨T', _, rfl, SqT.of upd_same, rfl, _, _, rfl, _, _, rfl, rfl, ?_⟩
        refine ⟨rfl, _, rfl, _, rfl, _, _, rfl, rfl, _, sT _ _ eD2, by rw [List.length_map, List.length_take, nums_len]; exact sizeK (by omega), same_updL (s8.trans sT) hD2, ?_⟩
        rw [upd_same, take_more (nums_at (i := i + 1) (t := j) (by omega)), List.map_append, show ((1 + j : Nat) : Int) = ((j : Nat) : Int) + 1 by omega]
        rfl
      · rintro H8 ⟨s8, eD2⟩
        rw [List.take_of_length_le (by rw [nums_len]; omega)] at eD2
        exact ⟨D2, _, _, _, rfl, S7.trans s8, eD2, s8 _ _ hr7, (ne_of_none hr7 hD2).symm⟩
    · rintro σ H5 ⟨nb, v5, v11, v12, rfl, s5, hnb, hrr, n_r⟩
      have hrr : H5 r = some (.lst ((rowL g D).map V.int)) := hrr
      refine ⟨by show 1 ≤ sizeLine; decide, fun p1 hp1 => ?_⟩
      have s6 := same_new hp1 (.lst [V.int 0])
      refine ⟨_, rfl, p1, ((D : Nat) : Int), [.int 0], rfl, rfl, upd_same, by omega, by omega, by rw [Int.toNat_natCast]; show 1 * D ≤ sizeLine; exact Nat.le_of_lt (sizeK (by omega)), fun mv hmv => ?_⟩
      have s7 := same_new hmv (.lst (List.replicate (((D : Nat) : Int)).toNat [V.int 0]).flatten)
      have e_mv : (upd (upd H5 p1 (.lst [V.int 0])) mv (.lst (List.replicate (((D : Nat) : Int)).toNat [V.int 0]).flatten)) mv = some (.lst ((mvL g σ0 D 0 0).map V.int)) := by
        rw [upd_same, Int.toNat_natCast, flat_one]
        congr 2
        refine List.ext_getElem? fun i => ?_
        rw [List.getElem?_replicate, List.getElem?_map]
        unfold mvL
        rw [List.getElem?_map]
        by_cases h : i < D
        · rw [if_pos h, List.getElem?_range h]
          show some (V.int 0) = some (V.int (sumR _ (if i < 0 then _ else _)))
          rw [if_neg (Nat.not_lt_zero i), Nat.zero_sub]
          rfl
        · rw [if_neg h, List.getElem?_eq_none (by rw [List.length_range]; omega)]
          rfl
      have e_r7 := (s6.trans s7) _ _ hrr
      have S7 := s5.trans (s6.trans s7)
      have hmvH : H mv = none := (s5.trans s6).free hmv
      have n_rm : r ≠ mv := ne_of_none (s6 _ _ hrr) hmv
      generalize (upd (upd H5 p1 (.lst [V.int 0])) mv (.lst (List.replicate (((D : Nat) : Int)).toNat [V.int 0]).flatten)) = H7 at e_mv e_r7 S7 ⊢
      refine ⟨_, rfl, r, _, rfl, SqL.of e_r7, ?_⟩
      refine for_it (walk_enum (K := K) (a := r) (xs := (rowL g D).map V.int)) (fun i σ H' => ∃ (v7 v8 v9 v10 : Option V), σ = [some (.ref z), some (zV σ0), some (zV D), some (.ref nb), some (.ref r), v5, some (.ref mv), v7, v8, v9, v10, v11, v12] ∧ Same H H' ∧ H' r = some (.lst ((rowL g D).map V.int)) ∧ H' mv = some (.lst ((mvL g σ0 D i 0).map V.int)))
        ⟨none, none, none, none, rfl, S7, e_r7, e_mv⟩ ?_ ?_ ?_
      · rintro i σ H' _ ⟨_, _, _, _, rfl, _, er, _⟩
        exact SqL.of er
      · rintro A v σ H8 H9 hA ⟨v7, v8, v9, v10, rfl, s8, er, emv⟩ ⟨T', x, y, rfl, hT', e9, hx, hy⟩
        subst e9
        cases hx
        dsimp only at hy
        rw [List.length_map, row_len] at hA
        have hiD : A < D := hA
        have hey : (rowL g D)[A]? = some (dif A g 0) := by
          unfold rowL
          rw [List.getElem?_map, List.getElem?_range hiD]
          rfl
        rw [List.getElem?_map, hey] at hy
        obtain rfl := Option.some.inj hy
        have sT := same_new hT' (.tup [V.int ((A : Nat) : Int), V.int (dif A g 0)])
        have erT := sT _ _ er
        have emvT := sT _ _ emv
        refine ⟨T', _, rfl, SqT.of upd_same, rfl, _, _, rfl, _, _, rfl, rfl, ?_⟩
        generalize (upd H8 T' (.tup [V.int ((A : Nat) : Int), V.int (dif A g 0)])) = H9 at sT erT emvT ⊢
        have S9 := s8.trans sT
        clear er emv sT
        refine ⟨_, rfl, _, _, rfl, rfl, _, rfl, by omega, by omega, ?_⟩
        refine for_range (lo := 0) (n := A + 1) (fun l σ H' => ∃ (v9 v10 : Option V), σ = [some (.ref z), some (zV σ0), some (zV D), some (.ref nb), some (.ref r), v5, some (.ref mv), some (zV A), some (.int (dif A g 0)), v9, v10, v11, v12] ∧ Same H H' ∧ H' r = some (.lst ((rowL g D).map V.int)) ∧ H' mv = some (.lst ((mvL g σ0 D A l).map V.int)))
          ⟨_, _, rfl, S9, erT, emvT⟩ ?_ ?_
        · rintro l σ H9 hl ⟨v9, v10, rfl, s9, er, emv⟩
          have hl' : l < A + 1 := hl
          rw [show (0 : Int) + ((l : Nat) : Int) = ((l : Nat) : Int) from Int.zero_add _]
          have hat : atI ((mvL g σ0 D A l).map V.int) ((l : Nat) : Int) = some (.int (sumR (phiI g σ0 l) (A - l))) := atI_nat (by rw [List.getElem?_map, mv_at g σ0 D A l (by omega) hiD]; rfl)
          have hk0 : A - l = 0 ∨ (0 : Int) ≤ ((σ0 : Nat) : Int) + ((A : Nat) : Int) - ((l : Nat) : Int) - 1 := by omega
          have hcs := ch_small (a := ((σ0 : Nat) : Int) + ((A : Nat) : Int) - ((l : Nat) : Int) - 1) (k := A - l) (by omega) (by omega)
          have hargs : [V.int (((σ0 : Nat) : Int) + ((A : Nat) : Int) - ((l : Nat) : Int) - 1), V.int (((A : Nat) : Int) - ((l : Nat) : Int))] = [V.int (((σ0 : Nat) : Int) + ((A : Nat) : Int) - ((l : Nat) : Int) - 1), zV (A - l)] := by
            rw [show zV (A - l) = V.int (((A : Nat) : Int) - ((l : Nat) : Int)) from congrArg V.int (by omega)]
          have hval : ∀ sg : Int, sg = sgn (A - l) → sumR (phiI g σ0 l) (A - l) + dif A g 0 * sg * chI (((σ0 : Nat) : Int) + ((A : Nat) : Int) - ((l : Nat) : Int) - 1) (A - l) = sumR (phiI g σ0 l) (A - l) + phiI g σ0 l (A - l) := fun sg h => by
            unfold phiI
            rw [h, show l + (A - l) = A by omega, show ((σ0 : Nat) : Int) + (((A - l : Nat)) : Int) - 1 = ((σ0 : Nat) : Int) + ((A : Nat) : Int) - ((l : Nat) : Int) - 1 by omega]
          refine ⟨_, rfl, _, rfl, _, _, rfl, rfl, .inl ⟨_, rfl, _, _, rfl, rfl, by show (0 : Int) < 2; decide, rfl, _, rfl, ite2 (fun mm => ?_) (fun mm => ?_)⟩⟩
          · have m' : (((A : Nat) : Int) - ((l : Nat) : Int)) % 2 = 1 := V.int.inj (of_decide_eq_true mm)
            have es : sgn (A - l) = -1 := by
              unfold sgn
              rw [if_pos (by omega)]
            refine ⟨_, rfl, _, rfl, _, rfl, mv, _, _, _, rfl, rfl, SqL.of emv, hat, _, rfl, _, rfl, _, _, rfl, rfl, .inr ⟨by decide, by decide⟩, _, rfl, _, rfl, _, _, rfl, rfl, _, rfl, _, _, rfl, rfl, _, _, rfl, rfl, _, rfl, _, rfl, _, _, rfl, rfl, _, A - l, hargs, hk0, by omega, by omega, fun H10 s10 => ?_⟩
            refine ⟨_, _, rfl, rfl, .inr ⟨by omega, by omega⟩, _, _, rfl, rfl, _, rfl, _, rfl, mv, _, _, l, rfl, rfl, s10 _ _ emv, ixN_nat (by rw [List.length_map, mv_len]; omega), _, _, rfl, same_updL (s9.trans s10) hmvH, ?_, ?_⟩
            · rw [upd_ne n_rm]
              exact s10 _ _ er
            · rw [upd_same]
              have hv := hval (-1) (by rw [es])
              have e2 := congrArg (fun x : List Int => HO.lst (x.map V.int)) (mv_set g σ0 D A l (by omega) hiD)
              rw [List.map_set] at e2
              rw [← hv] at e2
              exact congrArg some e2
          · have m' : ¬ (((A : Nat) : Int) - ((l : Nat) : Int)) % 2 = 1 := fun zz => mm (decide_eq_true (by show V.int ((((A : Nat) : Int) - ((l : Nat) : Int)) % 2) = V.int 1; rw [zz]))
            have es : sgn (A - l) = 1 := by
              unfold sgn
              rw [if_neg (by omega)]
            refine ⟨_, rfl, _, rfl, mv, _, _, _, rfl, rfl, SqL.of emv, hat, _, rfl, _, rfl, _, _, rfl, rfl, .inr ⟨by decide, by decide⟩, _, rfl, _, rfl, _, _, rfl, rfl, _, rfl, _, _, rfl, rfl, _, _, rfl, rfl, _, rfl, _, rfl, _, _, rfl, rfl, _, A - l, hargs, hk0, by omega, by omega, fun H10 s10 => ?_⟩
            refine ⟨_, _, rfl, rfl, .inr ⟨by omega, by omega⟩, _, _, rfl, rfl, _, rfl, _, rfl, mv, _, _, l, rfl, rfl, s10 _ _ emv, ixN_nat (by rw [List.length_map, mv_len]; omega), _, _, rfl, same_updL (s9.trans s10) hmvH, ?_, ?_⟩
            · rw [upd_ne n_rm]
              exact s10 _ _ er
            · rw [upd_same]
              have hv := hval 1 (by rw [es])
              have e2 := congrArg (fun x : List Int => HO.lst (x.map V.int)) (mv_set g σ0 D A l (by omega) hiD)
              rw [List.map_set] at e2
              rw [← hv] at e2
              exact congrArg some e2
        · rintro σ H9 ⟨v9, v10, rfl, s9, er, emv⟩
          have emv : H9 mv = some (.lst ((mvL g σ0 D A (A + 1)).map V.int)) := emv
          rw [mv_next] at emv
          exact ⟨_, _, _, _, rfl, s9, er, emv⟩
      · rintro σ H8 ⟨v7, v8, v9, v10, rfl, s8, er, emv⟩
        rw [List.length_map, row_len] at emv
        refine ⟨_, rfl, mv, _, rfl, .inl ⟨SqL.of emv, fun z2 hz2 => ?_⟩⟩
        have s9 := same_new hz2 (.tup ((mvL g σ0 D D 0).map V.int))
        exact q _ z2 (s8.trans s9) (SqT.of upd_same)
theorem mx_sup {f : Nat → Int} (hz : ∀ j, 60 < j → f j = 0) {m : Int} (hm : m ∈ ((supN f).map fun j => ((j : Nat) : Int)) ++ [0]) (hy : ∀ y, y ∈ ((supN f).map fun j => ((j : Nat) : Int)) ++ [0] → y ≤ m) : ∃ μ : Nat, m = ((μ : Nat) : Int) ∧ (∀ j, f j ≠ 0 → j ≤ μ) ∧ μ ≤ 60 := by
  have h0 : 0 ≤ m := hy 0 (List.mem_append.mpr (.inr (List.mem_singleton.mpr rfl)))
  obtain ⟨μ, rfl⟩ := Int.eq_ofNat_of_zero_le h0
  refine ⟨μ, rfl, fun j hj => ?_, ?_⟩
  · have hj60 : j ≤ 60 := Nat.le_of_not_lt fun k => hj (hz j k)
    have := hy ((j : Nat) : Int) (List.mem_append.mpr (.inl (List.mem_map.mpr ⟨j, List.mem_filter.mpr ⟨List.mem_range.mpr (by omega), decide_eq_true hj⟩, rfl⟩)))
    omega
  · rcases List.mem_append.mp hm with h | h
    · obtain ⟨j, hj, e⟩ := List.mem_map.mp h
      have hj0 := of_decide_eq_true (List.mem_filter.mp hj).2
      have hj60 : j ≤ 60 := Nat.le_of_not_lt fun k => hj0 (hz j k)
      omega
    · have := List.mem_singleton.mp h
      omega
/-- the partial sums, so far as they may not vanish -/
def lenK (μ k : Nat) : Nat := max 1 (μ + 1 - k)
def ffL (f : Nat → Int) (k m : Nat) : List Int := (List.range m).map fun t => FF f k ((t : Nat) : Int)
theorem ff_len (f : Nat → Int) (k m : Nat) : (ffL f k m).length = m := by
  unfold ffL
  rw [List.length_map, List.length_range]
theorem ff_at {f : Nat → Int} {k m t : Nat} (h : t < m) : (ffL f k m)[t]? = some (FF f k ((t : Nat) : Int)) := by
  unfold ffL
  rw [List.getElem?_map, List.getElem?_range h]
  rfl
theorem ff_more (f : Nat → Int) (k m : Nat) : ffL f k (m + 1) = ffL f k m ++ [FF f k ((m : Nat) : Int)] := by
  unfold ffL
  rw [List.range_succ, List.map_append]
  rfl
def sp_wqv (K : PySem.W.Frag) : Sp := fun vs H Q _ => ∃ (z : Addr) (f : Nat → Int) (n δ : Nat) (c : Int), vs = [.ref z, zV n, zV δ] ∧ H z = some (.dK (numK f)) ∧ (∀ j, 60 < j → f j = 0) ∧ 1 ≤ n ∧ n ≤ 8 ∧ δ ≤ n ∧ (∀ t, dif δ (stN f n) t = 0) ∧
  (∀ μ : Nat, (∀ j, μ < j → f j = 0) → μ ≤ 60 → sumR (fun t => FF f (n - δ) ((t : Nat) : Int)) (lenK μ (n - δ)) = c) ∧ ∀ H', Same H H' → Q (.int c) H'
theorem ok_wqv (T : Txt K mg) : FnOk P w K mg base CX0 1 T.a_w_quotient_value T.d_w_quotient_value ["_law_due", "_law_letters", "_law_size"] (sp_wqv K) := by
  refine T.F_w_quotient_value.ok sc_w_quotient_value (fun vs H Q E h => ?_) (fun cdv A outer s H vs Q E hr h => ?_)
  · obtain ⟨z, f, n, δ, c, rfl, _⟩ := h
    rfl
  · obtain ⟨z, f, n, δ, c, rfl, hz, hf, h1, h8, hδ, hS, hend, q⟩ := h
    refine ⟨_, (pss_cons (ps_set (i := 3) sc_w_quotient_value.nd rfl (Or.inl rfl) (pe_op op_rep (pe_lst (pa_cons pe_int pa_nil)) (pe_op op_add (pe_callB (cr_max rfl) (by rfl) T.z_max (by decide +kernel) (pa_cons (pe_op op_cat (pe_callTy (call_listD rfl) (by rfl) T.z_list boot_list (pa_cons (pv 0) pa_nil)) (pe_lst (pa_cons pe_int pa_nil))) pa_nil)) pe_int)))
      (pss_cons (ps_lock (ps_for PassesOwn.never rfl (pi_keys (pv 0)) (pg_name (i := 4) sc_w_quotient_value.nd rfl (Or.inl rfl))
      (pss_one (ps_asg (pe_dget (hu_of hr) (pv 0) (pv 4) (fun _ _ => rfl)) (pg_sub (pv 3) (pv 4) set_list)))))
      (pss_cons (ps_for PassesOwn.never rfl (pi_range1 rfl T.z_range (pa_cons (pe_op op_sub (pv 1) (pv 2)) pa_nil)) (pg_name (i := 5) sc_w_quotient_value.nd rfl (Or.inl rfl))
      (pss_cons (ps_par (i := 6) (j := 7) (by rfl) sc_w_quotient_value.nd rfl rfl (by decide) rfl rfl (pa_cons (pe_lst pa_nil) (pa_cons pe_int pa_nil)) (by rfl))
      (pss_cons (ps_for PassesOwn.never rfl (pi_list (pe_callTy call_list_of (by rfl) T.z_list boot_list (pa_cons (pv 3) pa_nil))) (pg_name (i := 8) sc_w_quotient_value.nd rfl (Or.inl rfl))
      (pss_cons (ps_set (i := 7) sc_w_quotient_value.nd rfl (Or.inl rfl) (pe_op op_add (pv 7) (pv 8)))
      (pss_one (ps_expr (pe_bm PySem.F.plainAttrs_list PySem.F.slot_list_append PySem.F.type_list_append mt_append (pv 6) (pa_cons (pv 7) pa_nil))))))
      (pss_cons (ps_if (pt_cmpR op_ne (pe_ix ix_list (pv 6) (pe_un un_neg pe_int) (fun _ _ => rfl)) pe_int (nomark _)) (pss_one (ps_ret pe_non)) pss_nil)
      (pss_one (ps_set (i := 3) sc_w_quotient_value.nd rfl (Or.inl rfl) (pe_ifExp (pt_cmpR op_gt (pe_callB call_len_seq (by rfl) T.z_len boot_len (pa_cons (pv 6) pa_nil)) pe_int (nomark _)) (pe_slice sl_list (pv 6) po_none (po_some (pe_un un_neg pe_int))) (pe_lst (pa_cons pe_int pa_nil)))))))))
      (pss_one (ps_ret (pe_callB (cr_sum rfl) (by rfl) T.z_sum boot_sum (pa_cons (pv 3) pa_nil))))))), ?_⟩
    have hf200 : ∀ j, 200 ≤ j → f j = 0 := fun j hj => hf j (by omega)
    refine ⟨by show 1 ≤ sizeLine; decide, fun p1 hp1 => ?_⟩
    have s1 := same_new hp1 (.lst [V.int 0])
    have e_p1 : (upd H p1 (.lst [V.int 0])) p1 = some (.lst [V.int 0]) := upd_same
    have hz1 := s1 _ _ hz
    generalize (upd H p1 (.lst [V.int 0])) = H1 at s1 e_p1 hz1 ⊢
    refine ⟨_, rfl, z, _, rfl, .inl hz1, fun p2 hp2 => ?_⟩
    have ek : ((numK f).map fun kv => kV kv.1) = ((supN f).map fun j => ((j : Nat) : Int)).map V.int := by
      unfold numK
      rw [List.map_map, List.map_map]
      rfl
    rw [ek]
    have s2 := same_new hp2 (.lst (((supN f).map fun j => ((j : Nat) : Int)).map V.int))
    have e_p2 : (upd H1 p2 (.lst (((supN f).map fun j => ((j : Nat) : Int)).map V.int))) p2 = some (.lst (((supN f).map fun j => ((j : Nat) : Int)).map V.int)) := upd_same
    generalize (upd H1 p2 (.lst (((supN f).map fun j => ((j : Nat) : Int)).map V.int))) = H2 at s2 e_p2 ⊢
    refine ⟨by show 1 ≤ sizeLine; decide, fun p3 hp3 => ?_⟩
    have s3 := same_new hp3 (.lst [V.int 0])
    have e_p3 : (upd H2 p3 (.lst [V.int 0])) p3 = some (.lst [V.int 0]) := upd_same
    generalize (upd H2 p3 (.lst [V.int 0])) = H3 at s3 e_p3 ⊢
    have hsl := sup_len f
    refine ⟨p2, p3, _, _, rfl, rfl, s3 _ _ e_p2, e_p3, by rw [List.length_map, List.length_map]; exact Nat.le_of_lt (sizeK (by show _ + 1 ≤ _; omega)), fun p4 hp4 => ?_⟩
    have ea : ((supN f).map fun j => ((j : Nat) : Int)).map V.int ++ [V.int 0] = (((supN f).map fun j => ((j : Nat) : Int)) ++ [0]).map V.int := by
      rw [List.map_append]
      rfl
    rw [ea]
    have s4 := same_new hp4 (.lst ((((supN f).map fun j => ((j : Nat) : Int)) ++ [0]).map V.int))
    refine ⟨p4, _, rfl, SqL.of upd_same, by rw [List.length_append]; exact Nat.succ_pos _, fun m hm hy => ?_⟩
    obtain ⟨μ, rfl, hμ, hμ60⟩ := mx_sup hf hm hy
    have S4 := s1.trans (s2.trans (s3.trans s4))
    have e_p1' := (s2.trans (s3.trans s4)) _ _ e_p1
    have hz4 := (s2.trans (s3.trans s4)) _ _ hz1
    generalize (upd H3 p4 (.lst ((((supN f).map fun j => ((j : Nat) : Int)) ++ [0]).map V.int))) = H4 at S4 e_p1' hz4 ⊢
    refine ⟨_, _, rfl, rfl, p1, ((μ + 1 : Nat) : Int), [.int 0], rfl, rfl, e_p1', by omega, by omega, by rw [Int.toNat_natCast]; show 1 * (μ + 1) ≤ sizeLine; exact Nat.le_of_lt (sizeK (by omega)), fun rw0 hrw => ?_⟩
    have s5 := same_new hrw (.lst (List.replicate (((μ + 1 : Nat) : Int)).toNat [V.int 0]).flatten)
    have e_rw : (upd H4 rw0 (.lst (List.replicate (((μ + 1 : Nat) : Int)).toNat [V.int 0]).flatten)) rw0 = some (.lst (((List.range (μ + 1)).map fun t => if t ∈ (supN f).take 0 then f t else 0).map V.int)) := by
      rw [upd_same, Int.toNat_natCast, flat_one]
      congr 2
      refine List.ext_getElem? fun i => ?_
      rw [List.getElem?_replicate, List.getElem?_map, List.getElem?_map]
      by_cases h : i < μ + 1
      · rw [if_pos h, List.getElem?_range h]
        rfl
      · rw [if_neg h, List.getElem?_eq_none (by rw [List.length_range]; omega)]
        rfl
    have hz5 := s5 _ _ hz4
    have S5 := S4.trans s5
    have hrwH : H rw0 = none := S4.free hrw
    have n_zr : z ≠ rw0 := ne_of_none hz4 hrw
    generalize (upd H4 rw0 (.lst (List.replicate (((μ + 1 : Nat) : Int)).toNat [V.int 0]).flatten)) = H5 at S5 e_rw hz5 ⊢
    clear s1 s2 s3 s4 S4 s5
    refine ⟨z, _, hz5, trivial, fun od => ?_⟩
    have hfz : (upd H5 z (.frz od (.dK (numK f)))) z = some (.frz od (.dK (numK f))) := upd_same
    have bz : Bar z H5 (upd H5 z (.frz od (.dK (numK f)))) := Bar.upd
    have e_rw6 := bz _ _ (Ne.symm n_zr) e_rw
    generalize (upd H5 z (.frz od (.dK (numK f)))) = H6 at hfz bz e_rw6 ⊢
    refine ⟨_, rfl, z, od, rfl, .inl ⟨_, hfz, ?_⟩⟩
    refine for_it (walk_keys (d := z) (o := od) (kvs := numK f)) (fun i σ H' => ∃ (v4 : Option V), σ = [some (.ref z), some (zV n), some (zV δ), some (.ref rw0), v4, none, none, none, none] ∧ Bar rw0 H6 H' ∧ H' rw0 = some (.lst (((List.range (μ + 1)).map fun t => if t ∈ (supN f).take i then f t else 0).map V.int)))
      ⟨none, rfl, Bar.same (Same.refl _), e_rw6⟩ ?_ ?_ ?_
    · rintro i σ H' _ ⟨_, rfl, bb, _⟩
      exact bb _ _ n_zr hfz
    · rintro i x σ Hx H7 hi ⟨v4, rfl, bb, er⟩ ⟨e4, kk, v, hx, rfl⟩
      subst e4
      rw [List.getElem?_map] at hx
      obtain ⟨j, hj⟩ : ∃ j, (supN f)[i]? = some j := by
        cases h : (supN f)[i]? with
        | none => rw [h] at hx; cases hx
        | some j => exact ⟨j, rfl⟩
      rw [hj] at hx
      have ek : kk = Sum.inl ((j : Nat) : Int) := (congrArg Prod.fst (Option.some.inj hx)).symm
      subst ek
      have hjm : j ∈ supN f := List.mem_of_getElem? hj
      have hjμ := hμ j (of_decide_eq_true (List.mem_filter.mp hjm).2)
      have hbz3 := bb _ _ n_zr hfz
      have hval : valV (numK f) (Sum.inl ((j : Nat) : Int)) = some (.int (f j)) := by
        show valV ((supN f).map (entK f)) _ = _
        rw [val_ent, if_pos hjm]
      have hget : DGet H7 z (.int ((j : Nat) : Int)) (some (.int (f j))) := .inl ⟨numK f, Sum.inl ((j : Nat) : Int), .inr ⟨od, hbz3⟩, rfl, hval.symm⟩
      refine ⟨_, rfl, _, rfl, z, .int (f j), rfl, hget, _, rfl, _, rfl, rw0, _, _, j, rfl, rfl, er, ixN_nat (by rw [List.length_map, List.length_map, List.length_range]; omega), _, rfl, bb.trans Bar.upd, ?_⟩
      rw [upd_same]
      have e2 := congrArg (fun x : List Int => some (HO.lst (x.map V.int))) (range_set (D := μ + 1) (l := j) (F := fun t => if t ∈ (supN f).take i then f t else 0) (F' := fun t => if t ∈ (supN f).take (i + 1) then f t else 0) (by omega) (fun t ht => by
        rw [take_more hj]
        by_cases h : t ∈ (supN f).take i
        · rw [if_pos h, if_pos (List.mem_append.mpr (.inl h))]
        · rw [if_neg h, if_neg (fun z => (List.mem_append.mp z).elim h fun z => ht (List.mem_singleton.mp z))]))
      rw [List.map_set, if_pos (by rw [take_more hj]; exact List.mem_append.mpr (.inr (List.mem_singleton.mpr rfl)))] at e2
      exact e2
    · rintro σ H7 ⟨v4, rfl, bb, er⟩
      refine ⟨bb _ _ n_zr hfz, ?_⟩
      have S8 : Same H (upd H7 z (.dK (numK f))) := fun b o h => by
        by_cases e : b = z
        · rw [e, upd_same, ← hz, ← e]
          exact h.symm ▸ h
        · rw [upd_ne e]
          exact bb _ _ (fun k => by rw [k, hrwH] at h; cases h) (bz b o e (S5 _ _ h))
      have er8 : (upd H7 z (.dK (numK f))) rw0 = some (.lst ((ffL f 0 (lenK μ 0)).map V.int)) := by
        rw [upd_ne (Ne.symm n_zr), er]
        congr 3
        rw [List.length_map, List.take_length]
        show _ = (List.range (max 1 (μ + 1 - 0))).map _
        rw [show max 1 (μ + 1 - 0) = μ + 1 by omega]
        refine List.map_congr_left fun t ht => ?_
        have ht' := List.mem_range.mp ht
        rw [FF_nat0]
        by_cases h : f t = 0
        · rw [h]
          exact ite_self 0
        · rw [if_pos (List.mem_filter.mpr ⟨List.mem_range.mpr (by omega), decide_eq_true h⟩)]
      generalize (upd H7 z (.dK (numK f))) = H8 at S8 er8 ⊢
      have hM : ∀ j, μ < j → f j = 0 := fun j hj => Classical.byContradiction fun h => absurd (hμ j h) (by omega)
      have hlK : ∀ k, lenK μ k ≤ 61 ∧ 1 ≤ lenK μ k := fun k => by
        unfold lenK
        omega
      refine ⟨_, rfl, _, rfl, _, _, rfl, rfl, _, rfl, by omega, by omega, ?_⟩
      obtain ⟨N, hN⟩ : ∃ N : Nat, N = (((n : Nat) : Int) - ((δ : Nat) : Int)).toNat := ⟨_, rfl⟩
      have hN' : N = n - δ := by omega
      rw [← hN]
      refine for_range (lo := 0) (n := N) (fun k σ H' => ∃ (rwv : Addr) (v4 v5 v6 v7 v8 : Option V), σ = [some (.ref z), some (zV n), some (zV δ), some (.ref rwv), v4, v5, v6, v7, v8] ∧ Same H H' ∧ H' rwv = some (.lst ((ffL f k (lenK μ k)).map V.int))) ⟨rw0, _, _, _, _, _, rfl, S8, er8⟩ ?_ ?_
      · rintro k σ H9 hk ⟨rwv, v4, v5, v6, v7, v8, rfl, s9, erw⟩
        have hk' : k < N := hk
        obtain ⟨hlk1, hlk2⟩ := hlK k
        refine ⟨by show 0 ≤ sizeLine; decide, fun fo hfo => ⟨_, _, rfl, ?_⟩⟩
        have s10 := same_new hfo (.lst [])
        have hfoH : H fo = none := s9.free hfo
        have efo : (upd H9 fo (.lst [])) fo = some (.lst []) := upd_same
        have erw10 := s10 _ _ erw
        generalize (upd H9 fo (.lst [])) = H10 at s10 efo erw10 ⊢
        refine ⟨_, rfl, rwv, _, rfl, .inl (SqL.of erw10), fun l hl => ⟨l, rfl, ⟨_, SqL.of upd_same⟩, ?_⟩⟩
        have s11 := same_new hl (.lst ((ffL f k (lenK μ k)).map V.int))
        have n_lf : l ≠ fo := (ne_of_none efo hl).symm
        have el : (upd H10 l (.lst ((ffL f k (lenK μ k)).map V.int))) l = some (.lst ((ffL f k (lenK μ k)).map V.int)) := upd_same
        have efo11 := s11 _ _ efo
        have S11 := s9.trans (s10.trans s11)
        generalize (upd H10 l (.lst ((ffL f k (lenK μ k)).map V.int))) = H11 at S11 el efo11 ⊢
        refine for_list (K := K) (a := l) (xs := (ffL f k (lenK μ k)).map V.int) (fun i σ H' => ∃ (v5 v8 : Option V), σ = [some (.ref z), some (zV n), some (zV δ), some (.ref rwv), v4, v5, some (.ref fo), some (.int (sumR (fun t => FF f k ((t : Nat) : Int)) i)), v8] ∧ Same H H' ∧ H' l = some (.lst ((ffL f k (lenK μ k)).map V.int)) ∧ H' fo = some (.lst ((ffL f (k + 1) i).map V.int)))
          ⟨_, _, rfl, S11, el, efo11⟩ ?_ ?_ ?_
        · rintro i σ H' _ ⟨_, _, rfl, _, el, _⟩
          exact SqL.of el
        · rintro i x σ H12 hx ⟨v5, v8, rfl, s12, el, efo⟩
          rw [List.getElem?_map] at hx
          have hil : i < lenK μ k := by
            refine Nat.lt_of_not_le fun h => ?_
            rw [List.getElem?_eq_none (by rw [ff_len]; exact h)] at hx
            cases hx
          rw [ff_at hil] at hx
          obtain rfl := Option.some.inj hx
          refine ⟨_, rfl, _, rfl, _, _, rfl, rfl, _, rfl, .inl ⟨rfl, _, SqL.of efo⟩, _, rfl, fo, _, _, rfl, rfl, efo, by rw [List.length_map, ff_len]; exact sizeK (by omega), _, _, by rw [sumR_succ]; rfl, same_updL s12 hfoH, by rw [upd_ne n_lf]; exact el, ?_⟩
          rw [upd_same, ff_more, ← FF_sum hf200, sumR_succ, List.map_append]
          rfl
        · rintro σ H12 ⟨v5, v8, rfl, s12, el, efo⟩
          rw [List.length_map, ff_len] at efo
          have hlast : FF f (k + 1) (((lenK μ k - 1 : Nat)) : Int) = 0 := FF_over h1 hδ hM hf200 hS (by omega) (by unfold lenK; omega)
          have efo' : (ffL f (k + 1) (lenK μ k)).map V.int = (ffL f (k + 1) (lenK μ k - 1)).map V.int ++ [V.int 0] := by
            rw [show lenK μ k = lenK μ k - 1 + 1 by omega, ff_more, hlast, List.map_append, Nat.add_sub_cancel]
            rfl
          refine ⟨_, rfl, _, rfl, fo, _, _, _, rfl, rfl, SqL.of efo, by rw [efo']; exact atI_last _ _, rfl, _, rfl, ?_⟩
          rw [show (!decide (V.int 0 = V.int 0)) = false by rw [decide_eq_true rfl]; rfl]
          refine iteF ?_
          refine ⟨_, rfl, fo, _, rfl, .inl (SqL.of efo), _, _, rfl, rfl, _, rfl, ite2 (fun cc => ?_) (fun cc => ?_)⟩
          · have cc' := of_decide_eq_true cc
            rw [List.length_map, ff_len] at cc'
            refine ⟨_, rfl, _, rfl, _, rfl, fo, _, rfl, SqL.of efo, fun p hp => ?_⟩
            have ec : cutV ((ffL f (k + 1) (lenK μ k)).map V.int) none (some (-1)) = (ffL f (k + 1) (lenK μ (k + 1))).map V.int := by
              rw [show cutV ((ffL f (k + 1) (lenK μ k)).map V.int) none (some (-1)) = _ from Gv.cut_initI _, ff_len]
              show List.map V.int _ = _
              congr 1
              rw [show lenK μ k = lenK μ k - 1 + 1 by omega, ff_more, Nat.add_sub_cancel, List.take_left' (ff_len _ _ _), show lenK μ k - 1 = lenK μ (k + 1) by unfold lenK at cc' ⊢; omega]
            rw [ec]
            exact ⟨p, _, _, _, _, _, rfl, s12.trans (same_new hp _), upd_same⟩
          · have cc' : ¬ (1 : Int) < (((ffL f (k + 1) (lenK μ k)).map V.int).length : Nat) := fun z => cc (decide_eq_true z)
            rw [List.length_map, ff_len] at cc'
            refine ⟨by show 1 ≤ sizeLine; decide, fun p hp => ⟨p, _, _, _, _, _, rfl, s12.trans (same_new hp _), ?_⟩⟩
            rw [upd_same, show lenK μ (k + 1) = 0 + 1 by unfold lenK at cc' ⊢; omega, ff_more, show FF f (k + 1) ((0 : Nat) : Int) = 0 by
              rw [← hlast, show lenK μ k - 1 = 0 by omega]]
            rfl
      · rintro σ H9 ⟨rwv, v4, v5, v6, v7, v8, rfl, s9, erw⟩
        refine ⟨_, rfl, rwv, _, rfl, SqL.of erw, ?_⟩
        have e := hend μ hM hμ60
        rw [← hN'] at e
        rw [show (ffL f N (lenK μ N)).sum = c from e]
        exact q H9 s9
end
end K13

namespace K13
open PySem PySem.Spec PyProof.Rows L2 RZ L5 R7 XX
open M12 DD
open L6 (C)
theorem sum_rep (d m : Nat) : (List.replicate d m).sum = d * m := by rw [List.sum_replicate_nat]
theorem fit_rep {t : List Nat} {m : Nat} (h : ∀ e ∈ t, e ≤ m) : M7.fitB t (List.replicate t.length m) = true := fit_of (by rw [List.length_replicate]) fun x hx => by
  unfold at0
  rw [List.getD_eq_getElem?_getD, List.getElem?_eq_getElem hx, List.getD_eq_getElem?_getD, List.getElem?_replicate, if_pos hx]
  exact h _ (List.getElem_mem hx)
theorem sum_low {t : List Nat} {m : Nat} (h : ∀ e ∈ t, e ≤ m) : t.sum ≤ t.length * m := by
  have := (M7.fit_sum (t := t) (u := List.replicate t.length m) (by rw [List.length_replicate]) (fit_rep h)).1
  rwa [sum_rep] at this
theorem sumS_low {d m : Nat} : ∀ {L : List (List Nat)}, (∀ t ∈ L, t.sum ≤ m) → sumS L ≤ L.length * m
  | [], _ => Nat.zero_le _
  | t :: L, h => by
    have h1 := h t List.mem_cons_self
    have h2 := sumS_low (d := d) (m := m) (L := L) fun u hu => h u (List.mem_cons_of_mem _ hu)
    simp only [sumS, List.map_cons, List.sum_cons, List.length_cons, Nat.succ_mul] at h2 ⊢
    omega
theorem make_at {K : PySem.W.Frag} {C : Addr} {H : Hp} {QQ : Hp → Prop} {z : Addr} {d : Nat} {rs : List Addr} {L M : List (List Nat)} {y dx : Addr} (hz : SqT K H z (rs.map V.ref)) (hT : Tups K H rs L) (hf : Few d L) (h8 : d ≤ 8) (low : ∀ t ∈ L, ∀ e ∈ t, e ≤ 8) (he : M7.leastN L = M) (ny : H y = none) (nd : H dx = none) (ne : dx ≠ y)
    (q : ∀ H', Same H H' → LotAt K C H' y d M → QQ H') :
    sp_init K C [.ref y, .int ((d : Nat) : Int), .ref z] (upd (upd H dx (.own y)) y (.ins C dx [])) (fun v H' => v = .non ∧ QQ H') E0 := by
  have sy : Same H (upd (upd H dx (.own y)) y (.ins C dx [])) := (same_new nd (.own y)).trans (same_new (by rw [upd_ne (Ne.symm ne)]; exact ny) _)
  refine ⟨y, dx, z, d, rs, L, rfl, upd_same, same_sqt sy hz, hT.same sy, hf, h8, low, fun H2 m2 rs2 st2 hx2 hm2 hT2 => ⟨rfl, ?_⟩⟩
  have S2 : Same H H2 := fun b o h => st2 b o (ne_of_none h ny) (sy b o h)
  rw [he] at hT2
  exact q H2 S2 ⟨dx, m2, rs2, hx2, hm2, hT2⟩
theorem few_low {d n m : Nat} {L : List (List Nat)} (h1 : 1 ≤ d) (hl : ∀ t ∈ L, t.length = d) (hm : ∀ t ∈ L, ∀ e ∈ t, e ≤ m) (hn : L.length ≤ n) (hm' : m ≤ 60) (hn' : n ≤ 24) : Few d L := ⟨h1, hl, fun t ht e he => Nat.le_trans (hm t ht e he) hm', by omega, Nat.le_trans (M7.least_short L) (by omega)⟩
section
variable {P : Program} {w : World} {K : PySem.W.Frag} {mg : Str → Option Value} {base : Heap}
end
end K13

namespace K13
open PySem PySem.Spec PyProof.Rows L2 RZ L5 R7 XX
open M12 DD M13
open L6 (C)
/-- a lot of the law's -/
structure Rt (d : Nat) (L : List (List Nat)) : Prop where
  pos : 1 ≤ d
  few : d ≤ 5
  len : ∀ t ∈ L, t.length = d
  low : ∀ t ∈ L, ∀ e ∈ t, e ≤ 3
  num : L.length ≤ 5
  own : M7.leastN L = L
theorem Rt.cnt {d : Nat} {L : List (List Nat)} (h : Rt d L) : CntOk d (List.replicate d 3) L := by
  have hf := h.few
  have hl := h.num
  refine ⟨⟨ant_own h.len h.own, List.length_replicate, fun r hr => ?_⟩, h.pos, by omega, by rw [sum_rep]; omega, by omega, ?_⟩
  · have := fit_rep (h.low r hr)
    rwa [h.len r hr] at this
  · have h1 : ∀ t ∈ L, t.sum ≤ 32 := fun t ht => by
      have := sum_low (h.low t ht)
      rw [h.len t ht] at this
      omega
    have := sumS_low (d := d) h1
    have := Nat.mul_le_mul_right 32 (show L.length ≤ 20 by omega)
    omega
theorem Rt.far {d : Nat} {L : List (List Nat)} (h : Rt d L) {j : Nat} (hj : 15 < j) : KN L j = 0 := K_past h.cnt.way j (by rw [sum_rep]; have := h.few; omega)
/-- the differences from the dimension on are 0 -/
theorem dif_dim {d : Nat} {b : List Nat} {L : List (List Nat)} (h : CntOk d b L) (t : Int) : dif (dimI d L).toNat (stN (KN L) d) t = 0 := by
  have hH := hil h.pos (sumS L) L b (Nat.le_refl _) h.way h.far
  cases e : (dimI d L).toNat with
  | zero => exact hH.zero (dim_le (by omega)) t
  | succ k =>
    obtain ⟨c, _, _, hc⟩ := hH.const k (dim_le (by omega))
    show dif k (stN (KN L) d) (t + 1) - dif k (stN (KN L) d) t = 0
    rw [hc, hc]
    omega
theorem wt_pos {d : Nat} {b : List Nat} {L : List (List Nat)} (h : CntOk d b L) (h0 : 0 ≤ dimI d L) : 1 ≤ wtI d L := by
  unfold wtI
  by_cases hp : 0 < dimI d L
  · rw [if_pos hp]
    have hH := hil h.pos (sumS L) L b (Nat.le_refl _) h.way h.far
    obtain ⟨c, _, h1, hc⟩ := hH.const ((dimI d L).toNat - 1) (dim_le (by omega))
    rw [hc]
    exact h1 (dim_ge (by omega))
  · rw [if_neg hp]
    obtain ⟨c, _, h1, hc⟩ := few_left h.pos (sumS L) L b (Nat.le_refl _) h.way h.far (dim_le (by omega))
    rw [hc]
    exact h1 (dim_ge (by omega))
theorem row_get {g : Int → Int} {D k : Nat} (h : k < D) : (rowL g D).getD k 0 = dif k g 0 := by
  unfold rowL
  rw [List.getD_eq_getElem?_getD, List.getElem?_map, List.getElem?_range h]
  rfl
theorem at_row {d : Nat} {b : List Nat} {L : List (List Nat)} (h : CntOk d b L) (t : Nat) : atS (rowL (stN (KN L) d) (dimI d L).toNat) t = stN (KN L) d ((t : Nat) : Int) := by
  rw [newton _ _ (dif_dim h) ((t : Nat) : Int)]
  unfold atS
  rw [row_len]
  exact sumR_ext fun k hk => by rw [row_get hk, bq_nat]
theorem moved_row {d : Nat} {b : List Nat} {L : List (List Nat)} (h : CntOk d b L) (s : Nat) : mvL (fun t => stN (KN L) d (t + s)) s (dimI d L).toNat (dimI d L).toNat 0 = rowL (stN (KN L) d) (dimI d L).toNat := by
  unfold mvL rowL
  refine List.map_congr_left fun l hl => ?_
  have hl' := List.mem_range.mp hl
  rw [if_neg (Nat.not_lt_zero l), moved (by omega) (dif_dim h) ((s : Nat) : Int)]
  refine sumR_ext fun j hj => ?_
  unfold phiI
  rw [dif_sh, Int.zero_add, bq_back, Int.mul_assoc]
  congr 2
  unfold chI
  by_cases e : j = 0
  · rw [if_pos e, e, L6.C_zero]
    rfl
  · rw [if_neg e, show (((s : Nat) : Int) + ((j : Nat) : Int) - 1).toNat = s + j - 1 by omega]
theorem quot_end {d : Nat} {b : List Nat} {L : List (List Nat)} (h : CntOk d b L) {μ : Nat} (hM : ∀ j, μ < j → KN L j = 0) (hμ : μ ≤ 60) : sumR (fun t => FF (KN L) (d - (dimI d L).toNat) ((t : Nat) : Int)) (lenK μ (d - (dimI d L).toNat)) = wtI d L := by
  have hz : ∀ j, 200 ≤ j → KN L j = 0 := fun j hj => hM j (by omega)
  have htop := dim_top d L
  have hd1 := h.pos
  unfold wtI
  by_cases hp : 0 < dimI d L
  · rw [if_pos hp]
    obtain ⟨m, hm⟩ : ∃ m, lenK μ (d - (dimI d L).toNat) = m + 1 := ⟨lenK μ (d - (dimI d L).toNat) - 1, by unfold lenK; omega⟩
    rw [hm, FF_sum hz, show d - (dimI d L).toNat + 1 = d - ((dimI d L).toNat - 1) by omega]
    have hH := hil h.pos (sumS L) L b (Nat.le_refl _) h.way h.far
    obtain ⟨c, _, h1, hc⟩ := hH.const ((dimI d L).toNat - 1) (dim_le (by omega))
    rw [hc 0]
    exact FF_last hd1 (by omega) hM hz hc (by unfold lenK at hm; omega)
  · rw [if_neg hp, show (dimI d L).toNat = 0 by omega, Nat.sub_zero]
    have h0 := dif_dim h
    rw [show (dimI d L).toNat = 0 by omega] at h0
    have hd8 := h.few
    have hle : lenK μ d ≤ 200 := by unfold lenK; omega
    have e1 : ∀ t : Nat, FF (KN L) d ((t : Nat) : Int) = cntL (KN L) d t := fun t => by
      obtain ⟨k, rfl⟩ : ∃ k, d = k + 1 := ⟨d - 1, by omega⟩
      exact FF_nat _ _ _
    have e2 := sumR_more (φ := fun t => cntL (KN L) d t) (N := lenK μ d) (fun t ht => by
      rw [← e1 t]
      exact FF_over hd1 (Nat.zero_le _) hM hz h0 (by omega) (by unfold lenK at ht; omega)) (200 - lenK μ d)
    rw [show lenK μ d + (200 - lenK μ d) = 200 by omega] at e2
    rw [e2]
    exact sumR_ext fun t _ => e1 t
theorem deg_low {d : Nat} {L : List (List Nat)} (h : Rt d L) {σ : Nat} (hσ : StDeg (KN L) d σ) : σ ≤ 15 := by
  have := h.pos
  rcases hσ.low with k | ⟨j, hj, k⟩
  · omega
  · have : j ≤ 15 := Nat.le_of_not_lt fun z => hj (h.far z)
    omega
theorem cnt_sum41 {d : Nat} {L : List (List Nat)} (h : Rt d L) (h0 : ¬ 0 < dimI d L) {σ : Nat} (hσ : StDeg (KN L) d σ) : sumR (fun t => cntL (KN L) d t) 41 = wtI d L := by
  have hs := deg_low h hσ
  unfold wtI
  rw [if_neg h0]
  have hz := (hil h.pos (sumS L) L _ (Nat.le_refl _) h.cnt.way h.cnt.far).zero (dim_le (by omega))
  exact (sumR_more (φ := fun t => cntL (KN L) d t) (N := 41) (fun j hj => by rw [hσ.eq j (by omega), hz]) 159).symm
/-- no free set at all: the numerator is 0 -/
theorem none_zero {d : Nat} {L : List (List Nat)} (h : Rt d L) (h0 : dimI d L = -1) : ∀ j, KN L j = 0 := by
  have hne := big_none.mp h0
  have hnf : ¬ FrP [] L := fun hf => by
    have : ([] : List Nat) ∈ freeS d L := List.mem_filter.mpr ⟨sets_nil d, free_FrP.mpr hf⟩
    rw [hne] at this
    cases this
  have ha := h.cnt.way.ant
  obtain ⟨t, ht, htz⟩ : ∃ t ∈ L, ∀ j, at0 t j = 0 := Classical.byContradiction fun hn => hnf fun t ht => Classical.byContradiction fun hk => hn ⟨t, ht, fun j => Classical.byContradiction fun z => hk ⟨j, Nat.pos_of_ne_zero z, fun hm => nomatch hm⟩⟩
  have hall : ∀ q ∈ L, q = t := fun q hq => (ha.one t ht q hq (fit_of (by rw [h.len t ht, h.len q hq]) fun x hx => by rw [htz x]; exact Nat.zero_le _)).symm
  have hL : L = [t] := by
    cases L with
    | nil => cases ht
    | cons a r =>
      cases r with
      | nil => rw [hall a List.mem_cons_self]
      | cons b r =>
        have e1 := hall a List.mem_cons_self
        have e2 := hall b (List.mem_cons_of_mem _ List.mem_cons_self)
        have := (List.nodup_cons.mp ha.nd).1
        exact absurd (by rw [e1, ← e2]; exact List.mem_cons_self) this
  have hs : t.sum = 0 := Nat.eq_zero_of_not_pos fun hp => by
    obtain ⟨j, hj⟩ := at_ex hp
    rw [htz j] at hj
    cases hj
  intro j
  rw [hL, K_cons, hs]
  show KN [] j - sh 0 (KN (M8.qN [] t)) j = 0
  rw [sh_zero]
  show KN [] j - KN [] j = 0
  omega
end K13

namespace K13
open PySem PySem.Spec PyProof.Rows L2 RZ L5 R7 XX
open M12 DD M13
open L6 (C)
theorem ne_same (x : V) : (!decide (x = x)) = false := by rw [decide_eq_true rfl]; rfl
section
variable {P : Program} {w : World} {K : PySem.W.Frag} {mg : Str → Option Value} {base : Heap}
def sp_right (K : PySem.W.Frag) : Sp := fun vs H Q _ => ∃ p : Addr, vs = [.ref p] ∧ Pail p H ∧ ∀ H', Bar p H H' → Pail p H' → Q (.bl true) H'
theorem ok_right (T : Txt K mg) (O : LotT K mg) (R : LotP K O.C) (W : LotO K mg O.C) : FnOk P w K mg base CX0 10 T.a_w_right T.d_w_right ["_law_jug_here"] (sp_right K) := by
  refine T.F_w_right.ok sc_w_right (fun vs H Q E h => ?_) (fun cdv A outer s H vs Q E hr h => ?_)
  · obtain ⟨p, rfl, _⟩ := h
    rfl
  · obtain ⟨p, rfl, ⟨g, x, c, hp⟩, q⟩ := h
    refine ⟨_, (pss_cons (ps_set (i := 1) sc_w_right.nd rfl (Or.inl rfl) (pe_op op_add pe_int (pe_call  (ok_dip T) (hr.mono (by decide)) (by rfl) T.m_w_pour T.F_w_pour.kp T.b_w_pour .nil pass0 (pa_cons (pv 0) (pa_cons pe_int pa_nil)))))
      (pss_cons (ps_set (i := 2) sc_w_right.nd rfl (Or.inl rfl) (pe_call  (ok_wmem T) (hr.mono (by decide)) (by rfl) T.m_w_members T.F_w_members.kp T.b_w_members .nil pass0 (pa_cons (pv 0) (pa_cons (pv 1) (pa_cons pe_int (pa_cons (pe_call  (ok_some T) (hr.mono (by decide)) (by rfl) T.m_w_taken T.F_w_taken.kp T.b_w_taken .nil pass0 (pa_cons (pv 0) (pa_cons (pe_lst (pa_cons pe_int (pa_cons pe_int (pa_cons pe_int pa_nil)))) pa_nil))) pa_nil))))))
      (pss_cons (ps_set (i := 3) sc_w_right.nd rfl (Or.inl rfl) (pe_make O.M (ok_init T O) (hr.mono (by decide)) rfl O.gC O.bI .nil pass0 (pa_cons (pv 1) (pa_cons (pv 2) pa_nil))))
      (pss_cons (ps_asg (pe_tup (pa_cons (pe_call  (ok_numr T O R W) (hr.mono (by decide)) (by rfl) T.m_numerator T.F_numerator.kp T.b_numerator .nil pass0 (pa_cons (pv 3) pa_nil)) (pa_cons (pe_call  (ok_dim T O R W) (hr.mono (by decide)) (by rfl) T.m_dimension T.F_dimension.kp T.b_dimension .nil pass0 (pa_cons (pv 3) pa_nil)) (pa_cons (pe_call  (ok_srow T O R W) (hr.mono (by decide)) (by rfl) T.m_steady_row T.F_steady_row.kp T.b_steady_row .nil pass0 (pa_cons (pv 3) pa_nil)) (pa_cons (pe_call  (ok_sdg T O R W) (hr.mono (by decide)) (by rfl) T.m_steady_degree T.F_steady_degree.kp T.b_steady_degree .nil pass0 (pa_cons (pv 3) pa_nil)) pa_nil))))) (pg_tup (by rfl) (pgs_cons (pg_name (i := 4) sc_w_right.nd rfl (Or.inl rfl)) (pgs_cons (pg_name (i := 5) sc_w_right.nd rfl (Or.inl rfl)) (pgs_cons (pg_name (i := 6) sc_w_right.nd rfl (Or.inr rfl)) (pgs_cons (pg_name (i := 7) sc_w_right.nd rfl (Or.inl rfl)) pgs_nil))))))
      (pss_cons (ps_if (PW.pt (pw_or (pt_cmpR op_ne (pe_callB call_len_seq (by rfl) T.z_len boot_len (pa_cons (pv 6) pa_nil)) (pe_callB (call_max2 rfl) (by rfl) T.z_max (by decide +kernel) (pa_cons pe_int (pa_cons (pv 5) pa_nil))) (nomark _)) (pw_or1 (pt_cmpR op_gt (pv 7) (pe_callB (call_max2 rfl) (by rfl) T.z_max (by decide +kernel) (pa_cons pe_int (pa_cons (pe_op op_add (pe_op op_sub (pe_callB (cr_max rfl) (by rfl) T.z_max (by decide +kernel) (pa_cons (pe_op op_cat (pe_callTy (call_listD rfl) (by rfl) T.z_list boot_list (pa_cons (pv 4) pa_nil)) (pe_lst (pa_cons pe_int pa_nil))) pa_nil)) (pv 1)) pe_int) pa_nil))) (nomark _))))) (pss_one (ps_ret pe_bl)) pss_nil)
      (pss_cons (ps_set (i := 8) sc_w_right.nd rfl (Or.inr rfl) (pe_call  (ok_lcs T O R W) (hr.mono (by decide)) (by rfl) T.m_left_counts T.F_left_counts.kp T.b_left_counts .nil pass0 (pa_cons (pv 3) (pa_cons pe_int pa_nil))))
      (pss_cons (ps_if (pt_cmpR (op_neD hr.units) (pe_lc (own := [("_law_degree", 9)]) (g := gName 9) rfl sc_w_right.nd (pi_range2 rfl T.z_range (pa_cons (pv 7) (pa_cons pe_int pa_nil))) (blkOk_by (own := [("_law_degree", 9)]) (N := N_w_right) (sc := defScope s_w_right) (by decide +kernel)) (fun _ _ _ _ _ => (pg_name (i := 9) sc_w_right.nd rfl (Or.inl rfl))) (fun _ _ _ _ _ => pts_one (pt_cmpR op_ne (pe_ix (show IxR _ (rIxT K) from ix_tup) (pv 8) (pv 9) (fun _ _ => rfl)) (pe_call  (ok_wat T) (hr.mono (by decide)) (by rfl) T.m_w_at T.F_w_at.kp T.b_w_at .nil pass0 (pa_cons (pv 6) (pa_cons (pv 9) pa_nil))) (nomark _))) (fun _ _ _ _ _ => (pv 9))) (pe_lst pa_nil) (nomark _)) (pss_one (ps_ret pe_bl)) pss_nil)
      (pss_cons (ps_if (PW.pt (pw_or (PW.pt (pw_and (pt_cmpR op_gt (pv 7) pe_int (nomark _)) (pw_and1 (pt_cmpR op_eq (pe_ix ix_tup (pv 8) (pe_op op_sub (pv 7) pe_int) (fun _ _ => rfl)) (pe_call  (ok_wat T) (hr.mono (by decide)) (by rfl) T.m_w_at T.F_w_at.kp T.b_w_at .nil pass0 (pa_cons (pv 6) (pa_cons (pe_op op_sub (pv 7) pe_int) pa_nil))) (nomark _))))) (pw_or1 (pt_cmpR op_ne (pe_call  (ok_cat T O R W) (hr.mono (by decide)) (by rfl) T.m_count_at T.F_count_at.kp T.b_count_at .nil pass0 (pa_cons (pv 3) (pa_cons pe_int pa_nil))) (pe_call  (ok_wat T) (hr.mono (by decide)) (by rfl) T.m_w_at T.F_w_at.kp T.b_w_at .nil pass0 (pa_cons (pv 6) (pa_cons pe_int pa_nil))) (nomark _))))) (pss_one (ps_ret pe_bl)) pss_nil)
      (pss_cons (ps_if (pt_cmpR (op_neD hr.units) (pv 6) (pe_call  (ok_wby T) (hr.mono (by decide)) (by rfl) T.m_w_by_differences T.F_w_by_differences.kp T.b_w_by_differences .nil pass0 (pa_cons (pv 8) (pa_cons (pv 7) (pa_cons (pe_callB (call_max2 rfl) (by rfl) T.z_max (by decide +kernel) (pa_cons pe_int (pa_cons (pv 5) pa_nil))) pa_nil)))) (nomark _)) (pss_one (ps_ret pe_bl)) pss_nil)
      (pss_cons (ps_if (pt_cmpR op_eq (pv 5) (pe_un un_neg pe_int) (nomark _)) (pss_one (ps_ret (pe_and (pe_cmpR op_eq (pe_call  (ok_wt T O R W) (hr.mono (by decide)) (by rfl) T.m_weight T.F_weight.kp T.b_weight .nil pass0 (pa_cons (pv 3) pa_nil)) pe_int (nomark _)) (pe_and (pe_cmpR (op_eq_dictA hr.units0) (pv 4) pe_dnewK (nomark _)) (pe_one (pe_cmpR op_eq (pv 7) pe_int (nomark _))))))) pss_nil)
      (pss_cons (ps_if (PW.pt (pw_or (pt_cmpR op_ne (pe_call  (ok_wt T O R W) (hr.mono (by decide)) (by rfl) T.m_weight T.F_weight.kp T.b_weight .nil pass0 (pa_cons (pv 3) pa_nil)) (pe_ifExp (pt_cmpR op_gt (pv 5) pe_int (nomark _)) (pe_ix ix_tup (pv 6) (pe_un un_neg pe_int) (fun _ _ => rfl)) (pe_callB (cr_sumT rfl) (by rfl) T.z_sum boot_sum (pa_cons (pv 8) pa_nil))) (nomark _)) (pw_or1 (pt_cmpR op_lt (pe_call  (ok_wt T O R W) (hr.mono (by decide)) (by rfl) T.m_weight T.F_weight.kp T.b_weight .nil pass0 (pa_cons (pv 3) pa_nil)) pe_int (nomark _))))) (pss_one (ps_ret pe_bl)) pss_nil)
      (pss_one (ps_ret (pe_cmpR op_eq (pe_call  (ok_wqv T) (hr.mono (by decide)) (by rfl) T.m_w_quotient_value T.F_w_quotient_value.kp T.b_w_quotient_value .nil pass0 (pa_cons (pv 4) (pa_cons (pv 1) (pa_cons (pv 5) pa_nil)))) (pe_call  (ok_wt T O R W) (hr.mono (by decide)) (by rfl) T.m_weight T.F_weight.kp T.b_weight .nil pass0 (pa_cons (pv 3) pa_nil)) (nomark _))))))))))))))), ?_⟩
    refine ⟨_, rfl, p, _, g, x, c, rfl, hp, by decide, by decide, fun g2 x2 c2 r h0 h1 => ?_⟩
    obtain ⟨n, rfl⟩ := nat_of h0
    refine ⟨_, _, rfl, rfl, ?_⟩
    have e1 : (1 : Int) + ((n : Nat) : Int) = ((1 + n : Nat) : Int) := rfl
    dsimp only
    rw [e1]
    have hd5 : 1 + n ≤ 5 := by omega
    have hd1 : 1 ≤ 1 + n := by omega
    generalize 1 + n = d at hd5 hd1 ⊢
    have hp1 : Pail p (upd H p (pailO g2 x2 c2)) := ⟨_, _, _, upd_same⟩
    have b1 : Bar p H (upd H p (pailO g2 x2 c2)) := Bar.upd
    generalize upd H p (pailO g2 x2 c2) = H1 at hp1 b1 ⊢
    refine ⟨_, rfl, _, rfl, _, rfl, by show 3 ≤ sizeLine; decide, fun y hy => ?_⟩
    have sy := same_new hy (.lst [V.int 1, V.int 2, V.int 3])
    have hyp := ne_pail hp1 hy
    obtain ⟨g3, x3, c3, hp2⟩ := hp1.same sy
    refine ⟨p, y, _, g3, x3, c3, rfl, hp2, hyp, SqL.of upd_same, by simp, by simp, fun g4 x4 c4 v hv => ?_⟩
    obtain ⟨m, rfl, hm⟩ : ∃ m : Nat, v = .int ((m : Nat) : Int) ∧ m ≤ 3 := by
      simp only [List.mem_cons, List.not_mem_nil, or_false] at hv
      rcases hv with rfl | rfl | rfl
      · exact ⟨1, rfl, by omega⟩
      · exact ⟨2, rfl, by omega⟩
      · exact ⟨3, rfl, by omega⟩
    have b2 : Bar p H (upd (upd H1 y (.lst [V.int 1, V.int 2, V.int 3])) p (pailO g4 x4 c4)) := (b1.trans (Bar.same sy)).trans Bar.upd
    have hp3 : Pail p (upd (upd H1 y (.lst [V.int 1, V.int 2, V.int 3])) p (pailO g4 x4 c4)) := ⟨_, _, _, upd_same⟩
    generalize (upd (upd H1 y (.lst [V.int 1, V.int 2, V.int 3])) p (pailO g4 x4 c4)) = H2 at b2 hp3 ⊢
    refine ⟨p, d, 5, m, rfl, hp3, hd1, by omega, by decide, by omega, fun H3 z rs L0 b3 hp4 hz hT hn hl hlow => ?_⟩
    have hl' : ∀ t ∈ M7.leastN L0, t.length = d := fun t ht => hl t (M7.mem_least.mp ht).1
    have hlow' : ∀ t ∈ M7.leastN L0, ∀ e ∈ t, e ≤ 3 := fun t ht e he => Nat.le_trans (hlow t (M7.mem_least.mp ht).1 e he) hm
    have hn' : (M7.leastN L0).length ≤ 5 := Nat.le_trans (M7.least_short L0) hn
    have hown := M7.least_least (L := L0) hl
    generalize M7.leastN L0 = L at hT hl' hlow' hn' hown
    have hR : Rt d L := ⟨hd1, hd5, hl', hlow', hn', hown⟩
    refine ⟨_, rfl, _, rfl, ?_⟩
    intro y1 dy ny nd ne
    refine make_at (K := K) (C := O.C) (d := d) (rs := rs) (L := L) (M := L) hz hT (few_low hd1 hl' hlow' hn' (by decide) (by decide)) (by omega) (fun t ht e he => Nat.le_trans (hlow' t ht e he) (by decide)) hown ny nd ne (fun H4 s4 hA => ?_)
    have B4 : Bar p H H4 := (b2.trans b3).trans (Bar.same s4)
    have hP4 : Pail p H4 := hp4.same s4
    have hC := hR.cnt
    refine ⟨_, rfl, y1, d, L, _, rfl, hA, hC, fun H5 f s5 _ hf => ?_⟩
    refine ⟨_, rfl, y1, d, L, rfl, hA.same s5, by omega, hl', fun H6 s6 => ?_⟩
    refine ⟨_, rfl, y1, d, L, _, rfl, hA.same (s5.trans s6), hC, fun H7 rv s7 hrv => ?_⟩
    refine ⟨_, rfl, y1, d, L, _, rfl, hA.same (s5.trans (s6.trans s7)), hC, fun H8 σ s8 hσ => ?_⟩
    have S8 := s5.trans (s6.trans (s7.trans s8))
    have hA8 := hA.same S8
    have hf8 := (s6.trans (s7.trans s8)) _ _ hf
    have hrv8 := same_sqt s8 hrv
    have B8 := B4.trans (Bar.same S8)
    have hP8 := hP4.same S8
    refine ⟨by show 4 ≤ sizeLine; decide, fun tp htp => ⟨tp, _, rfl, SqT.of upd_same, rfl, _, _, rfl, _, _, rfl, _, _, rfl, _, _, rfl, rfl, ?_⟩⟩
    have s9 := same_new htp (.tup [V.ref f, V.int (dimI d L), V.ref rv, zV σ])
    have hA9 := hA8.same s9
    have hf9 := s9 _ _ hf8
    have hrv9 := same_sqt s9 hrv8
    have B9 := B8.trans (Bar.same s9)
    have hP9 := hP8.same s9
    generalize (upd H8 tp (.tup [V.ref f, V.int (dimI d L), V.ref rv, zV σ])) = H9 at hA9 hf9 hrv9 B9 hP9 ⊢
    have hσ15 := deg_low hR hσ
    have hlo := dim_low d L
    have hto := dim_top d L
    obtain ⟨δ, hδ⟩ : ∃ δ : Nat, δ = (dimI d L).toNat := ⟨_, rfl⟩
    have hδ5 : δ ≤ 5 := by omega
    have hmx : (if dimI d L > 0 then dimI d L else 0) = ((δ : Nat) : Int) := by split <;> omega
    rw [← hδ] at hrv9
    refine ⟨_, rfl, rv, _, rfl, .inr hrv9, _, rfl, _, _, rfl, rfl, _, rfl, ?_⟩
    rw [show (!decide (V.int (((rowL (stN (KN L) d) δ).map V.int).length : Nat) = V.int (if dimI d L > 0 then dimI d L else 0))) = false by rw [hmx, List.length_map, row_len, decide_eq_true rfl]; rfl]
    refine iteF ⟨_, rfl, _, rfl, f, _, rfl, .inl hf9, fun p2 hp2 => ?_⟩
    have ek : ((numK (KN L)).map fun kv => kV kv.1) = ((supN (KN L)).map fun j => ((j : Nat) : Int)).map V.int := by
      unfold numK
      rw [List.map_map, List.map_map]
      rfl
    rw [ek]
    have hsl := sup_len (KN L)
    have t2 := same_new hp2 (.lst (((supN (KN L)).map fun j => ((j : Nat) : Int)).map V.int))
    have e_p2 : (upd H9 p2 (.lst (((supN (KN L)).map fun j => ((j : Nat) : Int)).map V.int))) p2 = some (.lst (((supN (KN L)).map fun j => ((j : Nat) : Int)).map V.int)) := upd_same
    generalize (upd H9 p2 (.lst (((supN (KN L)).map fun j => ((j : Nat) : Int)).map V.int))) = H10 at t2 e_p2 ⊢
    refine ⟨by show 1 ≤ sizeLine; decide, fun p3 hp3 => ?_⟩
    have t3 := same_new hp3 (.lst [V.int 0])
    have e_p3 : (upd H10 p3 (.lst [V.int 0])) p3 = some (.lst [V.int 0]) := upd_same
    generalize (upd H10 p3 (.lst [V.int 0])) = H11 at t3 e_p3 ⊢
    refine ⟨p2, p3, _, _, rfl, rfl, t3 _ _ e_p2, e_p3, by rw [List.length_map, List.length_map]; exact Nat.le_of_lt (sizeK (by show _ + 1 ≤ _; omega)), fun p4 hp4 => ?_⟩
    have ea : ((supN (KN L)).map fun j => ((j : Nat) : Int)).map V.int ++ [V.int 0] = (((supN (KN L)).map fun j => ((j : Nat) : Int)) ++ [0]).map V.int := by
      rw [List.map_append]
      rfl
    rw [ea]
    have t4 := same_new hp4 (.lst ((((supN (KN L)).map fun j => ((j : Nat) : Int)) ++ [0]).map V.int))
    refine ⟨p4, _, rfl, SqL.of upd_same, by rw [List.length_append]; exact Nat.succ_pos _, fun mx hm' hy => ?_⟩
    obtain ⟨μ, rfl, hμ, hμ60⟩ := mx_sup (fun j hj => hR.far (by omega)) hm' hy
    refine ⟨_, rfl, _, _, rfl, rfl, _, _, rfl, rfl, _, _, rfl, _, _, rfl, rfl, _, rfl, ?_⟩
    have hbound : ¬ (if ((μ : Nat) : Int) - ((d : Nat) : Int) + 1 > 0 then ((μ : Nat) : Int) - ((d : Nat) : Int) + 1 else 0) < ((σ : Nat) : Int) := by
      rcases hσ.low with k | ⟨j, hj, k⟩
      · split <;> omega
      · have := hμ j hj
        split <;> omega
    rw [decide_eq_false hbound]
    refine iteF ?_
    have T4 := t2.trans (t3.trans t4)
    have hA12 := hA9.same T4
    have hf12 := T4 _ _ hf9
    have hrv12 := same_sqt T4 hrv9
    have B12 := B9.trans (Bar.same T4)
    have hP12 := hP9.same T4
    generalize (upd H11 p4 (.lst ((((supN (KN L)).map fun j => ((j : Nat) : Int)) ++ [0]).map V.int))) = H12 at hA12 hf12 hrv12 B12 hP12 ⊢
    clear T4 t4 t3 t2
    refine ⟨_, rfl, y1, d, 40, L, _, rfl, hA12, hC, by decide, fun H13 cz s13 hcz => ?_⟩
    have hA13 := hA12.same s13
    have hf13 := s13 _ _ hf12
    have hrv13 := same_sqt s13 hrv12
    have B13 := B12.trans (Bar.same s13)
    have hP13 := hP12.same s13
    have hcl : ∀ t, t < 41 → ((List.range (40 + 1)).map fun i => cntL (KN L) d i)[t]? = some (cntL (KN L) d t) := fun t ht => by
      rw [List.getElem?_map, List.getElem?_range ht]
      rfl
    have hlen41 : ((List.range (40 + 1)).map fun i => cntL (KN L) d i).length = 41 := by rw [List.length_map, List.length_range]
    have hsum41 : ((List.range (40 + 1)).map fun i => cntL (KN L) d i).sum = sumR (fun t => cntL (KN L) d t) 41 := rfl
    have hrow : ∀ t, atS (rowL (stN (KN L) d) δ) t = stN (KN L) d ((t : Nat) : Int) := fun t => by
      rw [hδ]
      exact at_row hC t
    generalize ((List.range (40 + 1)).map fun i => cntL (KN L) d i) = cl at hcz hcl hlen41 hsum41
    refine ⟨_, rfl, _, _, rfl, ?_⟩
    refine ⟨⟨by omega, by omega, by decide, by decide⟩, fun D hD => ?_⟩
    have sD := same_new hD (.lst [])
    refine lc_range (lo := ((σ : Nat) : Int)) (n := ((41 : Int) - ((σ : Nat) : Int)).toNat) (fun i H' => Same H13 H' ∧ H' D = some (.lst [])) ⟨sD, upd_same⟩ (fun i H14 hi hh => ?_) (fun H14 hh => ?_)
    · obtain ⟨s14, eD⟩ := hh
      have hi' : i < 41 - σ := by omega
      rw [show ((σ : Nat) : Int) + ((i : Nat) : Int) = ((σ + i : Nat) : Int) by omega]
      have hat : atI (cl.map V.int) ((σ + i : Nat) : Int) = some (.int (cntL (KN L) d (σ + i))) := atI_nat (by rw [List.getElem?_map, hcl _ (by omega)]; rfl)
      refine ⟨rfl, _, rfl, _, rfl, cz, _, _, _, rfl, rfl, same_sqt s14 hcz, hat, _, rfl, _, rfl, rv, _, σ + i, rfl, same_sqt s14 hrv13, by rw [row_len]; exact hδ5, by omega, fun H15 s15 => ?_⟩
      rw [hrow, hσ.eq (σ + i) (by omega)]
      refine ⟨rfl, _, rfl, ?_⟩
      rw [ne_same]
      exact iteF ⟨s14.trans s15, s15 _ _ eD⟩
    · obtain ⟨s14, eD⟩ := hh
      refine ⟨by show 0 ≤ sizeLine; exact Nat.zero_le _, fun e he => ?_⟩
      have sE := same_new he (.lst [])
      refine ⟨.list [], .list [], .lst (SqL.of (sE _ _ eD)) .nil, .lst (SqL.of upd_same) .nil, by decide +kernel, by decide +kernel, ?_⟩
      rw [show PyData.eqv (.list []) (.list []) = true by decide +kernel]
      refine ⟨_, rfl, iteF ?_⟩
      have S16 := s14.trans sE
      have hA16 := hA13.same S16
      have hf16 := S16 _ _ hf13
      have hrv16 := same_sqt S16 hrv13
      have hcz16 := same_sqt S16 hcz
      have B16 := B13.trans (Bar.same S16)
      have hP16 := hP13.same S16
      generalize (upd H14 e (.lst [])) = H16 at hA16 hf16 hrv16 hcz16 B16 hP16 ⊢
      clear S16 sE eD s14
      refine ⟨_, rfl, _, _, rfl, rfl, _, rfl, ?_⟩
      by_cases hb : (0 : Int) < ((σ : Nat) : Int)
      case' pos =>
        rw [decide_eq_true hb]
        have hat : atI (cl.map V.int) (((σ : Nat) : Int) - 1) = some (.int (cntL (KN L) d (σ - 1))) := by
          rw [show ((σ : Nat) : Int) - 1 = ((σ - 1 : Nat) : Int) by omega]
          exact atI_nat (by rw [List.getElem?_map, hcl _ (by omega)]; rfl)
        refine iteT ⟨_, rfl, _, rfl, _, _, rfl, rfl, cz, _, _, _, rfl, rfl, hcz16, hat, _, rfl, _, rfl, _, _, rfl, rfl, rv, _, σ - 1, by rw [show zV (σ - 1) = V.int (((σ : Nat) : Int) - 1) from congrArg V.int (by omega)]; rfl, hrv16, by rw [row_len]; exact hδ5, by omega, fun H17 s17 => ?_⟩
        rw [hrow]
        refine ⟨rfl, _, rfl, ?_⟩
        rw [show decide (V.int (cntL (KN L) d (σ - 1)) = V.int (stN (KN L) d ((σ - 1 : Nat) : Int))) = false from decide_eq_false (fun e => hσ.ne (by omega) (V.int.inj e))]
        refine iteF ?_
      case' neg =>
        rw [decide_eq_false hb]
        refine iteF ?_
        refine iteF ?_
        have s17 := Same.refl H16
      all_goals
        refine ⟨_, rfl, y1, d, 5000, L, _, rfl, hA16.same s17, hC, by decide, fun H18 s18 => ⟨_, rfl, rv, _, 5000, rfl, same_sqt (s17.trans s18) hrv16, by rw [row_len]; exact hδ5, by decide, fun H19 s19 => ?_⟩⟩
        rw [hrow, hσ.eq 5000 (by omega)]
        refine ⟨rfl, _, rfl, ?_⟩
        rw [ne_same]
        refine iteF ?_
        have S19 := s17.trans (s18.trans s19)
        have hA19 := hA16.same S19
        have hf19 := S19 _ _ hf16
        have hrv19 := same_sqt S19 hrv16
        have hcz19 := same_sqt S19 hcz16
        have B19 := B16.trans (Bar.same S19)
        have hP19 := hP16.same S19
        clear S19 s17 s18 s19
        refine ⟨_, rfl, _, rfl, _, rfl, _, rfl, _, _, rfl, cz, cl, fun t => stN (KN L) d (t + σ), σ, δ, ?_, hcz19, by omega, by omega, hδ5, fun t ht => ?_, fun H20 y2 s20 hy2 => ?_⟩
        · rw [hmx]
          rfl
        · rw [hcl _ (by omega), hσ.eq _ (by omega), show ((σ + t : Nat) : Int) = ((t : Nat) : Int) + ((σ : Nat) : Int) by omega]
        have hmv := moved_row hC σ
        rw [← hδ] at hmv
        rw [hmv] at hy2
        refine ⟨.tuple _, .tuple _, .tup (same_sqt s20 hrv19) (Gv.dp_ints _), .tup hy2 (Gv.dp_ints _), Gv.shaped_intsT _, Gv.shaped_intsT _, ?_⟩
        rw [Gv.eqv_intsT]
        refine ⟨_, rfl, iteF ?_⟩
        have hA20 := hA19.same s20
        have hf20 := s20 _ _ hf19
        have hrv20 := same_sqt s20 hrv19
        have hcz20 := same_sqt s20 hcz19
        have B20 := B19.trans (Bar.same s20)
        have hP20 := hP19.same s20
        clear s20 hy2
        refine ⟨_, rfl, _, rfl, rfl, _, rfl, ite2 (fun cc => ?_) (fun cc => ?_)⟩
        · have hm1 : dimI d L = -1 := V.int.inj (of_decide_eq_true cc)
          have hz := none_zero hR hm1
          have hsup : supN (KN L) = [] := List.filter_eq_nil_iff.mpr fun j _ h => (of_decide_eq_true h) (hz j)
          have hσ0 : σ = 0 := by
            rcases hσ.low with k | ⟨j, hj, _⟩
            · exact k
            · exact absurd (hz j) hj
          have hw0 : wtI d L = 0 := by
            unfold wtI
            rw [if_neg (by omega)]
            refine sumR_zero fun t _ => ?_
            rw [hσ.eq t (by omega)]
            exact sumR_zero fun j _ => by rw [hz j, Int.zero_mul]
          refine ⟨_, rfl, y1, d, L, _, rfl, hA20, hC, fun H21 s21 => ⟨rfl, _, rfl, ?_⟩⟩
          rw [hw0, show decide (V.int 0 = V.int 0) = true from decide_eq_true rfl]
          refine iteT ⟨_, rfl, ?_⟩
          intro e2 he2
          have hn : numK (KN L) = [] := by
            unfold numK
            rw [hsup]
            rfl
          have s22 := same_new he2 (.dK [])
          have hf22 := s22 _ _ (s21 _ _ hf20)
          rw [hn] at hf22
          refine ⟨f, e2, _, _, rfl, rfl, hf22, upd_same, rfl, (fun _ h => nomatch h), true, rfl, iteT ⟨_, rfl, rfl, ?_⟩⟩
          rw [hσ0, show decide (zV 0 = V.int 0) = true from decide_eq_true rfl]
          exact q _ (B20.trans (Bar.same (s21.trans s22))) (hP20.same (s21.trans s22))
        · have hm1 : ¬ dimI d L = -1 := fun e => cc (decide_eq_true (by rw [e]))
          have h0 : 0 ≤ dimI d L := by omega
          have hw1 := wt_pos hC h0
          refine ⟨_, rfl, y1, d, L, _, rfl, hA20, hC, fun H21 s21 => ⟨_, rfl, _, _, rfl, rfl, _, rfl, ?_⟩⟩
          by_cases c2' : 0 < dimI d L
          case' pos =>
            rw [decide_eq_true c2']
            have e0 : ((rowL (stN (KN L) d) δ).map V.int) = ((rowL (stN (KN L) d) (δ - 1)).map V.int) ++ [V.int (wtI d L)] := by
              unfold wtI
              rw [if_pos c2', ← hδ, show rowL (stN (KN L) d) δ = rowL (stN (KN L) d) (δ - 1 + 1) from congrArg _ (by omega), row_more, List.map_append]
              rfl
            refine iteT ⟨_, rfl, _, rfl, rv, _, _, _, rfl, rfl, same_sqt s21 hrv20, by rw [e0]; exact atI_last _ _, rfl, _, rfl, ?_⟩
            rw [ne_same]
            refine iteF ?_
          case' neg =>
            rw [decide_eq_false c2']
            refine iteF ⟨_, rfl, cz, _, rfl, same_sqt s21 hcz20, rfl, _, rfl, ?_⟩
            rw [hsum41, cnt_sum41 hR c2' hσ, ne_same]
            refine iteF ?_
          all_goals
            refine ⟨_, rfl, y1, d, L, _, rfl, hA20.same s21, hC, fun H22 s22 => ⟨_, _, rfl, rfl, _, rfl, ?_⟩⟩
            rw [show decide (wtI d L < 1) = false from decide_eq_false (by omega)]
            refine iteF ?_
            have S22 := s21.trans s22
            have hdl : dimI d L = ((δ : Nat) : Int) := by omega
            refine ⟨_, rfl, _, rfl, _, rfl, f, KN L, d, δ, wtI d L, by rw [hdl]; rfl, S22 _ _ hf20, fun j hj => hR.far (by omega), hd1, by omega, by omega, fun t => by rw [hδ]; exact dif_dim hC t, fun ν h1 h2 => by rw [hδ]; exact quot_end hC h1 h2, fun H23 s23 => ?_⟩
            refine ⟨_, rfl, y1, d, L, _, rfl, hA20.same (S22.trans s23), hC, fun H24 s24 => ⟨rfl, ?_⟩⟩
            rw [show decide (V.int (wtI d L) = V.int (wtI d L)) = true from decide_eq_true rfl]
            exact q _ (B20.trans (Bar.same (S22.trans (s23.trans s24)))) (hP20.same (S22.trans (s23.trans s24)))
end
end K13

namespace K13
open PySem PySem.Spec PyProof.Rows L2 RZ L5 R7 XX
open M12 DD
open L6 (C)
def KF : Nat → List (List Nat) → Nat → Int
  | _, [] => oneK
  | 0, _ :: _ => oneK
  | n + 1, m :: L => fun j => KF n L j - sh m.sum (KF n (M8.qN L m)) j
theorem KF_eq : ∀ (n : Nat) (L : List (List Nat)), L.length ≤ n → KF n L = KN L
  | 0, [], _ => by rw [K_nil]; rfl
  | n + 1, [], _ => by rw [K_nil]; rfl
  | 0, _ :: _, h => by simp at h
  | n + 1, m :: L, h => by
    have h' : L.length ≤ n := by simpa using h
    rw [K_cons, ← KF_eq n L h', ← KF_eq n (M8.qN L m) (by rw [M8.qN, List.length_map]; exact h')]
    rfl
abbrev edgeL : List (List Nat) := [[1, 1, 0, 0], [0, 1, 1, 0], [0, 0, 1, 1]]
theorem edge_own : M7.leastN edgeL = [[0, 0, 1, 1], [0, 1, 1, 0], [1, 1, 0, 0]] := by decide +kernel
section
variable {P : Program} {w : World} {K : PySem.W.Frag} {mg : Str → Option Value} {base : Heap}
end
end K13

namespace K13
open PySem PySem.Spec PyProof.Rows L2 RZ L5 R7 XX
open M12 DD M13
open L6 (C)
abbrev sqL : List (List Nat) := [[2, 0], [1, 1], [0, 3]]
theorem sq_own : M7.leastN sqL = [[0, 3], [1, 1], [2, 0]] := by decide +kernel
theorem edge_rt : Rt 4 (M7.leastN edgeL) := by
  rw [edge_own]
  exact ⟨by decide, by decide, by decide, by decide, by decide, by decide +kernel⟩
theorem sq_rt : Rt 2 (M7.leastN sqL) := by
  rw [sq_own]
  exact ⟨by decide, by decide, by decide, by decide, by decide, by decide +kernel⟩
theorem nil_rt : Rt 2 (M7.leastN []) := ⟨by decide, by decide, by decide, by decide, by decide, by decide +kernel⟩
theorem one_rt : Rt 2 (M7.leastN [[0, 0]]) := by
  rw [show M7.leastN [[0, 0]] = [[0, 0]] by decide +kernel]
  exact ⟨by decide, by decide, by decide, by decide, by decide, by decide +kernel⟩
theorem edge_dim : dimI 4 (M7.leastN edgeL) = 2 := by decide +kernel
theorem sq_dim : dimI 2 (M7.leastN sqL) = 0 := by decide +kernel
theorem nil_dim : dimI 2 (M7.leastN []) = 2 := by decide +kernel
theorem one_dim : dimI 2 (M7.leastN [[0, 0]]) = -1 := by decide +kernel
theorem edge_K : KN (M7.leastN edgeL) = KF 3 [[0, 0, 1, 1], [0, 1, 1, 0], [1, 1, 0, 0]] := by rw [edge_own, KF_eq 3 _ (by decide)]
theorem sq_K : KN (M7.leastN sqL) = KF 3 [[0, 3], [1, 1], [2, 0]] := by rw [sq_own, KF_eq 3 _ (by decide)]
theorem edge_st (t : Int) : stN (KN (M7.leastN edgeL)) 4 t = bq 3 (t - 0 + 4 - 1) + (-3) * bq 3 (t - 2 + 4 - 1) + 2 * bq 3 (t - 3 + 4 - 1) := by
  rw [edge_K, ← st_sup, show supN (KF 3 [[0, 0, 1, 1], [0, 1, 1, 0], [1, 1, 0, 0]]) = [0, 2, 3] by decide +kernel]
  have e0 : KF 3 [[0, 0, 1, 1], [0, 1, 1, 0], [1, 1, 0, 0]] 0 = 1 := by decide +kernel
  have e2 : KF 3 [[0, 0, 1, 1], [0, 1, 1, 0], [1, 1, 0, 0]] 2 = -3 := by decide +kernel
  have e3 : KF 3 [[0, 0, 1, 1], [0, 1, 1, 0], [1, 1, 0, 0]] 3 = 2 := by decide +kernel
  simp only [List.map_cons, List.map_nil, List.sum_cons, List.sum_nil, e0, e2, e3]
  show 1 * bq 3 (t - 0 + 4 - 1) + (-3 * bq 3 (t - 2 + 4 - 1) + (2 * bq 3 (t - 3 + 4 - 1) + 0)) = _
  omega
theorem edge_row : rowL (stN (KN (M7.leastN edgeL)) 4) 2 = [1, 3] := by
  show [stN (KN (M7.leastN edgeL)) 4 0, stN (KN (M7.leastN edgeL)) 4 1 - stN (KN (M7.leastN edgeL)) 4 0] = _
  rw [edge_st, edge_st]
  decide +kernel
theorem edge_wt : wtI 4 (M7.leastN edgeL) = 3 := by
  unfold wtI
  rw [edge_dim]
  show stN (KN (M7.leastN edgeL)) 4 1 - stN (KN (M7.leastN edgeL)) 4 0 = _
  rw [edge_st, edge_st]
  decide +kernel
theorem edge_deg {σ : Nat} (h : StDeg (KN (M7.leastN edgeL)) 4 σ) : σ = 0 := by
  rcases h.low with k | ⟨j, hj, k⟩
  · exact k
  · have h15 : j ≤ 15 := Nat.le_of_not_lt fun z => hj (edge_rt.far z)
    have : j ∈ supN (KN (M7.leastN edgeL)) := List.mem_filter.mpr ⟨List.mem_range.mpr (by omega), decide_eq_true hj⟩
    rw [edge_K, show supN (KF 3 [[0, 0, 1, 1], [0, 1, 1, 0], [1, 1, 0, 0]]) = [0, 2, 3] by decide +kernel] at this
    simp only [List.mem_cons, List.not_mem_nil, or_false] at this
    omega
theorem sq_sup {j : Nat} (hj : KN (M7.leastN sqL) j ≠ 0) : j ≤ 4 := by
  have h15 : j ≤ 15 := Nat.le_of_not_lt fun z => hj (sq_rt.far z)
  have : j ∈ supN (KN (M7.leastN sqL)) := List.mem_filter.mpr ⟨List.mem_range.mpr (by omega), decide_eq_true hj⟩
  rw [sq_K, show supN (KF 3 [[0, 3], [1, 1], [2, 0]]) = [0, 2, 4] by decide +kernel] at this
  simp only [List.mem_cons, List.not_mem_nil, or_false] at this
  omega
theorem sq_st (t : Int) : stN (KN (M7.leastN sqL)) 2 t = 0 := by
  have := dif_dim sq_rt.cnt t
  rw [sq_dim] at this
  exact this
theorem sq_wt : wtI 2 (M7.leastN sqL) = 4 := by
  unfold wtI
  rw [sq_dim, if_neg (by decide)]
  have e := sumR_more (φ := fun t => cntL (KN (M7.leastN sqL)) 2 t) (N := 3) (fun t ht => by
    rw [cnt_st (M := 4) (by decide) (fun j hj => Classical.byContradiction fun z => absurd (sq_sup z) (by omega)) (by omega), sq_st]) 197
  rw [show 3 + 197 = 200 from rfl] at e
  rw [e, sq_K]
  decide +kernel
theorem sq_deg {σ : Nat} (h : StDeg (KN (M7.leastN sqL)) 2 σ) : σ = 3 := by
  have h3 : σ ≤ 3 := by
    rcases h.low with k | ⟨j, hj, k⟩
    · omega
    · have := sq_sup hj
      omega
  refine Nat.le_antisymm h3 (Nat.le_of_not_lt fun z => ?_)
  have := h.eq 2 (by omega)
  rw [sq_st, sq_K] at this
  exact absurd this (by decide +kernel)
theorem nil_row : rowL (stN (KN (M7.leastN [])) 2) 2 = [1, 1] := by
  show [stN (KN (M7.leastN [])) 2 0, stN (KN (M7.leastN [])) 2 1 - stN (KN (M7.leastN [])) 2 0] = _
  rw [show M7.leastN [] = [] by decide +kernel, st_one, st_one]
  decide +kernel
theorem one_deg {σ : Nat} (h : StDeg (KN (M7.leastN [[0, 0]])) 2 σ) : σ = 0 := by
  rcases h.low with k | ⟨j, hj, _⟩
  · exact k
  · exact absurd (none_zero one_rt one_dim j) hj
end K13

namespace K13
open PySem PySem.Spec PyProof.Rows L2 RZ L5 R7 XX
open M12 DD M13
open L6 (C)
section
variable {P : Program} {w : World} {K : PySem.W.Frag} {mg : Str → Option Value} {base : Heap}
def sp_law (K : PySem.W.Frag) : Sp := fun vs H Q _ => ∃ (a : Addr) (ns : List Int), vs = [.ref a] ∧ SqL K H a (ns.map V.int) ∧ ns.length ≤ 63 ∧ ∀ H', Q (.bl true) H'
theorem ok_law (T : Txt K mg) (O : LotT K mg) (R : LotP K O.C) (W : LotO K mg O.C) : FnOk P w K mg base CX0 11 T.a_law T.d_law ["_law_script"] (sp_law K) := by
  refine T.F_law.ok sc_law (fun vs H Q E h => ?_) (fun cdv A outer s H vs Q E hr h => ?_)
  · obtain ⟨a, ns, rfl, _⟩ := h
    rfl
  · obtain ⟨a, ns, rfl, hS, hn, q⟩ := h
    refine ⟨_, (pss_cons (ps_for PassesOwn.never rfl (pi_range1 rfl T.z_range (pa_cons (pe_callB (call_max2 rfl) (by rfl) T.z_max (by decide +kernel) (pa_cons pe_int (pa_cons (pe_callB (call_min2 rfl) (by rfl) T.z_min (by decide +kernel) (pa_cons pe_int (pa_cons (pe_callB call_len_seq (by rfl) T.z_len boot_len (pa_cons (pv 0) pa_nil)) pa_nil))) pa_nil))) pa_nil)) (pg_name (i := 1) sc_law.nd rfl (Or.inl rfl))
      (pss_cons (ps_set (i := 2) sc_law.nd rfl (Or.inl rfl) (pe_call  (ok_jug T) (hr.mono (by decide)) (by rfl) T.m_w_jug T.F_w_jug.kp T.b_w_jug .nil pass0 (pa_cons (pv 0) (pa_cons (pv 1) pa_nil))))
      (pss_one (ps_if (PW.pt (pw_or (pt_not (pt_val (pe_call  (ok_right T O R W) (hr.mono (by decide)) (by rfl) T.m_w_right T.F_w_right.kp T.b_w_right .nil pass0 (pa_cons (pv 2) pa_nil)))) (pw_or1 (pt_not (pt_val (pe_call  (ok_right T O R W) (hr.mono (by decide)) (by rfl) T.m_w_right T.F_w_right.kp T.b_w_right .nil pass0 (pa_cons (pv 2) pa_nil))))))) (pss_one (ps_ret pe_bl)) pss_nil))))
      (pss_cons (ps_par (i := 3) (j := 4) (by rfl) sc_law.nd rfl rfl (by decide) rfl rfl (pa_cons (pe_make O.M (ok_init T O) (hr.mono (by decide)) rfl O.gC O.bI .nil pass0 (pa_cons pe_int (pa_cons (pe_tup (pa_cons (pe_tup (pa_cons pe_int (pa_cons pe_int (pa_cons pe_int (pa_cons pe_int pa_nil))))) (pa_cons (pe_tup (pa_cons pe_int (pa_cons pe_int (pa_cons pe_int (pa_cons pe_int pa_nil))))) (pa_cons (pe_tup (pa_cons pe_int (pa_cons pe_int (pa_cons pe_int (pa_cons pe_int pa_nil))))) pa_nil)))) pa_nil))) (pa_cons (pe_make O.M (ok_init T O) (hr.mono (by decide)) rfl O.gC O.bI .nil pass0 (pa_cons pe_int (pa_cons (pe_tup (pa_cons (pe_tup (pa_cons pe_int (pa_cons pe_int pa_nil))) (pa_cons (pe_tup (pa_cons pe_int (pa_cons pe_int pa_nil))) (pa_cons (pe_tup (pa_cons pe_int (pa_cons pe_int pa_nil))) pa_nil)))) pa_nil))) pa_nil)) (by rfl))
      (pss_cons (ps_set (i := 5) sc_law.nd rfl (Or.inl rfl) (pe_lst (pa_cons (pe_call  (ok_dim T O R W) (hr.mono (by decide)) (by rfl) T.m_dimension T.F_dimension.kp T.b_dimension .nil pass0 (pa_cons (pv 3) pa_nil)) (pa_cons (pe_call  (ok_wt T O R W) (hr.mono (by decide)) (by rfl) T.m_weight T.F_weight.kp T.b_weight .nil pass0 (pa_cons (pv 3) pa_nil)) (pa_cons (pe_call  (ok_srow T O R W) (hr.mono (by decide)) (by rfl) T.m_steady_row T.F_steady_row.kp T.b_steady_row .nil pass0 (pa_cons (pv 3) pa_nil)) (pa_cons (pe_call  (ok_sdg T O R W) (hr.mono (by decide)) (by rfl) T.m_steady_degree T.F_steady_degree.kp T.b_steady_degree .nil pass0 (pa_cons (pv 3) pa_nil)) (pa_cons (pe_call  (ok_wt T O R W) (hr.mono (by decide)) (by rfl) T.m_weight T.F_weight.kp T.b_weight .nil pass0 (pa_cons (pv 4) pa_nil)) (pa_cons (pe_call  (ok_srow T O R W) (hr.mono (by decide)) (by rfl) T.m_steady_row T.F_steady_row.kp T.b_steady_row .nil pass0 (pa_cons (pv 4) pa_nil)) (pa_cons (pe_call  (ok_sdg T O R W) (hr.mono (by decide)) (by rfl) T.m_steady_degree T.F_steady_degree.kp T.b_steady_degree .nil pass0 (pa_cons (pv 4) pa_nil)) pa_nil)))))))))
      (pss_one (ps_ret (pe_and (pe_cmpR (op_eqD hr.units) (pv 5) (pe_lst (pa_cons pe_int (pa_cons pe_int (pa_cons (pe_tup (pa_cons pe_int (pa_cons pe_int pa_nil))) (pa_cons pe_int (pa_cons pe_int (pa_cons (pe_tup pa_nil) (pa_cons pe_int pa_nil)))))))) (nomark _)) (pe_and (pe_cmpR (op_eqD hr.units) (pe_call  (ok_srow T O R W) (hr.mono (by decide)) (by rfl) T.m_steady_row T.F_steady_row.kp T.b_steady_row .nil pass0 (pa_cons (pe_make O.M (ok_init T O) (hr.mono (by decide)) rfl O.gC O.bI .nil pass0 (pa_cons pe_int (pa_cons (pe_tup pa_nil) pa_nil))) pa_nil)) (pe_tup (pa_cons pe_int (pa_cons pe_int pa_nil))) (nomark _)) (pe_one (pe_cmpR op_eq (pe_call  (ok_sdg T O R W) (hr.mono (by decide)) (by rfl) T.m_steady_degree T.F_steady_degree.kp T.b_steady_degree .nil pass0 (pa_cons (pe_make O.M (ok_init T O) (hr.mono (by decide)) rfl O.gC O.bI .nil pass0 (pa_cons pe_int (pa_cons (pe_tup (pa_cons (pe_tup (pa_cons pe_int (pa_cons pe_int pa_nil))) pa_nil)) pa_nil))) pa_nil)) pe_int (nomark _)))))))))), ?_⟩
    have hm1 : ∀ m : Int, (if (if ((ns.map V.int).length : Int) < 3 then ((ns.map V.int).length : Int) else 3) > 1 then (if ((ns.map V.int).length : Int) < 3 then ((ns.map V.int).length : Int) else 3) else 1) = m → 1 ≤ m ∧ m ≤ 3 := fun m e => by
      rw [← e]
      split <;> split <;> omega
    refine ⟨_, rfl, a, _, rfl, .inl hS, _, _, rfl, _, _, rfl, _, rfl, ?_⟩
    have hb := hm1 _ rfl
    refine ⟨Int.le_trans (by decide) hb.1, Int.lt_of_le_of_lt hb.2 (by decide), ?_⟩
    refine for_range (lo := 0) (n := _) (fun i σ H' => ∃ v1 v2 : Option V, σ = [some (.ref a), v1, v2, none, none, none] ∧ Same H H') ⟨none, none, rfl, Same.refl H⟩ ?_ ?_
    · rintro i σ H1 hi ⟨v1, v2, rfl, s1⟩
      have hi3 : i < 1000 := by
        have := hb.2
        omega
      refine ⟨_, rfl, _, rfl, a, ns, i, by rw [Int.zero_add]; rfl, s1.seq hS, hi3, fun H2 z g x c s2 hz hz2 => ?_⟩
      have hzn : H z = none := Same.free s1 hz
      refine ⟨_, rfl, z, rfl, ⟨g, x, c, hz2⟩, fun H3 b3 hz3 => ⟨true, rfl, iteF ?_⟩⟩
      refine ⟨_, rfl, z, rfl, hz3, fun H4 b4 _ => ⟨true, rfl, iteF ?_⟩⟩
      exact ⟨_, _, rfl, bar_back (s1.trans s2) (b3.trans b4) hzn⟩
    · rintro σ H1 ⟨v1, v2, rfl, s1⟩
      refine ⟨by show 4 ≤ sizeLine; decide, fun k1 hk1 => ⟨by show 4 ≤ sizeLine; decide, fun k2 hk2 => ⟨by show 4 ≤ sizeLine; decide, fun k3 hk3 => ⟨by show 3 ≤ sizeLine; decide, fun k4 hk4 => ?_⟩⟩⟩⟩
      have t1 := same_new hk1 (.tup (nv [1, 1, 0, 0]))
      have t2 := same_new hk2 (.tup (nv [0, 1, 1, 0]))
      have t3 := same_new hk3 (.tup (nv [0, 0, 1, 1]))
      have t4 := same_new hk4 (.tup [V.ref k1, V.ref k2, V.ref k3])
      have T3 := t3.trans t4
      have T2 := t2.trans T3
      intro y dx ny nd ne
      refine make_at (K := K) (C := O.C) (d := 4) (rs := [k1, k2, k3]) (L := edgeL) (M := M7.leastN edgeL) (SqT.of upd_same) (.cons (SqT.of (T2 _ _ upd_same)) (.cons (SqT.of (T3 _ _ upd_same)) (.cons (SqT.of (t4 _ _ upd_same)) .nil))) (few_low (n := 3) (m := 1) (by decide) (by decide) (by decide) (by decide) (by decide) (by decide)) (by decide) (by decide) rfl ny nd ne (fun H2 s2 hE => ?_)
      clear t1 t2 t3 t4 T3 T2
      refine ⟨by show 2 ≤ sizeLine; decide, fun j1 hj1 => ⟨by show 2 ≤ sizeLine; decide, fun j2 hj2 => ⟨by show 2 ≤ sizeLine; decide, fun j3 hj3 => ⟨by show 3 ≤ sizeLine; decide, fun j4 hj4 => ?_⟩⟩⟩⟩
      have t1 := same_new hj1 (.tup (nv [2, 0]))
      have t2 := same_new hj2 (.tup (nv [1, 1]))
      have t3 := same_new hj3 (.tup (nv [0, 3]))
      have t4 := same_new hj4 (.tup [V.ref j1, V.ref j2, V.ref j3])
      have T3 := t3.trans t4
      have T2 := t2.trans T3
      have T1 := t1.trans T2
      intro y2 dx2 ny2 nd2 ne2
      refine make_at (K := K) (C := O.C) (d := 2) (rs := [j1, j2, j3]) (L := sqL) (M := M7.leastN sqL) (SqT.of upd_same) (.cons (SqT.of (T2 _ _ upd_same)) (.cons (SqT.of (T3 _ _ upd_same)) (.cons (SqT.of (t4 _ _ upd_same)) .nil))) (few_low (n := 3) (m := 3) (by decide) (by decide) (by decide) (by decide) (by decide) (by decide)) (by decide) (by decide) rfl ny2 nd2 ne2 (fun H3 s3 hG => ?_)
      have hE3 := (hE.same T1).same s3
      clear t1 t2 t3 t4 T3 T2 T1 hE
      refine ⟨_, _, rfl, ?_⟩
      refine ⟨_, rfl, y, 4, _, rfl, hE3, by decide, edge_rt.len, fun H4 s4 => ?_⟩
      refine ⟨_, rfl, y, 4, _, _, rfl, hE3.same s4, edge_rt.cnt, fun H5 s5 => ?_⟩
      have S5 := s4.trans s5
      refine ⟨_, rfl, y, 4, _, _, rfl, hE3.same S5, edge_rt.cnt, fun H6 r1 s6 hr1 => ?_⟩
      have S6 := S5.trans s6
      refine ⟨_, rfl, y, 4, _, _, rfl, hE3.same S6, edge_rt.cnt, fun H7 σ1 s7 hσ1 => ?_⟩
      have S7 := S6.trans s7
      refine ⟨_, rfl, y2, 2, _, _, rfl, hG.same S7, sq_rt.cnt, fun H8 s8 => ?_⟩
      have S8 := S7.trans s8
      refine ⟨_, rfl, y2, 2, _, _, rfl, hG.same S8, sq_rt.cnt, fun H9 r2 s9 hr2 => ?_⟩
      have S9 := S8.trans s9
      refine ⟨_, rfl, y2, 2, _, _, rfl, hG.same S9, sq_rt.cnt, fun H10 σ2 s10 hσ2 => ?_⟩
      obtain rfl := edge_deg hσ1
      obtain rfl := sq_deg hσ2
      rw [edge_dim, show ((2 : Int).toNat) = 2 from rfl, edge_row] at hr1
      rw [sq_dim] at hr2
      have hr2 : SqT K H9 r2 [] := hr2
      rw [edge_dim, edge_wt, sq_wt]
      have hr1' := same_sqt (s7.trans (s8.trans (s9.trans s10))) hr1
      have hr2' := same_sqt s10 hr2
      refine ⟨by show 7 ≤ sizeLine; decide, fun tl htl => ?_⟩
      have u1 := same_new htl (.lst [V.int 2, V.int 3, V.ref r1, zV 0, V.int 4, V.ref r2, zV 3])
      have etl : (upd H10 tl (.lst [V.int 2, V.int 3, V.ref r1, zV 0, V.int 4, V.ref r2, zV 3])) tl = some (.lst [V.int 2, V.int 3, V.ref r1, zV 0, V.int 4, V.ref r2, zV 3]) := upd_same
      generalize (upd H10 tl (.lst [V.int 2, V.int 3, V.ref r1, zV 0, V.int 4, V.ref r2, zV 3])) = H11 at u1 etl ⊢
      refine ⟨_, rfl, by show 2 ≤ sizeLine; decide, fun q1 hq1 => ⟨by show 0 ≤ sizeLine; exact Nat.zero_le _, fun q2 hq2 => ⟨by show 7 ≤ sizeLine; decide, fun l2 hl2 => ?_⟩⟩⟩
      have w1 := same_new hq1 (.tup [V.int 1, V.int 3])
      have w2 := same_new hq2 (.tup [])
      have w3 := same_new hl2 (.lst [V.int 2, V.int 3, V.ref q1, V.int 0, V.int 4, V.ref q2, V.int 3])
      have eq1 := (w2.trans w3) _ _ (upd_same (H := H11) (a := q1) (o := .tup [V.int 1, V.int 3]))
      have eq2 := w3 _ _ (upd_same (H := upd H11 q1 (.tup [V.int 1, V.int 3])) (a := q2) (o := .tup []))
      have etl2 := (w1.trans (w2.trans w3)) _ _ etl
      have hr1'' := same_sqt (u1.trans (w1.trans (w2.trans w3))) hr1'
      have hr2'' := same_sqt (u1.trans (w1.trans (w2.trans w3))) hr2'
      refine ⟨.list [.int 2, .int 3, .tuple [.int 1, .int 3], .int 0, .int 4, .tuple [], .int 3], .list [.int 2, .int 3, .tuple [.int 1, .int 3], .int 0, .int 4, .tuple [], .int 3],
        .lst (SqL.of etl2) (.cons (.int _) (.cons (.int _) (.cons (.tup hr1'' (.cons (.int _) (.cons (.int _) .nil))) (.cons (.int _) (.cons (.int _) (.cons (.tup hr2'' .nil) (.cons (.int _) .nil))))))),
        .lst (SqL.of upd_same) (.cons (.int _) (.cons (.int _) (.cons (.tup (SqT.of eq1) (.cons (.int _) (.cons (.int _) .nil))) (.cons (.int _) (.cons (.int _) (.cons (.tup (SqT.of eq2) .nil) (.cons (.int _) .nil))))))), by decide +kernel, by decide +kernel, ?_⟩
      rw [show PyData.eqv (.list [.int 2, .int 3, .tuple [.int 1, .int 3], .int 0, .int 4, .tuple [], .int 3]) (.list [.int 2, .int 3, .tuple [.int 1, .int 3], .int 0, .int 4, .tuple [], .int 3]) = true by decide +kernel]
      refine ⟨_, rfl, iteT ⟨by show 0 ≤ sizeLine; exact Nat.zero_le _, fun a5 ha5 => ?_⟩⟩
      intro y3 dx3 ny3 nd3 ne3
      refine make_at (K := K) (C := O.C) (d := 2) (rs := []) (L := []) (M := M7.leastN []) (SqT.of upd_same) .nil (few_low (n := 0) (m := 0) (by decide) (fun _ h => nomatch h) (fun _ h => nomatch h) (by decide) (by decide) (by decide)) (by decide) (fun _ h => nomatch h) rfl ny3 nd3 ne3 (fun H12 s12 hN => ?_)
      refine ⟨y3, 2, _, _, rfl, hN, nil_rt.cnt, fun H13 r3 s13 hr3 => ?_⟩
      rw [nil_dim, show ((2 : Int).toNat) = 2 from rfl, nil_row] at hr3
      refine ⟨by show 2 ≤ sizeLine; decide, fun q3 hq3 => ?_⟩
      have x1 := same_new hq3 (.tup [V.int 1, V.int 1])
      refine ⟨.tuple [.int 1, .int 1], .tuple [.int 1, .int 1], .tup (same_sqt x1 hr3) (.cons (.int _) (.cons (.int _) .nil)), .tup (SqT.of upd_same) (.cons (.int _) (.cons (.int _) .nil)), by decide +kernel, by decide +kernel, ?_⟩
      rw [show PyData.eqv (.tuple [.int 1, .int 1]) (.tuple [.int 1, .int 1]) = true by decide +kernel]
      refine ⟨_, rfl, iteT ⟨by show 2 ≤ sizeLine; decide, fun a6 ha6 => ⟨by show 1 ≤ sizeLine; decide, fun a7 ha7 => ?_⟩⟩⟩
      have z1 := same_new ha6 (.tup (nv [0, 0]))
      have z2 := same_new ha7 (.tup [V.ref a6])
      intro y4 dx4 ny4 nd4 ne4
      refine make_at (K := K) (C := O.C) (d := 2) (rs := [a6]) (L := [[0, 0]]) (M := M7.leastN [[0, 0]]) (SqT.of upd_same) (.cons (SqT.of (z2 _ _ upd_same)) .nil) (few_low (n := 1) (m := 0) (by decide) (by decide) (by decide) (by decide) (by decide) (by decide)) (by decide) (by decide) rfl ny4 nd4 ne4 (fun H14 s14 hO => ?_)
      refine ⟨y4, 2, _, _, rfl, hO, one_rt.cnt, fun H15 σ3 s15 hσ3 => ?_⟩
      obtain rfl := one_deg hσ3
      refine ⟨rfl, ?_⟩
      exact q _
end
end K13

namespace K13
open PySem PySem.Spec PyProof.Rows L2 RZ L5 R7 XX
/-! ### the end -/
theorem exm_b {K : PySem.W.Frag} {S C : Addr} {b : Bool} (h1 : PySem.W.subIn K (.ref C) (.type "BaseException") = some true) (h2 : PySem.W.isClsIn K C = true) (h3 : PySem.W.typeIn K (.ref C) = some (.type "type")) (h4 : PySem.W.subIn K (.ref S) (.ref C) = some b) : PySem.W.exmOne K (.ref S) (.ref C) = some b := by
  have e1 : (PySem.W.subIn K (.ref C) (.type "BaseException") == some true) = true := by rw [h1] <;> rfl
  have h5 : PySem.W.kitCls K (.ref S) (.ref C) = some b := by
    have h2' : (PySem.W.clsIn K C).isSome = true := h2
    have e2 : ((PySem.W.clsIn K C).isSome && PySem.W.typeIn K (.ref C) == some (.type "type")) = true := by rw [h2', h3] <;> rfl
    exact (if_pos e2).trans h4
  exact (if_pos e1).trans h5
theorem all_mk {l : PySem.W.OpenLaw} {w : World} {K : PySem.W.Frag} {h : Heap} {mg : Str → Option Value} {fa CLot : Addr} (X : K.In h) (G : h.Ns mainGlobals mg) (hfa : mg "law" = some (.ref fa))
    {od_is_number an_is_number : Option Addr} {sl_is_number : Array (Option Value)} {oc_is_number kV_is_number dc_is_number pm_is_number cd_is_number ct_is_number : Value} {f_is_number : Addr}
    (a_is_number : PySem.W.nsIn K mainGlobals "is_number" = some (some (.ref f_is_number))) (l_is_number : K.lookup f_is_number = some ⟨oc_is_number, od_is_number, .func (PySem.W.fnOf "is_number" "is_number" (defArgs s_is_number) (defBody s_is_number) (defScope s_is_number) .none kV_is_number dc_is_number pm_is_number an_is_number cd_is_number ct_is_number), sl_is_number⟩) (cc_is_number : PySem.W.codeIn K cd_is_number "is_number" = true) (k_is_number : PySem.W.keepIn K (.ref f_is_number) = true)
    {od_is_within an_is_within : Option Addr} {sl_is_within : Array (Option Value)} {oc_is_within kV_is_within dc_is_within pm_is_within cd_is_within ct_is_within : Value} {f_is_within : Addr}
    (a_is_within : PySem.W.nsIn K mainGlobals "is_within" = some (some (.ref f_is_within))) (l_is_within : K.lookup f_is_within = some ⟨oc_is_within, od_is_within, .func (PySem.W.fnOf "is_within" "is_within" (defArgs s_is_within) (defBody s_is_within) (defScope s_is_within) .none kV_is_within dc_is_within pm_is_within an_is_within cd_is_within ct_is_within), sl_is_within⟩) (cc_is_within : PySem.W.codeIn K cd_is_within "is_within" = true) (k_is_within : PySem.W.keepIn K (.ref f_is_within) = true)
    {od_check_within an_check_within : Option Addr} {sl_check_within : Array (Option Value)} {oc_check_within kV_check_within dc_check_within pm_check_within cd_check_within ct_check_within : Value} {f_check_within : Addr}
    (a_check_within : PySem.W.nsIn K mainGlobals "check_within" = some (some (.ref f_check_within))) (l_check_within : K.lookup f_check_within = some ⟨oc_check_within, od_check_within, .func (PySem.W.fnOf "check_within" "check_within" (defArgs s_check_within) (defBody s_check_within) (defScope s_check_within) .none kV_check_within dc_check_within pm_check_within an_check_within cd_check_within ct_check_within), sl_check_within⟩) (cc_check_within : PySem.W.codeIn K cd_check_within "check_within" = true) (k_check_within : PySem.W.keepIn K (.ref f_check_within) = true)
    {od_choices an_choices : Option Addr} {sl_choices : Array (Option Value)} {oc_choices kV_choices dc_choices pm_choices cd_choices ct_choices : Value} {f_choices : Addr}
    (a_choices : PySem.W.nsIn K mainGlobals "choices" = some (some (.ref f_choices))) (l_choices : K.lookup f_choices = some ⟨oc_choices, od_choices, .func (PySem.W.fnOf "choices" "choices" (defArgs s_choices) (defBody s_choices) (defScope s_choices) .none kV_choices dc_choices pm_choices an_choices cd_choices ct_choices), sl_choices⟩) (cc_choices : PySem.W.codeIn K cd_choices "choices" = true) (k_choices : PySem.W.keepIn K (.ref f_choices) = true)
    {od_are_exponents an_are_exponents : Option Addr} {sl_are_exponents : Array (Option Value)} {oc_are_exponents kV_are_exponents dc_are_exponents pm_are_exponents cd_are_exponents ct_are_exponents : Value} {f_are_exponents : Addr}
    (a_are_exponents : PySem.W.nsIn K mainGlobals "are_exponents" = some (some (.ref f_are_exponents))) (l_are_exponents : K.lookup f_are_exponents = some ⟨oc_are_exponents, od_are_exponents, .func (PySem.W.fnOf "are_exponents" "are_exponents" (defArgs s_are_exponents) (defBody s_are_exponents) (defScope s_are_exponents) .none kV_are_exponents dc_are_exponents pm_are_exponents an_are_exponents cd_are_exponents ct_are_exponents), sl_are_exponents⟩) (cc_are_exponents : PySem.W.codeIn K cd_are_exponents "are_exponents" = true) (k_are_exponents : PySem.W.keepIn K (.ref f_are_exponents) = true)
    {od_fits an_fits : Option Addr} {sl_fits : Array (Option Value)} {oc_fits kV_fits dc_fits pm_fits cd_fits ct_fits : Value} {f_fits : Addr}
    (a_fits : PySem.W.nsIn K mainGlobals "fits" = some (some (.ref f_fits))) (l_fits : K.lookup f_fits = some ⟨oc_fits, od_fits, .func (PySem.W.fnOf "fits" "fits" (defArgs s_fits) (defBody s_fits) (defScope s_fits) .none kV_fits dc_fits pm_fits an_fits cd_fits ct_fits), sl_fits⟩) (cc_fits : PySem.W.codeIn K cd_fits "fits" = true) (k_fits : PySem.W.keepIn K (.ref f_fits) = true)
    {od_taken_off an_taken_off : Option Addr} {sl_taken_off : Array (Option Value)} {oc_taken_off kV_taken_off dc_taken_off pm_taken_off cd_taken_off ct_taken_off : Value} {f_taken_off : Addr}
    (a_taken_off : PySem.W.nsIn K mainGlobals "taken_off" = some (some (.ref f_taken_off))) (l_taken_off : K.lookup f_taken_off = some ⟨oc_taken_off, od_taken_off, .func (PySem.W.fnOf "taken_off" "taken_off" (defArgs s_taken_off) (defBody s_taken_off) (defScope s_taken_off) .none kV_taken_off dc_taken_off pm_taken_off an_taken_off cd_taken_off ct_taken_off), sl_taken_off⟩) (cc_taken_off : PySem.W.codeIn K cd_taken_off "taken_off" = true) (k_taken_off : PySem.W.keepIn K (.ref f_taken_off) = true)
    {od_is_divided an_is_divided : Option Addr} {sl_is_divided : Array (Option Value)} {oc_is_divided kV_is_divided dc_is_divided pm_is_divided cd_is_divided ct_is_divided : Value} {f_is_divided : Addr}
    (a_is_divided : PySem.W.nsIn K mainGlobals "is_divided" = some (some (.ref f_is_divided))) (l_is_divided : K.lookup f_is_divided = some ⟨oc_is_divided, od_is_divided, .func (PySem.W.fnOf "is_divided" "is_divided" (defArgs s_is_divided) (defBody s_is_divided) (defScope s_is_divided) .none kV_is_divided dc_is_divided pm_is_divided an_is_divided cd_is_divided ct_is_divided), sl_is_divided⟩) (cc_is_divided : PySem.W.codeIn K cd_is_divided "is_divided" = true) (k_is_divided : PySem.W.keepIn K (.ref f_is_divided) = true)
    {od_is_least_of an_is_least_of : Option Addr} {sl_is_least_of : Array (Option Value)} {oc_is_least_of kV_is_least_of dc_is_least_of pm_is_least_of cd_is_least_of ct_is_least_of : Value} {f_is_least_of : Addr}
    (a_is_least_of : PySem.W.nsIn K mainGlobals "is_least_of" = some (some (.ref f_is_least_of))) (l_is_least_of : K.lookup f_is_least_of = some ⟨oc_is_least_of, od_is_least_of, .func (PySem.W.fnOf "is_least_of" "is_least_of" (defArgs s_is_least_of) (defBody s_is_least_of) (defScope s_is_least_of) .none kV_is_least_of dc_is_least_of pm_is_least_of an_is_least_of cd_is_least_of ct_is_least_of), sl_is_least_of⟩) (cc_is_least_of : PySem.W.codeIn K cd_is_least_of "is_least_of" = true) (k_is_least_of : PySem.W.keepIn K (.ref f_is_least_of) = true)
    {tt_least_of : Addr} {tc_least_of : Value} {td_least_of : Option Addr} {tn_least_of : Nat} {ts_least_of : Array (Option Value)}
    {od_least_of an_least_of : Option Addr} {sl_least_of : Array (Option Value)} {oc_least_of kV_least_of dc_least_of pm_least_of cd_least_of ct_least_of : Value} {f_least_of : Addr}
    (a_least_of : PySem.W.nsIn K mainGlobals "least_of" = some (some (.ref f_least_of))) (l_least_of : K.lookup f_least_of = some ⟨oc_least_of, od_least_of, .func (PySem.W.fnOf "least_of" "least_of" (defArgs s_least_of) (defBody s_least_of) (defScope s_least_of) (.ref tt_least_of) kV_least_of dc_least_of pm_least_of an_least_of cd_least_of ct_least_of), sl_least_of⟩) (cc_least_of : PySem.W.codeIn K cd_least_of "least_of" = true) (k_least_of : PySem.W.keepIn K (.ref f_least_of) = true) (t_least_of : K.lookup tt_least_of = some ⟨tc_least_of, td_least_of, .seq #[.none] tn_least_of, ts_least_of⟩)
    {od_are_products an_are_products : Option Addr} {sl_are_products : Array (Option Value)} {oc_are_products kV_are_products dc_are_products pm_are_products cd_are_products ct_are_products : Value} {f_are_products : Addr}
    (a_are_products : PySem.W.nsIn K mainGlobals "are_products" = some (some (.ref f_are_products))) (l_are_products : K.lookup f_are_products = some ⟨oc_are_products, od_are_products, .func (PySem.W.fnOf "are_products" "are_products" (defArgs s_are_products) (defBody s_are_products) (defScope s_are_products) .none kV_are_products dc_are_products pm_are_products an_are_products cd_are_products ct_are_products), sl_are_products⟩) (cc_are_products : PySem.W.codeIn K cd_are_products "are_products" = true) (k_are_products : PySem.W.keepIn K (.ref f_are_products) = true)
    {od_made_lot an_made_lot : Option Addr} {sl_made_lot : Array (Option Value)} {oc_made_lot kV_made_lot dc_made_lot pm_made_lot cd_made_lot ct_made_lot : Value} {f_made_lot : Addr}
    (a_made_lot : PySem.W.nsIn K mainGlobals "made_lot" = some (some (.ref f_made_lot))) (l_made_lot : K.lookup f_made_lot = some ⟨oc_made_lot, od_made_lot, .func (PySem.W.fnOf "made_lot" "made_lot" (defArgs s_made_lot) (defBody s_made_lot) (defScope s_made_lot) .none kV_made_lot dc_made_lot pm_made_lot an_made_lot cd_made_lot ct_made_lot), sl_made_lot⟩) (cc_made_lot : PySem.W.codeIn K cd_made_lot "made_lot" = true) (k_made_lot : PySem.W.keepIn K (.ref f_made_lot) = true)
    {od_check_lot an_check_lot : Option Addr} {sl_check_lot : Array (Option Value)} {oc_check_lot kV_check_lot dc_check_lot pm_check_lot cd_check_lot ct_check_lot : Value} {f_check_lot : Addr}
    (a_check_lot : PySem.W.nsIn K mainGlobals "check_lot" = some (some (.ref f_check_lot))) (l_check_lot : K.lookup f_check_lot = some ⟨oc_check_lot, od_check_lot, .func (PySem.W.fnOf "check_lot" "check_lot" (defArgs s_check_lot) (defBody s_check_lot) (defScope s_check_lot) .none kV_check_lot dc_check_lot pm_check_lot an_check_lot cd_check_lot ct_check_lot), sl_check_lot⟩) (cc_check_lot : PySem.W.codeIn K cd_check_lot "check_lot" = true) (k_check_lot : PySem.W.keepIn K (.ref f_check_lot) = true)
    {od_check_letters an_check_letters : Option Addr} {sl_check_letters : Array (Option Value)} {oc_check_letters kV_check_letters dc_check_letters pm_check_letters cd_check_letters ct_check_letters : Value} {f_check_letters : Addr}
    (a_check_letters : PySem.W.nsIn K mainGlobals "check_letters" = some (some (.ref f_check_letters))) (l_check_letters : K.lookup f_check_letters = some ⟨oc_check_letters, od_check_letters, .func (PySem.W.fnOf "check_letters" "check_letters" (defArgs s_check_letters) (defBody s_check_letters) (defScope s_check_letters) .none kV_check_letters dc_check_letters pm_check_letters an_check_letters cd_check_letters ct_check_letters), sl_check_letters⟩) (cc_check_letters : PySem.W.codeIn K cd_check_letters "check_letters" = true) (k_check_letters : PySem.W.keepIn K (.ref f_check_letters) = true)
    {od_limited_members an_limited_members : Option Addr} {sl_limited_members : Array (Option Value)} {oc_limited_members kV_limited_members dc_limited_members pm_limited_members cd_limited_members ct_limited_members : Value} {f_limited_members : Addr}
    (a_limited_members : PySem.W.nsIn K mainGlobals "limited_members" = some (some (.ref f_limited_members))) (l_limited_members : K.lookup f_limited_members = some ⟨oc_limited_members, od_limited_members, .func (PySem.W.fnOf "limited_members" "limited_members" (defArgs s_limited_members) (defBody s_limited_members) (defScope s_limited_members) .none kV_limited_members dc_limited_members pm_limited_members an_limited_members cd_limited_members ct_limited_members), sl_limited_members⟩) (cc_limited_members : PySem.W.codeIn K cd_limited_members "limited_members" = true) (k_limited_members : PySem.W.keepIn K (.ref f_limited_members) = true)
    {od_has_great_exponent an_has_great_exponent : Option Addr} {sl_has_great_exponent : Array (Option Value)} {oc_has_great_exponent kV_has_great_exponent dc_has_great_exponent pm_has_great_exponent cd_has_great_exponent ct_has_great_exponent : Value} {f_has_great_exponent : Addr}
    (a_has_great_exponent : PySem.W.nsIn K mainGlobals "has_great_exponent" = some (some (.ref f_has_great_exponent))) (l_has_great_exponent : K.lookup f_has_great_exponent = some ⟨oc_has_great_exponent, od_has_great_exponent, .func (PySem.W.fnOf "has_great_exponent" "has_great_exponent" (defArgs s_has_great_exponent) (defBody s_has_great_exponent) (defScope s_has_great_exponent) .none kV_has_great_exponent dc_has_great_exponent pm_has_great_exponent an_has_great_exponent cd_has_great_exponent ct_has_great_exponent), sl_has_great_exponent⟩) (cc_has_great_exponent : PySem.W.codeIn K cd_has_great_exponent "has_great_exponent" = true) (k_has_great_exponent : PySem.W.keepIn K (.ref f_has_great_exponent) = true)
    {od_letter_sets an_letter_sets : Option Addr} {sl_letter_sets : Array (Option Value)} {oc_letter_sets kV_letter_sets dc_letter_sets pm_letter_sets cd_letter_sets ct_letter_sets : Value} {f_letter_sets : Addr}
    (a_letter_sets : PySem.W.nsIn K mainGlobals "letter_sets" = some (some (.ref f_letter_sets))) (l_letter_sets : K.lookup f_letter_sets = some ⟨oc_letter_sets, od_letter_sets, .func (PySem.W.fnOf "letter_sets" "letter_sets" (defArgs s_letter_sets) (defBody s_letter_sets) (defScope s_letter_sets) .none kV_letter_sets dc_letter_sets pm_letter_sets an_letter_sets cd_letter_sets ct_letter_sets), sl_letter_sets⟩) (cc_letter_sets : PySem.W.codeIn K cd_letter_sets "letter_sets" = true) (k_letter_sets : PySem.W.keepIn K (.ref f_letter_sets) = true)
    {od_is_free an_is_free : Option Addr} {sl_is_free : Array (Option Value)} {oc_is_free kV_is_free dc_is_free pm_is_free cd_is_free ct_is_free : Value} {f_is_free : Addr}
    (a_is_free : PySem.W.nsIn K mainGlobals "is_free" = some (some (.ref f_is_free))) (l_is_free : K.lookup f_is_free = some ⟨oc_is_free, od_is_free, .func (PySem.W.fnOf "is_free" "is_free" (defArgs s_is_free) (defBody s_is_free) (defScope s_is_free) .none kV_is_free dc_is_free pm_is_free an_is_free cd_is_free ct_is_free), sl_is_free⟩) (cc_is_free : PySem.W.codeIn K cd_is_free "is_free" = true) (k_is_free : PySem.W.keepIn K (.ref f_is_free) = true)
    {od_free_sets an_free_sets : Option Addr} {sl_free_sets : Array (Option Value)} {oc_free_sets kV_free_sets dc_free_sets pm_free_sets cd_free_sets ct_free_sets : Value} {f_free_sets : Addr}
    (a_free_sets : PySem.W.nsIn K mainGlobals "free_sets" = some (some (.ref f_free_sets))) (l_free_sets : K.lookup f_free_sets = some ⟨oc_free_sets, od_free_sets, .func (PySem.W.fnOf "free_sets" "free_sets" (defArgs s_free_sets) (defBody s_free_sets) (defScope s_free_sets) .none kV_free_sets dc_free_sets pm_free_sets an_free_sets cd_free_sets ct_free_sets), sl_free_sets⟩) (cc_free_sets : PySem.W.codeIn K cd_free_sets "free_sets" = true) (k_free_sets : PySem.W.keepIn K (.ref f_free_sets) = true)
    {od_greatest_size an_greatest_size : Option Addr} {sl_greatest_size : Array (Option Value)} {oc_greatest_size kV_greatest_size dc_greatest_size pm_greatest_size cd_greatest_size ct_greatest_size : Value} {f_greatest_size : Addr}
    (a_greatest_size : PySem.W.nsIn K mainGlobals "greatest_size" = some (some (.ref f_greatest_size))) (l_greatest_size : K.lookup f_greatest_size = some ⟨oc_greatest_size, od_greatest_size, .func (PySem.W.fnOf "greatest_size" "greatest_size" (defArgs s_greatest_size) (defBody s_greatest_size) (defScope s_greatest_size) .none kV_greatest_size dc_greatest_size pm_greatest_size an_greatest_size cd_greatest_size ct_greatest_size), sl_greatest_size⟩) (cc_greatest_size : PySem.W.codeIn K cd_greatest_size "greatest_size" = true) (k_greatest_size : PySem.W.keepIn K (.ref f_greatest_size) = true)
    {od_series_of an_series_of : Option Addr} {sl_series_of : Array (Option Value)} {oc_series_of kV_series_of dc_series_of pm_series_of cd_series_of ct_series_of : Value} {f_series_of : Addr}
    (a_series_of : PySem.W.nsIn K mainGlobals "series_of" = some (some (.ref f_series_of))) (l_series_of : K.lookup f_series_of = some ⟨oc_series_of, od_series_of, .func (PySem.W.fnOf "series_of" "series_of" (defArgs s_series_of) (defBody s_series_of) (defScope s_series_of) .none kV_series_of dc_series_of pm_series_of an_series_of cd_series_of ct_series_of), sl_series_of⟩) (cc_series_of : PySem.W.codeIn K cd_series_of "series_of" = true) (k_series_of : PySem.W.keepIn K (.ref f_series_of) = true)
    {od_shared_letter an_shared_letter : Option Addr} {sl_shared_letter : Array (Option Value)} {oc_shared_letter kV_shared_letter dc_shared_letter pm_shared_letter cd_shared_letter ct_shared_letter : Value} {f_shared_letter : Addr}
    (a_shared_letter : PySem.W.nsIn K mainGlobals "shared_letter" = some (some (.ref f_shared_letter))) (l_shared_letter : K.lookup f_shared_letter = some ⟨oc_shared_letter, od_shared_letter, .func (PySem.W.fnOf "shared_letter" "shared_letter" (defArgs s_shared_letter) (defBody s_shared_letter) (defScope s_shared_letter) .none kV_shared_letter dc_shared_letter pm_shared_letter an_shared_letter cd_shared_letter ct_shared_letter), sl_shared_letter⟩) (cc_shared_letter : PySem.W.codeIn K cd_shared_letter "shared_letter" = true) (k_shared_letter : PySem.W.keepIn K (.ref f_shared_letter) = true)
    {od_middle_exponent an_middle_exponent : Option Addr} {sl_middle_exponent : Array (Option Value)} {oc_middle_exponent kV_middle_exponent dc_middle_exponent pm_middle_exponent cd_middle_exponent ct_middle_exponent : Value} {f_middle_exponent : Addr}
    (a_middle_exponent : PySem.W.nsIn K mainGlobals "middle_exponent" = some (some (.ref f_middle_exponent))) (l_middle_exponent : K.lookup f_middle_exponent = some ⟨oc_middle_exponent, od_middle_exponent, .func (PySem.W.fnOf "middle_exponent" "middle_exponent" (defArgs s_middle_exponent) (defBody s_middle_exponent) (defScope s_middle_exponent) .none kV_middle_exponent dc_middle_exponent pm_middle_exponent an_middle_exponent cd_middle_exponent ct_middle_exponent), sl_middle_exponent⟩) (cc_middle_exponent : PySem.W.codeIn K cd_middle_exponent "middle_exponent" = true) (k_middle_exponent : PySem.W.keepIn K (.ref f_middle_exponent) = true)
    {od_with_power an_with_power : Option Addr} {sl_with_power : Array (Option Value)} {oc_with_power kV_with_power dc_with_power pm_with_power cd_with_power ct_with_power : Value} {f_with_power : Addr}
    (a_with_power : PySem.W.nsIn K mainGlobals "with_power" = some (some (.ref f_with_power))) (l_with_power : K.lookup f_with_power = some ⟨oc_with_power, od_with_power, .func (PySem.W.fnOf "with_power" "with_power" (defArgs s_with_power) (defBody s_with_power) (defScope s_with_power) .none kV_with_power dc_with_power pm_with_power an_with_power cd_with_power ct_with_power), sl_with_power⟩) (cc_with_power : PySem.W.codeIn K cd_with_power "with_power" = true) (k_with_power : PySem.W.keepIn K (.ref f_with_power) = true)
    {od_without_power an_without_power : Option Addr} {sl_without_power : Array (Option Value)} {oc_without_power kV_without_power dc_without_power pm_without_power cd_without_power ct_without_power : Value} {f_without_power : Addr}
    (a_without_power : PySem.W.nsIn K mainGlobals "without_power" = some (some (.ref f_without_power))) (l_without_power : K.lookup f_without_power = some ⟨oc_without_power, od_without_power, .func (PySem.W.fnOf "without_power" "without_power" (defArgs s_without_power) (defBody s_without_power) (defScope s_without_power) .none kV_without_power dc_without_power pm_without_power an_without_power cd_without_power ct_without_power), sl_without_power⟩) (cc_without_power : PySem.W.codeIn K cd_without_power "without_power" = true) (k_without_power : PySem.W.keepIn K (.ref f_without_power) = true)
    {od_apart_series an_apart_series : Option Addr} {sl_apart_series : Array (Option Value)} {oc_apart_series kV_apart_series dc_apart_series pm_apart_series cd_apart_series ct_apart_series : Value} {f_apart_series : Addr}
    (a_apart_series : PySem.W.nsIn K mainGlobals "apart_series" = some (some (.ref f_apart_series))) (l_apart_series : K.lookup f_apart_series = some ⟨oc_apart_series, od_apart_series, .func (PySem.W.fnOf "apart_series" "apart_series" (defArgs s_apart_series) (defBody s_apart_series) (defScope s_apart_series) .none kV_apart_series dc_apart_series pm_apart_series an_apart_series cd_apart_series ct_apart_series), sl_apart_series⟩) (cc_apart_series : PySem.W.codeIn K cd_apart_series "apart_series" = true) (k_apart_series : PySem.W.keepIn K (.ref f_apart_series) = true)
    {od_numerator an_numerator : Option Addr} {sl_numerator : Array (Option Value)} {oc_numerator kV_numerator dc_numerator pm_numerator cd_numerator ct_numerator : Value} {f_numerator : Addr}
    (a_numerator : PySem.W.nsIn K mainGlobals "numerator" = some (some (.ref f_numerator))) (l_numerator : K.lookup f_numerator = some ⟨oc_numerator, od_numerator, .func (PySem.W.fnOf "numerator" "numerator" (defArgs s_numerator) (defBody s_numerator) (defScope s_numerator) .none kV_numerator dc_numerator pm_numerator an_numerator cd_numerator ct_numerator), sl_numerator⟩) (cc_numerator : PySem.W.codeIn K cd_numerator "numerator" = true) (k_numerator : PySem.W.keepIn K (.ref f_numerator) = true)
    {od_left_counts an_left_counts : Option Addr} {sl_left_counts : Array (Option Value)} {oc_left_counts kV_left_counts dc_left_counts pm_left_counts cd_left_counts ct_left_counts : Value} {f_left_counts : Addr}
    (a_left_counts : PySem.W.nsIn K mainGlobals "left_counts" = some (some (.ref f_left_counts))) (l_left_counts : K.lookup f_left_counts = some ⟨oc_left_counts, od_left_counts, .func (PySem.W.fnOf "left_counts" "left_counts" (defArgs s_left_counts) (defBody s_left_counts) (defScope s_left_counts) .none kV_left_counts dc_left_counts pm_left_counts an_left_counts cd_left_counts ct_left_counts), sl_left_counts⟩) (cc_left_counts : PySem.W.codeIn K cd_left_counts "left_counts" = true) (k_left_counts : PySem.W.keepIn K (.ref f_left_counts) = true)
    {od_count_at an_count_at : Option Addr} {sl_count_at : Array (Option Value)} {oc_count_at kV_count_at dc_count_at pm_count_at cd_count_at ct_count_at : Value} {f_count_at : Addr}
    (a_count_at : PySem.W.nsIn K mainGlobals "count_at" = some (some (.ref f_count_at))) (l_count_at : K.lookup f_count_at = some ⟨oc_count_at, od_count_at, .func (PySem.W.fnOf "count_at" "count_at" (defArgs s_count_at) (defBody s_count_at) (defScope s_count_at) .none kV_count_at dc_count_at pm_count_at an_count_at cd_count_at ct_count_at), sl_count_at⟩) (cc_count_at : PySem.W.codeIn K cd_count_at "count_at" = true) (k_count_at : PySem.W.keepIn K (.ref f_count_at) = true)
    {od_dimension an_dimension : Option Addr} {sl_dimension : Array (Option Value)} {oc_dimension kV_dimension dc_dimension pm_dimension cd_dimension ct_dimension : Value} {f_dimension : Addr}
    (a_dimension : PySem.W.nsIn K mainGlobals "dimension" = some (some (.ref f_dimension))) (l_dimension : K.lookup f_dimension = some ⟨oc_dimension, od_dimension, .func (PySem.W.fnOf "dimension" "dimension" (defArgs s_dimension) (defBody s_dimension) (defScope s_dimension) .none kV_dimension dc_dimension pm_dimension an_dimension cd_dimension ct_dimension), sl_dimension⟩) (cc_dimension : PySem.W.codeIn K cd_dimension "dimension" = true) (k_dimension : PySem.W.keepIn K (.ref f_dimension) = true)
    {od_weight an_weight : Option Addr} {sl_weight : Array (Option Value)} {oc_weight kV_weight dc_weight pm_weight cd_weight ct_weight : Value} {f_weight : Addr}
    (a_weight : PySem.W.nsIn K mainGlobals "weight" = some (some (.ref f_weight))) (l_weight : K.lookup f_weight = some ⟨oc_weight, od_weight, .func (PySem.W.fnOf "weight" "weight" (defArgs s_weight) (defBody s_weight) (defScope s_weight) .none kV_weight dc_weight pm_weight an_weight cd_weight ct_weight), sl_weight⟩) (cc_weight : PySem.W.codeIn K cd_weight "weight" = true) (k_weight : PySem.W.keepIn K (.ref f_weight) = true)
    {od_steady_row an_steady_row : Option Addr} {sl_steady_row : Array (Option Value)} {oc_steady_row kV_steady_row dc_steady_row pm_steady_row cd_steady_row ct_steady_row : Value} {f_steady_row : Addr}
    (a_steady_row : PySem.W.nsIn K mainGlobals "steady_row" = some (some (.ref f_steady_row))) (l_steady_row : K.lookup f_steady_row = some ⟨oc_steady_row, od_steady_row, .func (PySem.W.fnOf "steady_row" "steady_row" (defArgs s_steady_row) (defBody s_steady_row) (defScope s_steady_row) .none kV_steady_row dc_steady_row pm_steady_row an_steady_row cd_steady_row ct_steady_row), sl_steady_row⟩) (cc_steady_row : PySem.W.codeIn K cd_steady_row "steady_row" = true) (k_steady_row : PySem.W.keepIn K (.ref f_steady_row) = true)
    {od_steady_degree an_steady_degree : Option Addr} {sl_steady_degree : Array (Option Value)} {oc_steady_degree kV_steady_degree dc_steady_degree pm_steady_degree cd_steady_degree ct_steady_degree : Value} {f_steady_degree : Addr}
    (a_steady_degree : PySem.W.nsIn K mainGlobals "steady_degree" = some (some (.ref f_steady_degree))) (l_steady_degree : K.lookup f_steady_degree = some ⟨oc_steady_degree, od_steady_degree, .func (PySem.W.fnOf "steady_degree" "steady_degree" (defArgs s_steady_degree) (defBody s_steady_degree) (defScope s_steady_degree) .none kV_steady_degree dc_steady_degree pm_steady_degree an_steady_degree cd_steady_degree ct_steady_degree), sl_steady_degree⟩) (cc_steady_degree : PySem.W.codeIn K cd_steady_degree "steady_degree" = true) (k_steady_degree : PySem.W.keepIn K (.ref f_steady_degree) = true)
    {od_is_steady an_is_steady : Option Addr} {sl_is_steady : Array (Option Value)} {oc_is_steady kV_is_steady dc_is_steady pm_is_steady cd_is_steady ct_is_steady : Value} {f_is_steady : Addr}
    (a_is_steady : PySem.W.nsIn K mainGlobals "is_steady" = some (some (.ref f_is_steady))) (l_is_steady : K.lookup f_is_steady = some ⟨oc_is_steady, od_is_steady, .func (PySem.W.fnOf "is_steady" "is_steady" (defArgs s_is_steady) (defBody s_is_steady) (defScope s_is_steady) .none kV_is_steady dc_is_steady pm_is_steady an_is_steady cd_is_steady ct_is_steady), sl_is_steady⟩) (cc_is_steady : PySem.W.codeIn K cd_is_steady "is_steady" = true) (k_is_steady : PySem.W.keepIn K (.ref f_is_steady) = true)
    {od_left_number an_left_number : Option Addr} {sl_left_number : Array (Option Value)} {oc_left_number kV_left_number dc_left_number pm_left_number cd_left_number ct_left_number : Value} {f_left_number : Addr}
    (a_left_number : PySem.W.nsIn K mainGlobals "left_number" = some (some (.ref f_left_number))) (l_left_number : K.lookup f_left_number = some ⟨oc_left_number, od_left_number, .func (PySem.W.fnOf "left_number" "left_number" (defArgs s_left_number) (defBody s_left_number) (defScope s_left_number) .none kV_left_number dc_left_number pm_left_number an_left_number cd_left_number ct_left_number), sl_left_number⟩) (cc_left_number : PySem.W.codeIn K cd_left_number "left_number" = true) (k_left_number : PySem.W.keepIn K (.ref f_left_number) = true)
    {od_steady_number an_steady_number : Option Addr} {sl_steady_number : Array (Option Value)} {oc_steady_number kV_steady_number dc_steady_number pm_steady_number cd_steady_number ct_steady_number : Value} {f_steady_number : Addr}
    (a_steady_number : PySem.W.nsIn K mainGlobals "steady_number" = some (some (.ref f_steady_number))) (l_steady_number : K.lookup f_steady_number = some ⟨oc_steady_number, od_steady_number, .func (PySem.W.fnOf "steady_number" "steady_number" (defArgs s_steady_number) (defBody s_steady_number) (defScope s_steady_number) .none kV_steady_number dc_steady_number pm_steady_number an_steady_number cd_steady_number ct_steady_number), sl_steady_number⟩) (cc_steady_number : PySem.W.codeIn K cd_steady_number "steady_number" = true) (k_steady_number : PySem.W.keepIn K (.ref f_steady_number) = true)
    {od_stretched an_stretched : Option Addr} {sl_stretched : Array (Option Value)} {oc_stretched kV_stretched dc_stretched pm_stretched cd_stretched ct_stretched : Value} {f_stretched : Addr}
    (a_stretched : PySem.W.nsIn K mainGlobals "stretched" = some (some (.ref f_stretched))) (l_stretched : K.lookup f_stretched = some ⟨oc_stretched, od_stretched, .func (PySem.W.fnOf "stretched" "stretched" (defArgs s_stretched) (defBody s_stretched) (defScope s_stretched) .none kV_stretched dc_stretched pm_stretched an_stretched cd_stretched ct_stretched), sl_stretched⟩) (cc_stretched : PySem.W.codeIn K cd_stretched "stretched" = true) (k_stretched : PySem.W.keepIn K (.ref f_stretched) = true)
    {od_w_jug an_w_jug : Option Addr} {sl_w_jug : Array (Option Value)} {oc_w_jug kV_w_jug dc_w_jug pm_w_jug cd_w_jug ct_w_jug : Value} {f_w_jug : Addr}
    (a_w_jug : PySem.W.nsIn K mainGlobals "_law_jug" = some (some (.ref f_w_jug))) (l_w_jug : K.lookup f_w_jug = some ⟨oc_w_jug, od_w_jug, .func (PySem.W.fnOf "_law_jug" "_law_jug" (defArgs s_w_jug) (defBody s_w_jug) (defScope s_w_jug) .none kV_w_jug dc_w_jug pm_w_jug an_w_jug cd_w_jug ct_w_jug), sl_w_jug⟩) (cc_w_jug : PySem.W.codeIn K cd_w_jug "_law_jug" = true) (k_w_jug : PySem.W.keepIn K (.ref f_w_jug) = true)
    {od_w_pour an_w_pour : Option Addr} {sl_w_pour : Array (Option Value)} {oc_w_pour kV_w_pour dc_w_pour pm_w_pour cd_w_pour ct_w_pour : Value} {f_w_pour : Addr}
    (a_w_pour : PySem.W.nsIn K mainGlobals "_law_pour" = some (some (.ref f_w_pour))) (l_w_pour : K.lookup f_w_pour = some ⟨oc_w_pour, od_w_pour, .func (PySem.W.fnOf "_law_pour" "_law_pour" (defArgs s_w_pour) (defBody s_w_pour) (defScope s_w_pour) .none kV_w_pour dc_w_pour pm_w_pour an_w_pour cd_w_pour ct_w_pour), sl_w_pour⟩) (cc_w_pour : PySem.W.codeIn K cd_w_pour "_law_pour" = true) (k_w_pour : PySem.W.keepIn K (.ref f_w_pour) = true)
    {od_w_taken an_w_taken : Option Addr} {sl_w_taken : Array (Option Value)} {oc_w_taken kV_w_taken dc_w_taken pm_w_taken cd_w_taken ct_w_taken : Value} {f_w_taken : Addr}
    (a_w_taken : PySem.W.nsIn K mainGlobals "_law_taken" = some (some (.ref f_w_taken))) (l_w_taken : K.lookup f_w_taken = some ⟨oc_w_taken, od_w_taken, .func (PySem.W.fnOf "_law_taken" "_law_taken" (defArgs s_w_taken) (defBody s_w_taken) (defScope s_w_taken) .none kV_w_taken dc_w_taken pm_w_taken an_w_taken cd_w_taken ct_w_taken), sl_w_taken⟩) (cc_w_taken : PySem.W.codeIn K cd_w_taken "_law_taken" = true) (k_w_taken : PySem.W.keepIn K (.ref f_w_taken) = true)
    {od_w_divides an_w_divides : Option Addr} {sl_w_divides : Array (Option Value)} {oc_w_divides kV_w_divides dc_w_divides pm_w_divides cd_w_divides ct_w_divides : Value} {f_w_divides : Addr}
    (a_w_divides : PySem.W.nsIn K mainGlobals "_law_divides" = some (some (.ref f_w_divides))) (l_w_divides : K.lookup f_w_divides = some ⟨oc_w_divides, od_w_divides, .func (PySem.W.fnOf "_law_divides" "_law_divides" (defArgs s_w_divides) (defBody s_w_divides) (defScope s_w_divides) .none kV_w_divides dc_w_divides pm_w_divides an_w_divides cd_w_divides ct_w_divides), sl_w_divides⟩) (cc_w_divides : PySem.W.codeIn K cd_w_divides "_law_divides" = true) (k_w_divides : PySem.W.keepIn K (.ref f_w_divides) = true)
    {od_w_least an_w_least : Option Addr} {sl_w_least : Array (Option Value)} {oc_w_least kV_w_least dc_w_least pm_w_least cd_w_least ct_w_least : Value} {f_w_least : Addr}
    (a_w_least : PySem.W.nsIn K mainGlobals "_law_least" = some (some (.ref f_w_least))) (l_w_least : K.lookup f_w_least = some ⟨oc_w_least, od_w_least, .func (PySem.W.fnOf "_law_least" "_law_least" (defArgs s_w_least) (defBody s_w_least) (defScope s_w_least) .none kV_w_least dc_w_least pm_w_least an_w_least cd_w_least ct_w_least), sl_w_least⟩) (cc_w_least : PySem.W.codeIn K cd_w_least "_law_least" = true) (k_w_least : PySem.W.keepIn K (.ref f_w_least) = true)
    {od_w_product an_w_product : Option Addr} {sl_w_product : Array (Option Value)} {oc_w_product kV_w_product dc_w_product pm_w_product cd_w_product ct_w_product : Value} {f_w_product : Addr}
    (a_w_product : PySem.W.nsIn K mainGlobals "_law_product" = some (some (.ref f_w_product))) (l_w_product : K.lookup f_w_product = some ⟨oc_w_product, od_w_product, .func (PySem.W.fnOf "_law_product" "_law_product" (defArgs s_w_product) (defBody s_w_product) (defScope s_w_product) .none kV_w_product dc_w_product pm_w_product an_w_product cd_w_product ct_w_product), sl_w_product⟩) (cc_w_product : PySem.W.codeIn K cd_w_product "_law_product" = true) (k_w_product : PySem.W.keepIn K (.ref f_w_product) = true)
    {od_w_members an_w_members : Option Addr} {sl_w_members : Array (Option Value)} {oc_w_members kV_w_members dc_w_members pm_w_members cd_w_members ct_w_members : Value} {f_w_members : Addr}
    (a_w_members : PySem.W.nsIn K mainGlobals "_law_members" = some (some (.ref f_w_members))) (l_w_members : K.lookup f_w_members = some ⟨oc_w_members, od_w_members, .func (PySem.W.fnOf "_law_members" "_law_members" (defArgs s_w_members) (defBody s_w_members) (defScope s_w_members) .none kV_w_members dc_w_members pm_w_members an_w_members cd_w_members ct_w_members), sl_w_members⟩) (cc_w_members : PySem.W.codeIn K cd_w_members "_law_members" = true) (k_w_members : PySem.W.keepIn K (.ref f_w_members) = true)
    {od_w_choices an_w_choices : Option Addr} {sl_w_choices : Array (Option Value)} {oc_w_choices kV_w_choices dc_w_choices pm_w_choices cd_w_choices ct_w_choices : Value} {f_w_choices : Addr}
    (a_w_choices : PySem.W.nsIn K mainGlobals "_law_choices" = some (some (.ref f_w_choices))) (l_w_choices : K.lookup f_w_choices = some ⟨oc_w_choices, od_w_choices, .func (PySem.W.fnOf "_law_choices" "_law_choices" (defArgs s_w_choices) (defBody s_w_choices) (defScope s_w_choices) .none kV_w_choices dc_w_choices pm_w_choices an_w_choices cd_w_choices ct_w_choices), sl_w_choices⟩) (cc_w_choices : PySem.W.codeIn K cd_w_choices "_law_choices" = true) (k_w_choices : PySem.W.keepIn K (.ref f_w_choices) = true)
    {od_w_at an_w_at : Option Addr} {sl_w_at : Array (Option Value)} {oc_w_at kV_w_at dc_w_at pm_w_at cd_w_at ct_w_at : Value} {f_w_at : Addr}
    (a_w_at : PySem.W.nsIn K mainGlobals "_law_at" = some (some (.ref f_w_at))) (l_w_at : K.lookup f_w_at = some ⟨oc_w_at, od_w_at, .func (PySem.W.fnOf "_law_at" "_law_at" (defArgs s_w_at) (defBody s_w_at) (defScope s_w_at) .none kV_w_at dc_w_at pm_w_at an_w_at cd_w_at ct_w_at), sl_w_at⟩) (cc_w_at : PySem.W.codeIn K cd_w_at "_law_at" = true) (k_w_at : PySem.W.keepIn K (.ref f_w_at) = true)
    {od_w_by_differences an_w_by_differences : Option Addr} {sl_w_by_differences : Array (Option Value)} {oc_w_by_differences kV_w_by_differences dc_w_by_differences pm_w_by_differences cd_w_by_differences ct_w_by_differences : Value} {f_w_by_differences : Addr}
    (a_w_by_differences : PySem.W.nsIn K mainGlobals "_law_by_differences" = some (some (.ref f_w_by_differences))) (l_w_by_differences : K.lookup f_w_by_differences = some ⟨oc_w_by_differences, od_w_by_differences, .func (PySem.W.fnOf "_law_by_differences" "_law_by_differences" (defArgs s_w_by_differences) (defBody s_w_by_differences) (defScope s_w_by_differences) .none kV_w_by_differences dc_w_by_differences pm_w_by_differences an_w_by_differences cd_w_by_differences ct_w_by_differences), sl_w_by_differences⟩) (cc_w_by_differences : PySem.W.codeIn K cd_w_by_differences "_law_by_differences" = true) (k_w_by_differences : PySem.W.keepIn K (.ref f_w_by_differences) = true)
    {od_w_quotient_value an_w_quotient_value : Option Addr} {sl_w_quotient_value : Array (Option Value)} {oc_w_quotient_value kV_w_quotient_value dc_w_quotient_value pm_w_quotient_value cd_w_quotient_value ct_w_quotient_value : Value} {f_w_quotient_value : Addr}
    (a_w_quotient_value : PySem.W.nsIn K mainGlobals "_law_quotient_value" = some (some (.ref f_w_quotient_value))) (l_w_quotient_value : K.lookup f_w_quotient_value = some ⟨oc_w_quotient_value, od_w_quotient_value, .func (PySem.W.fnOf "_law_quotient_value" "_law_quotient_value" (defArgs s_w_quotient_value) (defBody s_w_quotient_value) (defScope s_w_quotient_value) .none kV_w_quotient_value dc_w_quotient_value pm_w_quotient_value an_w_quotient_value cd_w_quotient_value ct_w_quotient_value), sl_w_quotient_value⟩) (cc_w_quotient_value : PySem.W.codeIn K cd_w_quotient_value "_law_quotient_value" = true) (k_w_quotient_value : PySem.W.keepIn K (.ref f_w_quotient_value) = true)
    {od_w_right an_w_right : Option Addr} {sl_w_right : Array (Option Value)} {oc_w_right kV_w_right dc_w_right pm_w_right cd_w_right ct_w_right : Value} {f_w_right : Addr}
    (a_w_right : PySem.W.nsIn K mainGlobals "_law_right" = some (some (.ref f_w_right))) (l_w_right : K.lookup f_w_right = some ⟨oc_w_right, od_w_right, .func (PySem.W.fnOf "_law_right" "_law_right" (defArgs s_w_right) (defBody s_w_right) (defScope s_w_right) .none kV_w_right dc_w_right pm_w_right an_w_right cd_w_right ct_w_right), sl_w_right⟩) (cc_w_right : PySem.W.codeIn K cd_w_right "_law_right" = true) (k_w_right : PySem.W.keepIn K (.ref f_w_right) = true)
    {od_law an_law : Option Addr} {sl_law : Array (Option Value)} {oc_law kV_law dc_law pm_law cd_law ct_law : Value} {f_law : Addr}
    (a_law : PySem.W.nsIn K mainGlobals "law" = some (some (.ref f_law))) (l_law : K.lookup f_law = some ⟨oc_law, od_law, .func (PySem.W.fnOf "law" "law" (defArgs s_law) (defBody s_law) (defScope s_law) .none kV_law dc_law pm_law an_law cd_law ct_law), sl_law⟩) (cc_law : PySem.W.codeIn K cd_law "law" = true) (k_law : PySem.W.keepIn K (.ref f_law) = true)
    (aCLot : PySem.W.nsIn K mainGlobals "Lot" = some (some (.ref CLot)))
    {od_init an_init : Option Addr} {sl_init : Array (Option Value)} {oc_init kV_init dc_init pm_init cd_init ct_init : Value} {f_init : Addr}
    (a_init : PySem.W.findIn K (.ref CLot) "__init__" = some (some (.ref f_init))) (i_init : PySem.W.isFn K (.ref f_init) = true) (l_init : K.lookup f_init = some ⟨oc_init, od_init, .func (PySem.W.fnOf "__init__" "Lot.__init__" (defArgs s_init) (defBody s_init) (defScope s_init) .none kV_init dc_init pm_init an_init cd_init ct_init), sl_init⟩) (cc_init : PySem.W.codeIn K cd_init "Lot.__init__" = true) (k_init : PySem.W.keepIn K (.ref f_init) = true)
    {od_add an_add : Option Addr} {sl_add : Array (Option Value)} {oc_add kV_add dc_add pm_add cd_add ct_add : Value} {f_add : Addr}
    (a_add : PySem.W.findIn K (.ref CLot) (PySem.dunder Operator.Add.info.2) = some (some (.ref f_add))) (i_add : PySem.W.isFn K (.ref f_add) = true) (l_add : K.lookup f_add = some ⟨oc_add, od_add, .func (PySem.W.fnOf "__add__" "Lot.__add__" (defArgs s_add) (defBody s_add) (defScope s_add) .none kV_add dc_add pm_add an_add cd_add ct_add), sl_add⟩) (cc_add : PySem.W.codeIn K cd_add "Lot.__add__" = true) (k_add : PySem.W.keepIn K (.ref f_add) = true)
    {pp_letters : Addr} {re_letters : List Value}
    {od_letters an_letters : Option Addr} {sl_letters : Array (Option Value)} {oc_letters kV_letters dc_letters pm_letters cd_letters ct_letters : Value} {f_letters : Addr}
    (a_letters : PySem.W.findIn K (.ref CLot) "letters" = some (some (.ref pp_letters))) (g_letters : PySem.W.specialIn K (.ref pp_letters) "__get__" = some (some (.builtin "property.__get__"))) (tk_letters : PySem.W.takesIn K (.ref pp_letters) = some true) (r_letters : PySem.W.recIn K pp_letters "property" = some (.ref f_letters :: re_letters)) (l_letters : K.lookup f_letters = some ⟨oc_letters, od_letters, .func (PySem.W.fnOf "letters" "Lot.letters" (defArgs s_letters) (defBody s_letters) (defScope s_letters) .none kV_letters dc_letters pm_letters an_letters cd_letters ct_letters), sl_letters⟩) (cc_letters : PySem.W.codeIn K cd_letters "Lot.letters" = true) (k_letters : PySem.W.keepIn K (.ref f_letters) = true)
    {pp_members : Addr} {re_members : List Value}
    {od_members an_members : Option Addr} {sl_members : Array (Option Value)} {oc_members kV_members dc_members pm_members cd_members ct_members : Value} {f_members : Addr}
    (a_members : PySem.W.findIn K (.ref CLot) "members" = some (some (.ref pp_members))) (g_members : PySem.W.specialIn K (.ref pp_members) "__get__" = some (some (.builtin "property.__get__"))) (tk_members : PySem.W.takesIn K (.ref pp_members) = some true) (r_members : PySem.W.recIn K pp_members "property" = some (.ref f_members :: re_members)) (l_members : K.lookup f_members = some ⟨oc_members, od_members, .func (PySem.W.fnOf "members" "Lot.members" (defArgs s_members) (defBody s_members) (defScope s_members) .none kV_members dc_members pm_members an_members cd_members ct_members), sl_members⟩) (cc_members : PySem.W.codeIn K cd_members "Lot.members" = true) (k_members : PySem.W.keepIn K (.ref f_members) = true)
    (pgLot : PySem.W.plainGet K CLot Str.empty = true)
    (hdLot : PySem.W.hasDictIn K CLot = true)
    (poLot : PySem.W.plainOver K CLot = true)
    (saLot : PySem.W.findIn K (.ref CLot) "__setattr__" = some (some (.builtin "object.__setattr__")))
    (mkLot : PySem.W.makesIn K CLot = true)
    (kcLot : PySem.W.keepIn K (.ref CLot) = true)
    (n_lettersLot : PySem.W.findIn K (.ref CLot) "_letters" = some none)
    (n_membersLot : PySem.W.findIn K (.ref CLot) "_members" = some none)
    (c1Lot : PySem.W.findIn K (.ref CLot) "__class__" = some (some (.builtin "object.__class__")))
    (c2Lot : PySem.W.specialIn K (.builtin "object.__class__") "__get__" = some (some (.builtin "getset_descriptor.__get__")))
    (c3Lot : PySem.W.takesIn K (.builtin "object.__class__") = some true)
    (hmLot : PySem.W.mroIn K CLot (.type "object") = some true)
    (kitLot : PySem.W.kitOne K (.ref CLot) (.ref CLot) = some true)
    (firstLot : PySem.W.selfFirst K CLot = true)
    (z_isinstance : PySem.W.nsIn K mainGlobals "isinstance" = some none)
    (z_int : PySem.W.nsIn K mainGlobals "int" = some none)
    (z_bool : PySem.W.nsIn K mainGlobals "bool" = some none)
    (z_tuple : PySem.W.nsIn K mainGlobals "tuple" = some none)
    (z_len : PySem.W.nsIn K mainGlobals "len" = some none)
    (z_all : PySem.W.nsIn K mainGlobals "all" = some none)
    (z_zip : PySem.W.nsIn K mainGlobals "zip" = some none)
    (z_max : PySem.W.nsIn K mainGlobals "max" = some none)
    (z_sorted : PySem.W.nsIn K mainGlobals "sorted" = some none)
    (z_set : PySem.W.nsIn K mainGlobals "set" = some none)
    (z_range : PySem.W.nsIn K mainGlobals "range" = some none)
    (z_enumerate : PySem.W.nsIn K mainGlobals "enumerate" = some none)
    (z_list : PySem.W.nsIn K mainGlobals "list" = some none)
    (z_sum : PySem.W.nsIn K mainGlobals "sum" = some none)
    (z_abs : PySem.W.nsIn K mainGlobals "abs" = some none)
    (z_min : PySem.W.nsIn K mainGlobals "min" = some none)
    (z_ValueError : PySem.W.nsIn K mainGlobals "ValueError" = some none)
    (z_IndexError : PySem.W.nsIn K mainGlobals "IndexError" = some none)
    (z_OverflowError : PySem.W.nsIn K mainGlobals "OverflowError" = some none)
    (z_str : PySem.W.nsIn K mainGlobals "str" = some none)
    (z_NotImplemented : PySem.W.nsIn K mainGlobals "NotImplemented" = some none)
    (z_iter : PySem.W.nsIn K mainGlobals "iter" = some none)
    (z_classmethod : PySem.W.nsIn K mainGlobals "classmethod" = some none)
    (z_property : PySem.W.nsIn K mainGlobals "property" = some none)
    (z_comb : PySem.W.nsIn K mainGlobals "comb" = some (some (.builtin "math.comb")))
    {t_MAX_LETTERS : Nat} (g_MAX_LETTERS : PySem.W.nsIn K mainGlobals "MAX_LETTERS" = some (some (.int 8 t_MAX_LETTERS)))
    {t_MAX_EXPONENT : Nat} (g_MAX_EXPONENT : PySem.W.nsIn K mainGlobals "MAX_EXPONENT" = some (some (.int 60 t_MAX_EXPONENT)))
    {t_LONGEST_EXPONENT : Nat} (g_LONGEST_EXPONENT : PySem.W.nsIn K mainGlobals "LONGEST_EXPONENT" = some (some (.int 2 t_LONGEST_EXPONENT)))
    {t_MAX_MEMBER_EXPONENT : Nat} (g_MAX_MEMBER_EXPONENT : PySem.W.nsIn K mainGlobals "MAX_MEMBER_EXPONENT" = some (some (.int 8 t_MAX_MEMBER_EXPONENT)))
    {t_MAX_MEMBERS : Nat} (g_MAX_MEMBERS : PySem.W.nsIn K mainGlobals "MAX_MEMBERS" = some (some (.int 24 t_MAX_MEMBERS)))
    {t_MAX_PASSED : Nat} (g_MAX_PASSED : PySem.W.nsIn K mainGlobals "MAX_PASSED" = some (some (.int 200 t_MAX_PASSED)))
    {t_MAX_POWER : Nat} (g_MAX_POWER : PySem.W.nsIn K mainGlobals "MAX_POWER" = some (some (.int 4 t_MAX_POWER)))
    {t_MOST_COUNTED : Nat} (g_MOST_COUNTED : PySem.W.nsIn K mainGlobals "MOST_COUNTED" = some (some (.int 40 t_MOST_COUNTED)))
    {t_MOST_FAR : Nat} (g_MOST_FAR : PySem.W.nsIn K mainGlobals "MOST_FAR" = some (some (.int 1000000 t_MOST_FAR)))
    : ∃ fd : FuncData, (∀ (s : Shared) (v : Value), BindsTo s fd ⟨[v], []⟩ [("_law_script", v)]) ∧ ∀ base : Heap, K.In base → base.Ns mainGlobals mg → FnOk l.prog w K mg base CX0 11 fa fd ["_law_script"] (sp_law K) := by
  have e := hfa.symm.trans (PySem.W.mg_of X G a_law)
  cases e
  have F_is_number := fun_mk (st := s_is_number) l_is_number cc_is_number k_is_number
  have b_is_number := F_is_number.binds (ps := ["value"]) fun _ _ _ _ _ _ us hl => match us, hl with | [_], _ => rfl
  have F_is_within := fun_mk (st := s_is_within) l_is_within cc_is_within k_is_within
  have b_is_within := F_is_within.binds (ps := ["value", "least", "most"]) fun _ _ _ _ _ _ us hl => match us, hl with | [_, _, _], _ => rfl
  have F_check_within := fun_mk (st := s_check_within) l_check_within cc_check_within k_check_within
  have b_check_within := F_check_within.binds (ps := ["value", "least", "most"]) fun _ _ _ _ _ _ us hl => match us, hl with | [_, _, _], _ => rfl
  have F_choices := fun_mk (st := s_choices) l_choices cc_choices k_choices
  have b_choices := F_choices.binds (ps := ["top", "bottom"]) fun _ _ _ _ _ _ us hl => match us, hl with | [_, _], _ => rfl
  have F_are_exponents := fun_mk (st := s_are_exponents) l_are_exponents cc_are_exponents k_are_exponents
  have b_are_exponents := F_are_exponents.binds (ps := ["value", "letters", "most"]) fun _ _ _ _ _ _ us hl => match us, hl with | [_, _, _], _ => rfl
  have F_fits := fun_mk (st := s_fits) l_fits cc_fits k_fits
  have b_fits := F_fits.binds (ps := ["one", "other"]) fun _ _ _ _ _ _ us hl => match us, hl with | [_, _], _ => rfl
  have F_taken_off := fun_mk (st := s_taken_off) l_taken_off cc_taken_off k_taken_off
  have b_taken_off := F_taken_off.binds (ps := ["one", "other"]) fun _ _ _ _ _ _ us hl => match us, hl with | [_, _], _ => rfl
  have F_is_divided := fun_mk (st := s_is_divided) l_is_divided cc_is_divided k_is_divided
  have b_is_divided := F_is_divided.binds (ps := ["product", "products"]) fun _ _ _ _ _ _ us hl => match us, hl with | [_, _], _ => rfl
  have F_is_least_of := fun_mk (st := s_is_least_of) l_is_least_of cc_is_least_of k_is_least_of
  have b_is_least_of := F_is_least_of.binds (ps := ["product", "products"]) fun _ _ _ _ _ _ us hl => match us, hl with | [_, _], _ => rfl
  have F_least_of : FunD K "least_of" "least_of" (defArgs s_least_of) (defBody s_least_of) (defScope s_least_of) [.non] [] f_least_of _ := ⟨⟨_, _, _, _, _, _, _, _, _, _, rfl, l_least_of, cc_least_of, .inr ⟨by simp, _, _, [.none], _, rfl, t_least_of, rfl, .cons rfl .nil⟩, .inl rfl⟩, k_least_of⟩
  obtain ⟨dsb_least_of, hv_least_of, b_least_of⟩ := F_least_of.binds1 (ps := ["products", "most"]) 2 1 (by simp) rfl (fun T kV doc pm an cdv ct us its h1 h2 => match us, its, h1, h2 with | [_, _], [_], _, _ => ⟨_, rfl, rfl⟩)
  obtain ⟨dse_least_of, hw_least_of, e_least_of⟩ := F_least_of.binds1 (ps := ["products", "most"]) 1 0 (by simp) rfl (fun T kV doc pm an cdv ct us its h1 h2 => match us, its, h1, h2 with | [_], [_], _, _ => ⟨_, rfl, rfl⟩)
  cases hv_least_of
  obtain ⟨rfl⟩ : dse_least_of = [.none] := by cases hw_least_of with | cons h t => cases t; rw [show _ = _ from h]
  have F_are_products := fun_mk (st := s_are_products) l_are_products cc_are_products k_are_products
  have b_are_products := F_are_products.binds (ps := ["value", "letters"]) fun _ _ _ _ _ _ us hl => match us, hl with | [_, _], _ => rfl
  have F_made_lot := fun_mk (st := s_made_lot) l_made_lot cc_made_lot k_made_lot
  have b_made_lot := F_made_lot.binds (ps := ["letters", "members"]) fun _ _ _ _ _ _ us hl => match us, hl with | [_, _], _ => rfl
  have F_check_lot := fun_mk (st := s_check_lot) l_check_lot cc_check_lot k_check_lot
  have b_check_lot := F_check_lot.binds (ps := ["value"]) fun _ _ _ _ _ _ us hl => match us, hl with | [_], _ => rfl
  have F_check_letters := fun_mk (st := s_check_letters) l_check_letters cc_check_letters k_check_letters
  have b_check_letters := F_check_letters.binds (ps := ["one", "other"]) fun _ _ _ _ _ _ us hl => match us, hl with | [_, _], _ => rfl
  have F_limited_members := fun_mk (st := s_limited_members) l_limited_members cc_limited_members k_limited_members
  have b_limited_members := F_limited_members.binds (ps := ["products"]) fun _ _ _ _ _ _ us hl => match us, hl with | [_], _ => rfl
  have F_has_great_exponent := fun_mk (st := s_has_great_exponent) l_has_great_exponent cc_has_great_exponent k_has_great_exponent
  have b_has_great_exponent := F_has_great_exponent.binds (ps := ["products"]) fun _ _ _ _ _ _ us hl => match us, hl with | [_], _ => rfl
  have F_letter_sets := fun_mk (st := s_letter_sets) l_letter_sets cc_letter_sets k_letter_sets
  have b_letter_sets := F_letter_sets.binds (ps := ["letters"]) fun _ _ _ _ _ _ us hl => match us, hl with | [_], _ => rfl
  have F_is_free := fun_mk (st := s_is_free) l_is_free cc_is_free k_is_free
  have b_is_free := F_is_free.binds (ps := ["chosen", "members"]) fun _ _ _ _ _ _ us hl => match us, hl with | [_, _], _ => rfl
  have F_free_sets := fun_mk (st := s_free_sets) l_free_sets cc_free_sets k_free_sets
  have b_free_sets := F_free_sets.binds (ps := ["letters", "members"]) fun _ _ _ _ _ _ us hl => match us, hl with | [_, _], _ => rfl
  have F_greatest_size := fun_mk (st := s_greatest_size) l_greatest_size cc_greatest_size k_greatest_size
  have b_greatest_size := F_greatest_size.binds (ps := ["sets"]) fun _ _ _ _ _ _ us hl => match us, hl with | [_], _ => rfl
  have F_series_of := fun_mk (st := s_series_of) l_series_of cc_series_of k_series_of
  have b_series_of := F_series_of.binds (ps := ["members"]) fun _ _ _ _ _ _ us hl => match us, hl with | [_], _ => rfl
  have F_shared_letter := fun_mk (st := s_shared_letter) l_shared_letter cc_shared_letter k_shared_letter
  have b_shared_letter := F_shared_letter.binds (ps := ["rows"]) fun _ _ _ _ _ _ us hl => match us, hl with | [_], _ => rfl
  have F_middle_exponent := fun_mk (st := s_middle_exponent) l_middle_exponent cc_middle_exponent k_middle_exponent
  have b_middle_exponent := F_middle_exponent.binds (ps := ["rows", "letter"]) fun _ _ _ _ _ _ us hl => match us, hl with | [_, _], _ => rfl
  have F_with_power := fun_mk (st := s_with_power) l_with_power cc_with_power k_with_power
  have b_with_power := F_with_power.binds (ps := ["rows", "letter", "exponent"]) fun _ _ _ _ _ _ us hl => match us, hl with | [_, _, _], _ => rfl
  have F_without_power := fun_mk (st := s_without_power) l_without_power cc_without_power k_without_power
  have b_without_power := F_without_power.binds (ps := ["rows", "letter", "exponent"]) fun _ _ _ _ _ _ us hl => match us, hl with | [_, _, _], _ => rfl
  have F_apart_series := fun_mk (st := s_apart_series) l_apart_series cc_apart_series k_apart_series
  have b_apart_series := F_apart_series.binds (ps := ["rows"]) fun _ _ _ _ _ _ us hl => match us, hl with | [_], _ => rfl
  have F_numerator := fun_mk (st := s_numerator) l_numerator cc_numerator k_numerator
  have b_numerator := F_numerator.binds (ps := ["lot"]) fun _ _ _ _ _ _ us hl => match us, hl with | [_], _ => rfl
  have F_left_counts := fun_mk (st := s_left_counts) l_left_counts cc_left_counts k_left_counts
  have b_left_counts := F_left_counts.binds (ps := ["lot", "last"]) fun _ _ _ _ _ _ us hl => match us, hl with | [_, _], _ => rfl
  have F_count_at := fun_mk (st := s_count_at) l_count_at cc_count_at k_count_at
  have b_count_at := F_count_at.binds (ps := ["lot", "degree"]) fun _ _ _ _ _ _ us hl => match us, hl with | [_, _], _ => rfl
  have F_dimension := fun_mk (st := s_dimension) l_dimension cc_dimension k_dimension
  have b_dimension := F_dimension.binds (ps := ["lot"]) fun _ _ _ _ _ _ us hl => match us, hl with | [_], _ => rfl
  have F_weight := fun_mk (st := s_weight) l_weight cc_weight k_weight
  have b_weight := F_weight.binds (ps := ["lot"]) fun _ _ _ _ _ _ us hl => match us, hl with | [_], _ => rfl
  have F_steady_row := fun_mk (st := s_steady_row) l_steady_row cc_steady_row k_steady_row
  have b_steady_row := F_steady_row.binds (ps := ["lot"]) fun _ _ _ _ _ _ us hl => match us, hl with | [_], _ => rfl
  have F_steady_degree := fun_mk (st := s_steady_degree) l_steady_degree cc_steady_degree k_steady_degree
  have b_steady_degree := F_steady_degree.binds (ps := ["lot"]) fun _ _ _ _ _ _ us hl => match us, hl with | [_], _ => rfl
  have F_is_steady := fun_mk (st := s_is_steady) l_is_steady cc_is_steady k_is_steady
  have b_is_steady := F_is_steady.binds (ps := ["series", "letters", "degree"]) fun _ _ _ _ _ _ us hl => match us, hl with | [_, _, _], _ => rfl
  have F_left_number := fun_mk (st := s_left_number) l_left_number cc_left_number k_left_number
  have b_left_number := F_left_number.binds (ps := ["series", "letters", "degree"]) fun _ _ _ _ _ _ us hl => match us, hl with | [_, _, _], _ => rfl
  have F_steady_number := fun_mk (st := s_steady_number) l_steady_number cc_steady_number k_steady_number
  have b_steady_number := F_steady_number.binds (ps := ["series", "letters", "degree"]) fun _ _ _ _ _ _ us hl => match us, hl with | [_, _, _], _ => rfl
  have F_stretched := fun_mk (st := s_stretched) l_stretched cc_stretched k_stretched
  have b_stretched := F_stretched.binds (ps := ["top", "bottom"]) fun _ _ _ _ _ _ us hl => match us, hl with | [_, _], _ => rfl
  have F_w_jug := fun_mk (st := s_w_jug) l_w_jug cc_w_jug k_w_jug
  have b_w_jug := F_w_jug.binds (ps := ["_law_script", "_law_turn"]) fun _ _ _ _ _ _ us hl => match us, hl with | [_, _], _ => rfl
  have F_w_pour := fun_mk (st := s_w_pour) l_w_pour cc_w_pour k_w_pour
  have b_w_pour := F_w_pour.binds (ps := ["_law_jug_here", "_law_total"]) fun _ _ _ _ _ _ us hl => match us, hl with | [_, _], _ => rfl
  have F_w_taken := fun_mk (st := s_w_taken) l_w_taken cc_w_taken k_w_taken
  have b_w_taken := F_w_taken.binds (ps := ["_law_jug_here", "_law_items"]) fun _ _ _ _ _ _ us hl => match us, hl with | [_, _], _ => rfl
  have F_w_divides := fun_mk (st := s_w_divides) l_w_divides cc_w_divides k_w_divides
  have b_w_divides := F_w_divides.binds (ps := ["_law_one", "_law_other"]) fun _ _ _ _ _ _ us hl => match us, hl with | [_, _], _ => rfl
  have F_w_least := fun_mk (st := s_w_least) l_w_least cc_w_least k_w_least
  have b_w_least := F_w_least.binds (ps := ["_law_products"]) fun _ _ _ _ _ _ us hl => match us, hl with | [_], _ => rfl
  have F_w_product := fun_mk (st := s_w_product) l_w_product cc_w_product k_w_product
  have b_w_product := F_w_product.binds (ps := ["_law_jug_here", "_law_letters", "_law_most"]) fun _ _ _ _ _ _ us hl => match us, hl with | [_, _, _], _ => rfl
  have F_w_members := fun_mk (st := s_w_members) l_w_members cc_w_members k_w_members
  have b_w_members := F_w_members.binds (ps := ["_law_jug_here", "_law_letters", "_law_total", "_law_most"]) fun _ _ _ _ _ _ us hl => match us, hl with | [_, _, _, _], _ => rfl
  have F_w_choices := fun_mk (st := s_w_choices) l_w_choices cc_w_choices k_w_choices
  have b_w_choices := F_w_choices.binds (ps := ["_law_top", "_law_bottom"]) fun _ _ _ _ _ _ us hl => match us, hl with | [_, _], _ => rfl
  have F_w_at := fun_mk (st := s_w_at) l_w_at cc_w_at k_w_at
  have b_w_at := F_w_at.binds (ps := ["_law_row", "_law_degree"]) fun _ _ _ _ _ _ us hl => match us, hl with | [_, _], _ => rfl
  have F_w_by_differences := fun_mk (st := s_w_by_differences) l_w_by_differences cc_w_by_differences k_w_by_differences
  have b_w_by_differences := F_w_by_differences.binds (ps := ["_law_counts", "_law_start", "_law_size"]) fun _ _ _ _ _ _ us hl => match us, hl with | [_, _, _], _ => rfl
  have F_w_quotient_value := fun_mk (st := s_w_quotient_value) l_w_quotient_value cc_w_quotient_value k_w_quotient_value
  have b_w_quotient_value := F_w_quotient_value.binds (ps := ["_law_due", "_law_letters", "_law_size"]) fun _ _ _ _ _ _ us hl => match us, hl with | [_, _, _], _ => rfl
  have F_w_right := fun_mk (st := s_w_right) l_w_right cc_w_right k_w_right
  have b_w_right := F_w_right.binds (ps := ["_law_jug_here"]) fun _ _ _ _ _ _ us hl => match us, hl with | [_], _ => rfl
  have F_law := fun_mk (st := s_law) l_law cc_law k_law
  have b_law := F_law.binds (ps := ["_law_script"]) fun _ _ _ _ _ _ us hl => match us, hl with | [_], _ => rfl
  have F_init := fun_mk (st := s_init) l_init cc_init k_init
  have b_init := F_init.binds (ps := ["self", "letters", "members"]) fun _ _ _ _ _ _ us hl => match us, hl with | [_, _, _], _ => rfl
  have F_add := fun_mk (st := s_add) l_add cc_add k_add
  have b_add := F_add.binds (ps := ["self", "other"]) fun _ _ _ _ _ _ us hl => match us, hl with | [_, _], _ => rfl
  have F_letters := fun_mk (st := s_letters) l_letters cc_letters k_letters
  have b_letters := F_letters.binds (ps := ["self"]) fun _ _ _ _ _ _ us hl => match us, hl with | [_], _ => rfl
  have F_members := fun_mk (st := s_members) l_members cc_members k_members
  have b_members := F_members.binds (ps := ["self"]) fun _ _ _ _ _ _ us hl => match us, hl with | [_], _ => rfl
  let T : Txt K mg := ⟨_, _, F_is_number, b_is_number, PySem.W.mg_of X G a_is_number, _, _, F_is_within, b_is_within, PySem.W.mg_of X G a_is_within, _, _, F_check_within, b_check_within, PySem.W.mg_of X G a_check_within, _, _, F_choices, b_choices, PySem.W.mg_of X G a_choices, _, _, F_are_exponents, b_are_exponents, PySem.W.mg_of X G a_are_exponents, _, _, F_fits, b_fits, PySem.W.mg_of X G a_fits, _, _, F_taken_off, b_taken_off, PySem.W.mg_of X G a_taken_off, _, _, F_is_divided, b_is_divided, PySem.W.mg_of X G a_is_divided, _, _, F_is_least_of, b_is_least_of, PySem.W.mg_of X G a_is_least_of, _, _, F_least_of, b_least_of, e_least_of, PySem.W.mg_of X G a_least_of, _, _, F_are_products, b_are_products, PySem.W.mg_of X G a_are_products, _, _, F_made_lot, b_made_lot, PySem.W.mg_of X G a_made_lot, _, _, F_check_lot, b_check_lot, PySem.W.mg_of X G a_check_lot, _, _, F_check_letters, b_check_letters, PySem.W.mg_of X G a_check_letters, _, _, F_limited_members, b_limited_members, PySem.W.mg_of X G a_limited_members, _, _, F_has_great_exponent, b_has_great_exponent, PySem.W.mg_of X G a_has_great_exponent, _, _, F_letter_sets, b_letter_sets, PySem.W.mg_of X G a_letter_sets, _, _, F_is_free, b_is_free, PySem.W.mg_of X G a_is_free, _, _, F_free_sets, b_free_sets, PySem.W.mg_of X G a_free_sets, _, _, F_greatest_size, b_greatest_size, PySem.W.mg_of X G a_greatest_size, _, _, F_series_of, b_series_of, PySem.W.mg_of X G a_series_of, _, _, F_shared_letter, b_shared_letter, PySem.W.mg_of X G a_shared_letter, _, _, F_middle_exponent, b_middle_exponent, PySem.W.mg_of X G a_middle_exponent, _, _, F_with_power, b_with_power, PySem.W.mg_of X G a_with_power, _, _, F_without_power, b_without_power, PySem.W.mg_of X G a_without_power, _, _, F_apart_series, b_apart_series, PySem.W.mg_of X G a_apart_series, _, _, F_numerator, b_numerator, PySem.W.mg_of X G a_numerator, _, _, F_left_counts, b_left_counts, PySem.W.mg_of X G a_left_counts, _, _, F_count_at, b_count_at, PySem.W.mg_of X G a_count_at, _, _, F_dimension, b_dimension, PySem.W.mg_of X G a_dimension, _, _, F_weight, b_weight, PySem.W.mg_of X G a_weight, _, _, F_steady_row, b_steady_row, PySem.W.mg_of X G a_steady_row, _, _, F_steady_degree, b_steady_degree, PySem.W.mg_of X G a_steady_degree, _, _, F_is_steady, b_is_steady, PySem.W.mg_of X G a_is_steady, _, _, F_left_number, b_left_number, PySem.W.mg_of X G a_left_number, _, _, F_steady_number, b_steady_number, PySem.W.mg_of X G a_steady_number, _, _, F_stretched, b_stretched, PySem.W.mg_of X G a_stretched, _, _, F_w_jug, b_w_jug, PySem.W.mg_of X G a_w_jug, _, _, F_w_pour, b_w_pour, PySem.W.mg_of X G a_w_pour, _, _, F_w_taken, b_w_taken, PySem.W.mg_of X G a_w_taken, _, _, F_w_divides, b_w_divides, PySem.W.mg_of X G a_w_divides, _, _, F_w_least, b_w_least, PySem.W.mg_of X G a_w_least, _, _, F_w_product, b_w_product, PySem.W.mg_of X G a_w_product, _, _, F_w_members, b_w_members, PySem.W.mg_of X G a_w_members, _, _, F_w_choices, b_w_choices, PySem.W.mg_of X G a_w_choices, _, _, F_w_at, b_w_at, PySem.W.mg_of X G a_w_at, _, _, F_w_by_differences, b_w_by_differences, PySem.W.mg_of X G a_w_by_differences, _, _, F_w_quotient_value, b_w_quotient_value, PySem.W.mg_of X G a_w_quotient_value, _, _, F_w_right, b_w_right, PySem.W.mg_of X G a_w_right, _, _, F_law, b_law, PySem.W.mg_of X G a_law, PySem.W.mg_none_of X G z_isinstance, PySem.W.mg_none_of X G z_int, PySem.W.mg_none_of X G z_bool, PySem.W.mg_none_of X G z_tuple, PySem.W.mg_none_of X G z_len, PySem.W.mg_none_of X G z_all, PySem.W.mg_none_of X G z_zip, PySem.W.mg_none_of X G z_max, PySem.W.mg_none_of X G z_sorted, PySem.W.mg_none_of X G z_set, PySem.W.mg_none_of X G z_range, PySem.W.mg_none_of X G z_enumerate, PySem.W.mg_none_of X G z_list, PySem.W.mg_none_of X G z_sum, PySem.W.mg_none_of X G z_abs, PySem.W.mg_none_of X G z_min, PySem.W.mg_none_of X G z_ValueError, PySem.W.mg_none_of X G z_IndexError, PySem.W.mg_none_of X G z_OverflowError, PySem.W.mg_none_of X G z_str, PySem.W.mg_none_of X G z_NotImplemented, PySem.W.mg_none_of X G z_iter, PySem.W.mg_none_of X G z_classmethod, PySem.W.mg_none_of X G z_property, PySem.W.mg_of X G z_comb, _, PySem.W.mg_of X G g_MAX_LETTERS, _, PySem.W.mg_of X G g_MAX_EXPONENT, _, PySem.W.mg_of X G g_LONGEST_EXPONENT, _, PySem.W.mg_of X G g_MAX_MEMBER_EXPONENT, _, PySem.W.mg_of X G g_MAX_MEMBERS, _, PySem.W.mg_of X G g_MAX_PASSED, _, PySem.W.mg_of X G g_MAX_POWER, _, PySem.W.mg_of X G g_MOST_COUNTED, _, PySem.W.mg_of X G g_MOST_FAR⟩
  have clLot : Cls K CLot := ⟨pgLot, hdLot, poLot, saLot⟩
  let O : LotT K mg := ⟨CLot, clLot, n_lettersLot, n_membersLot, PySem.W.mg_of X G aCLot, _, _, F_init, b_init, ⟨mkLot, a_init, i_init, kcLot⟩⟩
  let R : LotP K CLot := ⟨_, _, _, ⟨a_letters, g_letters, tk_letters, ⟨_, r_letters⟩⟩, F_letters, b_letters, _, _, _, ⟨a_members, g_members, tk_members, ⟨_, r_members⟩⟩, F_members, b_members⟩
  let W : LotO K mg CLot := ⟨firstLot, fun H a dx fs h => .base (.ins h clLot c1Lot c2Lot c3Lot hmLot), kitLot, _, _, F_add, b_add, a_add, i_add⟩
  exact ⟨_, fun s v => .of_eq rfl, fun base _ _ => ok_law T O R W⟩
end K13

open PySem PySem.W PyProof.Rows
set_option maxRecDepth 100000 in
set_option maxHeartbeats 0 in
theorem PySem.Challenge.cw_pureladders_k13_whole_steady_rows_holds : PySem.Challenge.rw_pureladders_k13_whole_steady_rows.Holds := by
  w_on; o_law; k_head; (case hw => w_witness2)
  k_fill
  refine L2.walk_of (l := PySem.Challenge.rw_pureladders_k13_whole_steady_rows) (n := 63) (k := 11) (x := "_law_script") (CX := fun _ => L2.CX0) (sp := fun w => K13.sp_law _) rfl (by decide) rfl ⟨rfl, by decide, by decide⟩ (fun w h Y => PySem.W.kIn_of Y) ?F (fun _ _ a ns hl _ hS => ⟨a, ns, rfl, hS, hl, fun _ => rfl⟩) (fun _ _ _ _ _ h => h)
  case F =>
    intro w mg fa h KX G hmg
    refine' K13.all_mk KX G hmg ?a_is_number ?l_is_number ?cc_is_number ?k_is_number ?a_is_within ?l_is_within ?cc_is_within ?k_is_within ?a_check_within ?l_check_within ?cc_check_within ?k_check_within ?a_choices ?l_choices ?cc_choices ?k_choices ?a_are_exponents ?l_are_exponents ?cc_are_exponents ?k_are_exponents ?a_fits ?l_fits ?cc_fits ?k_fits ?a_taken_off ?l_taken_off ?cc_taken_off ?k_taken_off ?a_is_divided ?l_is_divided ?cc_is_divided ?k_is_divided ?a_is_least_of ?l_is_least_of ?cc_is_least_of ?k_is_least_of ?a_least_of ?l_least_of ?cc_least_of ?k_least_of ?t_least_of ?a_are_products ?l_are_products ?cc_are_products ?k_are_products ?a_made_lot ?l_made_lot ?cc_made_lot ?k_made_lot ?a_check_lot ?l_check_lot ?cc_check_lot ?k_check_lot ?a_check_letters ?l_check_letters ?cc_check_letters ?k_check_letters ?a_limited_members ?l_limited_members ?cc_limited_members ?k_limited_members ?a_has_great_exponent ?l_has_great_exponent ?cc_has_great_exponent ?k_has_great_exponent ?a_letter_sets ?l_letter_sets ?cc_letter_sets ?k_letter_sets ?a_is_free ?l_is_free ?cc_is_free ?k_is_free ?a_free_sets ?l_free_sets ?cc_free_sets ?k_free_sets ?a_greatest_size ?l_greatest_size ?cc_greatest_size ?k_greatest_size ?a_series_of ?l_series_of ?cc_series_of ?k_series_of ?a_shared_letter ?l_shared_letter ?cc_shared_letter ?k_shared_letter ?a_middle_exponent ?l_middle_exponent ?cc_middle_exponent ?k_middle_exponent ?a_with_power ?l_with_power ?cc_with_power ?k_with_power ?a_without_power ?l_without_power ?cc_without_power ?k_without_power ?a_apart_series ?l_apart_series ?cc_apart_series ?k_apart_series ?a_numerator ?l_numerator ?cc_numerator ?k_numerator ?a_left_counts ?l_left_counts ?cc_left_counts ?k_left_counts ?a_count_at ?l_count_at ?cc_count_at ?k_count_at ?a_dimension ?l_dimension ?cc_dimension ?k_dimension ?a_weight ?l_weight ?cc_weight ?k_weight ?a_steady_row ?l_steady_row ?cc_steady_row ?k_steady_row ?a_steady_degree ?l_steady_degree ?cc_steady_degree ?k_steady_degree ?a_is_steady ?l_is_steady ?cc_is_steady ?k_is_steady ?a_left_number ?l_left_number ?cc_left_number ?k_left_number ?a_steady_number ?l_steady_number ?cc_steady_number ?k_steady_number ?a_stretched ?l_stretched ?cc_stretched ?k_stretched ?a_w_jug ?l_w_jug ?cc_w_jug ?k_w_jug ?a_w_pour ?l_w_pour ?cc_w_pour ?k_w_pour ?a_w_taken ?l_w_taken ?cc_w_taken ?k_w_taken ?a_w_divides ?l_w_divides ?cc_w_divides ?k_w_divides ?a_w_least ?l_w_least ?cc_w_least ?k_w_least ?a_w_product ?l_w_product ?cc_w_product ?k_w_product ?a_w_members ?l_w_members ?cc_w_members ?k_w_members ?a_w_choices ?l_w_choices ?cc_w_choices ?k_w_choices ?a_w_at ?l_w_at ?cc_w_at ?k_w_at ?a_w_by_differences ?l_w_by_differences ?cc_w_by_differences ?k_w_by_differences ?a_w_quotient_value ?l_w_quotient_value ?cc_w_quotient_value ?k_w_quotient_value ?a_w_right ?l_w_right ?cc_w_right ?k_w_right ?a_law ?l_law ?cc_law ?k_law ?aCLot ?a_init ?i_init ?l_init ?cc_init ?k_init ?a_add ?i_add ?l_add ?cc_add ?k_add ?a_letters ?g_letters ?tk_letters ?r_letters ?l_letters ?cc_letters ?k_letters ?a_members ?g_members ?tk_members ?r_members ?l_members ?cc_members ?k_members ?pgLot ?hdLot ?poLot ?saLot ?mkLot ?kcLot ?n_lettersLot ?n_membersLot ?c1Lot ?c2Lot ?c3Lot ?hmLot ?kitLot ?firstLot ?z_isinstance ?z_int ?z_bool ?z_tuple ?z_len ?z_all ?z_zip ?z_max ?z_sorted ?z_set ?z_range ?z_enumerate ?z_list ?z_sum ?z_abs ?z_min ?z_ValueError ?z_IndexError ?z_OverflowError ?z_str ?z_NotImplemented ?z_iter ?z_classmethod ?z_property ?z_comb ?g_MAX_LETTERS ?g_MAX_EXPONENT ?g_LONGEST_EXPONENT ?g_MAX_MEMBER_EXPONENT ?g_MAX_MEMBERS ?g_MAX_PASSED ?g_MAX_POWER ?g_MOST_COUNTED ?g_MOST_FAR
    (case a_is_number => first | k_is | kernel_rfl | rfl)
    (case l_is_number => first | k_is | kernel_rfl | rfl)
    (case cc_is_number => first | k_is | kernel_rfl | rfl)
    (case k_is_number => first | k_is | kernel_rfl | rfl)
    (case a_is_within => first | k_is | kernel_rfl | rfl)
    (case l_is_within => first | k_is | kernel_rfl | rfl)
    (case cc_is_within => first | k_is | kernel_rfl | rfl)
    (case k_is_within => first | k_is | kernel_rfl | rfl)
    (case a_check_within => first | k_is | kernel_rfl | rfl)
    (case l_check_within => first | k_is | kernel_rfl | rfl)
    (case cc_check_within => first | k_is | kernel_rfl | rfl)
    (case k_check_within => first | k_is | kernel_rfl | rfl)
    (case a_choices => first | k_is | kernel_rfl | rfl)
    (case l_choices => first | k_is | kernel_rfl | rfl)
    (case cc_choices => first | k_is | kernel_rfl | rfl)
    (case k_choices => first | k_is | kernel_rfl | rfl)
    (case a_are_exponents => first | k_is | kernel_rfl | rfl)
    (case l_are_exponents => first | k_is | kernel_rfl | rfl)
    (case cc_are_exponents => first | k_is | kernel_rfl | rfl)
    (case k_are_exponents => first | k_is | kernel_rfl | rfl)
    (case a_fits => first | k_is | kernel_rfl | rfl)
    (case l_fits => first | k_is | kernel_rfl | rfl)
    (case cc_fits => first | k_is | kernel_rfl | rfl)
    (case k_fits => first | k_is | kernel_rfl | rfl)
    (case a_taken_off => first | k_is | kernel_rfl | rfl)
    (case l_taken_off => first | k_is | kernel_rfl | rfl)
    (case cc_taken_off => first | k_is | kernel_rfl | rfl)
    (case k_taken_off => first | k_is | kernel_rfl | rfl)
    (case a_is_divided => first | k_is | kernel_rfl | rfl)
    (case l_is_divided => first | k_is | kernel_rfl | rfl)
    (case cc_is_divided => first | k_is | kernel_rfl | rfl)
    (case k_is_divided => first | k_is | kernel_rfl | rfl)
    (case a_is_least_of => first | k_is | kernel_rfl | rfl)
    (case l_is_least_of => first | k_is | kernel_rfl | rfl)
    (case cc_is_least_of => first | k_is | kernel_rfl | rfl)
    (case k_is_least_of => first | k_is | kernel_rfl | rfl)
    (case a_least_of => first | k_is | kernel_rfl | rfl)
    (case l_least_of => first | k_is | kernel_rfl | rfl)
    (case cc_least_of => first | k_is | kernel_rfl | rfl)
    (case k_least_of => first | k_is | kernel_rfl | rfl)
    (case t_least_of => first | k_is | kernel_rfl | rfl)
    (case a_are_products => first | k_is | kernel_rfl | rfl)
    (case l_are_products => first | k_is | kernel_rfl | rfl)
    (case cc_are_products => first | k_is | kernel_rfl | rfl)
    (case k_are_products => first | k_is | kernel_rfl | rfl)
    (case a_made_lot => first | k_is | kernel_rfl | rfl)
    (case l_made_lot => first | k_is | kernel_rfl | rfl)
    (case cc_made_lot => first | k_is | kernel_rfl | rfl)
    (case k_made_lot => first | k_is | kernel_rfl | rfl)
    (case a_check_lot => first | k_is | kernel_rfl | rfl)
    (case l_check_lot => first | k_is | kernel_rfl | rfl)
    (case cc_check_lot => first | k_is | kernel_rfl | rfl)
    (case k_check_lot => first | k_is | kernel_rfl | rfl)
    (case a_check_letters => first | k_is | kernel_rfl | rfl)
    (case l_check_letters => first | k_is | kernel_rfl | rfl)
    (case cc_check_letters => first | k_is | kernel_rfl | rfl)
    (case k_check_letters => first | k_is | kernel_rfl | rfl)
    (case a_limited_members => first | k_is | kernel_rfl | rfl)
    (case l_limited_members => first | k_is | kernel_rfl | rfl)
    (case cc_limited_members => first | k_is | kernel_rfl | rfl)
    (case k_limited_members => first | k_is | kernel_rfl | rfl)
    (case a_has_great_exponent => first | k_is | kernel_rfl | rfl)
    (case l_has_great_exponent => first | k_is | kernel_rfl | rfl)
    (case cc_has_great_exponent => first | k_is | kernel_rfl | rfl)
    (case k_has_great_exponent => first | k_is | kernel_rfl | rfl)
    (case a_letter_sets => first | k_is | kernel_rfl | rfl)
    (case l_letter_sets => first | k_is | kernel_rfl | rfl)
    (case cc_letter_sets => first | k_is | kernel_rfl | rfl)
    (case k_letter_sets => first | k_is | kernel_rfl | rfl)
    (case a_is_free => first | k_is | kernel_rfl | rfl)
    (case l_is_free => first | k_is | kernel_rfl | rfl)
    (case cc_is_free => first | k_is | kernel_rfl | rfl)
    (case k_is_free => first | k_is | kernel_rfl | rfl)
    (case a_free_sets => first | k_is | kernel_rfl | rfl)
    (case l_free_sets => first | k_is | kernel_rfl | rfl)
    (case cc_free_sets => first | k_is | kernel_rfl | rfl)
    (case k_free_sets => first | k_is | kernel_rfl | rfl)
    (case a_greatest_size => first | k_is | kernel_rfl | rfl)
    (case l_greatest_size => first | k_is | kernel_rfl | rfl)
    (case cc_greatest_size => first | k_is | kernel_rfl | rfl)
    (case k_greatest_size => first | k_is | kernel_rfl | rfl)
    (case a_series_of => first | k_is | kernel_rfl | rfl)
    (case l_series_of => first | k_is | kernel_rfl | rfl)
    (case cc_series_of => first | k_is | kernel_rfl | rfl)
    (case k_series_of => first | k_is | kernel_rfl | rfl)
    (case a_shared_letter => first | k_is | kernel_rfl | rfl)
    (case l_shared_letter => first | k_is | kernel_rfl | rfl)
    (case cc_shared_letter => first | k_is | kernel_rfl | rfl)
    (case k_shared_letter => first | k_is | kernel_rfl | rfl)
    (case a_middle_exponent => first | k_is | kernel_rfl | rfl)
    (case l_middle_exponent => first | k_is | kernel_rfl | rfl)
    (case cc_middle_exponent => first | k_is | kernel_rfl | rfl)
    (case k_middle_exponent => first | k_is | kernel_rfl | rfl)
    (case a_with_power => first | k_is | kernel_rfl | rfl)
    (case l_with_power => first | k_is | kernel_rfl | rfl)
    (case cc_with_power => first | k_is | kernel_rfl | rfl)
    (case k_with_power => first | k_is | kernel_rfl | rfl)
    (case a_without_power => first | k_is | kernel_rfl | rfl)
    (case l_without_power => first | k_is | kernel_rfl | rfl)
    (case cc_without_power => first | k_is | kernel_rfl | rfl)
    (case k_without_power => first | k_is | kernel_rfl | rfl)
    (case a_apart_series => first | k_is | kernel_rfl | rfl)
    (case l_apart_series => first | k_is | kernel_rfl | rfl)
    (case cc_apart_series => first | k_is | kernel_rfl | rfl)
    (case k_apart_series => first | k_is | kernel_rfl | rfl)
    (case a_numerator => first | k_is | kernel_rfl | rfl)
    (case l_numerator => first | k_is | kernel_rfl | rfl)
    (case cc_numerator => first | k_is | kernel_rfl | rfl)
    (case k_numerator => first | k_is | kernel_rfl | rfl)
    (case a_left_counts => first | k_is | kernel_rfl | rfl)
    (case l_left_counts => first | k_is | kernel_rfl | rfl)
    (case cc_left_counts => first | k_is | kernel_rfl | rfl)
    (case k_left_counts => first | k_is | kernel_rfl | rfl)
    (case a_count_at => first | k_is | kernel_rfl | rfl)
    (case l_count_at => first | k_is | kernel_rfl | rfl)
    (case cc_count_at => first | k_is | kernel_rfl | rfl)
    (case k_count_at => first | k_is | kernel_rfl | rfl)
    (case a_dimension => first | k_is | kernel_rfl | rfl)
    (case l_dimension => first | k_is | kernel_rfl | rfl)
    (case cc_dimension => first | k_is | kernel_rfl | rfl)
    (case k_dimension => first | k_is | kernel_rfl | rfl)
    (case a_weight => first | k_is | kernel_rfl | rfl)
    (case l_weight => first | k_is | kernel_rfl | rfl)
    (case cc_weight => first | k_is | kernel_rfl | rfl)
    (case k_weight => first | k_is | kernel_rfl | rfl)
    (case a_steady_row => first | k_is | kernel_rfl | rfl)
    (case l_steady_row => first | k_is | kernel_rfl | rfl)
    (case cc_steady_row => first | k_is | kernel_rfl | rfl)
    (case k_steady_row => first | k_is | kernel_rfl | rfl)
    (case a_steady_degree => first | k_is | kernel_rfl | rfl)
    (case l_steady_degree => first | k_is | kernel_rfl | rfl)
    (case cc_steady_degree => first | k_is | kernel_rfl | rfl)
    (case k_steady_degree => first | k_is | kernel_rfl | rfl)
    (case a_is_steady => first | k_is | kernel_rfl | rfl)
    (case l_is_steady => first | k_is | kernel_rfl | rfl)
    (case cc_is_steady => first | k_is | kernel_rfl | rfl)
    (case k_is_steady => first | k_is | kernel_rfl | rfl)
    (case a_left_number => first | k_is | kernel_rfl | rfl)
    (case l_left_number => first | k_is | kernel_rfl | rfl)
    (case cc_left_number => first | k_is | kernel_rfl | rfl)
    (case k_left_number => first | k_is | kernel_rfl | rfl)
    (case a_steady_number => first | k_is | kernel_rfl | rfl)
    (case l_steady_number => first | k_is | kernel_rfl | rfl)
    (case cc_steady_number => first | k_is | kernel_rfl | rfl)
    (case k_steady_number => first | k_is | kernel_rfl | rfl)
    (case a_stretched => first | k_is | kernel_rfl | rfl)
    (case l_stretched => first | k_is | kernel_rfl | rfl)
    (case cc_stretched => first | k_is | kernel_rfl | rfl)
    (case k_stretched => first | k_is | kernel_rfl | rfl)
    (case a_w_jug => first | k_is | kernel_rfl | rfl)
    (case l_w_jug => first | k_is | kernel_rfl | rfl)
    (case cc_w_jug => first | k_is | kernel_rfl | rfl)
    (case k_w_jug => first | k_is | kernel_rfl | rfl)
    (case a_w_pour => first | k_is | kernel_rfl | rfl)
    (case l_w_pour => first | k_is | kernel_rfl | rfl)
    (case cc_w_pour => first | k_is | kernel_rfl | rfl)
    (case k_w_pour => first | k_is | kernel_rfl | rfl)
    (case a_w_taken => first | k_is | kernel_rfl | rfl)
    (case l_w_taken => first | k_is | kernel_rfl | rfl)
    (case cc_w_taken => first | k_is | kernel_rfl | rfl)
    (case k_w_taken => first | k_is | kernel_rfl | rfl)
    (case a_w_divides => first | k_is | kernel_rfl | rfl)
    (case l_w_divides => first | k_is | kernel_rfl | rfl)
    (case cc_w_divides => first | k_is | kernel_rfl | rfl)
    (case k_w_divides => first | k_is | kernel_rfl | rfl)
    (case a_w_least => first | k_is | kernel_rfl | rfl)
    (case l_w_least => first | k_is | kernel_rfl | rfl)
    (case cc_w_least => first | k_is | kernel_rfl | rfl)
    (case k_w_least => first | k_is | kernel_rfl | rfl)
    (case a_w_product => first | k_is | kernel_rfl | rfl)
    (case l_w_product => first | k_is | kernel_rfl | rfl)
    (case cc_w_product => first | k_is | kernel_rfl | rfl)
    (case k_w_product => first | k_is | kernel_rfl | rfl)
    (case a_w_members => first | k_is | kernel_rfl | rfl)
    (case l_w_members => first | k_is | kernel_rfl | rfl)
    (case cc_w_members => first | k_is | kernel_rfl | rfl)
    (case k_w_members => first | k_is | kernel_rfl | rfl)
    (case a_w_choices => first | k_is | kernel_rfl | rfl)
    (case l_w_choices => first | k_is | kernel_rfl | rfl)
    (case cc_w_choices => first | k_is | kernel_rfl | rfl)
    (case k_w_choices => first | k_is | kernel_rfl | rfl)
    (case a_w_at => first | k_is | kernel_rfl | rfl)
    (case l_w_at => first | k_is | kernel_rfl | rfl)
    (case cc_w_at => first | k_is | kernel_rfl | rfl)
    (case k_w_at => first | k_is | kernel_rfl | rfl)
    (case a_w_by_differences => first | k_is | kernel_rfl | rfl)
    (case l_w_by_differences => first | k_is | kernel_rfl | rfl)
    (case cc_w_by_differences => first | k_is | kernel_rfl | rfl)
    (case k_w_by_differences => first | k_is | kernel_rfl | rfl)
    (case a_w_quotient_value => first | k_is | kernel_rfl | rfl)
    (case l_w_quotient_value => first | k_is | kernel_rfl | rfl)
    (case cc_w_quotient_value => first | k_is | kernel_rfl | rfl)
    (case k_w_quotient_value => first | k_is | kernel_rfl | rfl)
    (case a_w_right => first | k_is | kernel_rfl | rfl)
    (case l_w_right => first | k_is | kernel_rfl | rfl)
    (case cc_w_right => first | k_is | kernel_rfl | rfl)
    (case k_w_right => first | k_is | kernel_rfl | rfl)
    (case a_law => first | k_is | kernel_rfl | rfl)
    (case l_law => first | k_is | kernel_rfl | rfl)
    (case cc_law => first | k_is | kernel_rfl | rfl)
    (case k_law => first | k_is | kernel_rfl | rfl)
    (case aCLot => first | k_is | kernel_rfl | rfl)
    (case a_init => first | k_is | kernel_rfl | rfl)
    (case i_init => first | k_is | kernel_rfl | rfl)
    (case l_init => first | k_is | kernel_rfl | rfl)
    (case cc_init => first | k_is | kernel_rfl | rfl)
    (case k_init => first | k_is | kernel_rfl | rfl)
    (case a_add => first | k_is | kernel_rfl | rfl)
    (case i_add => first | k_is | kernel_rfl | rfl)
    (case l_add => first | k_is | kernel_rfl | rfl)
    (case cc_add => first | k_is | kernel_rfl | rfl)
    (case k_add => first | k_is | kernel_rfl | rfl)
    (case a_letters => first | k_is | kernel_rfl | rfl)
    (case g_letters => first | k_is | kernel_rfl | rfl)
    (case tk_letters => first | k_is | kernel_rfl | rfl)
    (case r_letters => first | k_is | kernel_rfl | rfl)
    (case l_letters => first | k_is | kernel_rfl | rfl)
    (case cc_letters => first | k_is | kernel_rfl | rfl)
    (case k_letters => first | k_is | kernel_rfl | rfl)
    (case a_members => first | k_is | kernel_rfl | rfl)
    (case g_members => first | k_is | kernel_rfl | rfl)
    (case tk_members => first | k_is | kernel_rfl | rfl)
    (case r_members => first | k_is | kernel_rfl | rfl)
    (case l_members => first | k_is | kernel_rfl | rfl)
    (case cc_members => first | k_is | kernel_rfl | rfl)
    (case k_members => first | k_is | kernel_rfl | rfl)
    (case pgLot => first | k_is | kernel_rfl | rfl)
    (case hdLot => first | k_is | kernel_rfl | rfl)
    (case poLot => first | k_is | kernel_rfl | rfl)
    (case saLot => first | k_is | kernel_rfl | rfl)
    (case mkLot => first | k_is | kernel_rfl | rfl)
    (case kcLot => first | k_is | kernel_rfl | rfl)
    (case n_lettersLot => first | k_is | kernel_rfl | rfl)
    (case n_membersLot => first | k_is | kernel_rfl | rfl)
    (case c1Lot => first | k_is | kernel_rfl | rfl)
    (case c2Lot => first | k_is | kernel_rfl | rfl)
    (case c3Lot => first | k_is | kernel_rfl | rfl)
    (case hmLot => first | k_is | kernel_rfl | rfl)
    (case kitLot => first | k_is | kernel_rfl | rfl)
    (case firstLot => first | k_is | kernel_rfl | rfl)
    (case z_isinstance => first | k_is | kernel_rfl | rfl)
    (case z_int => first | k_is | kernel_rfl | rfl)
    (case z_bool => first | k_is | kernel_rfl | rfl)
    (case z_tuple => first | k_is | kernel_rfl | rfl)
    (case z_len => first | k_is | kernel_rfl | rfl)
    (case z_all => first | k_is | kernel_rfl | rfl)
    (case z_zip => first | k_is | kernel_rfl | rfl)
    (case z_max => first | k_is | kernel_rfl | rfl)
    (case z_sorted => first | k_is | kernel_rfl | rfl)
    (case z_set => first | k_is | kernel_rfl | rfl)
    (case z_range => first | k_is | kernel_rfl | rfl)
    (case z_enumerate => first | k_is | kernel_rfl | rfl)
    (case z_list => first | k_is | kernel_rfl | rfl)
    (case z_sum => first | k_is | kernel_rfl | rfl)
    (case z_abs => first | k_is | kernel_rfl | rfl)
    (case z_min => first | k_is | kernel_rfl | rfl)
    (case z_ValueError => first | k_is | kernel_rfl | rfl)
    (case z_IndexError => first | k_is | kernel_rfl | rfl)
    (case z_OverflowError => first | k_is | kernel_rfl | rfl)
    (case z_str => first | k_is | kernel_rfl | rfl)
    (case z_NotImplemented => first | k_is | kernel_rfl | rfl)
    (case z_iter => first | k_is | kernel_rfl | rfl)
    (case z_classmethod => first | k_is | kernel_rfl | rfl)
    (case z_property => first | k_is | kernel_rfl | rfl)
    (case z_comb => first | k_is | kernel_rfl | rfl)
    (case g_MAX_LETTERS => first | k_is | kernel_rfl | rfl)
    (case g_MAX_EXPONENT => first | k_is | kernel_rfl | rfl)
    (case g_LONGEST_EXPONENT => first | k_is | kernel_rfl | rfl)
    (case g_MAX_MEMBER_EXPONENT => first | k_is | kernel_rfl | rfl)
    (case g_MAX_MEMBERS => first | k_is | kernel_rfl | rfl)
    (case g_MAX_PASSED => first | k_is | kernel_rfl | rfl)
    (case g_MAX_POWER => first | k_is | kernel_rfl | rfl)
    (case g_MOST_COUNTED => first | k_is | kernel_rfl | rfl)
    (case g_MOST_FAR => first | k_is | kernel_rfl | rfl)
