import PyProof.Rows.All
import Wide.All
import OpenK.AllK
import Wide.FinOn
import HandS.Base
import HandS.Call
import HandS.List
import HandS.Comp
import HandS.Ends
import HandS.Iter
import HandS.Words
import HandS.WordsList
import HandS.TupMul
import HandS.TupAny
import HandS.IsInst
import HandS.Zip
import HandS.Style
import HandS.Wide
import HandS.GenList
import KE.KTupSum
import KE.KEqSeq
import HandS.TupSets
import PyProof.WalksMore
import HandS.Property
import KE.KOpsOwn
import HandS.OwnEq
import HandS.WordsExc
import HandS.ForExc
import HandS.TryMany
import HandS.ExcInit
import HandS.ExcField
import HandS.Lambda
import KE.KExcInit
import HandS.Defaults
import HandS.SetBool
import KE.KCallOwn
import OpenK.KOps
import OpenK.KMeth
import HandS.IterVal
import KE.KOwnIter
import KE.GoesMore
import HandS.TryOnly
import HandS.EndTab
import PySem.Challenge.RW_pureladders_k08_whole_quotients_and_powe
set_option Elab.async false
set_option linter.all false
set_option maxRecDepth 100000
set_option maxHeartbeats 4000000
/-! rules that the layer lacks -/
namespace L5
open PySem PySem.Spec PyProof.Rows L2
/-! ### powers of great numbers -/
def CPowW (i j : Int) : Prop := 0 ≤ j ∧ (Builtin.Int.intBits i : Int) * j ≤ 2 ^ 27
theorem op_powW {X : Cx} : OpR X (binaryOp .Pow) (rI CPowW fun i j => .int (i ^ j.toNat)) := opI fun _ _ _ _ _ _ _ hc q => pow_int hc.1 hc.2 q
/-! ### sum and max of a tuple of ints -/
section
variable {pr : Program} {wd : World} {A : Around} {E : Value → Shared → Prop} {s : Shared} {tp : Addr} {us : List Value} {ms : List Int} {G : Value → Shared → Prop}
/-- a row of ints, as the library's walks want it -/
theorem items_of (hi : IntsAre us ms) : ∃ ws : Array (Int × Tok), us.toArray = intItems ws ∧ ws.toList.map (·.1) = ms := by
  obtain ⟨ws, ew⟩ := hi.allInts.items
  refine ⟨ws, ew, ?_⟩
  rw [← nums_intItems, ← ew]
  exact hi.numsOf
abbrev Stays (s : Shared) (h : Heap) : Prop := ∀ b o, s.heap.get? b = some o → h.get? b = some o
theorem sum_of_tuple (hh : A.handled = none) (ht : s.heap.IsTuple tp us.toArray) (hi : IntsAre us ms) (q : ∀ h n t, Stays s h → G (.int ms.sum t) { s with heap := h, toks := n }) :
    wpAny (model pr wd) A (call (.builtin "sum") [.ref tp]) G E s := by
  obtain ⟨ws, ew, en⟩ := items_of hi
  rw [ew] at ht
  refine PySem.W.ktm_sumG hh ht fun h n t kept => ?_
  have g := q h n t kept
  rw [← en] at g
  rw [preSum_eq, List.take_of_length_le (by rw [List.length_map, Array.length_toList]; exact Nat.le_refl _)]
  exact g
theorem max_of_tuple (hh : A.handled = none) (ht : s.heap.IsTuple tp us.toArray) (hi : IntsAre us ms) (some1 : 0 < ms.length) (q : ∀ h n M t, Stays s h → M ∈ ms → (∀ a, a ∈ ms → a ≤ M) → G (.int M t) { s with heap := h, toks := n }) :
    wpAny (model pr wd) A (call (.builtin "max") [.ref tp]) G E s := by
  obtain ⟨ws, ew, en⟩ := items_of hi
  subst en
  rw [ew] at ht
  have pos : 0 < ws.size := by simpa using some1
  have esz : (intItems ws).size = ws.size := by simp [intItems]
  obtain ⟨ob, hob, _⟩ := id ht
  have apart : tp ≠ s.heap.objs.size := Nat.ne_of_lt (Heap.lt_size hob)
  refine call_max_walk (wpAny_pyIter_tuple ht ?_)
  refine ⟨_, _, _, _, _, _, _, rfl, Walks.tuple (A := A.in1) hh s.heap.objs.size tp apart (intItems ws), ⟨⟨_, Heap.get?_push_size _ rfl, rfl, rfl⟩, ht.at fun o e => Heap.get?_push_of_some _ e⟩, fun b hb => ?_, by rw [esz]; exact pos, CmpOf.ints_gt (numAt ws) (fun _ _ => intItems_at), fun v h n hv kept => ?_⟩
  · have two : b = s.heap.objs.size ∨ b = tp := by simpa using hb
    rcases two with rfl | rfl
    · exact Heap.lt_size (o := _) (Heap.get?_push_size _ rfl)
    · exact Heap.lt_size (o := ob) (Heap.get?_push_of_some _ hob)
  · obtain ⟨t, rfl⟩ := intItems_at hv
    rw [esz] at *
    obtain ⟨top1, top2⟩ := argBest_gt (numAt ws) (ws.size - 1)
    have at_of : ∀ i, numAt ws i = (ws.toList.map (·.1)).getD i 0 := fun i => numAt_eq ..
    refine q h n _ t (fun b o e => kept b o (fun hb => ?_) (Heap.get?_push_of_some _ e)) ?_ fun a ha => ?_
    · rw [List.mem_singleton.mp hb] at e
      exact Nat.lt_irrefl _ (Heap.lt_size e)
    · rw [at_of]
      refine PySem.getD_mem ?_
      rw [List.length_map, Array.length_toList]
      omega
    · obtain ⟨i, less, rfl⟩ := mem_getD ha
      rw [List.length_map, Array.length_toList] at less
      rw [← at_of]
      exact top2 i (by omega)
end
section
variable {X : Cx}
def rSumT (K : PySem.W.Frag) : List V → Hp → VK → Prop := fun vs H Q => ∃ (a : Addr) (ns : List Int), vs = [V.ref a] ∧ SqT K H a (ns.map V.int) ∧ Q (.int ns.sum) H
theorem cr_sumT (calm : X.calm = true) : CallR X (.builtin "sum") (rSumT X.K) := fun _ _ _ _ _ _ _ I r h => by
  obtain ⟨_, _, rfl, ht, q⟩ := h
  obtain ⟨_, rv, plain, _⟩ := I.tuple ht
  rw [Vals.ref1 r]
  exact sum_of_tuple (I.ok.hd calm) plain rv.ints fun _ _ _ kept => ⟨.int _, _, I.kept kept, ⟨_, rfl⟩, q⟩
def rMaxT (K : PySem.W.Frag) : List V → Hp → VK → Prop := fun vs H Q => ∃ (a : Addr) (ns : List Int), vs = [V.ref a] ∧ SqT K H a (ns.map V.int) ∧ 0 < ns.length ∧ ∀ m, m ∈ ns → (∀ y, y ∈ ns → y ≤ m) → Q (.int m) H
theorem cr_maxT (calm : X.calm = true) : CallR X (.builtin "max") (rMaxT X.K) := fun _ _ _ _ _ _ _ I r h => by
  obtain ⟨_, _, rfl, ht, some1, q⟩ := h
  obtain ⟨_, rv, plain, _⟩ := I.tuple ht
  rw [Vals.ref1 r]
  exact max_of_tuple (I.ok.hd calm) plain rv.ints some1 fun _ _ m _ kept g1 g2 => ⟨.int m, _, I.kept kept, ⟨_, rfl⟩, q m g1 g2⟩
end
/-! ### tuple * int, any int: the tuple itself, the empty one, or a longer one -/
abbrev tupObj (items : Array Value) (n : Nat) (dd : Option Addr) (sl : Array (Option Value)) : Obj := { cls := .type "tuple", dict := dd, data := .seq items n, slots := sl }
theorem off_of {b : Bool} (h : b = false) : decide (b = true) = false := decide_eq_false (Bool.eq_false_iff.mp h)
theorem mul_same (tp : Addr) (items : Array Value) (n : Nat) (dd : Option Addr) (sl : Array (Option Value)) (x : Int) (u : Tok) (fits : (decide (x < -(2 ^ 63)) || decide (x ≥ 2 ^ 63)) = false) (same : (items.isEmpty || x == 1) = true) :
    Meets (Builtin.«tuple.__mul__» ⟨[.ref tp, .int x u], []⟩) (fun _ R s => s.heap.get? tp = some (tupObj items n dd sl) ∧ R (.ok (.ret (Value.ref tp))) { s with heap := s.heap, toks := s.toks }) :=
  .of_wp fun _ _ _ _ st both => by
    obtain ⟨_, _, _, _, _⟩ := st
    obtain ⟨at1, q⟩ := both
    have ix := AutoSeq1.idx_int
    wp_walk using wpAny_loadPart' at1
    repeat (first
      | (refine wpAny_ite_false (off_of fits) ?_; wp_walk using wpAny_loadPart' at1)
      | (refine wpAny_ite_true (decide_eq_true same) ?_; wp_walk using wpAny_loadPart' at1))
    exact ⟨_, rfl, q⟩
theorem mul_none (tp : Addr) (items : Array Value) (n : Nat) (dd : Option Addr) (sl : Array (Option Value)) (x : Int) (u : Tok) (fits : (decide (x < -(2 ^ 63)) || decide (x ≥ 2 ^ 63)) = false) (other : (items.isEmpty || x == 1) = false) (less : (decide (x ≤ 0) || items.isEmpty) = true) :
    Meets (Builtin.«tuple.__mul__» ⟨[.ref tp, .int x u], []⟩) (fun _ R s => s.heap.get? tp = some (tupObj items n dd sl) ∧
      R (.ok (.ret (Value.ref s.heap.objs.size))) { s with heap := s.heap.push { cls := Value.type "tuple", data := Data.seq #[] }, toks := s.toks }) :=
  .of_wp fun _ _ _ _ st both => by
    obtain ⟨_, _, _, _, _⟩ := st
    obtain ⟨at1, q⟩ := both
    have ix := AutoSeq1.idx_int
    wp_walk using wpAny_loadPart' at1
    repeat (first
      | (refine wpAny_ite_false (off_of fits) ?_; wp_walk using wpAny_loadPart' at1)
      | (refine wpAny_ite_false (off_of other) ?_; wp_walk using wpAny_loadPart' at1)
      | (refine wpAny_ite_true (decide_eq_true less) ?_; wp_walk using wpAny_loadPart' at1))
    exact ⟨_, rfl, q⟩
def rRepA (K : PySem.W.Frag) : R2 := fun x y H Q => ∃ l k xs, x = .ref l ∧ y = .int k ∧ SqT K H l xs ∧ xs ≠ [] ∧ -1000 ≤ k ∧ k ≤ 1000 ∧ xs.length ≤ 1000 ∧
  (k = 1 → Q (.ref l) H) ∧ (k ≠ 1 → ∀ p, H p = none → Q (.ref p) (upd H p (.tup (List.replicate k.toNat xs).flatten)))
section
variable {X : Cx}
theorem op_repA : OpR X (binaryOp .Mult) (rRepA X.K) := fun pins s σ H x y v u Q I rx ry h => by
  obtain ⟨tp, k, xs, rfl, rfl, isT, full, lo, hi, short, qa, qb⟩ := h
  by_cases two : 2 ≤ k
  · exact op_repT pins s σ H _ _ v u Q I rx ry ⟨tp, k, xs, rfl, rfl, isT, full, two, hi, short, qb (by omega)⟩
  cases rx
  obtain ⟨tk, rfl⟩ := ry
  obtain ⟨its, r, ⟨⟨c, dd, dt, sl⟩, ho, hc, n, hd⟩, _⟩ := I.tuple isT
  simp only at hc hd
  subst hc hd
  have filled : its.toArray.isEmpty = false := by
    cases its with
    | nil =>
      cases r
      exact absurd rfl full
    | cons _ _ => rfl
  have fits : (decide (k < -(2 ^ 63)) || decide (k ≥ 2 ^ 63)) = false := Bool.or_eq_false_iff.mpr ⟨decide_eq_false (by omega), decide_eq_false (by omega)⟩
  by_cases one : k = 1
  · subst one
    refine wpAny_binaryOp_repeat_ref (T := "tuple") (U := "int") (by decide) ⟨_, ho, rfl⟩ (fun z => typeIs_int z _ tk) noFill_tuple_mul F.fills_int_mul F.slot_int_rmul repeat_tuple F.slot_int_index.lookup
      (call_meets F.slot_int_rmul (typeIs_int s _ tk) F.entry_int_rmul (F.args_int_rmul_2 _ _) (int_rmul_tuple _ tk tp its.toArray n dd sl)
        ⟨ho, rfl, ⟨_, ho, rfl⟩, call_meets F.slot_tuple_mul ⟨_, ho, rfl⟩ F.entry_tuple_mul (F.args_tuple_mul_2 _ _) (mul_same tp its.toArray n dd sl 1 tk fits (by rw [filled]; rfl)) ⟨ho, ?_⟩⟩)
    exact ⟨.ref tp, H, I, rfl, qa rfl⟩
  · have other : (its.toArray.isEmpty || k == 1) = false := Bool.or_eq_false_iff.mpr ⟨filled, beq_eq_false_iff_ne.mpr one⟩
    have less : (decide (k ≤ 0) || its.toArray.isEmpty) = true := Bool.or_eq_true_iff.mpr (.inl (decide_eq_true (by omega)))
    refine wpAny_binaryOp_repeat_ref (T := "tuple") (U := "int") (by decide) ⟨_, ho, rfl⟩ (fun z => typeIs_int z k tk) noFill_tuple_mul F.fills_int_mul F.slot_int_rmul repeat_tuple F.slot_int_index.lookup
      (call_meets F.slot_int_rmul (typeIs_int s k tk) F.entry_int_rmul (F.args_int_rmul_2 _ _) (int_rmul_tuple k tk tp its.toArray n dd sl)
        ⟨ho, rfl, ⟨_, ho, rfl⟩, call_meets F.slot_tuple_mul ⟨_, ho, rfl⟩ F.entry_tuple_mul (F.args_tuple_mul_2 _ _) (mul_none tp its.toArray n dd sl k tk fits other less) ⟨ho, ?_⟩⟩)
    have e0 : (List.replicate k.toNat xs).flatten = [] := by
      rw [show k.toNat = 0 by omega]
      rfl
    have q := qb one s.heap.objs.size (I.hok.fresh (Nat.le_refl _))
    rw [e0] at q
    exact ⟨.ref s.heap.objs.size, _, I.laid (t' := s.toks) (o := .tup []) (fun _ _ e => Heap.get?_push_of_some _ e) (Nat.le_refl _) ⟨Nat.zero_le _, [], .nil, IsTup.new _ _⟩, rfl, q⟩
end
/-! ### words for what stands in the heap -/
section
variable {K : PySem.W.Frag} {H H' : Hp}
abbrev nv (t : List Nat) : List V := t.map fun n => V.int ((n : Nat) : Int)
theorem nv_ints (t : List Nat) : nv t = (t.map fun n => ((n : Nat) : Int)).map V.int := by
  rw [List.map_map]
  rfl
theorem nv_len (t : List Nat) : (nv t).length = t.length := List.length_map _
theorem nv_app (t u : List Nat) : nv (t ++ u) = nv t ++ nv u := List.map_append
theorem nv_get {t : List Nat} {i : Nat} {x : V} (h : (nv t)[i]? = some x) : ∃ n, t[i]? = some n ∧ x = .int ((n : Nat) : Int) := by
  rw [List.getElem?_map] at h
  cases e : t[i]? with
  | none =>
    rw [e] at h
    cases h
  | some n =>
    rw [e] at h
    exact ⟨n, rfl, (Option.some.inj h).symm⟩
theorem nv_at {t : List Nat} {i n : Nat} (h : t[i]? = some n) : atI (nv t) (i : Int) = some (.int ((n : Nat) : Int)) := atI_nat (by rw [List.getElem?_map, h] <;> rfl)
theorem sizeK {n : Nat} (h : n ≤ 1000000) : n < sizeLine := Nat.lt_of_le_of_lt h (by decide)
theorem same_updL {p : Addr} {o : HO} (s : Same H H') (hp : H p = none) : Same H (upd H' p o) := fun b u q => by
  rw [upd_ne (ne_of_none q hp)]
  exact s b u q
theorem sqt_updL {a p : Addr} {xs ys : List V} {o : HO} (hp : H p = some (.lst ys)) (h : SqT K H a xs) : SqT K (upd H p o) a xs := by
  have ne : ∀ u, H a = some u → u ≠ .lst ys → a ≠ p := fun u e n z => by
    rw [z, hp] at e
    exact n (Option.some.inj e).symm
  rcases h with (h | ⟨o, h⟩) | h
  · exact .inl (.inl (by rw [upd_ne (ne _ h (by intro z; cases z))]; exact h))
  · exact .inl (.inr ⟨o, by rw [upd_ne (ne _ h (by intro z; cases z))]; exact h⟩)
  · exact .inr h
theorem sql_updL {a p : Addr} {xs : List V} {o : HO} (hne : a ≠ p) (h : SqL K H a xs) : SqL K (upd H p o) a xs := by
  rcases h with (h | ⟨o, h⟩) | h
  · exact .inl (.inl (by rw [upd_ne hne]; exact h))
  · exact .inl (.inr ⟨o, by rw [upd_ne hne]; exact h⟩)
  · exact .inr h
theorem sum_cast (t : List Nat) : (t.map fun n => ((n : Nat) : Int)).sum = ((t.sum : Nat) : Int) := by
  induction t with
  | nil => rfl
  | cons x r ih => rw [List.map_cons, List.sum_cons, List.sum_cons, ih]; omega
theorem same_sqt {a : Addr} {xs : List V} (e : Same H H') (h : SqT K H a xs) : SqT K H' a xs := by
  rcases h with (h | ⟨o, h⟩) | h
  · exact .inl (.inl (e _ _ h))
  · exact .inl (.inr ⟨o, e _ _ h⟩)
  · exact .inr h
theorem same_new {p : Addr} (h : H p = none) (o : HO) : Same H (upd H p o) := fun b u q => by rw [upd_ne (ne_of_none q h)]; exact q
def Tups (K : PySem.W.Frag) (H : Hp) : List Addr → List (List Nat) → Prop := Paired fun a t => SqT K H a (nv t)
theorem Tups.same (e : Same H H') : ∀ {rs : List Addr} {L : List (List Nat)}, Tups K H rs L → Tups K H' rs L
  | _, _, .nil => .nil
  | _, _, .cons h t => .cons (same_sqt e h) (Tups.same e t)
theorem Tups.updL {p : Addr} {ys : List V} {o : HO} (hp : H p = some (.lst ys)) : ∀ {rs : List Addr} {L : List (List Nat)}, Tups K H rs L → Tups K (upd H p o) rs L
  | _, _, .nil => .nil
  | _, _, .cons h t => .cons (sqt_updL hp h) (Tups.updL hp t)
theorem Tups.length : ∀ {rs : List Addr} {L : List (List Nat)}, Tups K H rs L → rs.length = L.length
  | _, _, .nil => rfl
  | _, _, .cons _ t => congrArg (· + 1) (Tups.length t)
theorem Tups.app : ∀ {rs qs : List Addr} {L M : List (List Nat)}, Tups K H rs L → Tups K H qs M → Tups K H (rs ++ qs) (L ++ M)
  | _, _, _, _, .nil, s => s
  | _, _, _, _, .cons r t, s => .cons r (Tups.app t s)
theorem Tups.rev {rs : List Addr} {L : List (List Nat)} (h : Tups K H rs L) : Tups K H rs.reverse L.reverse := by
  induction h with
  | nil => exact .nil
  | cons r t ih =>
    rw [List.reverse_cons, List.reverse_cons]
    exact ih.app (.cons r .nil)
theorem Tups.get : ∀ {rs : List Addr} {L : List (List Nat)} {i : Nat} {a : Addr}, Tups K H rs L → rs[i]? = some a → ∃ t, L[i]? = some t ∧ SqT K H a (nv t)
  | _, _, _, _, .nil, e => by simp at e
  | _, _, 0, _, .cons r _, e => by simp at e; subst e; exact ⟨_, rfl, r⟩
  | _, _, i + 1, a, .cons _ t, e => by
    obtain ⟨u, h1, h2⟩ := Tups.get (i := i) (a := a) t (by simpa using e)
    exact ⟨u, by simpa using h1, h2⟩
theorem sqt_ty {a : Addr} {xs : List V} (h : SqT K H a xs) : TyX K H (.ref a) (.type "tuple") := by
  rcases h with (h | ⟨o, h⟩) | ⟨o, its, n, e, c, _⟩
  · exact .base (.tup h)
  · exact .fTuple h
  · exact .kTuple e c
/-- as data -/
abbrev encT (t : List Nat) : PyData := .tuple (t.map fun n => PyData.int ((n : Nat) : Int))
theorem dp_nats : ∀ (t : List Nat), DpAll K H (nv t) (t.map fun n => PyData.int ((n : Nat) : Int))
  | [] => .nil
  | n :: t => .cons (.int _) (dp_nats t)
theorem dp_tup {a : Addr} {t : List Nat} (h : SqT K H a (nv t)) : Dp K H (.ref a) (encT t) := .tup h (dp_nats t)
theorem dp_tups : ∀ {rs : List Addr} {L : List (List Nat)}, Tups K H rs L → DpAll K H (rs.map V.ref) (L.map encT)
  | _, _, .nil => .nil
  | _, _, .cons h t => .cons (dp_tup h) (dp_tups t)
theorem can_nats : ∀ t : List Nat, PyData.canLayAll0 (t.map fun n => PyData.int ((n : Nat) : Int)) = true ∧ PyData.depthAll (t.map fun n => PyData.int ((n : Nat) : Int)) = 0
  | [] => by simp [PyData.canLayAll0, PyData.depthAll]
  | n :: t => by
    have h := can_nats t
    simp only [List.map_cons, PyData.canLayAll0, PyData.depthAll, h.1, h.2, PyData.canLay0, PyData.depth]
    simp
theorem can_tups : ∀ L : List (List Nat), PyData.canLayAll0 (L.map encT) = true ∧ PyData.depthAll (L.map encT) ≤ 1
  | [] => by simp [PyData.canLayAll0, PyData.depthAll]
  | t :: L => by
    have h := can_tups L
    have g := can_nats t
    simp only [List.map_cons, PyData.canLayAll0, PyData.depthAll, h.1, PyData.canLay0, PyData.depth, g.1, g.2]
    exact ⟨by simp, by omega⟩
theorem shaped_tups (L : List (List Nat)) : SeqAt.shaped (.list (L.map encT)) = true := by
  have h := can_tups L
  unfold SeqAt.shaped
  simp only [PyData.canLay0, PyData.depth, h.1, Bool.true_and]
  exact decide_eq_true (by omega)
theorem eqv_tups (L : List (List Nat)) : PyData.eqv (.list (L.map encT)) (.list (L.map encT)) = true := SeqAt.eqv_refl _ (by
  simp only [PyData.canLay0]
  exact (can_tups L).1)
theorem shaped_tup (t : List Nat) : SeqAt.shaped (encT t) = true := by
  have g := can_nats t
  unfold SeqAt.shaped
  simp only [encT, PyData.canLay0, PyData.depth, g.1, g.2, Bool.true_and]
  exact decide_eq_true (by omega)
theorem eqv_tup (t : List Nat) : PyData.eqv (encT t) (encT t) = true := SeqAt.eqv_refl _ (by
  simp only [encT, PyData.canLay0]
  exact (can_nats t).1)
end
end L5

namespace W7
open PySem PySem.Spec PyProof.Rows L2
section
variable {P : Program} {w : World} {A : Around} {E : Value → Shared → Prop} {s : Shared}
theorem set_of_tuple {l : Addr} {items9 : Array Value} (ks9 : List (Addr × List Int)) {Q : Value → Shared → Prop} (hh9 : A.handled = none) (hl9 : s.heap.IsTuple l items9) (hit9 : items9.toList = ks9.map fun p => Value.ref p.1)
    (hk9 : ∀ p ∈ ks9, IsT P w s.heap p.2 p.1) (hfew9 : ks9.length < 64) (hu9 : A.units + 3 < cLine)
    (h : ∀ (h' : Heap) (tk9 : Nat) L es9 ep9 t, SetTR P w h' s.heap.objs.size L es9 ep9 t → Got ks9 ks9.length L → (∀ b o, s.heap.get? b = some o → h'.get? b = some o) → Q (.ref s.heap.objs.size) { s with heap := h', toks := tk9 }) :
    wpAny (model P w) A (call (.type "set") [.ref l]) Q E s := by
  have hisz9 : items9.size = ks9.length := by
    have q9 := congrArg List.length hit9
    rw [Array.length_toList, List.length_map] at q9
    exact q9
  obtain ⟨c9, tl9, hmro9⟩ := F.called_set.mro
  have hmade9 := F.called_set.made
  have hsub9 := F.called_set.sub
  refine wpAny_call (codeAny_of_tree ?_)
  show wpAny _ _ (callAny (.type "set") _) _ _ _
  refine wpAny_pure ⟨Code.quiet_builtin _ (by decide +kernel), codeAny_builtin F.entry_type_call ?_⟩
  rw [Around.under_plain (weight_type_call_type "set" [.ref l] []) rfl]
  have h19 := F.called_set.notType
  have h29 := F.called_set.canCreate
  have hct9 := F.typeCall_set_1 (.ref l)
  repeat (any_goals (first | assumption | wp_step))

  refine codeAny_mono (code_set_led1 (.ref l) (E := E) (Q₁ := fun obj9 sa9 => obj9 = .ref s.heap.objs.size ∧ sa9 = { s with heap := s.heap.push { cls := .type "set", dict := none, data := .set #[] 0 (.fresh 0 0 (!w.params.followText "set-order")) } }) ⟨rfl, rfl⟩) fun r sa9 hr9 => ?_
  cases r with
  | error e => exact hr9
  | ok fl9 =>
    cases fl9 with
    | ret obj9 =>
      obtain ⟨rfl, rfl⟩ := hr9
      have hS9 : (s.heap.push { cls := .type "set", dict := none, data := .set #[] 0 (.fresh 0 0 (!w.params.followText "set-order")) }).get? s.heap.objs.size = some { cls := .type "set", dict := none, data := .set #[] 0 (.fresh 0 0 (!w.params.followText "set-order")) } := Heap.get?_push_size _ rfl
      have hT9 : Shared.TypeIs { s with heap := s.heap.push { cls := .type "set", dict := none, data := .set #[] 0 (.fresh 0 0 (!w.params.followText "set-order")) } } (.ref s.heap.objs.size) "set" := ⟨_, hS9, rfl⟩
      have hli9 := F.called_set.init.lookup
      have hbi9 := F.called_set.init.bind (.ref s.heap.objs.size)
      repeat (any_goals (first | assumption | wp_step))

      refine codeAny_mono (codeAny_call_builtin (R := wants (fun r sb9 => r = .none ∧ ∃ h' tk9 L es9 ep9 t, sb9 = { s with heap := h', toks := tk9 } ∧ SetTR P w h' s.heap.objs.size L es9 ep9 t ∧ Got ks9 ks9.length L ∧
          (∀ b o, s.heap.get? b = some o → h'.get? b = some o)) E) F.called_set.init.plain F.entry_set_init (check_set_init_1 hT9 ?_)) fun rb9 sb9 hrb9 => ?_
      · obtain ⟨ol9, hol9, hcl9, nl9, hdl9⟩ := hl9
        obtain ⟨ocls9, odict9, odata9, oslots9⟩ := ol9
        simp only at hcl9 hdl9
        subst hcl9; subst hdl9
        have hol' : (s.heap.push { cls := .type "set", dict := none, data := .set #[] 0 (.fresh 0 0 (!w.params.followText "set-order")) }).get? l = some { cls := .type "tuple", dict := odict9, data := .seq items9 nl9, slots := oslots9 } := Heap.get?_push_of_some _ hol9
        have hsls9 := F.sub_tuple_set
        have hslf9 := F.sub_tuple_frozenset
        have hne9 : (Value.type "tuple" == Value.type "dict") = false := by decide
        have hl19 : (s.heap.push { cls := .type "set", dict := none, data := .set #[] 0 (.fresh 0 0 (!w.params.followText "set-order")) }).IsTuple l items9 := ⟨_, hol', rfl, nl9, rfl⟩
        unfold Builtin.«set.__init__» noKeywords Builtin.Frozenset.updateFrom
        generalize hPI9 : pyIter = PI9
        wp_walk
        subst hPI9

        refine wpAny_pyIter_tuple hl19 ?_
        refine wpAny_bind (wpAny_runValue ?_)
        have hlS9 : l < s.heap.objs.size := Heap.lt_size hol9
        have hh39 : A.in1.in1.in1.handled = none := by simp [hh9]
        have hz19 : (s.heap.push { cls := .type "set", dict := none, data := .set #[] 0 (.fresh 0 0 (!w.params.followText "set-order")) }).objs.size = s.heap.objs.size + 1 := Heap.size_push ..
        have hneI9 : l ≠ (s.heap.push { cls := .type "set", dict := none, data := .set #[] 0 (.fresh 0 0 (!w.params.followText "set-order")) }).objs.size := by
          rw [Heap.size_push]; exact Nat.ne_of_lt (Nat.lt_succ_of_lt hlS9)
        have hSf9 : s.heap.objs.size ∉ [(s.heap.push { cls := .type "set", dict := none, data := .set #[] 0 (.fresh 0 0 (!w.params.followText "set-order")) }).objs.size, l] := by
          rw [Heap.size_push]; simp only [List.mem_cons, List.mem_singleton, List.not_mem_nil, or_false, not_or]
          exact ⟨Nat.ne_of_lt (Nat.lt_succ_self _), Nat.ne_of_gt hlS9⟩
        have hval9 : ∀ (i : Nat) (v : Value), items9[i]? = some v → ∃ p, ks9[i]? = some p ∧ v = .ref p.1 := fun i v hv => by
          have q9 : items9.toList[i]? = some v := by rw [Array.getElem?_toList]; exact hv
          rw [hit9, List.getElem?_map] at q9
          cases hq : ks9[i]? with
          | none => rw [hq] at q9; cases q9
          | some p =>
            rw [hq] at q9
            exact ⟨p, rfl, (Option.some.inj q9).symm⟩
        have none_of9 : ∀ b, s.heap.objs.size ≤ b → s.heap.get? b = none := fun b hb => by
          cases q9 : s.heap.get? b with
          | none => rfl
          | some o => exact absurd (Nat.lt_of_lt_of_le (Heap.lt_size q9) hb) (Nat.lt_irrefl _)
        refine set_update_tups ((Walks.tuple hh39 _ l hneI9 items9).toS) s.heap.objs.size
          hSf9 ks9 hisz9 hfew9 hval9 s.heap hk9 (none_of9 _ (Nat.le_refl _)) (fun b hb => none_of9 b (by
            rw [List.mem_singleton.mp hb, Heap.size_push]
            exact Nat.le_succ _)) hu9 (items9.size - 0) 0 _ (by omega) (Nat.zero_le _)
          ⟨⟨_, Heap.get?_push_size _ rfl, rfl, rfl⟩, (hl19.at fun o e => Heap.get?_push_of_some _ e)⟩ (fun b o e => Heap.get?_push_of_some _ (Heap.get?_push_of_some _ e)) ?hS0 ?hR
        case hS0 =>
          have hget9 : ((s.heap.push { cls := .type "set", dict := none, data := .set #[] 0 (.fresh 0 0 (!w.params.followText "set-order")) }).push { cls := .type "tuple_iterator", data := .fields #[.ref l, .int 0 0] }).get? s.heap.objs.size
              = some { cls := .type "set", dict := none, data := .set #[] 0 (.fresh 0 0 (!w.params.followText "set-order")) } := Heap.get?_push_of_some _ hS9
          exact ⟨[], #[], 0, _, setTR_fresh hget9, Got.zero ks9⟩
        case hR =>
          intro s' L es9 ep9 t hm9 hSq9 gq9 hkp9
          obtain ⟨h', g29, dq9, tkq9, osq9⟩ := s'
          have eg9 : g29 = s.gens := hm9.gens
          have ed9 : dq9 = s.drawn := hm9.drawn
          have eo9 : osq9 = s.os := hm9.os
          subst eg9; subst ed9; subst eo9
          show wpAny _ _ _ _ _ _
          refine wpAny_pure ?_
          show wpAny _ _ (ret Value.none) _ _ _
          rw [hisz9] at gq9
          exact wpAny_pure ⟨rfl, h', tkq9, L, es9, ep9, t, rfl, hSq9, gq9, hkp9⟩

      · cases rb9 with
        | error e => exact hrb9
        | ok flb9 =>
          cases flb9 with
          | ret r =>
            obtain ⟨rfl, h', tk9, L, es9, ep9, t, rfl, hSq9, gq9, hkq9⟩ := hrb9
            repeat (any_goals (first | assumption | wp_step))
            exact h _ _ _ _ _ _ hSq9 gq9 hkq9
          | _ => exact hrb9.elim
    | _ => exact hr9.elim

end
end W7

/-! plain mathematics: lists of tuples of numbers, in the order of their entries; least ones -/
namespace M7
/-- entry by entry at most -/
def fitB : List Nat → List Nat → Bool
  | a :: t, b :: u => decide (a ≤ b) && fitB t u
  | _, _ => true
/-- before, at the first entry that is unlike -/
def ltN : List Nat → List Nat → Bool
  | a :: t, b :: u => decide (a < b) || (decide (a = b) && ltN t u)
  | _, _ => false
theorem fit_refl : ∀ t, fitB t t = true
  | [] => rfl
  | a :: t => by
    show (decide (a ≤ a) && fitB t t) = true
    rw [fit_refl t, decide_eq_true (Nat.le_refl a)]
    rfl
theorem fit_cons {a b : Nat} {t u : List Nat} : fitB (a :: t) (b :: u) = true ↔ a ≤ b ∧ fitB t u = true := by
  show (decide (a ≤ b) && fitB t u) = true ↔ _
  rw [Bool.and_eq_true, decide_eq_true_iff]
theorem fit_trans : ∀ {t u v : List Nat}, u.length = t.length → fitB t u = true → fitB u v = true → fitB t v = true
  | [], _, _, _, _, _ => by simp [fitB]
  | _ :: _, [], _, h, _, _ => by simp at h
  | _ :: _, _ :: _, [], _, _, _ => by simp [fitB]
  | a :: t, b :: u, c :: v, h, h1, h2 => by
    rw [fit_cons] at h1 h2 ⊢
    exact ⟨Nat.le_trans h1.1 h2.1, fit_trans (by simpa using h) h1.2 h2.2⟩
theorem fit_anti : ∀ {t u : List Nat}, u.length = t.length → fitB t u = true → fitB u t = true → t = u
  | [], [], _, _, _ => rfl
  | [], _ :: _, h, _, _ => by simp at h
  | _ :: _, [], h, _, _ => by simp at h
  | a :: t, b :: u, h, h1, h2 => by
    rw [fit_cons] at h1 h2
    rw [Nat.le_antisymm h1.1 h2.1, fit_anti (by simpa using h) h1.2 h2.2]
theorem lt_cons {a b : Nat} {t u : List Nat} : ltN (a :: t) (b :: u) = true ↔ a < b ∨ (a = b ∧ ltN t u = true) := by
  show (decide (a < b) || (decide (a = b) && ltN t u)) = true ↔ _
  rw [Bool.or_eq_true, Bool.and_eq_true, decide_eq_true_iff, decide_eq_true_iff]
theorem lt_irr : ∀ t, ltN t t = false
  | [] => rfl
  | a :: t => by
    cases h : ltN (a :: t) (a :: t) with
    | false => rfl
    | true =>
      rcases lt_cons.mp h with z | ⟨_, z⟩
      · omega
      · rw [lt_irr t] at z
        cases z
theorem lt_trans : ∀ {t u v : List Nat}, ltN t u = true → ltN u v = true → ltN t v = true
  | [], _, _, h, _ => by simp [ltN] at h
  | _ :: _, [], _, h, _ => by simp [ltN] at h
  | _ :: _, _ :: _, [], _, h => by simp [ltN] at h
  | a :: t, b :: u, c :: v, h1, h2 => by
    rw [lt_cons] at h1 h2 ⊢
    rcases h1 with h1 | ⟨h1, k1⟩ <;> rcases h2 with h2 | ⟨h2, k2⟩
    · exact .inl (by omega)
    · exact .inl (by omega)
    · exact .inl (by omega)
    · exact .inr ⟨by omega, lt_trans k1 k2⟩
theorem lt_tri : ∀ {t u : List Nat}, u.length = t.length → t ≠ u → ltN t u = true ∨ ltN u t = true
  | [], [], _, h => absurd rfl h
  | [], _ :: _, h, _ => by simp at h
  | _ :: _, [], h, _ => by simp at h
  | a :: t, b :: u, hl, h => by
    rw [lt_cons, lt_cons]
    rcases Nat.lt_trichotomy a b with z | z | z
    · exact .inl (.inl z)
    · subst z
      rcases lt_tri (t := t) (u := u) (by simpa using hl) (fun e => h (by rw [e])) with k | k
      · exact .inl (.inr ⟨rfl, k⟩)
      · exact .inr (.inr ⟨rfl, k⟩)
    · exact .inr (.inl z)
theorem fit_lt : ∀ {t u : List Nat}, u.length = t.length → fitB t u = true → t ≠ u → ltN t u = true
  | [], [], _, _, h => absurd rfl h
  | [], _ :: _, h, _, _ => by simp at h
  | _ :: _, [], h, _, _ => by simp at h
  | a :: t, b :: u, hl, hf, h => by
    rw [fit_cons] at hf
    rw [lt_cons]
    rcases Nat.lt_or_eq_of_le hf.1 with z | z
    · exact .inl z
    · subst z
      exact .inr ⟨rfl, fit_lt (by simpa using hl) hf.2 fun e => h (by rw [e])⟩
theorem fit_sum : ∀ {t u : List Nat}, u.length = t.length → fitB t u = true → t.sum ≤ u.sum ∧ (t ≠ u → t.sum < u.sum)
  | [], [], _, _ => ⟨Nat.le_refl _, fun h => absurd rfl h⟩
  | [], _ :: _, h, _ => by simp at h
  | _ :: _, [], h, _ => by simp at h
  | a :: t, b :: u, hl, hf => by
    rw [fit_cons] at hf
    obtain ⟨h1, h2⟩ := fit_sum (t := t) (u := u) (by simpa using hl) hf.2
    simp only [List.sum_cons]
    refine ⟨by omega, fun h => ?_⟩
    rcases Nat.lt_or_eq_of_le hf.1 with z | z
    · omega
    · subst z
      have := h2 fun e => h (by rw [e])
      omega
/-! ### lists that ascend -/
abbrev Asc (A : List (List Nat)) : Prop := A.Pairwise fun t u => ltN t u = true
theorem asc_unique : ∀ {A B : List (List Nat)}, Asc A → Asc B → (∀ x, x ∈ A ↔ x ∈ B) → A = B
  | [], [], _, _, _ => rfl
  | [], b :: B, _, _, h => by simpa using (h b).mpr List.mem_cons_self
  | a :: A, [], _, _, h => by simpa using (h a).mp List.mem_cons_self
  | a :: A, b :: B, h1, h2, h => by
    obtain ⟨a1, a2⟩ := List.pairwise_cons.mp h1
    obtain ⟨b1, b2⟩ := List.pairwise_cons.mp h2
    have e : a = b := by
      rcases List.mem_cons.mp ((h a).mp List.mem_cons_self) with z | z
      · exact z
      · rcases List.mem_cons.mp ((h b).mpr List.mem_cons_self) with k | k
        · exact k.symm
        · have := lt_trans (b1 a z) (a1 b k)
          rw [lt_irr] at this
          cases this
    subst e
    rw [asc_unique a2 b2 fun x => ?_]
    constructor
    · intro hx
      rcases List.mem_cons.mp ((h x).mp (List.mem_cons_of_mem _ hx)) with z | z
      · subst z
        have := a1 x hx
        rw [lt_irr] at this
        cases this
      · exact z
    · intro hx
      rcases List.mem_cons.mp ((h x).mpr (List.mem_cons_of_mem _ hx)) with z | z
      · subst z
        have := b1 x hx
        rw [lt_irr] at this
        cases this
      · exact z
def insN (x : List Nat) : List (List Nat) → List (List Nat)
  | [] => [x]
  | y :: r => if x = y then y :: r else if ltN x y = true then x :: y :: r else y :: insN x r
theorem mem_ins {x z : List Nat} : ∀ {L : List (List Nat)}, z ∈ insN x L ↔ z = x ∨ z ∈ L
  | [] => by simp [insN]
  | y :: r => by
    unfold insN
    split
    · rename_i h
      subst h
      simp
    · split
      · simp
      · rw [List.mem_cons, mem_ins, List.mem_cons]
        constructor
        · rintro (h | h | h)
          · exact .inr (.inl h)
          · exact .inl h
          · exact .inr (.inr h)
        · rintro (h | h | h)
          · exact .inr (.inl h)
          · exact .inl h
          · exact .inr (.inr h)
theorem asc_ins {x : List Nat} : ∀ {L : List (List Nat)}, (∀ y ∈ L, y.length = x.length) → Asc L → Asc (insN x L)
  | [], _, _ => List.pairwise_cons.mpr ⟨fun _ h => by simp at h, .nil⟩
  | y :: r, hl, h => by
    obtain ⟨h1, h2⟩ := List.pairwise_cons.mp h
    unfold insN
    split
    · exact h
    · rename_i hne
      split
      · rename_i hlt
        refine List.pairwise_cons.mpr ⟨fun z hz => ?_, h⟩
        rcases List.mem_cons.mp hz with e | e
        · rw [e]
          exact hlt
        · exact lt_trans hlt (h1 z e)
      · rename_i hn
        refine List.pairwise_cons.mpr ⟨fun z hz => ?_, asc_ins (fun y hy => hl y (List.mem_cons_of_mem _ hy)) h2⟩
        rcases mem_ins.mp hz with e | e
        · rw [e]
          rcases lt_tri (t := x) (u := y) (hl y List.mem_cons_self) hne with k | k
          · exact absurd k hn
          · exact k
        · exact h1 z e
def canonN (L : List (List Nat)) : List (List Nat) := L.foldr insN []
theorem mem_canon {z : List Nat} : ∀ {L : List (List Nat)}, z ∈ canonN L ↔ z ∈ L
  | [] => Iff.rfl
  | x :: L => by
    show z ∈ insN x (canonN L) ↔ _
    rw [mem_ins, mem_canon, List.mem_cons]
theorem asc_canon {d : Nat} : ∀ {L : List (List Nat)}, (∀ y ∈ L, y.length = d) → Asc (canonN L)
  | [], _ => .nil
  | x :: L, h => asc_ins (fun y hy => by rw [h y (List.mem_cons_of_mem _ (mem_canon.mp hy)), h x List.mem_cons_self]) (asc_canon fun y hy => h y (List.mem_cons_of_mem _ hy))
theorem canon_len : ∀ L : List (List Nat), (canonN L).length ≤ L.length
  | [] => Nat.le_refl _
  | x :: L => by
    have h := canon_len L
    have k : ∀ M : List (List Nat), (insN x M).length ≤ M.length + 1 := fun M => by
      induction M with
      | nil => exact Nat.le_refl _
      | cons y r ih =>
        unfold insN
        split
        · exact Nat.le_succ _
        · split
          · exact Nat.le_refl _
          · exact Nat.succ_le_succ ih
    exact Nat.le_trans (k _) (Nat.succ_le_succ h)
theorem canon_of {d : Nat} {A L : List (List Nat)} (hA : Asc A) (hd : ∀ y ∈ L, y.length = d) (h : ∀ x, x ∈ A ↔ x ∈ L) : A = canonN L :=
  asc_unique hA (asc_canon hd) fun x => (h x).trans mem_canon.symm
/-! ### least ones -/
abbrev takeN (kept : List (List Nat)) (p : List Nat) : List (List Nat) := if (kept.any fun k => fitB k p) = true then kept else kept ++ [p]
def keepN (A : List (List Nat)) : List (List Nat) := A.foldl takeN []
def minB (A : List (List Nat)) (p : List Nat) : Bool := !(A.any fun q => decide (q ≠ p) && fitB q p)
def leastN (L : List (List Nat)) : List (List Nat) := (canonN L).filter (minB (canonN L))
theorem min_false {A : List (List Nat)} {p : List Nat} : minB A p = false ↔ ∃ q ∈ A, q ≠ p ∧ fitB q p = true := by
  unfold minB
  rw [Bool.not_eq_false', List.any_eq_true]
  constructor
  · rintro ⟨q, h1, h2⟩
    rw [Bool.and_eq_true, decide_eq_true_iff] at h2
    exact ⟨q, h1, h2⟩
  · rintro ⟨q, h1, h2⟩
    exact ⟨q, h1, by rw [Bool.and_eq_true, decide_eq_true_iff]; exact h2⟩
theorem below {d : Nat} {A : List (List Nat)} (hd : ∀ y ∈ A, y.length = d) : ∀ (n : Nat) (q : List Nat), q.sum ≤ n → q ∈ A → ∃ m ∈ A, minB A m = true ∧ fitB m q = true
  | n, q, hn, hq => by
    cases h : minB A q with
    | true => exact ⟨q, hq, h, fit_refl q⟩
    | false =>
      obtain ⟨r, hr, hne, hf⟩ := min_false.mp h
      have hl : q.length = r.length := by rw [hd q hq, hd r hr]
      have hs := (fit_sum hl hf).2 hne
      cases n with
      | zero => omega
      | succ n =>
        obtain ⟨m, hm, h1, h2⟩ := below hd n r (by omega) hr
        exact ⟨m, hm, h1, fit_trans (by rw [hd r hr, hd m hm]) h2 hf⟩
theorem keep_from {d : Nat} {A : List (List Nat)} (hA : Asc A) (hd : ∀ y ∈ A, y.length = d) : ∀ (S P : List (List Nat)), A = P ++ S → S.foldl takeN (P.filter (minB A)) = A.filter (minB A)
  | [], P, e => by rw [e, List.append_nil]; rfl
  | p :: S, P, e => by
    have hp : p ∈ A := by rw [e]; exact List.mem_append_right _ List.mem_cons_self
    have asc := hA
    rw [e] at asc
    obtain ⟨_, a2, a3⟩ := List.pairwise_append.mp asc
    obtain ⟨b1, _⟩ := List.pairwise_cons.mp a2
    have key : ((P.filter (minB A)).any fun k => fitB k p) = !minB A p := by
      cases hm : minB A p with
      | true =>
        cases hk : (P.filter (minB A)).any fun k => fitB k p with
        | false => rfl
        | true =>
          obtain ⟨k, k1, k2⟩ := List.any_eq_true.mp hk
          have kP := (List.mem_filter.mp k1).1
          have kA : k ∈ A := by rw [e]; exact List.mem_append_left _ kP
          have kne : k ≠ p := fun z => by
            have := a3 k kP p List.mem_cons_self
            rw [z, lt_irr] at this
            cases this
          have := min_false.mpr ⟨k, kA, kne, k2⟩
          rw [hm] at this
          cases this
      | false =>
        obtain ⟨q, q1, q2, q3⟩ := min_false.mp hm
        obtain ⟨m, m1, m2, m3⟩ := below hd q.sum q (Nat.le_refl _) q1
        have lq : p.length = q.length := by rw [hd p hp, hd q q1]
        have lm : q.length = m.length := by rw [hd q q1, hd m m1]
        have mp := fit_trans lm m3 q3
        have mne : m ≠ p := fun z => by
          subst z
          exact q2 (fit_anti lq q3 m3)
        have mlt := fit_lt (by rw [lq, lm]) mp mne
        have mP : m ∈ P := by
          rw [e] at m1
          rcases List.mem_append.mp m1 with z | z
          · exact z
          · rcases List.mem_cons.mp z with k | k
            · exact absurd k mne
            · have := lt_trans mlt (b1 m k)
              rw [lt_irr] at this
              cases this
        exact List.any_eq_true.mpr ⟨m, List.mem_filter.mpr ⟨mP, m2⟩, mp⟩
    have step : takeN (P.filter (minB A)) p = (P ++ [p]).filter (minB A) := by
      show (if ((P.filter (minB A)).any fun k => fitB k p) = true then _ else _) = _
      rw [key, List.filter_append]
      cases hm : minB A p with
      | true =>
        rw [if_neg (by decide), List.filter_cons, if_pos hm]
        rfl
      | false =>
        rw [if_pos (show (!false) = true from rfl), List.filter_cons, if_neg (by rw [hm]; decide)]
        exact (List.append_nil _).symm
    show S.foldl takeN (takeN (P.filter (minB A)) p) = _
    rw [step]
    exact keep_from hA hd S (P ++ [p]) (by rw [e, List.append_assoc]; rfl)
theorem keep_least {d : Nat} {L : List (List Nat)} (hd : ∀ y ∈ L, y.length = d) : keepN (canonN L) = leastN L :=
  keep_from (asc_canon hd) (fun y hy => hd y (mem_canon.mp hy)) (canonN L) [] rfl
end M7

/-! sorted(set(x)), x a list or a tuple of tuples of numbers -/
namespace R7
open PySem PySem.Spec PyProof.Rows L2 L5 M7
abbrev zN (t : List Nat) : List Int := t.map fun n => ((n : Nat) : Int)
theorem zN_inj {t u : List Nat} (h : zN t = zN u) : t = u := (List.map_inj_right (f := fun n : Nat => ((n : Nat) : Int)) (fun a b e => by omega)).mp h
theorem bd_of {B : Nat} {t : List Nat} (h : ∀ e ∈ t, e < B) : TS.Bd (B : Int) (zN t) := fun m hm => by
  obtain ⟨n, hn, rfl⟩ := List.mem_map.mp hm
  have := h n hn
  omega
theorem lt_code {B : Nat} : ∀ {t u : List Nat}, u.length = t.length → (∀ e ∈ t, e < B) → (∀ e ∈ u, e < B) → ltN t u = true → TS.code (B : Int) (zN t) < TS.code (B : Int) (zN u)
  | [], _, _, _, _, h => by simp [ltN] at h
  | _ :: _, [], _, _, _, h => by simp [ltN] at h
  | a :: t, b :: u, hl, h1, h2, h => by
    have hl' : u.length = t.length := by simpa using hl
    have k1 : ∀ e ∈ t, e < B := fun e he => h1 e (List.mem_cons_of_mem _ he)
    have k2 : ∀ e ∈ u, e < B := fun e he => h2 e (List.mem_cons_of_mem _ he)
    rcases lt_cons.mp h with z | ⟨rfl, z⟩
    · exact TS.code_lt (by rw [List.length_map, List.length_map, hl']) (bd_of k1) (bd_of k2) (show ((a : Nat) : Int) < ((b : Nat) : Int) by omega)
    · have := lt_code hl' k1 k2 z
      show ((a : Nat) : Int) * (B : Int) ^ (zN t).length + TS.code (B : Int) (zN t) < ((a : Nat) : Int) * (B : Int) ^ (zN u).length + TS.code (B : Int) (zN u)
      rw [show (zN u).length = (zN t).length by rw [List.length_map, List.length_map, hl']]
      omega
theorem code_ltN {B : Nat} {t u : List Nat} (hl : u.length = t.length) (h1 : ∀ e ∈ t, e < B) (h2 : ∀ e ∈ u, e < B) (hc : TS.code (B : Int) (zN t) ≤ TS.code (B : Int) (zN u)) (hne : t ≠ u) : ltN t u = true := by
  rcases lt_tri hl hne with z | z
  · exact z
  · have := lt_code hl.symm h2 h1 z
    omega
section
variable {K : PySem.W.Frag} {H : Hp}
/-- addresses with what stands at them -/
theorem tups_pairs : ∀ {rs : List Addr} {L : List (List Nat)}, Tups K H rs L → ∃ ks : List (Addr × List Nat), ks.map (·.1) = rs ∧ ks.map (·.2) = L ∧ ∀ p ∈ ks, SqT K H p.1 (nv p.2)
  | _, _, .nil => ⟨[], rfl, rfl, fun _ h => nomatch h⟩
  | _, _, .cons (a := a) (b := t) h r => by
    obtain ⟨ks, e1, e2, e3⟩ := tups_pairs r
    refine ⟨(a, t) :: ks, by rw [List.map_cons, e1], by rw [List.map_cons, e2], fun p hp => ?_⟩
    rcases List.mem_cons.mp hp with rfl | hp
    · exact h
    · exact e3 p hp
theorem pairs_tups : ∀ {ks : List (Addr × List Nat)}, (∀ p ∈ ks, SqT K H p.1 (nv p.2)) → Tups K H (ks.map (·.1)) (ks.map (·.2))
  | [], _ => .nil
  | p :: ks, h => .cons (h p List.mem_cons_self) (pairs_tups fun q hq => h q (List.mem_cons_of_mem _ hq))
end
section
variable {X : Cx}
/-- set(x), x a tuple of tuples of ints -/
def rSetTT (K : PySem.W.Frag) (P : Program) (w : World) : List V → Hp → VK → Prop := fun xs H Q => ∃ (l : Addr) (ks : List (Addr × List Int)), xs = [V.ref l] ∧ SqT K H l (ks.map fun p => V.ref p.1) ∧ (∀ p ∈ ks, SqT K H p.1 (p.2.map V.int)) ∧ ks.length < 64 ∧
  ∀ a L, H a = none → (∀ p ∈ L, p ∈ ks) → (∀ p ∈ ks, p.2 ∈ L.map (·.2)) → Q (.ref a) (upd H a (SetTO P w a L))
theorem cr_setTT (calm : X.calm = true) (room : X.A.units + 64 < cLine) : CallR X (.type "set") (rSetTT X.K X.prog X.w) := by
  intro pins s σ H xs us Q I r h
  obtain ⟨l, ks, rfl, at_, each, few, q⟩ := h
  rw [Vals.ref1 r]
  obtain ⟨_, rv, plain, _⟩ := I.tuple at_
  have free : H s.heap.objs.size = none := I.hok.fresh (Nat.le_refl _)
  refine W7.set_of_tuple (P := X.prog) (w := X.w) ks (I.ok.hd calm) plain (by simpa using refs_of_vals rv) (fun p hp => I.isT (each p hp)) few (by omega) fun h' tk L es ep t R g k => ?_
  exact ⟨.ref s.heap.objs.size, upd H s.heap.objs.size (SetTO X.prog X.w s.heap.objs.size L), I.laid (t' := tk) k (Nat.le_refl _) (setTO_new R.t0), rfl, q _ L free (fun p hp => List.mem_of_mem_take (g.sub p hp)) fun p hp => g.all p (by rw [List.take_length]; exact hp)⟩
theorem cr_setAny (calm : X.calm = true) (room : X.A.units + 64 < cLine) : CallR X (.type "set") (fun xs H Q => rSetOfT X.K X.prog X.w xs H Q ∨ rSetTT X.K X.prog X.w xs H Q) := fun pins s σ H xs us Q I r h =>
  h.elim (fun h => cr_setOfT calm room pins s σ H xs us Q I r h) fun h => cr_setTT calm room pins s σ H xs us Q I r h
theorem weakE {e : Expr} {t t' : TE} (h : PE X e t) (i : ∀ σ H Q, t' σ H Q → t σ H Q) : PE X e t' := ⟨fun pins s σ H Q I h' => h.run pins s σ H Q I (i σ H Q h')⟩
/-- sorted(set(x)) -/
def tSS (K : PySem.W.Frag) (te : TE) : TE := fun σ H Q => te σ H fun x H1 => ∃ (l : Addr) (rs : List Addr) (L : List (List Nat)) (d B : Nat), x = .ref l ∧ (SqL K H1 l (rs.map V.ref) ∨ SqT K H1 l (rs.map V.ref)) ∧ Tups K H1 rs L ∧ L.length < 64 ∧ 1 ≤ d ∧ (∀ t ∈ L, t.length = d) ∧ (∀ t ∈ L, ∀ e ∈ t, e < B) ∧
  ∀ H' q rs', Same H1 H' → H1 q = none → H' q = some (.lst (rs'.map V.ref)) → Tups K H' rs' (canonN L) → Q (.ref q) H'
theorem pe_sset {e : Expr} {te : TE} {p1 p2 q1 q2 : Pos} (calm : X.calm = true) (room : X.A.units + 64 < cLine) (g1 : Gl X "sorted") (m1 : X.mg "sorted" = none) (g2 : Gl X "set") (m2 : X.mg "set" = none) (he : PE X e te)
    (t1 : starEach [.Call (.Name "set" p2) [e] [] q2] X.env = (false, eval (.Call (.Name "set" p2) [e] [] q2) X.env) :: starEach [] X.env := by rfl) (t2 : starEach [e] X.env = (false, eval e X.env) :: starEach [] X.env := by rfl)  :
    PE X (.Call (.Name "sorted" p1) [.Call (.Name "set" p2) [e] [] q2] [] q1) (tSS X.K te) := by
  have he' : PE X e (fun σ H Q => ∃ P : VK, te σ H P ∧ ∀ x H1, P x H1 → Q x H1) := ⟨fun pins s σ H Q I ⟨P, h, m⟩ => thn (he.run pins s σ H P I h) fun u s1 ⟨v, H1, I1, r, q⟩ => ⟨v, H1, I1, r, m v H1 q⟩⟩
  refine weakE (pe_callB (cr_sortedT calm) g1 m1 (by decide +kernel) (pa_cons (pe_callTy (cr_setAny calm room) g2 m2 (by decide +kernel) (pa_cons he' pa_nil (hs := t2)) (he := t2)) pa_nil (hs := t1)) (he := t1)) ?_
  intro σ H Q h
  refine ⟨_, h, ?_⟩
  rintro x H1 ⟨l, rs, L, d, B, rfl, at_, hT, few, hd, hlen, hB, q⟩
  obtain ⟨ks, e1, e2, e3⟩ := tups_pairs hT
  have nvz : ∀ t : List Nat, (zN t).map V.int = nv t := fun t => (nv_ints t).symm
  have ks3 : ∀ p ∈ ks.map (fun p => (p.1, zN p.2)), SqT X.K H1 p.1 (p.2.map V.int) := fun p hp => by
    obtain ⟨k, hk, rfl⟩ := List.mem_map.mp hp
    show SqT X.K H1 k.1 ((zN k.2).map V.int)
    rw [nvz]
    exact e3 k hk
  have refs : (ks.map fun p => (p.1, zN p.2)).map (fun p => V.ref p.1) = rs.map V.ref := by
    rw [List.map_map, ← e1, List.map_map]
    rfl
  have few' : (ks.map fun p => (p.1, zN p.2)).length < 64 := by
    rw [List.length_map, ← List.length_map (f := (·.2)) (as := ks), e2]
    exact few
  have go : ∀ a Ls, H1 a = none → (∀ p ∈ Ls, p ∈ ks.map fun p => (p.1, zN p.2)) → (∀ p ∈ ks.map (fun p => (p.1, zN p.2)), p.2 ∈ Ls.map (·.2)) → rSortedT X.K X.prog X.w [.ref a] (upd H1 a (SetTO X.prog X.w a Ls)) Q := by
    intro a Ls ha sub all
    have sa := same_new ha (SetTO X.prog X.w a Ls)
    have memL : ∀ p ∈ Ls, ∃ k ∈ ks, p = (k.1, zN k.2) := fun p hp => by
      obtain ⟨k, hk, e⟩ := List.mem_map.mp (sub p hp)
      exact ⟨k, hk, e.symm⟩
    have inL : ∀ k ∈ ks, k.2 ∈ L := fun k hk => by
      rw [← e2]
      exact List.mem_map_of_mem hk
    refine ⟨a, Ls, d, (B : Int), rfl, upd_same, fun p hp => same_sqt sa (ks3 p (sub p hp)), hd, fun p hp => ?_, fun L' p pm nd _ pw hp => ?_⟩
    · obtain ⟨k, hk, rfl⟩ := memL p hp
      exact ⟨by rw [List.length_map]; exact hlen _ (inL k hk), bd_of (hB _ (inL k hk))⟩
    · -- what stands in the sorted list
      have mem' : ∀ r ∈ L', ∃ k ∈ ks, r = (k.1, zN k.2) := fun r hr => memL r (pm.mem_iff.mp hr)
      have back : ∀ k : Addr × List Nat, (zN k.2).map Int.toNat = k.2 := fun k => by
        rw [List.map_map]
        exact (List.map_congr_left fun n _ => by show (((n : Nat) : Int)).toNat = n; omega).trans (List.map_id _)
      have asc : Asc (L'.map fun r => r.2.map Int.toNat) := by
        have nd' : L'.Pairwise fun q r => q.2 ≠ r.2 := List.pairwise_map.mp nd
        have both := pw.and nd'
        rw [Asc, List.pairwise_map]
        refine both.imp_of_mem fun {q r} hq hr hqr => ?_
        obtain ⟨k1, hk1, rfl⟩ := mem' q hq
        obtain ⟨k2, hk2, rfl⟩ := mem' r hr
        show ltN ((zN k1.2).map Int.toNat) ((zN k2.2).map Int.toNat) = true
        rw [back, back]
        exact code_ltN (by rw [hlen _ (inL k1 hk1), hlen _ (inL k2 hk2)]) (hB _ (inL k1 hk1)) (hB _ (inL k2 hk2)) hqr.1 fun z => hqr.2 (by show zN k1.2 = zN k2.2; rw [z])
      have canon : (L'.map fun r => r.2.map Int.toNat) = canonN L := by
        refine canon_of asc hlen fun t => ⟨fun ht => ?_, fun ht => ?_⟩
        · obtain ⟨r, hr, rfl⟩ := List.mem_map.mp ht
          obtain ⟨k, hk, rfl⟩ := mem' r hr
          show (zN k.2).map Int.toNat ∈ L
          rw [back]
          exact inL k hk
        · rw [← e2] at ht
          obtain ⟨k, hk, rfl⟩ := List.mem_map.mp ht
          obtain ⟨r, hr, e⟩ := List.mem_map.mp (all (k.1, zN k.2) (List.mem_map_of_mem (f := fun p : Addr × List Nat => (p.1, zN p.2)) hk))
          refine List.mem_map.mpr ⟨r, pm.mem_iff.mpr hr, ?_⟩
          show r.2.map Int.toNat = k.2
          rw [e]
          exact back k
      have sp := same_new hp (.lst (L'.map fun q => V.ref q.1))
      have tl : Tups X.K (upd (upd H1 a (SetTO X.prog X.w a Ls)) p (.lst (L'.map fun q => V.ref q.1))) ((L'.map fun r => (r.1, r.2.map Int.toNat)).map (·.1)) ((L'.map fun r => (r.1, r.2.map Int.toNat)).map (·.2)) := pairs_tups fun r hr => by
        obtain ⟨r0, hr0, rfl⟩ := List.mem_map.mp hr
        obtain ⟨k, hk, rfl⟩ := mem' r0 hr0
        show SqT X.K _ k.1 (nv ((zN k.2).map Int.toNat))
        rw [back]
        exact same_sqt (sa.trans sp) (e3 k hk)
      rw [List.map_map, List.map_map] at tl
      have tl2 : Tups X.K (upd (upd H1 a (SetTO X.prog X.w a Ls)) p (.lst (L'.map fun q => V.ref q.1))) (L'.map (·.1)) (L'.map fun r => r.2.map Int.toNat) := tl
      rw [canon] at tl2
      refine q _ p (L'.map (·.1)) (sa.trans sp) (sa.free hp) ?_ tl2
      rw [upd_same, List.map_map]
      rfl
  rcases at_ with at_ | at_
  · exact .inl ⟨l, _, rfl, by rw [refs]; exact at_, ks3, few', go⟩
  · exact .inr ⟨l, _, rfl, by rw [refs]; exact at_, ks3, few', go⟩
end
end R7

/-! a for over a list or a tuple, whichever it is -/
namespace R7
open PySem PySem.Spec PyProof.Rows L2 L5 M7
section
variable {X : Cx} {tg : Expr}
def iAny (K : PySem.W.Frag) (tl : TE) : TI := fun σ H R => tl σ H fun x H1 => ∃ a, x = .ref a ∧ (((∃ xs, SqL K H1 a xs) ∧ R (Itl K a) H1) ∨ ((∃ xs, SqT K H1 a xs) ∧ R (Itt K a) H1))
theorem pi_any {l : Expr} {tl : TE} (hl : PE X l tl) : PI X tg l (iAny X.K tl) := by
  refine ⟨fun pins s σ H R I h => thn (hl.run pins s σ H _ I h) fun v s1 ⟨x, H1, I1, r1, q1⟩ => ?_⟩
  obtain ⟨a, ea, ⟨⟨xs, at_⟩, q⟩ | ⟨⟨xs, at_⟩, q⟩⟩ := q1
  · subst ea; cases r1
    obtain ⟨_, _, plain, _⟩ := I1.list at_
    refine wpAny_pyIter_list plain.isList ⟨s1.heap.objs.size, [s1.heap.objs.size], _, _, H1, rfl, I1.kept (t' := s1.toks) fun b o e => Heap.get?_push_of_some _ e, turn_list a _, ⟨_, Heap.get?_push_size _ rfl, rfl, rfl⟩, fun b hb => ?_, q⟩
    obtain rfl : b = s1.heap.objs.size := List.mem_singleton.mp hb
    exact I1.fpOk (Nat.le_refl _) (I1.hok.fresh (Nat.le_refl _))
  · subst ea; cases r1
    obtain ⟨its, _, plain, _⟩ := I1.tuple at_
    refine wpAny_pyIter_tuple (show s1.heap.IsTuple a its.toArray from plain) ⟨s1.heap.objs.size, [s1.heap.objs.size], _, _, H1, rfl, I1.kept (t' := s1.toks) fun b o e => Heap.get?_push_of_some _ e, turn_tuple a _, ⟨_, Heap.get?_push_size _ rfl, rfl, rfl⟩, fun b hb => ?_, q⟩
    obtain rfl : b = s1.heap.objs.size := List.mem_singleton.mp hb
    exact I1.fpOk (Nat.le_refl _) (I1.hok.fresh (Nat.le_refl _))
end
def SqA (K : PySem.W.Frag) (H : Hp) (a : Addr) (xs : List V) : Prop := SqL K H a xs ∨ SqT K H a xs
section
variable {K : PySem.W.Frag} {H H' : Hp}
theorem sql_same {a : Addr} {xs : List V} (e : Same H H') (h : SqL K H a xs) : SqL K H' a xs := e.seq h
theorem SqA.same {a : Addr} {xs : List V} (e : Same H H') (h : SqA K H a xs) : SqA K H' a xs := h.imp (e.seq ·) (same_sqt e ·)
abbrev Turns (J : It) (g : TG) (tb : TS) (D : Ends) (σ : L2.St) (H : Hp) : Prop := ∃ W : Nat → Nat → L2.St → Hp → Prop, (∃ m, W 0 m σ H) ∧ ∀ i m σ H, W i m σ H →
  (J.stop i H ∧ D.nx σ H) ∨ (J.go i H ∧ ∃ N : L2.St → Hp → Prop, (∀ σ' H', N σ' H' → ∃ m', m' < m ∧ W (i + 1) m' σ' H') ∧ ∀ x H', J.yld i H x H' → g x σ H' fun σ2 H2 => tb { D with nx := N, ct := N, bk := D.nx } σ2 H2)
theorem for_any {a : Addr} {xs : List V} {g : TG} {tb : TS} {D : Ends} {σ : L2.St} (at_ : SqA K H a xs) (Pv : Nat → L2.St → Hp → Prop) (h0 : Pv 0 σ H) (keep : ∀ i σ' H', Pv i σ' H' → Same H H')
    (step : ∀ i x σ H, xs[i]? = some x → Pv i σ H → g x σ H fun σ2 H2 => tb { D with nx := Pv (i + 1), ct := Pv (i + 1), bk := D.nx } σ2 H2) (done : ∀ σ H, Pv xs.length σ H → D.nx σ H) :
    ((∃ xs, SqL K H a xs) ∧ Turns (Itl K a) g tb D σ H) ∨ ((∃ xs, SqT K H a xs) ∧ Turns (Itt K a) g tb D σ H) :=
  at_.elim (fun h => .inl ⟨⟨_, h⟩, for_list Pv h0 (fun i σ' H' _ p => (keep i σ' H' p).seq h) step done⟩) fun h => .inr ⟨⟨_, h⟩, for_tup Pv h0 (fun i σ' H' _ p => same_sqt (keep i σ' H' p) h) step done⟩
end
end R7

/-! [e for a in t for b in u], t and u tuples: the turns of both walks -/
namespace R7
open PySem PySem.Spec PyProof.Rows L2 L5 M7
section
variable {K : PySem.W.Frag} {g g1 : TG} {tt tt1 : TT} {te : TE} {vs vs1 : List Nat} {D : Addr}
abbrev In2 (J1 : It) (g1 : TG) (tt1 : TT) (te : TE) (vs1 : List Nat) (D : Addr) (σ2 : L2.St) (H4 : Hp) (Nx : Hp → Prop) : Prop := ∃ W1 : Nat → Nat → Hp → Prop, (∃ m, W1 0 m H4) ∧ ∀ j k H, W1 j k H →
  (J1.stop j H ∧ Nx H) ∨ (J1.go j H ∧ ∃ Nx1 : Hp → Prop, (∀ H', Nx1 H' → ∃ k', k' < k ∧ W1 (j + 1) k' H') ∧ ∀ x H', J1.yld j H x H' → g1 x (wipe σ2 vs1) H' fun σ3 H5 => wipe σ3 vs1 = wipe σ2 vs1 ∧ tt1 σ3 H5 fun b H6 =>
    if b = true then te σ3 H6 fun y H7 => ∃ acc, H7 D = some (.lst acc) ∧ acc.length < sizeLine ∧ Nx1 (upd H7 D (.lst (acc ++ [y]))) else Nx1 H6)
theorem in2_tup {b : Addr} {ys : List V} {σ2 : L2.St} {H4 : Hp} {Nx : Hp → Prop} (Pj : Nat → Hp → Prop) (h0 : Pj 0 H4) (at_ : ∀ j H, Pj j H → SqT K H b ys)
    (step : ∀ j y H, ys[j]? = some y → Pj j H → g1 y (wipe σ2 vs1) H fun σ3 H5 => wipe σ3 vs1 = wipe σ2 vs1 ∧ tt1 σ3 H5 fun c H6 => if c = true then te σ3 H6 fun z H7 => ∃ acc, H7 D = some (.lst acc) ∧ acc.length < sizeLine ∧ Pj (j + 1) (upd H7 D (.lst (acc ++ [z]))) else Pj (j + 1) H6)
    (done : ∀ H, Pj ys.length H → Nx H) : In2 (Itt K b) g1 tt1 te vs1 D σ2 H4 Nx := by
  refine ⟨fun j k H => j + k = ys.length ∧ Pj j H, ⟨ys.length, Nat.zero_add _, h0⟩, fun j k H0 hw => ?_⟩
  obtain ⟨e, pj⟩ := hw
  have here := at_ j H0 pj
  cases k with
  | zero =>
    obtain rfl : j = ys.length := e
    exact .inl ⟨⟨ys, here, Nat.le_refl _⟩, done H0 pj⟩
  | succ k =>
    have lt : j < ys.length := by omega
    refine .inr ⟨⟨ys, ys[j], here, List.getElem?_eq_getElem lt⟩, Pj (j + 1), fun H' p' => ⟨k, Nat.lt_succ_self k, by omega, p'⟩, fun x H' out => ?_⟩
    obtain ⟨same, val⟩ := out
    subst same
    exact step j x _ (val ys here) pj
theorem out2_tup {a : Addr} {xs : List V} {wi1 : TI} {σ : L2.St} {H1 : Hp} {Qd : Hp → Prop} (Pi : Nat → Hp → Prop) (h0 : Pi 0 (upd H1 D (.lst []))) (at_ : ∀ i H, Pi i H → SqT K H a xs)
    (step : ∀ i x H, xs[i]? = some x → Pi i H → g x (wipe σ vs) H fun σ2 H2 => wipe σ2 vs = wipe σ vs ∧ tt σ2 H2 fun c H3 => if c = true then wi1 σ2 H3 fun J1 H4 => In2 J1 g1 tt1 te vs1 D σ2 H4 (Pi (i + 1)) else Pi (i + 1) H3)
    (done : ∀ H, Pi xs.length H → Qd H) :
    ∃ W : Nat → Nat → Hp → Prop, (∃ m, W 0 m (upd H1 D (.lst []))) ∧ ∀ i m H, W i m H →
      ((Itt K a).stop i H ∧ Qd H) ∨ ((Itt K a).go i H ∧ ∃ Nx : Hp → Prop, (∀ H', Nx H' → ∃ m', m' < m ∧ W (i + 1) m' H') ∧ ∀ x H', (Itt K a).yld i H x H' → g x (wipe σ vs) H' fun σ2 H2 => wipe σ2 vs = wipe σ vs ∧ tt σ2 H2 fun c H3 =>
        if c = true then wi1 σ2 H3 fun J1 H4 => In2 J1 g1 tt1 te vs1 D σ2 H4 Nx else Nx H3) := by
  refine ⟨fun i m H => i + m = xs.length ∧ Pi i H, ⟨xs.length, Nat.zero_add _, h0⟩, fun i m H0 hw => ?_⟩
  obtain ⟨e, pi⟩ := hw
  have here := at_ i H0 pi
  cases m with
  | zero =>
    obtain rfl : i = xs.length := e
    exact .inl ⟨⟨xs, here, Nat.le_refl _⟩, done H0 pi⟩
  | succ m =>
    have lt : i < xs.length := by omega
    refine .inr ⟨⟨xs, xs[i], here, List.getElem?_eq_getElem lt⟩, Pi (i + 1), fun H' p' => ⟨m, Nat.lt_succ_self m, by omega, p'⟩, fun x H' out => ?_⟩
    obtain ⟨same, val⟩ := out
    subst same
    exact step i x _ (val xs here) pi
end
end R7

/-! an operator between two objects of one own class -/
namespace W7
open PySem PySem.W PySem.Calls PyProof.Rows
section
variable {prog : Program} {w : World} {A : Around} {E : Value → Shared → Prop} {s : Shared} {K : Frag} {x y C f : Addr} {ox oy : Obj} {od oe : Option Obj}
theorem fills_own {M : Model} {h : Heap} {cd : ClassData} {rest : List Value} {nm : String} (kin : K.In h) (hc : clsIn K C = some cd) (hm : cd.mro = .ref C :: rest) (hs : findIn K (.ref C) (PySem.dunder nm) = some (some (.ref f))) : Looks M h (fillsNumberSlot (.ref C) nm) true := fills_K kin hc hm hs
theorem bin_same {op : Operator} {Q : Value → Shared → Prop} (kin : K.In s.heap) (I : InstAt s.heap x ox C od) (J : InstAt s.heap y oy C oe) (first : selfFirst K C = true)
    (at_ : findIn K (.ref C) (PySem.dunder op.info.2) = some (some (.ref f))) (fn : isFn K (.ref f) = true) (h : wpAny (model prog w) A (call (.ref f) [.ref x, .ref y]) (PySem.W.CmpBack Q) E s) : wpAny (model prog w) A (binaryOp op (.ref x) (.ref y)) Q E s := by
  obtain ⟨cd, rest, known, mro⟩ := ksp_first first
  rcases info : op.info with ⟨sign, word⟩
  rw [info] at at_
  dsimp only at at_
  have tried := ksp_try kin I at_ fn h
  obtain ⟨hp, g, d, t, os⟩ := s
  have T1 : Looks (model prog w) hp (typeOf (.ref x)) (.ref C) := I.type
  have T2 : Looks (model prog w) hp (typeOf (.ref y)) (.ref C) := J.type
  have T3 : Looks (model prog w) hp (fillsNumberSlot (.ref C) word) true := fills_own kin known mro at_
  have same : (Value.ref C == Value.ref C) = true := beq_self_eq_true _
  simp only [binaryOp, info]
  refine wpAny_holding (wpAny_bind ?_)
  unfold binaryOp1
  refine wpAny_bind (T1.at (wpAny_bind (T2.at (wpAny_bind (T3.at ?_)))))
  simp only [same, if_true]
  ksp_lk
  refine wpAny_mono tried (fun r s' got => ?_) fun _ _ e => e
  obtain ⟨v, rfl, q⟩ := got
  ksp_lk
  exact q
end
end W7

namespace W7
open PySem PySem.Spec PyProof.Rows L2
section
variable {X : Cx} {CX : CXT} {C f : Addr} {fd : FuncData} {ps : List Str} {sp : Sp} {k : Nat} {op : Operator}
/-- a op b, both of the own class at C; sp: the method's promise -/
def rOwn (C : Addr) (sp : Sp) : R2 := fun x y H Q => ∃ (a b dx dy : Addr) (fs gs : List (Str × V)), x = .ref a ∧ y = .ref b ∧ H a = some (.ins C dx fs) ∧ H b = some (.ins C dy gs) ∧ sp [.ref a, .ref b] H Q E0
theorem no_notimpl {x : V} (h : RelV x .notImplemented) : False := by
  cases x <;> first | exact h.elim | (obtain ⟨_, e⟩ := h; cases e) | cases h
theorem op_own (first : PySem.W.selfFirst X.K C = true) (at_ : PySem.W.findIn X.K (.ref C) (PySem.dunder op.info.2) = some (some (.ref f))) (fn : PySem.W.isFn X.K (.ref f) = true) (F : FnOk X.prog X.w X.K X.mg X.base CX k f fd ps sp) (hr : Room k X.A) (hb : Binds X.K fd ps []) (hx : Passes CX X E0) : OpR X (binaryOp op) (rOwn C sp) := by
  intro pins s σ H x y v u Q I rx ry h
  obtain ⟨a, b, dx, dy, fs, gs, rfl, rfl, ha, hb2, q⟩ := h
  obtain rfl : v = Value.ref a := rx
  obtain rfl : u = Value.ref b := ry
  obtain ⟨_, Oa, _⟩ := ins_get I.hok ha
  obtain ⟨_, Ja, _⟩ := Oa.look
  obtain ⟨_, Ob, _⟩ := ins_get I.hok hb2
  obtain ⟨_, Jb, _⟩ := Ob.look
  refine bin_same I.kIn Ja Jb first at_ fn (wpAny_mono (run_fn (dvs := []) (ds := []) (vs := [.ref a, .ref b]) (us := [.ref a, .ref b]) (Q := Q) F hr hb .nil hx I (.cons rfl (.cons rfl .nil)) q) (fun r s' z => ?_) fun _ _ z => z)
  cases r with
  | notImplemented =>
    obtain ⟨_, _, _, rel, _⟩ := z
    exact no_notimpl rel
  | _ => exact z
end
end W7

/-! own exceptions with one field, over any built-in base; a try with several clauses, named or not -/
namespace XX
open PySem PySem.Spec PyProof.Rows L2 Builtin.ObjectAttr
/-! ### self.name = v of a fresh exception, whatever its built-in base is -/
section
variable {pr : Program} {wd : World} {A : Around} {R : Result → Shared → Prop} {hp : Heap} {g : Array GenState} {dr : Drawn} {t : Nat} {os : OsState} {B : String} {bmB : List Value}
theorem first_field {K : PySem.W.Frag} {name : Str} {tk : Tok} {v : Value} {x C : Addr} {fv : Array Value} {cd : ClassData} (SF : StoreFacts B bmB "object.__setattr__" "object") (kin : K.In hp)
    (hx : hp.get? x = some { cls := .ref C, data := .fields fv }) (hcd : PySem.W.clsIn K C = some cd) (over : PySem.W.excOver K C bmB = true) (has : cd.hasDict = true) (no : PySem.W.findIn K (.ref C) name = some none)
    (q : ∀ h' tk' dx, (∀ b o, b ≠ x → hp.get? b = some o → h'.get? b = some o) → hp.objs.size ≤ dx → dx ≠ x → h'.get? x = some { cls := .ref C, dict := some dx, data := .fields fv } →
      h'.Ns1 dx (fun y => if y = name then some v else none) → R (.ok (.ret .none)) ⟨h', g, dr, tk', os⟩) :
    codeAny (model pr wd) A (.call (.builtin "object.__setattr__") ⟨[.ref x, .str name tk, v], []⟩) R ⟨hp, g, dr, t, os⟩ := by
  have taker : PySem.W.takerIn K C name = some none := by
    unfold PySem.W.takerIn
    rw [no]
    rfl
  refine PySem.W.osa_openX (s := ⟨hp, g, dr, t, os⟩) (ox := { cls := .ref C, data := .fields fv }) (od := none) SF kin ⟨hx, rfl, rfl, trivial⟩ over taker fun b => ?_
  have away : x ≠ hp.objs.size := Nat.ne_of_lt (Heap.lt_size hx)
  have known : PySem.W.Looks (model pr wd) hp (classData C) cd := PySem.W.looks_clsIn kin hcd
  show wpAny _ _ (storeInOwnDict (.ref x) (.ref C) (.str name tk) name v b) _ _ _
  obtain ⟨_, _, _, _, _, hd, _, _, _, _, _⟩ := cd
  dsimp only at has
  subst has
  unfold storeInOwnDict ownDictForStores
  repeat (first | with_reducible refine HandSPX.store_in_new ?_ ?_ | with_reducible refine wpAny_loadPart_at hx ?_ | with_reducible refine known.at ?_ | wp_step)
  · exact ⟨_, #[], _, (Heap.get?_update_ne _ _ _ _ away.symm).trans (Heap.get?_push_at rfl rfl), rfl, fun e he => absurd he (by simp), fun _ => rfl⟩
  · intro h' tk' one same
    have still : (hp.push { cls := .type "dict", data := .dict #[] }).get? x = some { cls := .ref C, data := .fields fv } := Heap.get?_push_of_some _ hx
    exact q h' tk' hp.objs.size (fun b' o ne ob => (same.2 b' (Nat.ne_of_lt (Heap.lt_size ob))).trans ((Heap.get?_update_ne _ _ _ _ ne).trans (Heap.get?_push_of_some _ ob))) (Nat.le_refl _) away.symm
      ((same.2 x away).trans (Heap.get?_update_self _ still rfl)) one
end
/-- what the written part says of such a class -/
structure OexB (K : PySem.W.Frag) (C : Addr) (bmB : List Value) (newId : String) : Prop where
  cls : ∃ nm q N bs bm sn sub ab col dd k0 k1 k2 k3 k5, K.lookup C = some (excClassObj nm q C N bs bm true sn sub ab col dd k0 k1 k2 k3 k5 newId) ∧ PySem.W.excTail bmB bm = true
  sa : PySem.W.findIn K (.ref C) "__setattr__" = some (some (.builtin "object.__setattr__"))
  exC : PySem.W.subIn K (.ref C) (.type "BaseException") = some true
  tyC : PySem.W.typeIn K (.ref C) = some (.type "type")
  kC : PySem.W.keepIn K (.ref C) = true
section
variable {X : Cx} {pins : List (Addr × Obj)} {σ : L2.St} {H : Hp} {s : Shared} {a C : Addr} {f : Str} {y : V} {u : Value} {Q : Unit → Shared → Prop} {E : Value → Shared → Prop} {A : Around} {B newId initId : String} {bmB : List Value}
theorem ost_first (SF : StoreFacts B bmB "object.__setattr__" "object") (T : OexB X.K C bmB newId) (I : Inv X pins σ H s) (e : H a = some (exo a C none)) (no : PySem.W.findIn X.K (.ref C) f = some none) (ry : RelV y u)
    (q : ∀ dx s', H dx = none → dx ≠ a → Inv X pins σ (upd (upd H dx (exd dx [(f, y)])) a (exo a C (some dx))) s' → Q () s') : wpAny (model X.prog X.w) A (setAttr (.ref a) f u) Q E s := by
  obtain ⟨nm, qn, N, bs, bm, sn, sub, ab, col, dd, k0, k1, k2, k3, k5, hC, tail⟩ := T.cls
  have hcl : PySem.W.clsIn X.K C = some { name := nm, bases := bs, mro := .ref C :: bm, ns := N, qualname := qn, hasDict := true, slotNames := sn, subclasses := sub, abstract := ab, collection := col, hasDel := false } := by
    unfold PySem.W.clsIn
    rw [hC] <;> rfl
  have over : PySem.W.excOver X.K C bmB = true := by
    unfold PySem.W.excOver
    rw [hcl]
    show (C == C && PySem.W.excTail bmB bm) = true
    rw [tail, beq_self_eq_true] <;> rfl
  obtain ⟨t1, ho⟩ := exo_at I.hok e
  obtain ⟨hp, g, dr, t, os⟩ := s
  refine PySem.W.set_plain I.kIn (ox := { cls := .ref C, dict := none, data := .fields #[.ref t1, .none, .none, .none, .bool false, .none] }) (od := none) ⟨ho, rfl, rfl, trivial⟩ T.sa ?_
  refine first_field SF I.kIn ho hcl over rfl no fun h' tk' dx kept young away hx one => ?_
  have free : H dx = none := I.hok.fresh young
  have old : ∀ {b : Addr} {o : Obj}, hp.get? b = some o → b ≠ dx := fun z => Nat.ne_of_lt (Nat.lt_of_lt_of_le (Heap.lt_size z) young)
  have other : ∀ {b : Addr}, H b = none → b ≠ a := fun {b} n z => by
    rw [z, e] at n
    cases n
  have U : Un X.fs [] H (upd (upd H dx (exd dx [(f, y)])) a (exo a C (some dx))) hp h' := {
    keep := fun b o z n _ _ => kept b o (other n) z
    slot := fun b o z n _ _ => ⟨o.slots, kept b o (other n) z⟩
    free := fun b o z n _ => by rw [upd_ne (other n), upd_ne (old z)]; exact n
    there := fun b o z _ => by
      by_cases hb : b = a
      · rw [hb]
        exact ⟨_, hx⟩
      · exact ⟨o, kept b o hb z⟩
    tups := fun b xs z => by rw [upd_ne (at_ne e z exo_tup), upd_ne (ne_of_none z free)]; exact z
    frzs := fun b o v z => by rw [upd_ne (at_ne e z exo_frz), upd_ne (ne_of_none z free)]; exact z
    tbls := fun b ps z => ⟨#[], by rw [upd_ne (at_ne e z exo_tbl), upd_ne (ne_of_none z free), z]; simp⟩ }
  refine q dx _ free away (I.un (t' := tk') U fun b o z => ?_)
  by_cases hb : b = a
  · subst hb
    rw [upd_same] at z
    cases z
    exact exo_ok hx
  rw [upd_ne hb] at z
  by_cases hd : b = dx
  · subst hd
    rw [upd_same] at z
    cases z
    exact exd_ok one (relO_put (fs := []) ry fun _ => True.intro)
  · rw [upd_ne hd] at z
    refine (I.hok b o z).stay (fun c v hc ob => kept c v (fun ca => ?_) ob) (fun c hc => ?_) fun c xs hc => ?_
    · rcases hc with hc | hc
      · exact hb (hc ▸ ca)
      · exact at_ne e hc exo_own ca
    · rw [upd_ne (at_ne e hc exo_own), upd_ne (ne_of_none hc free)]
      exact hc
    · rw [upd_ne (at_ne e hc exo_tup), upd_ne (ne_of_none hc free)]
      exact hc
/-- self.f = e, of an exception that has no dict -/
def tOst1 (K : PySem.W.Frag) (bmB : List Value) (newId : String) (f : Str) (to te : TE) : TS := fun D σ H => te σ H fun y H1 => to σ H1 fun x H2 => ∃ a C : Addr, x = .ref a ∧ OexB K C bmB newId ∧ PySem.W.findIn K (.ref C) f = some none ∧
  H2 a = some (exo a C none) ∧ ∀ dx, H2 dx = none → dx ≠ a → D.nx σ (upd (upd H2 dx (exd dx [(f, y)])) a (exo a C (some dx)))
theorem ps_ost1 {o e : Expr} {to te : TE} {p' pos : Pos} (SF : StoreFacts B bmB "object.__setattr__" "object") (ho : PE X o to) (he : PE X e te) (hs : swapsWith e (some (.Attribute o f p')) pos.line X.env = pure false := by rfl) : PS X (.Assign [.Attribute o f p'] e pos) (tOst1 X.K bmB newId f to te) :=
  ⟨fun pins s σ H D I h => plainObj_wpAny_Assign_Attribute (thn (he.run pins s σ H _ I h) fun v s1 ⟨_, _, I1, r1, q1⟩ => thn (ho.run pins s1 σ _ _ I1 q1) fun u s2 ⟨_, _, I2, r2, q2⟩ => by
    obtain ⟨a, C, rfl, T, no, ea, q⟩ := q2
    obtain rfl : u = Value.ref a := r2
    exact ost_first SF T I2 ea no r1 fun dx s' n ne J => ⟨σ, _, J, q dx n ne⟩) hs⟩
theorem pmk_oexB {CX : CXT} {x : Str} {fI : Addr} {k : Nat} {fd : FuncData} {ps : List Str} {sp : Sp} {ds : List Value} {dvs : List V} {e : Expr} {es : List Expr} {ta : TA} {p pos : Pos} (F : ExcBaseFacts B newId initId bmB) (T : OexB X.K C bmB newId) (iC : PySem.W.findIn X.K (.ref C) "__init__" = some (some (.ref fI)))
    (tI : PySem.W.typeIn X.K (.ref fI) = some (.type "function")) (F1 : FnOk X.prog X.w X.K X.mg X.base CX k fI fd ps sp) (hr : Room (k + 1) X.A) (hb : Binds X.K fd ps ds) (hd : Vals dvs ds) (hx : Passes CX X (fun _ _ _ => False)) (hg : Gl X x) (hm : X.mg x = some (.ref C)) (ha : PA X (e :: es) ta)
    (hdb : (x == ("__debug__" : Str)) = false := by decide) (he : starEach (e :: es) X.env = (false, eval e X.env) :: starEach es X.env := by rfl) (hpl : (backTo pos (starEach es X.env)).any (·.1) = false := by rfl) :
    PMk X (.Call (.Name x p) (e :: es) [] pos) (tMkO C sp dvs ta) := fun pins s σ H Q I h => by
  obtain ⟨nm, qn, N, bs, bm, sn, sub, ab, col, dd, k0, k1, k2, k3, k5, hC, tail⟩ := T.cls
  refine wpAny_Call_Name_kw (ld_glob I hg hm ?_ hdb)
  refine PySem.W.callWith_K (h₀ := X.base) I.ok.mod.kin T.kC (thn (ha.run pos pins s σ H _ I h) fun us s1 ⟨vs, H1, I1, r1, few, q1⟩ => ⟨I1.kIn, ?_⟩) he hpl
  show wpAny _ _ (call (.ref C) us) _ _ _
  obtain ⟨hp, g, dr, tk, os⟩ := s1
  have up1 : hp.objs.size ≤ hp.objs.size + 1 := Nat.le_succ _
  have hq := q1 (hp.objs.size + 1) (I1.hok.fresh up1)
  have kk : ∀ b o, hp.get? b = some o → ((hp.push (PySem.W.kdv_tup us)).push (PySem.HandSPX.excO C hp.objs.size)).get? b = some o := fun b o z => Heap.get?_push_of_some _ (Heap.get?_push_of_some _ z)
  have made : ((hp.push (PySem.W.kdv_tup us)).push (PySem.HandSPX.excO C hp.objs.size)).get? (hp.objs.size + 1) = some (PySem.HandSPX.excO C hp.objs.size) := by heap_get
  have I2 : Inv X pins σ (upd H1 (hp.objs.size + 1) (exo (hp.objs.size + 1) C none)) ⟨(hp.push (PySem.W.kdv_tup us)).push (PySem.HandSPX.excO C hp.objs.size), g, dr, tk, os⟩ :=
    I1.laid (t' := tk) (a := hp.objs.size + 1) (o := exo (hp.objs.size + 1) C none) (h' := (hp.push (PySem.W.kdv_tup us)).push (PySem.HandSPX.excO C hp.objs.size)) kk up1 (exo_ok made)
  have r2 : Vals (V.ref (hp.objs.size + 1) :: (vs ++ dvs)) (Value.ref (hp.objs.size + 1) :: (us ++ ds)) := .cons rfl (r1.append hd)
  have many : (Value.ref (hp.objs.size + 1) :: us ++ ds).length = ps.length := by
    have z := r2.length
    rw [F1.len _ _ _ _ hq] at z
    exact z.symm
  have fits : us.length ≤ sizeLine := by
    rw [← Paired.length r1, sizeLine_eq]
    omega
  refine wpAny_call (PySem.HandSPX.call_own F (fun Y => PySem.W.excTail_contains Y bm tail) (I1.kIn _ _ hC) (PySem.W.looks_findIn I1.kIn iC) (fun self => PySem.W.bind_fn I1.kIn self tI) fits
    (codeAny_mono (F1.run _ X.stack _ _ ⟨Value.ref (hp.objs.size + 1) :: us, []⟩ (Value.ref (hp.objs.size + 1) :: (us ++ ds)) _ _ (fun _ _ _ => False) (hr.make C us []) (I2.env0.make C us []) (hb _ (Value.ref (hp.objs.size + 1) :: us) I2.kIn many) r2 hq) fun r s' z => ?_))
  cases r with
  | error er => exact hx pins σ _ _ er s' I2 z
  | ok fl =>
    cases fl with
    | ret u =>
      obtain ⟨v, H2, os2, bare2, un2, hok2, rv, rfl, d, fs, ea, ed, hd1, q2⟩ := z
      obtain ⟨h2, g2, d2, t2, os'⟩ := s'
      exact ⟨rv, mk_end (raises_own T.exC T.tyC) I1 up1 kk un2 hok2 os2 bare2 ea ed hd1 q2⟩
    | next => exact False.elim z
    | brk => exact False.elim z
    | cont => exact False.elim z
end
end XX

/-! a try with several clauses, each with a name or without one -/
namespace XX
open PySem PySem.Spec PyProof.Rows L2
/-- a clause: its class, the slot of its name, the reading of its suite -/
structure Clause where
  cls : Value
  slot : Option Nat
  ts : Addr → Value → Option Addr → TS
/-- behind a suite the clause's name is gone -/
def Ends.gone (D : Ends) (i : Nat) : Ends := { nx := fun σ H => D.nx (σ.set i none) H, rt := D.rt, bk := fun σ H => D.bk (σ.set i none) H, ct := fun σ H => D.ct (σ.set i none) H }
def Clause.go (c : Clause) (a : Addr) (cls : Value) (d : Option Addr) (D : Ends) (σ : L2.St) (H : Hp) : Prop := match c.slot with
  | none => c.ts a cls d D σ H
  | some i => c.ts a cls d (Ends.gone D i) (σ.set i (some (.ref a))) H
def wMix (K : PySem.W.Frag) (out : WX) (D : Ends) : List Clause → WX
  | [] => out
  | c :: r => fun cls d σ H => ∃ b, PySem.W.exmOne K cls c.cls = some b ∧ (b = true → ∀ a, H a = none → c.go a cls d D σ H) ∧ (b = false → wMix K out D r cls d σ H)
def NameOk (X : Cx) : Option Str → Option Nat → Prop
  | none, none => True
  | some n, some i => X.N[i]? = some n ∧ X.env.kindOf n = some .local
  | _, _ => False
inductive MixOk (X : Cx) : List ExceptHandler → List Clause → Prop
  | nil : MixOk X [] []
  | cons {x : Str} {nm : Option Str} {c : Clause} {st : Stmt} {suite : List Stmt} {np pp : Pos} {hds : List ExceptHandler} {l : List Clause} (names : Names X x c.cls) (ok : NameOk X nm c.slot)
      (body : ∀ (a : Addr) (oe : Obj) (cls : Value) (d : Option Addr) (pn : List (Addr × Obj)), Zc cls d oe → (∃ vs, oe.data = .fields vs) → PSs (X.suite a ((a, oe) :: pn)) (st :: suite) (c.ts a cls d)) (rest : MixOk X hds l) :
      MixOk X (.ExceptHandler (some (.Name x np)) nm (st :: suite) pp :: hds) (c :: l)
section
variable {X : Cx} {body : List Stmt} {h0 : ExceptHandler} {hds : List ExceptHandler} {l : List Clause} {pos : Pos} {tb : WX → TS} {out : WX}
theorem ps_try_mix (hs : X.stack = X.env :: X.outer) (hf : X.env.frame = some X.env.locals) (nodup : X.N.Nodup) (tk : Takes X out)
    (hb : ∀ (W : WX) (pn : List (Addr × Obj)) (xe : Value → Shared → Prop), Takes (X.tr pn xe) W → PassesOwn (model X.prog X.w) X.A X.env xe → PSs (X.tr pn xe) body (tb W))
    (hh : MixOk X (h0 :: hds) l) : PS X (.Try body (h0 :: hds) [] [] pos) (fun D σ H => tb (wMix X.K out D l) D σ H) := by
  refine ⟨fun pins s σ H D I h => ?_⟩
  have ok := I.ok
  have frames : X.A.frames = some (X.env :: X.outer) := by rw [ok.frames, hs]
  refine wpAny_Try_except ?_
  refine wpAny_mono ((hb (wMix X.K out D l) (X.pn ++ pins) (fun e s1 => wpAny (model X.prog X.w) X.A (noteFrame e X.env) (fun _ s2 => wpAny (model X.prog X.w) X.A (setFlight e none) (fun _ s3 =>
    wpAny (model X.prog X.w) X.A (handleBy e X.env (h0 :: hds)) (SP X pins D) X.xe s3) X.xe s2) X.xe s1) (fun u s' air => ?_) PassesOwn.looking).run [] s σ H D (I.toTry _) h) (fun f s1 sp => ?_) (fun e s1 he => he)
  · obtain ⟨a, B, sI, pins', σ', H', cls, d, rfl, J', nb, up, sky, na, os, ag, wish⟩ := air
    have J : Inv X pins σ' H' sI := J'.ofTry ok
    rw [hs] at sky
    show wpAny (model X.prog X.w) X.A (noteFrame (.ref a) X.env) _ _ _
    refine Sky.land Zc.steady frames hf sky fun h3 fl3 up3 => ?_
    have J3 : Inv X pins σ' H' { s' with heap := h3 } := J.landed nb fl3.1 (up.trans up3) os ag
    obtain ⟨oe3, vs3, at3, z3, d3⟩ := fl3.there
    have inAir : a ∉ frs (X.env :: X.outer) := fun hm => by
      obtain ⟨_, o', e', hnf⟩ := fl3.2.2.1.mem hm
      rw [at3] at e'
      cases e'
      exact hnf _ d3
    have nL : a ≠ X.env.locals := fun z => inAir (List.mem_filterMap.mpr ⟨X.env, List.mem_cons_self, by rw [hf, z]⟩)
    have nF : a ∉ X.fs := fun hm => by
      obtain ⟨e, he, q⟩ := List.mem_filterMap.mp hm
      exact inAir (List.mem_filterMap.mpr ⟨e, List.mem_cons_of_mem _ he, q⟩)
    have S3 := J3.suite at3 d3 na nL nF
    have clauses : ∀ {hds' : List ExceptHandler} {l' : List Clause}, MixOk X hds' l' → wMix X.K out D l' cls d σ' H' →
        wpAny (model X.prog X.w) X.A (handleBy (.ref a) X.env hds') (SP X pins D) X.xe { s' with heap := h3 } := by
      intro hds' l' hk
      induction hk with
      | nil =>
        intro wish'
        refine wpAny_handleBy_nil ?_
        obtain ⟨_, _, _, oe, vs, T, oT, ts', he, hz, hd, h1, hr⟩ := id fl3
        unfold PySem.passOn
        refine wpAny_bind (wpAny_field he hd h1 ?_)
        rw [if_neg (show ¬ ((Value.ref T == Value.none) = true) from by simp)]
        have on : wpAny (model X.prog X.w) X.A (setFlight (.ref a) X.env.frame) (fun _ s4 => wpAny (model X.prog X.w) X.A (throw (.ref a) : Sem Flow) (SP X pins D) X.xe s4) X.xe { s' with heap := h3 } := by
          rw [hf]
          refine HandSPX.setFlight_upZ fl3 fun h4 hh4 up4 => wpAny_throw (tk _ _ ?_)
          exact ⟨a, B, sI, pins, σ', H', cls, d, rfl, J, nb, (up.trans up3).trans up4, .inr (.inr (by rw [hs]; exact hh4)), na, os, ag, wish'⟩
        first
          | exact wpAny_bind (wpAny_pure (wpAny_bind on))
          | exact wpAny_bind on
      | @cons x nm c st suite np pp hds2 l2 names named bodyOk rest ih =>
        intro wish'
        obtain ⟨b, hb1, yes, no⟩ := wish'
        refine wpAny_handleBy_cons (codeAny_handlers_test ?_) (by intro q; cases q)
        have LT : PySem.W.Looks (model X.prog X.w) h3 (typeOf (.ref a)) cls := fun A Q E s k q => wpAny_typeOf_ref (k _ _ at3) (by rw [z3.1]; exact q)
        have LM := PySem.W.exm_one (M := model X.prog X.w) (J3.kIn) LT hb1
        have test : ∀ {Q : Value → Shared → Prop} {E : Value → Shared → Prop}, Q c.cls { s' with heap := h3 } → wpAny (model X.prog X.w) (X.A.mark (some (.ref a))) (eval (.Name x np) X.env) Q E { s' with heap := h3 } := fun {Q E} q => by
          obtain ⟨hg, hdbg, hm | ⟨hm, hv, hnn⟩⟩ := names
          · exact ld_glob (X := X.suite a ((a, oe3) :: (X.pn ++ pins))) S3 hg hm q hdbg
          · exact ld_blt (X := X.suite a ((a, oe3) :: (X.pn ++ pins))) S3 hg hm hv q hnn hdbg
        refine test (LM.here ?_)
        cases b with
        | false =>
          show wpAny _ X.A (handleBy (.ref a) X.env hds2) _ _ _
          exact ih (no rfl)
        | true =>
          have go := yes rfl a na
          obtain ⟨ccls, slot, cts⟩ := c
          cases nm with
          | none =>
            cases slot with
            | some i => exact named.elim
            | none =>
              refine codeAny_handlers_suite ?_
              refine HandSPX.lands_againZ fl3 fun h4 fl4 up4 => ?_
              have J4 : Inv X pins σ' H' { s' with heap := h4 } := J.landed nb fl4.1 ((up.trans up3).trans up4) os ag
              obtain ⟨oe4, vs4, at4, z4, d4⟩ := fl4.there
              refine wpAny_mono ((bodyOk a oe4 cls d (X.pn ++ pins) z4 ⟨_, d4⟩).run [] _ _ H' _ (J4.suite at4 d4 na nL nF) go) (fun f s6 sp => ?_) (fun _ _ z => False.elim z)
              cases f with
              | ret u =>
                obtain ⟨_, _, _, S6, r6, q6⟩ := sp
                exact ⟨_, _, _, S6.unsuite ok, r6, q6⟩
              | next =>
                obtain ⟨_, _, S6, q6⟩ := sp
                exact ⟨_, _, S6.unsuite ok, q6⟩
              | brk =>
                obtain ⟨_, _, S6, q6⟩ := sp
                exact ⟨_, _, S6.unsuite ok, q6⟩
              | cont =>
                obtain ⟨_, _, S6, q6⟩ := sp
                exact ⟨_, _, S6.unsuite ok, q6⟩
          | some n =>
            cases slot with
            | none => exact named.elim
            | some i =>
              obtain ⟨ni, nl⟩ := named
              refine codeAny_handlers_suite_as ?_
              refine HandSPX.lands_againZ fl3 fun h4 fl4 up4 => ?_
              have J4 : Inv X pins σ' H' { s' with heap := h4 } := J.landed nb fl4.1 ((up.trans up3).trans up4) os ag
              obtain ⟨oe4, vs4, at4, z4, d4⟩ := fl4.there
              refine store_ok (X := X.suite a ((a, oe4) :: (X.pn ++ pins))) (v := .ref a) (J4.suite at4 d4 na nL nF) nodup ni (.inl nl) rfl (fun s5 S5 => ?_) (.inr nl)
              refine wpAny_mono ((bodyOk a oe4 cls d (X.pn ++ pins) z4 ⟨_, d4⟩).run [] s5 _ H' _ S5 go) (fun f s6 sp => ?_) (fun _ _ z => False.elim z)
              have leave : ∀ {σ6 : L2.St} {H6 : Hp} {Q : Shared → Prop}, Inv (X.suite a ((a, oe4) :: (X.pn ++ pins))) [] σ6 H6 s6 → (∀ s7, Inv X pins (σ6.set i none) H6 s7 → Q s7) →
                  wpAny (model X.prog X.w) X.A (do bindName X.env n .none; unbindBehindTheSuite X.env n pp) (fun _ s7 => Q s7) X.xe s6 := fun {σ6 H6 Q} S6 hq => gone_ok (S6.unsuite ok) nodup ni nl hq
              cases f with
              | ret u =>
                obtain ⟨_, _, _, S6, r6, q6⟩ := sp
                exact leave S6 fun s7 J7 => ⟨_, _, _, J7, r6, q6⟩
              | next =>
                obtain ⟨_, _, S6, q6⟩ := sp
                exact leave S6 fun s7 J7 => ⟨_, _, J7, q6⟩
              | brk =>
                obtain ⟨_, _, S6, q6⟩ := sp
                exact leave S6 fun s7 J7 => ⟨_, _, J7, q6⟩
              | cont =>
                obtain ⟨_, _, S6, q6⟩ := sp
                exact leave S6 fun s7 J7 => ⟨_, _, J7, q6⟩
    exact clauses hh wish
  · cases f with
    | ret u =>
      obtain ⟨v, σ', H', J', r, q⟩ := sp
      exact ⟨v, σ', H', J'.ofTry ok, r, q⟩
    | next =>
      obtain ⟨σ', H', J', q⟩ := sp
      exact wpAny_execs_nil ⟨σ', H', J'.ofTry ok, q⟩
    | brk =>
      obtain ⟨σ', H', J', q⟩ := sp
      exact ⟨σ', H', J'.ofTry ok, q⟩
    | cont =>
      obtain ⟨σ', H', J', q⟩ := sp
      exact ⟨σ', H', J'.ofTry ok, q⟩
end
end XX

namespace K08
open PySem PySem.Spec PyProof.Rows L2 RZ L5 R7 XX
/-! ### the text by places -/
def topS (i : Nat) : Stmt := PySem.Challenge.pw_pureladders_k08_whole_quotients_and_powe.main.body.getD i (.Pass ⟨0, 0, 0, 0⟩)
abbrev s_is_number : Stmt := topS 10
abbrev N_is_number : List Str := ["value"]
theorem sc_is_number : FnScope N_is_number ["value"] (defScope s_is_number) := ⟨rfl, rfl, rfl, by decide +kernel, rfl, by decide +kernel, by decide +kernel⟩
abbrev s_is_within : Stmt := topS 11
abbrev N_is_within : List Str := ["value", "least", "most"]
theorem sc_is_within : FnScope N_is_within ["value", "least", "most"] (defScope s_is_within) := ⟨rfl, rfl, rfl, by decide +kernel, rfl, by decide +kernel, by decide +kernel⟩
abbrev s_check_within : Stmt := topS 12
abbrev N_check_within : List Str := ["value", "least", "most"]
theorem sc_check_within : FnScope N_check_within ["value", "least", "most"] (defScope s_check_within) := ⟨rfl, rfl, rfl, by decide +kernel, rfl, by decide +kernel, by decide +kernel⟩
abbrev s_are_exponents : Stmt := topS 14
abbrev N_are_exponents : List Str := ["value", "letters", "most", "exponent"]
theorem sc_are_exponents : FnScope N_are_exponents ["value", "letters", "most"] (defScope s_are_exponents) := ⟨rfl, rfl, rfl, by decide +kernel, rfl, by decide +kernel, by decide +kernel⟩
abbrev s_nothing : Stmt := topS 15
abbrev N_nothing : List Str := ["letters"]
theorem sc_nothing : FnScope N_nothing ["letters"] (defScope s_nothing) := ⟨rfl, rfl, rfl, by decide +kernel, rfl, by decide +kernel, by decide +kernel⟩
abbrev s_fits : Stmt := topS 16
abbrev N_fits : List Str := ["one", "other", "low", "high"]
theorem sc_fits : FnScope N_fits ["one", "other"] (defScope s_fits) := ⟨rfl, rfl, rfl, by decide +kernel, rfl, by decide +kernel, by decide +kernel⟩
abbrev s_greater : Stmt := topS 17
abbrev N_greater : List Str := ["one", "other", "a", "b"]
theorem sc_greater : FnScope N_greater ["one", "other"] (defScope s_greater) := ⟨rfl, rfl, rfl, by decide +kernel, rfl, by decide +kernel, by decide +kernel⟩
abbrev s_added : Stmt := topS 18
abbrev N_added : List Str := ["one", "other", "a", "b"]
theorem sc_added : FnScope N_added ["one", "other"] (defScope s_added) := ⟨rfl, rfl, rfl, by decide +kernel, rfl, by decide +kernel, by decide +kernel⟩
abbrev s_taken_off : Stmt := topS 19
abbrev N_taken_off : List Str := ["one", "other", "a", "b"]
theorem sc_taken_off : FnScope N_taken_off ["one", "other"] (defScope s_taken_off) := ⟨rfl, rfl, rfl, by decide +kernel, rfl, by decide +kernel, by decide +kernel⟩
abbrev s_is_divided : Stmt := topS 21
abbrev N_is_divided : List Str := ["product", "products", "one"]
theorem sc_is_divided : FnScope N_is_divided ["product", "products"] (defScope s_is_divided) := ⟨rfl, rfl, rfl, by decide +kernel, rfl, by decide +kernel, by decide +kernel⟩
abbrev s_is_least_of : Stmt := topS 22
abbrev N_is_least_of : List Str := ["product", "products", "one"]
theorem sc_is_least_of : FnScope N_is_least_of ["product", "products"] (defScope s_is_least_of) := ⟨rfl, rfl, rfl, by decide +kernel, rfl, by decide +kernel, by decide +kernel⟩
abbrev s_least_of : Stmt := topS 23
abbrev N_least_of : List Str := ["products", "most", "kept", "product"]
theorem sc_least_of : FnScope N_least_of ["products", "most"] (defScope s_least_of) := ⟨rfl, rfl, rfl, by decide +kernel, rfl, by decide +kernel, by decide +kernel⟩
abbrev s_check_product : Stmt := topS 27
abbrev N_check_product : List Str := ["value", "letters"]
theorem sc_check_product : FnScope N_check_product ["value", "letters"] (defScope s_check_product) := ⟨rfl, rfl, rfl, by decide +kernel, rfl, by decide +kernel, by decide +kernel⟩
abbrev s_are_products : Stmt := topS 46
abbrev N_are_products : List Str := ["value", "letters", "member"]
theorem sc_are_products : FnScope N_are_products ["value", "letters"] (defScope s_are_products) := ⟨rfl, rfl, rfl, by decide +kernel, rfl, by decide +kernel, by decide +kernel⟩
abbrev s_made_lot : Stmt := topS 47
abbrev N_made_lot : List Str := ["letters", "members", "lot"]
theorem sc_made_lot : FnScope N_made_lot ["letters", "members"] (defScope s_made_lot) := ⟨rfl, rfl, rfl, by decide +kernel, rfl, by decide +kernel, by decide +kernel⟩
abbrev s_check_letters : Stmt := topS 48
abbrev N_check_letters : List Str := ["one", "other"]
theorem sc_check_letters : FnScope N_check_letters ["one", "other"] (defScope s_check_letters) := ⟨rfl, rfl, rfl, by decide +kernel, rfl, by decide +kernel, by decide +kernel⟩
abbrev s_limited_members : Stmt := topS 49
abbrev N_limited_members : List Str := ["products", "members"]
theorem sc_limited_members : FnScope N_limited_members ["products"] (defScope s_limited_members) := ⟨rfl, rfl, rfl, by decide +kernel, rfl, by decide +kernel, by decide +kernel⟩
abbrev s_has_great_exponent : Stmt := topS 50
abbrev N_has_great_exponent : List Str := ["products", "product"]
theorem sc_has_great_exponent : FnScope N_has_great_exponent ["products"] (defScope s_has_great_exponent) := ⟨rfl, rfl, rfl, by decide +kernel, rfl, by decide +kernel, by decide +kernel⟩
abbrev s_w_pail : Stmt := topS 52
abbrev N_w_pail : List Str := ["_law_script", "_law_spot", "_law_cell", "_law_great", "_law_mixed"]
theorem sc_w_pail : FnScope N_w_pail ["_law_script", "_law_spot"] (defScope s_w_pail) := ⟨rfl, rfl, rfl, by decide +kernel, rfl, by decide +kernel, by decide +kernel⟩
abbrev s_w_dipped : Stmt := topS 53
abbrev N_w_dipped : List Str := ["_law_pail_here", "_law_many", "_law_found", "_law_one", "_law_two"]
theorem sc_w_dipped : FnScope N_w_dipped ["_law_pail_here", "_law_many"] (defScope s_w_dipped) := ⟨rfl, rfl, rfl, by decide +kernel, rfl, by decide +kernel, by decide +kernel⟩
abbrev s_w_some : Stmt := topS 54
abbrev N_w_some : List Str := ["_law_pail_here", "_law_items"]
theorem sc_w_some : FnScope N_w_some ["_law_pail_here", "_law_items"] (defScope s_w_some) := ⟨rfl, rfl, rfl, by decide +kernel, rfl, by decide +kernel, by decide +kernel⟩
abbrev s_w_product : Stmt := topS 55
abbrev N_w_product : List Str := ["_law_pail_here", "_law_letters", "_law_most", "_law_top", "_law_at"]
theorem sc_w_product : FnScope N_w_product ["_law_pail_here", "_law_letters", "_law_most"] (defScope s_w_product) := ⟨rfl, rfl, rfl, by decide +kernel, rfl, by decide +kernel, by decide +kernel⟩
abbrev s_w_products : Stmt := topS 56
abbrev N_w_products : List Str := ["_law_pail_here", "_law_letters", "_law_many", "_law_most", "_law_turn"]
theorem sc_w_products : FnScope N_w_products ["_law_pail_here", "_law_letters", "_law_many", "_law_most"] (defScope s_w_products) := ⟨rfl, rfl, rfl, by decide +kernel, rfl, by decide +kernel, by decide +kernel⟩
abbrev s_w_divides : Stmt := topS 57
abbrev N_w_divides : List Str := ["_law_one", "_law_other", "_law_at"]
theorem sc_w_divides : FnScope N_w_divides ["_law_one", "_law_other"] (defScope s_w_divides) := ⟨rfl, rfl, rfl, by decide +kernel, rfl, by decide +kernel, by decide +kernel⟩
abbrev s_w_least : Stmt := topS 58
abbrev N_w_least : List Str := ["_law_products_here", "_law_once", "_law_one", "_law_two"]
theorem sc_w_least : FnScope N_w_least ["_law_products_here"] (defScope s_w_least) := ⟨rfl, rfl, rfl, by decide +kernel, rfl, by decide +kernel, by decide +kernel⟩
abbrev s_w_joined : Stmt := topS 59
abbrev N_w_joined : List Str := ["_law_one", "_law_other", "_law_left", "_law_right_here"]
theorem sc_w_joined : FnScope N_w_joined ["_law_one", "_law_other"] (defScope s_w_joined) := ⟨rfl, rfl, rfl, by decide +kernel, rfl, by decide +kernel, by decide +kernel⟩
abbrev s_w_added : Stmt := topS 60
abbrev N_w_added : List Str := ["_law_one", "_law_other", "_law_left", "_law_right_here"]
theorem sc_w_added : FnScope N_w_added ["_law_one", "_law_other"] (defScope s_w_added) := ⟨rfl, rfl, rfl, by decide +kernel, rfl, by decide +kernel, by decide +kernel⟩
abbrev s_w_lessened : Stmt := topS 61
abbrev N_w_lessened : List Str := ["_law_one", "_law_other", "_law_left", "_law_right_here"]
theorem sc_w_lessened : FnScope N_w_lessened ["_law_one", "_law_other"] (defScope s_w_lessened) := ⟨rfl, rfl, rfl, by decide +kernel, rfl, by decide +kernel, by decide +kernel⟩
abbrev s_w_pairwise : Stmt := topS 62
abbrev N_w_pairwise : List Str := ["_law_word", "_law_one", "_law_other", "_law_found", "_law_left", "_law_right_here"]
theorem sc_w_pairwise : FnScope N_w_pairwise ["_law_word", "_law_one", "_law_other"] (defScope s_w_pairwise) := ⟨rfl, rfl, rfl, by decide +kernel, rfl, by decide +kernel, by decide +kernel⟩
abbrev s_w_due : Stmt := topS 63
abbrev N_w_due : List Str := ["_law_products_here", "_law_found", "_law_one"]
theorem sc_w_due : FnScope N_w_due ["_law_products_here"] (defScope s_w_due) := ⟨rfl, rfl, rfl, by decide +kernel, rfl, by decide +kernel, by decide +kernel⟩
abbrev s_w_told : Stmt := topS 64
abbrev N_w_told : List Str := ["_law_call", "error"]
theorem sc_w_told : FnScope N_w_told ["_law_call"] (defScope s_w_told) := ⟨rfl, rfl, rfl, by decide +kernel, rfl, by decide +kernel, by decide +kernel⟩
abbrev s_w_power : Stmt := topS 65
abbrev N_w_power : List Str := ["_law_members", "_law_letters", "_law_many", "_law_found", "_law_turn"]
theorem sc_w_power : FnScope N_w_power ["_law_members", "_law_letters", "_law_many"] (defScope s_w_power) := ⟨rfl, rfl, rfl, by decide +kernel, rfl, by decide +kernel, by decide +kernel⟩
abbrev s_w_quotients_right : Stmt := topS 66
abbrev N_w_quotients_right : List Str := ["_law_pail_here", "_law_lot", "_law_one", "_law_other", "_law_first", "_law_turn", "_law_product_here", "_law_member"]
theorem sc_w_quotients_right : FnScope N_w_quotients_right ["_law_pail_here", "_law_lot", "_law_one", "_law_other"] (defScope s_w_quotients_right) := ⟨rfl, rfl, rfl, by decide +kernel, rfl, by decide +kernel, by decide +kernel⟩
abbrev s_w_right : Stmt := topS 67
abbrev N_w_right : List Str := ["_law_pail_here", "_law_letters", "_law_other", "_law_one", "_law_two", "_law_few", "_law_great", "_law_lot", "_law_many", "_law_turn"]
theorem sc_w_right : FnScope N_w_right ["_law_pail_here"] (defScope s_w_right) := ⟨rfl, rfl, rfl, by decide +kernel, rfl, by decide +kernel, by decide +kernel⟩
abbrev s_law : Stmt := topS 68
abbrev N_law : List Str := ["_law_script", "_law_spot", "_law_pail_here", "_law_squares", "_law_told_here", "_law_far", "_law_letters"]
theorem sc_law : FnScope N_law ["_law_script"] (defScope s_law) := ⟨rfl, rfl, rfl, by decide +kernel, rfl, by decide +kernel, by decide +kernel⟩
abbrev si_TooMany : Stmt := inClass (topS 8) 0
abbrev Ni_TooMany : List Str := ["self", "most"]
theorem sci_TooMany : FnScope Ni_TooMany ["self", "most"] (defScope si_TooMany) := ⟨rfl, rfl, rfl, by decide +kernel, rfl, by decide +kernel, by decide +kernel⟩
/-! ### what the top has written -/
/-- a maker of lambdas: its code object is known -/
structure FunC (K : PySem.W.Frag) (x qual : Str) (st : Stmt) (f : Addr) (fd : FuncData) (c : Addr) : Prop where
  ex : ∃ (oc : Value) (od : Option Addr) (kV doc pm : Value) (an : Option Addr) (ct : Value) (osl : Array (Option Value)),
    fd = PySem.W.fnOf x qual (defArgs st) (defBody st) (defScope st) .none kV doc pm an (.ref c) ct ∧ K.lookup f = some ⟨oc, od, .func fd, osl⟩ ∧ PySem.W.codeIn K (.ref c) qual = true
structure Txt (K : PySem.W.Frag) (mg : Str → Option Value) where
  a_is_number : Addr
  d_is_number : FuncData
  F_is_number : Fun K "is_number" "is_number" s_is_number a_is_number d_is_number
  b_is_number : Binds K d_is_number ["value"] []
  m_is_number : mg "is_number" = some (.ref a_is_number)
  a_is_within : Addr
  d_is_within : FuncData
  F_is_within : Fun K "is_within" "is_within" s_is_within a_is_within d_is_within
  b_is_within : Binds K d_is_within ["value", "least", "most"] []
  m_is_within : mg "is_within" = some (.ref a_is_within)
  a_check_within : Addr
  d_check_within : FuncData
  F_check_within : Fun K "check_within" "check_within" s_check_within a_check_within d_check_within
  b_check_within : Binds K d_check_within ["value", "least", "most"] []
  m_check_within : mg "check_within" = some (.ref a_check_within)
  a_are_exponents : Addr
  d_are_exponents : FuncData
  F_are_exponents : Fun K "are_exponents" "are_exponents" s_are_exponents a_are_exponents d_are_exponents
  b_are_exponents : Binds K d_are_exponents ["value", "letters", "most"] []
  m_are_exponents : mg "are_exponents" = some (.ref a_are_exponents)
  a_nothing : Addr
  d_nothing : FuncData
  F_nothing : Fun K "nothing" "nothing" s_nothing a_nothing d_nothing
  b_nothing : Binds K d_nothing ["letters"] []
  m_nothing : mg "nothing" = some (.ref a_nothing)
  a_fits : Addr
  d_fits : FuncData
  F_fits : Fun K "fits" "fits" s_fits a_fits d_fits
  b_fits : Binds K d_fits ["one", "other"] []
  m_fits : mg "fits" = some (.ref a_fits)
  a_greater : Addr
  d_greater : FuncData
  F_greater : Fun K "greater" "greater" s_greater a_greater d_greater
  b_greater : Binds K d_greater ["one", "other"] []
  m_greater : mg "greater" = some (.ref a_greater)
  a_added : Addr
  d_added : FuncData
  F_added : Fun K "added" "added" s_added a_added d_added
  b_added : Binds K d_added ["one", "other"] []
  m_added : mg "added" = some (.ref a_added)
  a_taken_off : Addr
  d_taken_off : FuncData
  F_taken_off : Fun K "taken_off" "taken_off" s_taken_off a_taken_off d_taken_off
  b_taken_off : Binds K d_taken_off ["one", "other"] []
  m_taken_off : mg "taken_off" = some (.ref a_taken_off)
  a_is_divided : Addr
  d_is_divided : FuncData
  F_is_divided : Fun K "is_divided" "is_divided" s_is_divided a_is_divided d_is_divided
  b_is_divided : Binds K d_is_divided ["product", "products"] []
  m_is_divided : mg "is_divided" = some (.ref a_is_divided)
  a_is_least_of : Addr
  d_is_least_of : FuncData
  F_is_least_of : Fun K "is_least_of" "is_least_of" s_is_least_of a_is_least_of d_is_least_of
  b_is_least_of : Binds K d_is_least_of ["product", "products"] []
  m_is_least_of : mg "is_least_of" = some (.ref a_is_least_of)
  a_least_of : Addr
  d_least_of : FuncData
  F_least_of : FunD K "least_of" "least_of" (defArgs s_least_of) (defBody s_least_of) (defScope s_least_of) [.non] [] a_least_of d_least_of
  k_least_of : PySem.W.keepIn K (.ref a_least_of) = true
  b_least_of : Binds K d_least_of ["products", "most"] []
  m_least_of : mg "least_of" = some (.ref a_least_of)
  a_check_product : Addr
  d_check_product : FuncData
  F_check_product : Fun K "check_product" "check_product" s_check_product a_check_product d_check_product
  b_check_product : Binds K d_check_product ["value", "letters"] []
  m_check_product : mg "check_product" = some (.ref a_check_product)
  a_are_products : Addr
  d_are_products : FuncData
  F_are_products : Fun K "are_products" "are_products" s_are_products a_are_products d_are_products
  b_are_products : Binds K d_are_products ["value", "letters"] []
  m_are_products : mg "are_products" = some (.ref a_are_products)
  a_made_lot : Addr
  d_made_lot : FuncData
  F_made_lot : Fun K "made_lot" "made_lot" s_made_lot a_made_lot d_made_lot
  b_made_lot : Binds K d_made_lot ["letters", "members"] []
  m_made_lot : mg "made_lot" = some (.ref a_made_lot)
  a_check_letters : Addr
  d_check_letters : FuncData
  F_check_letters : Fun K "check_letters" "check_letters" s_check_letters a_check_letters d_check_letters
  b_check_letters : Binds K d_check_letters ["one", "other"] []
  m_check_letters : mg "check_letters" = some (.ref a_check_letters)
  a_limited_members : Addr
  d_limited_members : FuncData
  F_limited_members : Fun K "limited_members" "limited_members" s_limited_members a_limited_members d_limited_members
  b_limited_members : Binds K d_limited_members ["products"] []
  m_limited_members : mg "limited_members" = some (.ref a_limited_members)
  a_has_great_exponent : Addr
  d_has_great_exponent : FuncData
  F_has_great_exponent : Fun K "has_great_exponent" "has_great_exponent" s_has_great_exponent a_has_great_exponent d_has_great_exponent
  b_has_great_exponent : Binds K d_has_great_exponent ["products"] []
  m_has_great_exponent : mg "has_great_exponent" = some (.ref a_has_great_exponent)
  a_w_pail : Addr
  d_w_pail : FuncData
  F_w_pail : Fun K "_law_pail" "_law_pail" s_w_pail a_w_pail d_w_pail
  b_w_pail : Binds K d_w_pail ["_law_script", "_law_spot"] []
  m_w_pail : mg "_law_pail" = some (.ref a_w_pail)
  a_w_dipped : Addr
  d_w_dipped : FuncData
  F_w_dipped : Fun K "_law_dipped" "_law_dipped" s_w_dipped a_w_dipped d_w_dipped
  b_w_dipped : Binds K d_w_dipped ["_law_pail_here", "_law_many"] []
  m_w_dipped : mg "_law_dipped" = some (.ref a_w_dipped)
  a_w_some : Addr
  d_w_some : FuncData
  F_w_some : Fun K "_law_some" "_law_some" s_w_some a_w_some d_w_some
  b_w_some : Binds K d_w_some ["_law_pail_here", "_law_items"] []
  m_w_some : mg "_law_some" = some (.ref a_w_some)
  a_w_product : Addr
  d_w_product : FuncData
  F_w_product : Fun K "_law_product" "_law_product" s_w_product a_w_product d_w_product
  b_w_product : Binds K d_w_product ["_law_pail_here", "_law_letters", "_law_most"] []
  m_w_product : mg "_law_product" = some (.ref a_w_product)
  a_w_products : Addr
  d_w_products : FuncData
  F_w_products : Fun K "_law_products" "_law_products" s_w_products a_w_products d_w_products
  b_w_products : Binds K d_w_products ["_law_pail_here", "_law_letters", "_law_many", "_law_most"] []
  m_w_products : mg "_law_products" = some (.ref a_w_products)
  a_w_divides : Addr
  d_w_divides : FuncData
  F_w_divides : Fun K "_law_divides" "_law_divides" s_w_divides a_w_divides d_w_divides
  b_w_divides : Binds K d_w_divides ["_law_one", "_law_other"] []
  m_w_divides : mg "_law_divides" = some (.ref a_w_divides)
  a_w_least : Addr
  d_w_least : FuncData
  F_w_least : Fun K "_law_least" "_law_least" s_w_least a_w_least d_w_least
  b_w_least : Binds K d_w_least ["_law_products_here"] []
  m_w_least : mg "_law_least" = some (.ref a_w_least)
  a_w_joined : Addr
  d_w_joined : FuncData
  F_w_joined : Fun K "_law_joined" "_law_joined" s_w_joined a_w_joined d_w_joined
  b_w_joined : Binds K d_w_joined ["_law_one", "_law_other"] []
  m_w_joined : mg "_law_joined" = some (.ref a_w_joined)
  a_w_added : Addr
  d_w_added : FuncData
  F_w_added : Fun K "_law_added" "_law_added" s_w_added a_w_added d_w_added
  b_w_added : Binds K d_w_added ["_law_one", "_law_other"] []
  m_w_added : mg "_law_added" = some (.ref a_w_added)
  a_w_lessened : Addr
  d_w_lessened : FuncData
  F_w_lessened : Fun K "_law_lessened" "_law_lessened" s_w_lessened a_w_lessened d_w_lessened
  b_w_lessened : Binds K d_w_lessened ["_law_one", "_law_other"] []
  m_w_lessened : mg "_law_lessened" = some (.ref a_w_lessened)
  a_w_pairwise : Addr
  d_w_pairwise : FuncData
  F_w_pairwise : Fun K "_law_pairwise" "_law_pairwise" s_w_pairwise a_w_pairwise d_w_pairwise
  b_w_pairwise : Binds K d_w_pairwise ["_law_word", "_law_one", "_law_other"] []
  m_w_pairwise : mg "_law_pairwise" = some (.ref a_w_pairwise)
  a_w_due : Addr
  d_w_due : FuncData
  F_w_due : Fun K "_law_due" "_law_due" s_w_due a_w_due d_w_due
  b_w_due : Binds K d_w_due ["_law_products_here"] []
  m_w_due : mg "_law_due" = some (.ref a_w_due)
  a_w_told : Addr
  d_w_told : FuncData
  F_w_told : Fun K "_law_told" "_law_told" s_w_told a_w_told d_w_told
  b_w_told : Binds K d_w_told ["_law_call"] []
  m_w_told : mg "_law_told" = some (.ref a_w_told)
  a_w_power : Addr
  d_w_power : FuncData
  F_w_power : Fun K "_law_power" "_law_power" s_w_power a_w_power d_w_power
  b_w_power : Binds K d_w_power ["_law_members", "_law_letters", "_law_many"] []
  m_w_power : mg "_law_power" = some (.ref a_w_power)
  a_w_quotients_right : Addr
  d_w_quotients_right : FuncData
  F_w_quotients_right : Fun K "_law_quotients_right" "_law_quotients_right" s_w_quotients_right a_w_quotients_right d_w_quotients_right
  b_w_quotients_right : Binds K d_w_quotients_right ["_law_pail_here", "_law_lot", "_law_one", "_law_other"] []
  m_w_quotients_right : mg "_law_quotients_right" = some (.ref a_w_quotients_right)
  a_w_right : Addr
  d_w_right : FuncData
  F_w_right : Fun K "_law_right" "_law_right" s_w_right a_w_right d_w_right
  c_w_right : Addr
  G_w_right : FunC K "_law_right" "_law_right" s_w_right a_w_right d_w_right c_w_right
  b_w_right : Binds K d_w_right ["_law_pail_here"] []
  m_w_right : mg "_law_right" = some (.ref a_w_right)
  a_law : Addr
  d_law : FuncData
  F_law : Fun K "law" "law" s_law a_law d_law
  c_law : Addr
  G_law : FunC K "law" "law" s_law a_law d_law c_law
  b_law : Binds K d_law ["_law_script"] []
  m_law : mg "law" = some (.ref a_law)
  z_isinstance : mg "isinstance" = none
  z_int : mg "int" = none
  z_bool : mg "bool" = none
  z_tuple : mg "tuple" = none
  z_len : mg "len" = none
  z_all : mg "all" = none
  z_zip : mg "zip" = none
  z_max : mg "max" = none
  z_sorted : mg "sorted" = none
  z_set : mg "set" = none
  z_enumerate : mg "enumerate" = none
  z_range : mg "range" = none
  z_sum : mg "sum" = none
  z_abs : mg "abs" = none
  z_min : mg "min" = none
  t_MAX_LETTERS : Nat
  c_MAX_LETTERS : mg "MAX_LETTERS" = some (.int 8 t_MAX_LETTERS)
  t_MAX_EXPONENT : Nat
  c_MAX_EXPONENT : mg "MAX_EXPONENT" = some (.int 60 t_MAX_EXPONENT)
  t_LONGEST_EXPONENT : Nat
  c_LONGEST_EXPONENT : mg "LONGEST_EXPONENT" = some (.int 2 t_LONGEST_EXPONENT)
  t_MAX_MEMBER_EXPONENT : Nat
  c_MAX_MEMBER_EXPONENT : mg "MAX_MEMBER_EXPONENT" = some (.int 8 t_MAX_MEMBER_EXPONENT)
  t_MAX_MEMBERS : Nat
  c_MAX_MEMBERS : mg "MAX_MEMBERS" = some (.int 24 t_MAX_MEMBERS)
  t_MAX_PASSED : Nat
  c_MAX_PASSED : mg "MAX_PASSED" = some (.int 200 t_MAX_PASSED)
  t_MAX_POWER : Nat
  c_MAX_POWER : mg "MAX_POWER" = some (.int 4 t_MAX_POWER)
  C_TooMany : Addr
  g_TooMany : mg "TooMany" = some (.ref C_TooMany)
  bE_TooMany : PySem.W.subIn K (.ref C_TooMany) (.type "BaseException") = some true
  tE_TooMany : PySem.W.typeIn K (.ref C_TooMany) = some (.type "type")
  k_TooMany : PySem.W.keepIn K (.ref C_TooMany) = true
  o_TooMany : OexB K C_TooMany [.type "OverflowError", .type "ArithmeticError", .type "Exception", .type "BaseException", .type "object"] "OverflowError.__new__"
  f_TooMany : Addr
  d_TooMany : FuncData
  i_TooMany : PySem.W.findIn K (.ref C_TooMany) "__init__" = some (some (.ref f_TooMany))
  ti_TooMany : PySem.W.typeIn K (.ref f_TooMany) = some (.type "function")
  F_TooMany : Fun K "__init__" "TooMany.__init__" si_TooMany f_TooMany d_TooMany
  b_TooMany : Binds K d_TooMany ["self", "most"] []
  n_TooMany : PySem.W.findIn K (.ref C_TooMany) "most" = some none
  x_TooMany : XfC K C_TooMany
  h_TooMany_TooMany : PySem.W.exmOne K (.ref C_TooMany) (.ref C_TooMany) = some true
end K08

namespace K08
open PySem PySem.Spec PyProof.Rows L2 RZ L5 R7 XX
section
variable {K : PySem.W.Frag} {H H' : Hp}
/-! ### values of any kind -/
/-- an entry: some i where it is an integer, no bool -/
inductive El (K : PySem.W.Frag) (H : Hp) : V → Option Int → Prop
  | int (i : Int) : El K H (.int i) (some i)
  | bl (b : Bool) : El K H (.bl b) none
  | non : El K H .non none
  | str (x : Str) : El K H (.str x) none
  | tup {a : Addr} {xs : List V} (h : SqT K H a xs) : El K H (.ref a) none
theorem El.same (s : Same H H') {v : V} {o : Option Int} (h : El K H v o) : El K H' v o := by
  cases h with
  | int i => exact .int i
  | bl b => exact .bl b
  | non => exact .non
  | str x => exact .str x
  | tup h => exact .tup (same_sqt s h)
theorem El.isi {v : V} {o : Option Int} (h : El K H v o) : ∃ t bi bb, TyX K H v t ∧ PySem.W.kitOne K t (.type "int") = some bi ∧ PySem.W.kitOne K t (.type "bool") = some bb ∧ o.isSome = (bi && !bb) ∧ ∀ i, o = some i → v = .int i := by
  cases h with
  | int i => exact ⟨_, true, false, .base (.int i), kit_ty (by decide +kernel), kit_ty (by decide +kernel), rfl, fun j e => by cases e; rfl⟩
  | bl b => exact ⟨_, true, true, .base (.bl b), kit_ty (by decide +kernel), kit_ty (by decide +kernel), rfl, fun j e => by cases e⟩
  | non => exact ⟨_, false, false, .base .non, kit_ty (by decide +kernel), kit_ty (by decide +kernel), rfl, fun j e => by cases e⟩
  | str x => exact ⟨_, false, false, .base (.str x), kit_ty (by decide +kernel), kit_ty (by decide +kernel), rfl, fun j e => by cases e⟩
  | tup h => exact ⟨_, false, false, sqt_ty h, kit_ty (by decide +kernel), kit_ty (by decide +kernel), rfl, fun j e => by cases e⟩
abbrev Els (K : PySem.W.Frag) (H : Hp) : List V → List (Option Int) → Prop := Paired (El K H)
theorem Els.same (s : Same H H') : ∀ {vs : List V} {os : List (Option Int)}, Els K H vs os → Els K H' vs os
  | _, _, .nil => .nil
  | _, _, .cons h t => .cons (h.same s) (Els.same s t)
theorem Els.length : ∀ {vs : List V} {os : List (Option Int)}, Els K H vs os → vs.length = os.length
  | _, _, .nil => rfl
  | _, _, .cons _ t => congrArg (· + 1) (Els.length t)
theorem Els.get : ∀ {vs : List V} {os : List (Option Int)} {i : Nat} {v : V}, Els K H vs os → vs[i]? = some v → ∃ o, os[i]? = some o ∧ El K H v o
  | _, _, _, _, .nil, e => by simp at e
  | _, _, 0, _, .cons h _, e => by simp at e; subst e; exact ⟨_, rfl, h⟩
  | _, _, i + 1, v, .cons _ t, e => by
    obtain ⟨u, h1, h2⟩ := Els.get (i := i) (v := v) t (by simpa using e)
    exact ⟨u, by simpa using h1, h2⟩
theorem Els.app : ∀ {vs us : List V} {os ps : List (Option Int)}, Els K H vs os → Els K H us ps → Els K H (vs ++ us) (os ++ ps)
  | _, _, _, _, .nil, s => s
  | _, _, _, _, .cons r t, s => .cons r (Els.app t s)
theorem els_nv : ∀ t : List Nat, Els K H (nv t) (t.map fun n => some ((n : Nat) : Int))
  | [] => .nil
  | n :: t => .cons (.int _) (els_nv t)
/-- a value: some os where it is a tuple -/
inductive Va (K : PySem.W.Frag) (H : Hp) : V → Option (List (Option Int)) → Prop
  | tup {a : Addr} {vs : List V} {os : List (Option Int)} (h : SqT K H a vs) (e : Els K H vs os) (hl : vs.length ≤ 1000) : Va K H (.ref a) (some os)
  | lst {a : Addr} {xs : List V} (h : SqL K H a xs) : Va K H (.ref a) none
  | dic {a : Addr} (h : H a = some (.dK [])) : Va K H (.ref a) none
  | non : Va K H .non none
  | int (i : Int) : Va K H (.int i) none
  | str (x : Str) : Va K H (.str x) none
  | own {a C dx : Addr} {fs : List (Str × V)} (h : H a = some (.ins C dx fs)) (t : ∀ H' : Hp, H' a = some (.ins C dx fs) → TyX K H' (.ref a) (.ref C)) (k : PySem.W.kitOne K (.ref C) (.type "tuple") = some false) : Va K H (.ref a) none
theorem same_sql {a : Addr} {xs : List V} (e : Same H H') (h : SqL K H a xs) : SqL K H' a xs := by
  rcases h with (h | ⟨o, h⟩) | h
  · exact .inl (.inl (e _ _ h))
  · exact .inl (.inr ⟨o, e _ _ h⟩)
  · exact .inr h
theorem sql_ty {a : Addr} {xs : List V} (h : SqL K H a xs) : TyX K H (.ref a) (.type "list") := by
  rcases h with (h | ⟨o, h⟩) | ⟨o, its, n, e, c, _⟩
  · exact .base (.lst h)
  · exact .base (.frz h)
  · exact .kList e c
theorem Va.same (s : Same H H') {v : V} {d : Option (List (Option Int))} (h : Va K H v d) : Va K H' v d := by
  cases h with
  | tup h e hl => exact .tup (same_sqt s h) (e.same s) hl
  | lst h => exact .lst (same_sql s h)
  | dic h => exact .dic (s _ _ h)
  | non => exact .non
  | int i => exact .int i
  | str x => exact .str x
  | own h t k => exact .own (s _ _ h) t k
theorem Va.isi {v : V} {d : Option (List (Option Int))} (h : Va K H v d) : ∃ t, TyX K H v t ∧ PySem.W.kitOne K t (.type "tuple") = some d.isSome := by
  cases h with
  | tup h e hl => exact ⟨_, sqt_ty h, kit_ty (show kitB "tuple" "tuple" = some true by decide +kernel)⟩
  | lst h => exact ⟨_, sql_ty h, kit_ty (by decide +kernel)⟩
  | dic h => exact ⟨_, .base (.dK h), kit_ty (by decide +kernel)⟩
  | non => exact ⟨_, .base .non, kit_ty (by decide +kernel)⟩
  | int i => exact ⟨_, .base (.int i), kit_ty (by decide +kernel)⟩
  | str x => exact ⟨_, .base (.str x), kit_ty (by decide +kernel)⟩
  | own h t k => exact ⟨_, t _ h, k⟩
theorem Va.get {v : V} {os : List (Option Int)} (h : Va K H v (some os)) : ∃ a vs, v = .ref a ∧ SqT K H a vs ∧ Els K H vs os ∧ vs.length ≤ 1000 := by
  cases h with
  | tup h e hl => exact ⟨_, _, rfl, h, e, hl⟩
/-! ### what the program asks of them -/
def inB (o : Option Int) (a b : Int) : Bool := match o with
  | some i => decide (a ≤ i) && decide (i ≤ b)
  | none => false
def areB (d : Option (List (Option Int))) (n m : Int) : Bool := match d with
  | some os => decide (((os.length : Nat) : Int) = n) && os.all fun o => inB o 0 m
  | none => false
def anyB (d : Option (List (Option Int))) : Bool := match d with
  | some os => decide (1 ≤ os.length) && decide (os.length ≤ 8) && areB d ((os.length : Nat) : Int) 60
  | none => false
def Prod60 (t : List Nat) : Prop := 1 ≤ t.length ∧ t.length ≤ 8 ∧ ∀ e ∈ t, e ≤ 60
theorem els_nat : ∀ {vs : List V} {os : List (Option Int)}, Els K H vs os → (os.all fun o => inB o 0 60) = true → ∃ u : List Nat, vs = nv u ∧ os = (u.map fun n => some ((n : Nat) : Int)) ∧ ∀ e ∈ u, e ≤ 60
  | _, _, .nil, _ => ⟨[], rfl, rfl, fun _ h => nomatch h⟩
  | _, _, .cons h t, ha => by
    rw [List.all_cons, Bool.and_eq_true] at ha
    obtain ⟨u, rfl, rfl, hu⟩ := els_nat t ha.2
    cases h with
    | int i =>
      have h1 : (decide ((0 : Int) ≤ i) && decide (i ≤ 60)) = true := ha.1
      rw [Bool.and_eq_true] at h1
      have h2 := of_decide_eq_true h1.1
      have h3 := of_decide_eq_true h1.2
      refine ⟨i.toNat :: u, ?_, ?_, fun e he => ?_⟩
      · show _ = V.int _ :: nv u
        rw [show ((i.toNat : Nat) : Int) = i by omega]
      · show _ = some _ :: _
        rw [show ((i.toNat : Nat) : Int) = i by omega]
      · rcases List.mem_cons.mp he with rfl | he
        · omega
        · exact hu e he
    | bl b => cases ha.1
    | non => cases ha.1
    | str x => cases ha.1
    | tup h => cases ha.1
theorem are_get {v : V} {d : Option (List (Option Int))} {n : Nat} (h : Va K H v d) (e : areB d ((n : Nat) : Int) 60 = true) : ∃ r u, v = .ref r ∧ SqT K H r (nv u) ∧ u.length = n ∧ (∀ e ∈ u, e ≤ 60) ∧ d = some (u.map fun n => some ((n : Nat) : Int)) := by
  cases d with
  | none => cases e
  | some os =>
    obtain ⟨a, vs, rfl, hT, hE, _⟩ := h.get
    have e' : (decide (((os.length : Nat) : Int) = ((n : Nat) : Int)) && os.all fun o => inB o 0 60) = true := e
    rw [Bool.and_eq_true] at e'
    obtain ⟨u, rfl, rfl, hu⟩ := els_nat hE e'.2
    have hl := of_decide_eq_true e'.1
    rw [List.length_map] at hl
    exact ⟨a, u, rfl, hT, by omega, hu, rfl⟩
theorem are_prod {t : List Nat} (h : ∀ e ∈ t, e ≤ 60) : areB (some (t.map fun n => some ((n : Nat) : Int))) ((t.length : Nat) : Int) 60 = true := by
  refine Bool.and_eq_true_iff.mpr ⟨decide_eq_true (by rw [List.length_map]), List.all_eq_true.mpr fun o ho => ?_⟩
  obtain ⟨n, hn, rfl⟩ := List.mem_map.mp ho
  have := h n hn
  show (decide ((0 : Int) ≤ ((n : Nat) : Int)) && decide (((n : Nat) : Int) ≤ 60)) = true
  rw [decide_eq_true (show (0 : Int) ≤ ((n : Nat) : Int) by omega), decide_eq_true (show ((n : Nat) : Int) ≤ 60 by omega)]
  rfl
theorem va_prod {a : Addr} {t : List Nat} (h : SqT K H a (nv t)) (hl : t.length ≤ 1000) : Va K H (.ref a) (some (t.map fun n => some ((n : Nat) : Int))) := .tup h (els_nv t) (by rw [nv_len]; exact hl)
end
end K08

namespace K08
open PySem PySem.Spec PyProof.Rows L2 RZ L5 R7 XX
theorem take_more {α : Type} {l : List α} {i : Nat} {x : α} (h : l[i]? = some x) : l.take (i + 1) = l.take i ++ [x] := by
  rw [List.take_add_one, h]
  rfl
section
variable {P : Program} {w : World} {K : PySem.W.Frag} {mg : Str → Option Value} {base : Heap}
/-! ### is_number, is_within, are_exponents, check_within, of any value -/
def sp_num (K : PySem.W.Frag) : Sp := fun vs H Q _ => ∃ v o, vs = [v] ∧ El K H v o ∧ Q (.bl o.isSome) H
theorem ok_num (T : Txt K mg) : FnOk P w K mg base CX0 1 T.a_is_number T.d_is_number ["value"] (sp_num K) := by
  refine T.F_is_number.ok sc_is_number (fun vs H Q E h => ?_) (fun cdv A outer s H vs Q E hr h => ?_)
  · obtain ⟨v, o, rfl, _⟩ := h
    rfl
  · obtain ⟨v, o, rfl, he, q⟩ := h
    refine ⟨_, pss_one (ps_ret (pe_and (pe_callB call_isi (by rfl) T.z_isinstance boot_isinstance (pa_cons (pv 0) (pa_cons (pe_bltn (v := .ty "int") (by rfl) T.z_int boot_int rfl) pa_nil)))
      (pe_one (pe_not (pe_callB call_isi (by rfl) T.z_isinstance boot_isinstance (pa_cons (pv 0) (pa_cons (pe_bltn (v := .ty "bool") (by rfl) T.z_bool boot_bool rfl) pa_nil))))))), ?_⟩
    obtain ⟨t, bi, bb, ty, e1, e2, e3, _⟩ := he.isi
    refine ⟨_, rfl, _, _, _, _, bi, rfl, .ty _, ty, e1, bi, rfl, ?_⟩
    cases bi with
    | true =>
      refine iteT ⟨_, rfl, _, _, _, _, bb, rfl, .ty _, ty, e2, bb, rfl, ?_⟩
      rw [e3] at q
      exact q
    | false =>
      refine iteF ?_
      rw [e3] at q
      exact q
def sp_within (K : PySem.W.Frag) : Sp := fun vs H Q _ => ∃ v o, ∃ a b : Int, vs = [v, .int a, .int b] ∧ El K H v o ∧ Q (.bl (inB o a b)) H
theorem ok_within (T : Txt K mg) : FnOk P w K mg base CX0 2 T.a_is_within T.d_is_within ["value", "least", "most"] (sp_within K) := by
  refine T.F_is_within.ok sc_is_within (fun vs H Q E h => ?_) (fun cdv A outer s H vs Q E hr h => ?_)
  · obtain ⟨v, o, a, b, rfl, _⟩ := h
    rfl
  · obtain ⟨v, o, a, b, rfl, he, q⟩ := h
    refine ⟨_, pss_one (ps_ret (pe_and (pe_call (ok_num T) hr (by rfl) T.m_is_number T.F_is_number.kp T.b_is_number .nil pass0 (pa_cons (pv 0) pa_nil)) (pe_one (pe_chain op_le op_le (pv 1) (pv 0) (pv 2))))), ?_⟩
    refine ⟨_, rfl, v, o, rfl, he, o.isSome, rfl, ?_⟩
    cases o with
    | none => exact iteF q
    | some i =>
      obtain ⟨_, _, _, _, _, _, _, e⟩ := he.isi
      obtain rfl := e i rfl
      refine iteT ?_
      refine ⟨_, rfl, _, rfl, _, _, rfl, rfl, _, rfl, ite2 (fun c => ?_) (fun c => ?_)⟩
      · refine ⟨_, rfl, _, _, rfl, rfl, ?_⟩
        have q' : Q (.bl (decide (a ≤ i) && decide (i ≤ b))) H := q
        rw [c] at q'
        exact q'
      · have q' : Q (.bl (decide (a ≤ i) && decide (i ≤ b))) H := q
        rw [Bool.eq_false_iff.mpr c] at q'
        exact q'
def sp_checkw : Sp := fun vs H Q _ => ∃ i a b : Int, vs = [.int i, .int a, .int b] ∧ a ≤ i ∧ i ≤ b ∧ Q .non H
theorem ok_checkw (T : Txt K mg) : FnOk P w K mg base CX0 3 T.a_check_within T.d_check_within ["value", "least", "most"] sp_checkw := by
  refine T.F_check_within.ok sc_check_within (fun vs H Q E h => ?_) (fun cdv A outer s H vs Q E hr h => ?_)
  · obtain ⟨i, a, b, rfl, _⟩ := h
    rfl
  · obtain ⟨i, a, b, rfl, h1, h2, q⟩ := h
    refine ⟨_, pss_one (ps_if (pt_not (pt_val (pe_call (ok_within T) hr (by rfl) T.m_is_within T.F_is_within.kp T.b_is_within .nil pass0 (pa_cons (pv 0) (pa_cons (pv 1) (pa_cons (pv 2) pa_nil)))))) (pss_one ps_never) pss_nil), ?_⟩
    refine ⟨_, rfl, _, rfl, _, rfl, _, some i, a, b, rfl, .int i, true, ?_, iteF q⟩
    refine congrArg V.bl ?_
    show (decide (a ≤ i) && decide (i ≤ b)) = true
    rw [decide_eq_true h1, decide_eq_true h2]
    rfl
def sp_are (K : PySem.W.Frag) : Sp := fun vs H Q _ => ∃ v d, ∃ n m : Int, vs = [v, .int n, .int m] ∧ Va K H v d ∧ ∀ H', Same H H' → Q (.bl (areB d n m)) H'
theorem ok_are (T : Txt K mg) : FnOk P w K mg base CX0 3 T.a_are_exponents T.d_are_exponents ["value", "letters", "most"] (sp_are K) := by
  refine T.F_are_exponents.ok sc_are_exponents (fun vs H Q E h => ?_) (fun cdv A outer s H vs Q E hr h => ?_)
  · obtain ⟨v, d, n, m, rfl, _⟩ := h
    rfl
  · obtain ⟨v, d, n, m, rfl, hv, q⟩ := h
    refine ⟨_, pss_cons (ps_if (PW.pt (pw_or (pt_not (pt_val (pe_callB call_isi (by rfl) T.z_isinstance boot_isinstance (pa_cons (pv 0) (pa_cons (pe_bltn (v := .ty "tuple") (by rfl) T.z_tuple boot_tuple rfl) pa_nil)))))
        (pw_or1 (pt_cmpR op_ne (pe_callB call_len_seq (by rfl) T.z_len boot_len (pa_cons (pv 0) pa_nil)) (pv 1) (nomark _))))) (pss_one (ps_ret pe_bl)) pss_nil)
      (pss_one (ps_ret (pe_callB (cr_all rfl) (by rfl) T.z_all (by decide +kernel) (pa_cons
        (pe_lc (own := [("exponent", 3)]) (g := gName 3) (tt := tYes) rfl sc_are_exponents.nd (pi_tup (pv 0)) (blkOk_by (own := [("exponent", 3)]) (N := N_are_exponents) (sc := defScope s_are_exponents) (by decide +kernel))
          (fun _ _ _ _ _ => pg_name (i := 3) sc_are_exponents.nd rfl (Or.inl rfl)) (fun _ _ _ _ _ => pts_nil)
          (fun _ _ _ _ _ => pe_call (ok_within T) hr (by rfl) T.m_is_within T.F_is_within.kp T.b_is_within .nil pass0 (pa_cons (pv 3) (pa_cons pe_int (pa_cons (pv 2) pa_nil))))) pa_nil)))), ?_⟩
    obtain ⟨t, ty, et⟩ := hv.isi
    refine ⟨_, rfl, _, _, _, _, _, rfl, .ty _, ty, et, _, rfl, ?_⟩
    cases d with
    | none => exact iteT (q H (Same.refl H))
    | some os =>
      obtain ⟨p, xs, rfl, hT, hE, hz⟩ := hv.get
      refine iteF ⟨_, rfl, p, _, rfl, .inr hT, _, rfl, ?_⟩
      have hlen := hE.length
      refine ⟨rfl, _, rfl, ite2 (fun c => ?_) (fun c => ?_)⟩
      · have c' : ¬ ((os.length : Nat) : Int) = n := fun z => by
          rw [hlen, z, decide_eq_true rfl] at c
          cases c
        have e1 : areB (some os) n m = false := by
          show (decide _ && _) = false
          rw [decide_eq_false c']
          rfl
        have := q H (Same.refl H)
        rw [e1] at this
        exact this
      · have c' : ((os.length : Nat) : Int) = n := by
          by_cases z : ((os.length : Nat) : Int) = n
          · exact z
          · exact absurd (by rw [hlen, decide_eq_false (fun y => z (V.int.inj y))]; rfl) c
        refine ⟨_, rfl, p, rfl, ⟨_, hT⟩, fun D hD => ?_⟩
        have s1 : Same H (upd H D (.lst [])) := same_new hD _
        refine lc_tup (K := K) (a := p) (xs := xs) (fun i H' => Same H H' ∧ H' D = some (.lst (((os.take i).map fun o => inB o 0 m).map V.bl))) ⟨s1, upd_same⟩ (fun i H' _ h => same_sqt h.1 hT) (fun i x H' hi h => ?_) (fun H' h => ?_)
        · obtain ⟨sm, eD⟩ := h
          obtain ⟨o, ho, hx⟩ := hE.get hi
          have hlt : i < xs.length := (List.getElem?_eq_some_iff.mp hi).1
          refine ⟨rfl, _, rfl, _, rfl, x, o, _, _, rfl, hx.same sm, ?_⟩
          refine ⟨_, eD, by rw [List.length_map, List.length_map, List.length_take]; exact sizeK (by omega), same_updL sm hD, ?_⟩
          rw [upd_same, take_more ho, List.map_append, List.map_append]
          rfl
        · obtain ⟨sm, eD⟩ := h
          rw [hlen, List.take_length] at eD
          refine ⟨D, _, rfl, SqL.of eD, ?_⟩
          have e1 : areB (some os) n m = (os.map fun o => inB o 0 m).all id := by
            show (decide _ && _) = _
            rw [decide_eq_true c', Bool.true_and, List.all_map]
            rfl
          have := q H' sm
          rw [e1] at this
          exact this
end
end K08

namespace K08
open PySem PySem.Spec PyProof.Rows L2 RZ L5 R7 XX
section
variable {P : Program} {w : World} {K : PySem.W.Frag} {mg : Str → Option Value} {base : Heap}
/-! ### a comprehension over zip of two tuples of one length -/
abbrev lcTurn (D : Addr) (g : TG) (tt : TT) (te : TE) (vs : List Nat) (σ : L2.St) (Nx : Hp → Prop) (v : V) (H : Hp) : Prop := g v (wipe σ vs) H fun σ2 H2 => wipe σ2 vs = wipe σ vs ∧ tt σ2 H2 fun b H3 =>
  if b = true then te σ2 H3 fun y H4 => ∃ acc, H4 D = some (.lst acc) ∧ acc.length < sizeLine ∧ Nx (upd H4 D (.lst (acc ++ [y]))) else Nx H3
theorem lc_zipT {a b : Addr} {xs ys : List V} {g : TG} {tt : TT} {te : TE} {vs : List Nat} {σ : L2.St} {H1 : Hp} {D : Addr} {Qd : Hp → Prop} (hl : xs.length = ys.length) (Pv : Nat → Hp → Prop) (h0 : Pv 0 (upd H1 D (.lst []))) (hq : ∀ i H, Pv i H → SqT K H a xs ∧ SqT K H b ys)
    (hs : ∀ (i : Nat) (x y : V) (T : Addr) (H : Hp), xs[i]? = some x → ys[i]? = some y → Pv i H → H T = none → lcTurn D g tt te vs σ (Pv (i + 1)) (.ref T) (upd H T (.tup [x, y]))) (hd : ∀ H, Pv xs.length H → Qd H) :
    ∃ W : Nat → Nat → Hp → Prop, (∃ m, W 0 m (upd H1 D (.lst []))) ∧ ∀ i m H0, W i m H0 →
      ((ItzT K a b).stop i H0 ∧ Qd H0) ∨ ((ItzT K a b).go i H0 ∧ ∃ Nx : Hp → Prop, (∀ H', Nx H' → ∃ m', m' < m ∧ W (i + 1) m' H') ∧ ∀ v H', (ItzT K a b).yld i H0 v H' → lcTurn D g tt te vs σ Nx v H') := by
  refine ⟨fun i m H => i + m = xs.length ∧ Pv i H, ⟨xs.length, Nat.zero_add _, h0⟩, fun i m H0 hw => ?_⟩
  obtain ⟨em, pi⟩ := hw
  obtain ⟨ta, tb⟩ := hq i H0 pi
  cases m with
  | zero =>
    have ei : i = xs.length := em
    subst ei
    exact .inl ⟨⟨xs, ys, ta, tb, Or.inl (Nat.le_refl _)⟩, hd H0 pi⟩
  | succ m =>
    have i1 : i < xs.length := by omega
    have i2 : i < ys.length := hl ▸ i1
    refine .inr ⟨⟨xs, ys, _, _, ta, tb, List.getElem?_eq_getElem i1, List.getElem?_eq_getElem i2⟩, Pv (i + 1), fun H' p => ⟨m, Nat.lt_succ_self m, by omega, p⟩, fun v H' out => ?_⟩
    obtain ⟨T, _, _, rfl, free, rfl, fx, fy⟩ := out
    exact hs i _ _ T H0 (fx xs ta) (fy ys tb) pi free
theorem getD_at {t : List Nat} {i : Nat} (h : i < t.length) : t[i]? = some (t.getD i 0) := by
  rw [List.getD_eq_getElem?_getD, List.getElem?_eq_getElem h]
  rfl
theorem nv_take (t : List Nat) (k : Nat) : nv (t.take k) = (nv t).take k := List.map_take
theorem cut_to (xs : List V) (k : Nat) (h : k ≤ xs.length) : cutV xs none (some (k : Int)) = xs.take k := by
  unfold cutV
  rw [show HT.sIx xs.length xs.length (some (k : Int)) = min k xs.length from HT.sIx_nat xs.length xs.length k, HT.sIx_none, Nat.min_eq_left h]
  rfl
/-! ### tuple rules whose answer is told alike in all cases -/
def rCatB (K : PySem.W.Frag) : R2 := fun x y H Q => ∃ a b xs ys, x = .ref a ∧ y = .ref b ∧ SqT K H a xs ∧ SqT K H b ys ∧ xs.length + ys.length ≤ sizeLine ∧ ∀ H' z, Same H H' → SqT K H' z (xs ++ ys) → Q (.ref z) H'
theorem op_catB {X : Cx} : OpR X (binaryOp .Add) (rCatB X.K) := by
  intro pins s σ H x y v u Q I rx ry h
  obtain ⟨a, b, xs, ys, rfl, rfl, hx, hy, hz, q⟩ := h
  refine op_catA pins s σ H _ _ v u Q I rx ry ⟨a, b, xs, ys, rfl, rfl, hx, hy, hz, fun e => ?_, fun _ e => ?_, fun _ _ p hp => q _ p (same_new hp _) (SqT.of upd_same)⟩
  · subst e
    exact q H b (Same.refl H) hy
  · subst e
    rw [List.append_nil] at q
    exact q H a (Same.refl H) hx
def rSlB (K : PySem.W.Frag) : V → Option Int → Option Int → Hp → VK → Prop := fun x lo hi H Q => ∃ a xs, x = .ref a ∧ SqT K H a xs ∧ ∀ H' z, Same H H' → SqT K H' z (cutV xs lo hi) → Q (.ref z) H'
theorem sl_tupB {X : Cx} : SlR X (rSlB X.K) := by
  intro pins s σ H x v vl vu lo hi sl Q I rx hs pl pu h
  obtain ⟨a, xs, rfl, hx, q⟩ := h
  refine sl_tupA pins s σ H _ v vl vu lo hi sl Q I rx hs pl pu ⟨a, xs, rfl, hx, fun e => ?_, fun _ p hp => q _ p (same_new hp _) (SqT.of upd_same)⟩
  have e2 : cutV xs lo hi = xs := by
    unfold cutV
    rw [e.1, e.2]
    exact List.take_length
  rw [e2] at q
  exact q H a (Same.refl H) hx
/-! ### all but the pail stands -/
def Bar (p : Addr) (H H' : Hp) : Prop := ∀ b o, b ≠ p → H b = some o → H' b = some o
theorem Bar.trans {p : Addr} {A B C : Hp} (a : Bar p A B) (b : Bar p B C) : Bar p A C := fun c o n h => b c o n (a c o n h)
theorem Bar.same {p : Addr} {A B : Hp} (a : Same A B) : Bar p A B := fun c o _ h => a c o h
theorem Bar.upd {p : Addr} {A : Hp} {o : HO} : Bar p A (upd A p o) := fun c u n h => by
  rw [upd_ne n]
  exact h
theorem passG {X : Cx} : Passes (CX X.prog X.w) X E0 := fun _ _ _ _ _ _ _ c => by
  obtain ⟨_, _, _, _, _, _, _, _, _, _, _, _, no⟩ := c
  exact no.elim
theorem nostop : NoStop K E0 := fun _ _ _ no => no.elim
theorem ref_get {rs : List Addr} {i : Nat} {x : V} (h : (rs.map V.ref)[i]? = some x) : ∃ a, rs[i]? = some a ∧ x = .ref a := by
  rw [List.getElem?_map] at h
  cases e : rs[i]? with
  | none =>
    rw [e] at h
    cases h
  | some n =>
    rw [e] at h
    exact ⟨n, rfl, (Option.some.inj h).symm⟩
end
section
variable {P : Program} {w : World} {K : PySem.W.Frag} {mg : Str → Option Value} {base : Heap}
/-! ### the law's own draws -/
abbrev pailO (g x c : Int) : HO := .lst [.int g, .int x, .int c]
def sp_pail (K : PySem.W.Frag) : Sp := fun vs H Q _ => ∃ (a : Addr) (ns : List Int) (k : Nat), vs = [.ref a, .int ((k : Nat) : Int)] ∧ SqL K H a (ns.map V.int) ∧ k < 1000 ∧ ∀ (H' : Hp) (r : Addr) (g x c : Int), Same H H' → H r = none → H' r = some (pailO g x c) → Q (.ref r) H'
theorem mpos {j : Int} (h : (0 : Int) < j) : (0 : Int) < j := h
theorem same_back {H H' : Hp} (s : Same H H') {r : Addr} (h : H' r = none) : H r = none := s.free h
theorem PE.weak {X : Cx} {e : Expr} {t t' : TE} (h : PE X e t) (i : ∀ σ H Q, t' σ H Q → t σ H Q) : PE X e t' := ⟨fun pins s σ H Q I h' => h.run pins s σ H Q I (i σ H Q h')⟩
theorem ok_pail (T : Txt K mg) : FnOk P w K mg base CX0 1 T.a_w_pail T.d_w_pail ["_law_script", "_law_spot"] (sp_pail K) := by
  refine T.F_w_pail.ok sc_w_pail (fun vs H Q E h => ?_) (fun cdv A outer s H vs Q E hr h => ?_)
  · obtain ⟨a, ns, k, rfl, _⟩ := h
    rfl
  · obtain ⟨a, ns, k, rfl, hS, hk, q⟩ := h
    refine ⟨_, pss_cons (ps_set (i := 2) sc_w_pail.nd rfl (Or.inl rfl) (PE.weak (t' := fun σ' H' Q' => σ' = start N_w_pail [.ref a, .int ((k : Nat) : Int)] ∧ H' = H ∧ ∀ (i : Int) H1, Same H H1 → Q' (.int i) H1) (pe_ifExp (pt_cmpR op_lt (pv 1) (pe_callB call_len_seq (by rfl) T.z_len boot_len (pa_cons (pv 0) pa_nil)) (nomark _))
        (pe_callTy call_int1 (by rfl) T.z_int boot_int (pa_cons (pe_ix ix_list (pv 0) (pv 1) (fun _ _ => rfl)) pa_nil))
        (pe_op op_add (pe_op op_add (pe_op op_mul pe_int (pv 1)) pe_int) (pe_op op_mod (pe_callTy call_int1 (by rfl) T.z_int boot_int (pa_cons (pe_callB (cr_sum rfl) (by rfl) T.z_sum boot_sum (pa_cons (pe_slice sl_list (pv 0) po_none (po_some pe_int)) pa_nil)) pa_nil)) pe_int))) ?imp))
      (pss_cons (ps_set (i := 3) sc_w_pail.nd rfl (Or.inl rfl) (pe_op op_mod (pe_callTy call_int1 (by rfl) T.z_int boot_int (pa_cons (pe_callB call_abs (by rfl) T.z_abs boot_abs (pa_cons (pv 2) pa_nil)) pa_nil)) (pe_op op_powW (pe_op op_pow pe_int pe_int) pe_int)))
      (pss_cons (ps_set (i := 4) sc_w_pail.nd rfl (Or.inl rfl) (pe_op op_mod (pe_callTy call_int1 (by rfl) T.z_int boot_int (pa_cons (pe_op op_add (pe_op op_add (pe_op op_add (pe_op op_mul (pe_op op_mod (pv 3) pe_int) pe_int) (pe_op op_mul pe_int (pv 1))) (pe_op op_mul pe_int (pe_callTy call_int1 (by rfl) T.z_int boot_int (pa_cons (pe_cmpR op_lt (pv 2) pe_int (nomark _)) pa_nil)))) pe_int) pa_nil)) pe_int))
      (pss_one (ps_ret (pe_lst (pa_cons (pe_callB (call_max2 rfl) (by rfl) T.z_max boot_max (pa_cons pe_int (pa_cons (pe_op op_sub (pv 3) (pe_op op_pow pe_int pe_int)) pa_nil))) (pa_cons (pv 4) (pa_cons pe_int pa_nil)))))))), ?_⟩
    case imp =>
      rintro σ' H' Q' ⟨rfl, rfl, h⟩
      refine ⟨_, rfl, _, rfl, a, _, rfl, .inl hS, _, _, rfl, rfl, _, rfl, ite2 (fun c => ?_) (fun c => ?_)⟩
      · have c' := of_decide_eq_true c
        rw [List.length_map] at c'
        have hlt : k < ns.length := by omega
        refine ⟨_, rfl, _, rfl, a, _, _, .int ns[k], rfl, rfl, hS, atI_nat (by rw [List.getElem?_map, List.getElem?_eq_getElem hlt] <;> rfl), .inl ⟨_, rfl, ?_⟩⟩
        exact h _ _ (Same.refl _)
      · refine ⟨_, rfl, _, _, rfl, rfl, .inl ⟨by decide, by decide⟩, _, _, rfl, rfl, _, rfl, _, rfl, a, _, rfl, hS, fun z hz => ?_⟩
        have e1 : cutV (ns.map V.int) none (some 1) = (ns.take 1).map V.int := by
          unfold cutV
          rw [show HT.sIx (ns.map V.int).length (ns.map V.int).length (some 1) = min 1 (ns.map V.int).length from HT.sIx_nat _ _ 1, HT.sIx_none, List.map_take]
          show List.take (min 1 (ns.map V.int).length) (ns.map V.int) = _
          rcases ns with _ | ⟨n, r⟩
          · rfl
          · rw [List.map_cons, List.length_cons, show min 1 ((r.map V.int).length + 1) = 1 by omega]
        refine ⟨z, ns.take 1, rfl, SqL.of (by rw [upd_same, e1]), .inl ⟨_, rfl, _, _, rfl, rfl, mpos (by decide), _, _, rfl, rfl, ?_⟩⟩
        exact h _ _ (same_new hz _)
    refine ⟨rfl, rfl, fun cell H1 s1 => ?_⟩
    refine ⟨_, rfl, _, rfl, .inl ⟨_, rfl, _, _, rfl, rfl, ⟨by decide, by decide, by decide⟩, _, _, rfl, rfl, ⟨by decide, by decide +kernel⟩, _, _, rfl, rfl, Int.pow_pos (Int.pow_pos (by decide)), ?_⟩⟩
    refine ⟨_, rfl, _, _, rfl, rfl, mpos (by decide), _, _, rfl, rfl, .inr ⟨by decide, by decide⟩, _, rfl, _, _, rfl, rfl, .inl ⟨by decide, by decide⟩, _, _, rfl, rfl, _, rfl, _, _, rfl, rfl, .inr ⟨_, rfl, _, _, rfl, rfl, .inl ⟨by decide, by decide⟩, _, _, rfl, rfl, _, _, rfl, rfl, .inl ⟨_, rfl, _, _, rfl, rfl, mpos (by decide), ?_⟩⟩⟩
    refine ⟨_, rfl, _, _, rfl, rfl, ⟨by decide, by decide, by decide⟩, _, _, rfl, rfl, _, _, rfl, _, rfl, by show 3 ≤ sizeLine; decide, fun z hz => ?_⟩
    exact q _ z _ _ _ (s1.trans (same_new hz _)) (s1.free hz) upd_same
abbrev rDip (H : Hp) (p : Addr) (m : Int) (Q : VK) : Prop := ∀ g x c r : Int, 0 ≤ r → r < m → Q (.int r) (upd H p (pailO g x c))
def sp_dip : Sp := fun vs H Q _ => ∃ (p : Addr) (m g x c : Int), vs = [.ref p, .int m] ∧ H p = some (pailO g x c) ∧ 0 < m ∧ m < 1073741824 ∧ rDip H p m Q
theorem ok_dip (T : Txt K mg) : FnOk P w K mg base CX0 1 T.a_w_dipped T.d_w_dipped ["_law_pail_here", "_law_many"] sp_dip := by
  refine T.F_w_dipped.ok sc_w_dipped (fun vs H Q E h => ?_) (fun cdv A outer s H vs Q E hr h => ?_)
  · obtain ⟨p, m, g, x, c, rfl, _⟩ := h
    rfl
  · obtain ⟨p, m, g, x, c, rfl, hp, h0, h1, q⟩ := h
    refine ⟨_, pss_cons (ps_if (pt_cmpR op_gt (pe_ix ix_list (pv 0) pe_int (fun _ _ => rfl)) pe_int (nomark _))
        (pss_cons (ps_set (i := 2) sc_w_dipped.nd rfl (Or.inl rfl) (pe_op op_mod (pe_callTy call_int1 (by rfl) T.z_int boot_int (pa_cons (pe_ix ix_list (pv 0) pe_int (fun _ _ => rfl)) pa_nil)) (pv 1)))
        (pss_cons (ps_asg (pe_op op_fdiv (pe_ix ix_list (pv 0) pe_int (fun _ _ => rfl)) (pv 1)) (pg_sub (pv 0) pe_int set_list))
        (pss_one (ps_ret (pv 2))))) pss_nil)
      (pss_cons (ps_asg (pe_op op_add (pe_ix ix_list (pv 0) pe_int (fun _ _ => rfl)) pe_int) (pg_sub (pv 0) pe_int set_list))
      (pss_cons (ps_set (i := 3) sc_w_dipped.nd rfl (Or.inl rfl) (pe_op op_mod (pe_callTy call_int1 (by rfl) T.z_int boot_int (pa_cons (pe_op op_add (pe_ix ix_list (pv 0) pe_int (fun _ _ => rfl)) (pe_op op_mul pe_int (pe_ix ix_list (pv 0) pe_int (fun _ _ => rfl)))) pa_nil)) pe_int))
      (pss_cons (ps_set (i := 4) sc_w_dipped.nd rfl (Or.inl rfl) (pe_op op_add (pe_op op_add (pe_op op_mul (pe_op op_mod (pe_callTy call_int1 (by rfl) T.z_int boot_int (pa_cons (pe_op op_mul (pv 3) (pv 3)) pa_nil)) pe_int) pe_int) (pv 3)) (pe_op op_mul pe_int (pe_ix ix_list (pv 0) pe_int (fun _ _ => rfl)))))
      (pss_one (ps_ret (pe_op op_mod (pe_callTy call_int1 (by rfl) T.z_int boot_int (pa_cons (pe_op op_fdiv (pv 4) pe_int) pa_nil)) (pv 1))))))), ?_⟩
    have a0 : atI [V.int g, V.int x, V.int c] (0 : Int) = some (.int g) := rfl
    refine ⟨_, rfl, p, _, _, _, rfl, rfl, SqL.of hp, a0, _, _, rfl, rfl, _, rfl, ite2 (fun d => ?_) (fun d => ?_)⟩
    · refine ⟨_, rfl, p, _, _, _, rfl, rfl, SqL.of hp, a0, .inl ⟨_, rfl, _, rfl, _, _, rfl, rfl, h0, ?_⟩⟩
      refine ⟨_, rfl, p, _, _, _, rfl, rfl, SqL.of hp, a0, _, rfl, _, _, rfl, rfl, ⟨h0, h1⟩, ?_⟩
      refine ⟨_, rfl, p, _, _, 0, rfl, rfl, hp, rfl, ?_⟩
      exact ⟨_, rfl, q _ _ _ _ (Int.emod_nonneg _ (by omega)) (Int.emod_lt_of_pos _ h0)⟩
    · have a2 : atI [V.int g, V.int x, V.int c] (2 : Int) = some (.int c) := rfl
      refine ⟨_, rfl, p, _, _, _, rfl, rfl, SqL.of hp, a2, _, _, rfl, rfl, _, rfl, p, _, _, 2, rfl, rfl, hp, rfl, ?_⟩
      have hp' : (upd H p (.lst [V.int g, V.int x, V.int (c + 1)])) p = some (.lst [V.int g, V.int x, V.int (c + 1)]) := upd_same
      have b1 : atI [V.int g, V.int x, V.int (c + 1)] (1 : Int) = some (.int x) := rfl
      have b2 : atI [V.int g, V.int x, V.int (c + 1)] (2 : Int) = some (.int (c + 1)) := rfl
      refine ⟨_, rfl, p, _, _, _, rfl, rfl, SqL.of hp', b1, _, rfl, p, _, _, _, rfl, rfl, SqL.of hp', b2, _, _, rfl, rfl, .inl ⟨by decide, by decide⟩, _, _, rfl, rfl, .inl ⟨_, rfl, _, _, rfl, rfl, mpos (by decide), ?_⟩⟩
      have r0 := Int.emod_nonneg (x + 49979693 * (c + 1)) (show (2305843009213693907 : Int) ≠ 0 by decide)
      have r1 := Int.emod_lt_of_pos (x + 49979693 * (c + 1)) (show (0 : Int) < 2305843009213693907 by decide)
      generalize (x + 49979693 * (c + 1)) % 2305843009213693907 = one at r0 r1 ⊢
      refine ⟨_, rfl, _, rfl, _, _, rfl, rfl, .inl ⟨by omega, by omega⟩, .inl ⟨_, rfl, _, _, rfl, rfl, mpos (by decide), _, _, rfl, rfl, .inr ⟨by decide, by decide⟩, _, rfl, _, _, rfl, rfl, _, rfl, p, _, _, _, rfl, rfl, SqL.of hp', b2, _, _, rfl, rfl, .inl ⟨by decide, by decide⟩, _, _, rfl, rfl, ?_⟩⟩
      refine ⟨_, rfl, _, _, rfl, rfl, ⟨by decide, by decide⟩, .inl ⟨_, rfl, _, rfl, _, _, rfl, rfl, h0, ?_⟩⟩
      exact q _ _ _ _ (Int.emod_nonneg _ (by omega)) (Int.emod_lt_of_pos _ h0)
/-- items[dipped(pail, len(items))] -/
def sp_some (K : PySem.W.Frag) : Sp := fun vs H Q _ => ∃ (p a : Addr) (xs : List V) (g x c : Int), vs = [.ref p, .ref a] ∧ H p = some (pailO g x c) ∧ a ≠ p ∧ SqL K H a xs ∧ xs ≠ [] ∧ xs.length ≤ 1000 ∧ ∀ g x c v, v ∈ xs → Q v (upd H p (pailO g x c))
theorem ok_some (T : Txt K mg) : FnOk P w K mg base CX0 2 T.a_w_some T.d_w_some ["_law_pail_here", "_law_items"] (sp_some K) := by
  refine T.F_w_some.ok sc_w_some (fun vs H Q E h => ?_) (fun cdv A outer s H vs Q E hr h => ?_)
  · obtain ⟨p, a, xs, g, x, c, rfl, _⟩ := h
    rfl
  · obtain ⟨p, a, xs, g, x, c, rfl, hp, hne, hS, hn, hz, q⟩ := h
    refine ⟨_, pss_one (ps_ret (pe_ix ix_list (pv 1) (pe_call (ok_dip T) hr (by rfl) T.m_w_dipped T.F_w_dipped.kp T.b_w_dipped .nil pass0 (pa_cons (pv 0) (pa_cons (pe_callB call_len_seq (by rfl) T.z_len boot_len (pa_cons (pv 1) pa_nil)) pa_nil))) (fun _ _ => rfl))), ?_⟩
    have hpos : 0 < xs.length := List.length_pos_iff.mpr hn
    refine ⟨_, rfl, _, rfl, _, rfl, a, _, rfl, .inl hS, p, _, g, x, c, rfl, hp, by omega, by omega, fun g' x' c' r h0 h1 => ?_⟩
    have hlt : r.toNat < xs.length := by omega
    refine ⟨a, xs, r, xs[r.toNat], rfl, rfl, sql_updL hne hS, ?_, q _ _ _ _ (List.getElem_mem hlt)⟩
    have := atI_nat (xs := xs) (List.getElem?_eq_getElem hlt)
    rw [show ((r.toNat : Nat) : Int) = r by omega] at this
    exact this
end
end K08

namespace K08
open PySem PySem.Spec PyProof.Rows L2 RZ L5 R7 XX
section
variable {P : Program} {w : World} {K : PySem.W.Frag} {mg : Str → Option Value} {base : Heap}
/-! ### exponent by exponent -/
abbrev zi (F : Nat → Nat → Int) (t u : List Nat) : List Int := List.zipWith F t u
abbrev addZ (a b : Nat) : Int := ((a : Nat) : Int) + ((b : Nat) : Int)
abbrev subZ (a b : Nat) : Int := ((a : Nat) : Int) - ((b : Nat) : Int)
abbrev maxZ (a b : Nat) : Int := if ((b : Nat) : Int) > ((a : Nat) : Int) then ((b : Nat) : Int) else ((a : Nat) : Int)
abbrev minZ (a b : Nat) : Int := if ((b : Nat) : Int) < ((a : Nat) : Int) then ((b : Nat) : Int) else ((a : Nat) : Int)
abbrev offZ (a b : Nat) : Int := if 0 > subZ a b then 0 else subZ a b
theorem zi_get {F : Nat → Nat → Int} {t u : List Nat} {i n m : Nat} (h1 : t[i]? = some n) (h2 : u[i]? = some m) : (zi F t u)[i]? = some (F n m) := by
  rw [List.getElem?_zipWith, h1, h2]
def sp_zip (K : PySem.W.Frag) (F : Nat → Nat → Int) : Sp := fun vs H Q _ => ∃ (p r : Addr) (t u : List Nat), vs = [.ref p, .ref r] ∧ SqT K H p (nv t) ∧ SqT K H r (nv u) ∧ u.length = t.length ∧ t.length ≤ 1000 ∧ ∀ H' z, Same H H' → SqT K H' z ((zi F t u).map V.int) → Q (.ref z) H'
theorem ok_greater (T : Txt K mg) : FnOk P w K mg base CX0 1 T.a_greater T.d_greater ["one", "other"] (sp_zip K maxZ) := by
  refine T.F_greater.ok sc_greater (fun vs H Q E h => ?_) (fun cdv A outer s H vs Q E hr h => ?_)
  · obtain ⟨p, r, t, u, rfl, _⟩ := h
    rfl
  · obtain ⟨p, r, t, u, rfl, hT, hU, hl, hz, q⟩ := h
    refine ⟨_, pss_one (ps_ret (pe_callTy call_tuple_of (by rfl) T.z_tuple boot_tuple (pa_cons
      (pe_lc (own := [("a", 2), ("b", 3)]) (g := gTup K 2 (gCons (gName 2) (gCons (gName 3) gNil))) (tt := tYes) rfl sc_greater.nd (pi_zipA (by rfl) T.z_zip (pa_cons (pv 0) (pa_cons (pv 1) pa_nil))) (blkOk_by (own := [("a", 2), ("b", 3)]) (N := N_greater) (sc := defScope s_greater) (by decide +kernel))
        (fun _ _ _ _ _ => pg_tup (by rfl) (pgs_cons (pg_name (i := 2) sc_greater.nd rfl (Or.inl rfl)) (pgs_cons (pg_name (i := 3) sc_greater.nd rfl (Or.inl rfl)) pgs_nil))) (fun _ _ _ _ _ => pts_nil)
        (fun _ _ _ _ _ => pe_callB (call_max2 rfl) (by rfl) T.z_max boot_max (pa_cons (pv 2) (pa_cons (pv 3) pa_nil)))) pa_nil))), ?_⟩
    refine ⟨_, rfl, _, rfl, p, r, nv t, nv u, rfl, .inr ⟨hT, hU, fun D hD => ?_⟩⟩
    have sD : Same H (upd H D (.lst [])) := same_new hD _
    refine lc_zipT (by rw [nv_len, nv_len, hl]) (fun i H' => Same H H' ∧ H' D = some (.lst (((zi maxZ t u).take i).map V.int))) ⟨sD, upd_same⟩ (fun i H' h => ⟨same_sqt h.1 hT, same_sqt h.1 hU⟩) (fun i x y T' H' hx hy h hT' => ?_) (fun H' h => ?_)
    · obtain ⟨sm, eD⟩ := h
      obtain ⟨n, hn, rfl⟩ := nv_get hx
      obtain ⟨m, hm, rfl⟩ := nv_get hy
      have hlt : i < t.length := (List.getElem?_eq_some_iff.mp hn).1
      have sT : Same H' (upd H' T' (.tup [.int ((n : Nat) : Int), .int ((m : Nat) : Int)])) := same_new hT' _
      refine ⟨T', _, rfl, SqT.of upd_same, rfl, _, _, rfl, _, _, rfl, rfl, ?_⟩
      refine ⟨rfl, _, rfl, _, rfl, _, _, rfl, ?_⟩
      refine ⟨_, sT _ _ eD, by rw [List.length_map, List.length_take]; exact sizeK (by omega), same_updL (sm.trans sT) hD, ?_⟩
      rw [upd_same, take_more (zi_get hn hm), List.map_append]
      rfl
    · obtain ⟨sm, eD⟩ := h
      have e2 : (zi maxZ t u).take (nv t).length = zi maxZ t u := List.take_of_length_le (by rw [nv_len, List.length_zipWith]; omega)
      rw [e2] at eD
      refine ⟨D, _, rfl, .inl ⟨SqL.of eD, fun z hz' => ?_⟩⟩
      have sZ : Same H (upd H' z (.tup ((zi maxZ t u).map V.int))) := sm.trans (same_new hz' _)
      exact q _ z sZ (SqT.of upd_same)
theorem ok_added (T : Txt K mg) : FnOk P w K mg base CX0 1 T.a_added T.d_added ["one", "other"] (sp_zip K addZ) := by
  refine T.F_added.ok sc_added (fun vs H Q E h => ?_) (fun cdv A outer s H vs Q E hr h => ?_)
  · obtain ⟨p, r, t, u, rfl, _⟩ := h
    rfl
  · obtain ⟨p, r, t, u, rfl, hT, hU, hl, hz, q⟩ := h
    refine ⟨_, pss_one (ps_ret (pe_callTy call_tuple_of (by rfl) T.z_tuple boot_tuple (pa_cons
      (pe_lc (own := [("a", 2), ("b", 3)]) (g := gTup K 2 (gCons (gName 2) (gCons (gName 3) gNil))) (tt := tYes) rfl sc_added.nd (pi_zipA (by rfl) T.z_zip (pa_cons (pv 0) (pa_cons (pv 1) pa_nil))) (blkOk_by (own := [("a", 2), ("b", 3)]) (N := N_added) (sc := defScope s_added) (by decide +kernel))
        (fun _ _ _ _ _ => pg_tup (by rfl) (pgs_cons (pg_name (i := 2) sc_added.nd rfl (Or.inl rfl)) (pgs_cons (pg_name (i := 3) sc_added.nd rfl (Or.inl rfl)) pgs_nil))) (fun _ _ _ _ _ => pts_nil)
        (fun _ _ _ _ _ => pe_op op_add (pv 2) (pv 3))) pa_nil))), ?_⟩
    refine ⟨_, rfl, _, rfl, p, r, nv t, nv u, rfl, .inr ⟨hT, hU, fun D hD => ?_⟩⟩
    have sD : Same H (upd H D (.lst [])) := same_new hD _
    refine lc_zipT (by rw [nv_len, nv_len, hl]) (fun i H' => Same H H' ∧ H' D = some (.lst (((zi addZ t u).take i).map V.int))) ⟨sD, upd_same⟩ (fun i H' h => ⟨same_sqt h.1 hT, same_sqt h.1 hU⟩) (fun i x y T' H' hx hy h hT' => ?_) (fun H' h => ?_)
    · obtain ⟨sm, eD⟩ := h
      obtain ⟨n, hn, rfl⟩ := nv_get hx
      obtain ⟨m, hm, rfl⟩ := nv_get hy
      have hlt : i < t.length := (List.getElem?_eq_some_iff.mp hn).1
      have sT : Same H' (upd H' T' (.tup [.int ((n : Nat) : Int), .int ((m : Nat) : Int)])) := same_new hT' _
      refine ⟨T', _, rfl, SqT.of upd_same, rfl, _, _, rfl, _, _, rfl, rfl, ?_⟩
      refine ⟨rfl, _, rfl, _, rfl, _, _, rfl, rfl, ?_⟩
      refine ⟨_, sT _ _ eD, by rw [List.length_map, List.length_take]; exact sizeK (by omega), same_updL (sm.trans sT) hD, ?_⟩
      rw [upd_same, take_more (zi_get hn hm), List.map_append]
      rfl
    · obtain ⟨sm, eD⟩ := h
      have e2 : (zi addZ t u).take (nv t).length = zi addZ t u := List.take_of_length_le (by rw [nv_len, List.length_zipWith]; omega)
      rw [e2] at eD
      refine ⟨D, _, rfl, .inl ⟨SqL.of eD, fun z hz' => ?_⟩⟩
      have sZ : Same H (upd H' z (.tup ((zi addZ t u).map V.int))) := sm.trans (same_new hz' _)
      exact q _ z sZ (SqT.of upd_same)
theorem ok_w_joined (T : Txt K mg) : FnOk P w K mg base CX0 1 T.a_w_joined T.d_w_joined ["_law_one", "_law_other"] (sp_zip K maxZ) := by
  refine T.F_w_joined.ok sc_w_joined (fun vs H Q E h => ?_) (fun cdv A outer s H vs Q E hr h => ?_)
  · obtain ⟨p, r, t, u, rfl, _⟩ := h
    rfl
  · obtain ⟨p, r, t, u, rfl, hT, hU, hl, hz, q⟩ := h
    refine ⟨_, pss_one (ps_ret (pe_callTy call_tuple_of (by rfl) T.z_tuple boot_tuple (pa_cons
      (pe_lc (own := [("_law_left", 2), ("_law_right_here", 3)]) (g := gTup K 2 (gCons (gName 2) (gCons (gName 3) gNil))) (tt := tYes) rfl sc_w_joined.nd (pi_zipA (by rfl) T.z_zip (pa_cons (pv 0) (pa_cons (pv 1) pa_nil))) (blkOk_by (own := [("_law_left", 2), ("_law_right_here", 3)]) (N := N_w_joined) (sc := defScope s_w_joined) (by decide +kernel))
        (fun _ _ _ _ _ => pg_tup (by rfl) (pgs_cons (pg_name (i := 2) sc_w_joined.nd rfl (Or.inl rfl)) (pgs_cons (pg_name (i := 3) sc_w_joined.nd rfl (Or.inl rfl)) pgs_nil))) (fun _ _ _ _ _ => pts_nil)
        (fun _ _ _ _ _ => pe_callB (call_max2 rfl) (by rfl) T.z_max boot_max (pa_cons (pv 2) (pa_cons (pv 3) pa_nil)))) pa_nil))), ?_⟩
    refine ⟨_, rfl, _, rfl, p, r, nv t, nv u, rfl, .inr ⟨hT, hU, fun D hD => ?_⟩⟩
    have sD : Same H (upd H D (.lst [])) := same_new hD _
    refine lc_zipT (by rw [nv_len, nv_len, hl]) (fun i H' => Same H H' ∧ H' D = some (.lst (((zi maxZ t u).take i).map V.int))) ⟨sD, upd_same⟩ (fun i H' h => ⟨same_sqt h.1 hT, same_sqt h.1 hU⟩) (fun i x y T' H' hx hy h hT' => ?_) (fun H' h => ?_)
    · obtain ⟨sm, eD⟩ := h
      obtain ⟨n, hn, rfl⟩ := nv_get hx
      obtain ⟨m, hm, rfl⟩ := nv_get hy
      have hlt : i < t.length := (List.getElem?_eq_some_iff.mp hn).1
      have sT : Same H' (upd H' T' (.tup [.int ((n : Nat) : Int), .int ((m : Nat) : Int)])) := same_new hT' _
      refine ⟨T', _, rfl, SqT.of upd_same, rfl, _, _, rfl, _, _, rfl, rfl, ?_⟩
      refine ⟨rfl, _, rfl, _, rfl, _, _, rfl, ?_⟩
      refine ⟨_, sT _ _ eD, by rw [List.length_map, List.length_take]; exact sizeK (by omega), same_updL (sm.trans sT) hD, ?_⟩
      rw [upd_same, take_more (zi_get hn hm), List.map_append]
      rfl
    · obtain ⟨sm, eD⟩ := h
      have e2 : (zi maxZ t u).take (nv t).length = zi maxZ t u := List.take_of_length_le (by rw [nv_len, List.length_zipWith]; omega)
      rw [e2] at eD
      refine ⟨D, _, rfl, .inl ⟨SqL.of eD, fun z hz' => ?_⟩⟩
      have sZ : Same H (upd H' z (.tup ((zi maxZ t u).map V.int))) := sm.trans (same_new hz' _)
      exact q _ z sZ (SqT.of upd_same)
theorem ok_w_added (T : Txt K mg) : FnOk P w K mg base CX0 1 T.a_w_added T.d_w_added ["_law_one", "_law_other"] (sp_zip K addZ) := by
  refine T.F_w_added.ok sc_w_added (fun vs H Q E h => ?_) (fun cdv A outer s H vs Q E hr h => ?_)
  · obtain ⟨p, r, t, u, rfl, _⟩ := h
    rfl
  · obtain ⟨p, r, t, u, rfl, hT, hU, hl, hz, q⟩ := h
    refine ⟨_, pss_one (ps_ret (pe_callTy call_tuple_of (by rfl) T.z_tuple boot_tuple (pa_cons
      (pe_lc (own := [("_law_left", 2), ("_law_right_here", 3)]) (g := gTup K 2 (gCons (gName 2) (gCons (gName 3) gNil))) (tt := tYes) rfl sc_w_added.nd (pi_zipA (by rfl) T.z_zip (pa_cons (pv 0) (pa_cons (pv 1) pa_nil))) (blkOk_by (own := [("_law_left", 2), ("_law_right_here", 3)]) (N := N_w_added) (sc := defScope s_w_added) (by decide +kernel))
        (fun _ _ _ _ _ => pg_tup (by rfl) (pgs_cons (pg_name (i := 2) sc_w_added.nd rfl (Or.inl rfl)) (pgs_cons (pg_name (i := 3) sc_w_added.nd rfl (Or.inl rfl)) pgs_nil))) (fun _ _ _ _ _ => pts_nil)
        (fun _ _ _ _ _ => pe_op op_add (pv 2) (pv 3))) pa_nil))), ?_⟩
    refine ⟨_, rfl, _, rfl, p, r, nv t, nv u, rfl, .inr ⟨hT, hU, fun D hD => ?_⟩⟩
    have sD : Same H (upd H D (.lst [])) := same_new hD _
    refine lc_zipT (by rw [nv_len, nv_len, hl]) (fun i H' => Same H H' ∧ H' D = some (.lst (((zi addZ t u).take i).map V.int))) ⟨sD, upd_same⟩ (fun i H' h => ⟨same_sqt h.1 hT, same_sqt h.1 hU⟩) (fun i x y T' H' hx hy h hT' => ?_) (fun H' h => ?_)
    · obtain ⟨sm, eD⟩ := h
      obtain ⟨n, hn, rfl⟩ := nv_get hx
      obtain ⟨m, hm, rfl⟩ := nv_get hy
      have hlt : i < t.length := (List.getElem?_eq_some_iff.mp hn).1
      have sT : Same H' (upd H' T' (.tup [.int ((n : Nat) : Int), .int ((m : Nat) : Int)])) := same_new hT' _
      refine ⟨T', _, rfl, SqT.of upd_same, rfl, _, _, rfl, _, _, rfl, rfl, ?_⟩
      refine ⟨rfl, _, rfl, _, rfl, _, _, rfl, rfl, ?_⟩
      refine ⟨_, sT _ _ eD, by rw [List.length_map, List.length_take]; exact sizeK (by omega), same_updL (sm.trans sT) hD, ?_⟩
      rw [upd_same, take_more (zi_get hn hm), List.map_append]
      rfl
    · obtain ⟨sm, eD⟩ := h
      have e2 : (zi addZ t u).take (nv t).length = zi addZ t u := List.take_of_length_le (by rw [nv_len, List.length_zipWith]; omega)
      rw [e2] at eD
      refine ⟨D, _, rfl, .inl ⟨SqL.of eD, fun z hz' => ?_⟩⟩
      have sZ : Same H (upd H' z (.tup ((zi addZ t u).map V.int))) := sm.trans (same_new hz' _)
      exact q _ z sZ (SqT.of upd_same)
end
end K08

namespace K08
open PySem PySem.Spec PyProof.Rows L2 RZ L5 R7 XX
section
variable {P : Program} {w : World} {K : PySem.W.Frag} {mg : Str → Option Value} {base : Heap}
/-! ### fits -/
abbrev fitL (t u : List Nat) : List Bool := List.zipWith (fun a b => decide (a ≤ b)) t u
abbrev fitB (t u : List Nat) : Bool := (fitL t u).all id
theorem fit_get {t u : List Nat} {i n m : Nat} (h1 : t[i]? = some n) (h2 : u[i]? = some m) : (fitL t u)[i]? = some (decide (n ≤ m)) := by
  rw [List.getElem?_zipWith, h1, h2]
theorem all_take_step {l : List Bool} {i : Nat} {b : Bool} (h : l[i]? = some b) : (l.take (i + 1)).all id = ((l.take i).all id && b) := by
  rw [take_more h, List.all_append]
  show _ = _
  simp
def sp_fits (K : PySem.W.Frag) : Sp := fun vs H Q _ => ∃ (p r : Addr) (t u : List Nat), vs = [.ref p, .ref r] ∧ SqT K H p (nv t) ∧ SqT K H r (nv u) ∧ u.length = t.length ∧ ∀ H', Same H H' → Q (.bl (fitB t u)) H'
theorem ok_fits (T : Txt K mg) : FnOk P w K mg base CX0 1 T.a_fits T.d_fits ["one", "other"] (sp_fits K) := by
  refine T.F_fits.ok sc_fits (fun vs H Q E h => ?_) (fun cdv A outer s H vs Q E hr h => ?_)
  · obtain ⟨p, r, t, u, rfl, _⟩ := h
    rfl
  · obtain ⟨p, r, t, u, rfl, hT, hU, hl, q⟩ := h
    refine ⟨_, pss_cons (ps_for PassesOwn.never rfl (pi_zipA (by rfl) T.z_zip (pa_cons (pv 0) (pa_cons (pv 1) pa_nil))) (pg_tup (by rfl) (pgs_cons (pg_name (i := 2) sc_fits.nd rfl (Or.inl rfl)) (pgs_cons (pg_name (i := 3) sc_fits.nd rfl (Or.inl rfl)) pgs_nil)))
        (pss_one (ps_if (pt_cmpR op_gt (pv 2) (pv 3) (nomark _)) (pss_one (ps_ret pe_bl)) pss_nil)))
      (pss_one (ps_ret pe_bl)), ?_⟩
    refine ⟨_, rfl, _, rfl, p, r, nv t, nv u, rfl, .inr ⟨hT, hU, ?_⟩⟩
    refine for_zipT (xs := nv t) (ys := nv u) (by rw [nv_len, nv_len, hl]) (fun i σ H' => ∃ v2 v3 : Option V, σ = [some (.ref p), some (.ref r), v2, v3] ∧ Same H H' ∧ ((fitL t u).take i).all id = true) ⟨none, none, rfl, Same.refl H, rfl⟩ ?_ ?_ ?_
    · rintro i σ H' ⟨v2, v3, rfl, sm, _⟩
      exact ⟨same_sqt sm hT, same_sqt sm hU⟩
    · rintro i x y T' σ H' hx hy ⟨v2, v3, rfl, sm, ha⟩ hT'
      obtain ⟨n, hn, rfl⟩ := nv_get hx
      obtain ⟨m, hm, rfl⟩ := nv_get hy
      have sT : Same H' (upd H' T' (.tup [.int ((n : Nat) : Int), .int ((m : Nat) : Int)])) := same_new hT' _
      have st := all_take_step (fit_get hn hm)
      refine ⟨T', _, rfl, SqT.of upd_same, rfl, _, _, rfl, _, _, rfl, rfl, ?_⟩
      refine ⟨_, rfl, _, rfl, _, _, rfl, rfl, _, rfl, ite2 (fun c => ?_) (fun c => ?_)⟩
      · have c' := of_decide_eq_true c
        have ef : fitB t u = false := by
          rw [ha, Bool.true_and, decide_eq_false (show ¬ n ≤ m by omega)] at st
          show (fitL t u).all id = false
          rw [← List.take_append_drop (i + 1) (fitL t u), List.all_append, st, Bool.false_and]
        rw [ef] at q
        exact q _ (sm.trans sT)
      · have c' : ¬ ((n : Nat) : Int) > ((m : Nat) : Int) := fun z => c (decide_eq_true z)
        refine ⟨_, _, rfl, sm.trans sT, ?_⟩
        rw [st, ha, decide_eq_true (show n ≤ m by omega)]
        rfl
    · rintro σ H' ⟨v2, v3, rfl, sm, ha⟩
      have ef : fitB t u = true := by
        rw [List.take_of_length_le (by rw [nv_len, List.length_zipWith]; omega)] at ha
        exact ha
      rw [ef] at q
      exact q _ sm
end
end K08

namespace K08
open PySem PySem.Spec PyProof.Rows L2 RZ L5 R7 XX
section
variable {P : Program} {w : World} {K : PySem.W.Frag} {mg : Str → Option Value} {base : Heap}
/-! ### is_divided, is_least, least_of, has_great_exponent, limited_members, of tuples of one length -/
theorem fit_eq : ∀ t u : List Nat, fitB t u = M7.fitB t u
  | [], _ => rfl
  | _ :: _, [] => rfl
  | a :: t, b :: u => by
    show (decide (a ≤ b) && fitB t u) = (decide (a ≤ b) && M7.fitB t u)
    rw [fit_eq t u]
theorem any_take_step {l : List Bool} {i : Nat} {b : Bool} (h : l[i]? = some b) : (l.take (i + 1)).any id = ((l.take i).any id || b) := by
  rw [take_more h, List.any_append]
  simp
theorem any_drop {l : List Bool} {i : Nat} (h : (l.take i).any id = true) : l.any id = true := by
  rw [← List.take_append_drop i l, List.any_append, h, Bool.true_or]
theorem eqvAll_nats : ∀ t u : List Nat, PyData.eqvAll (t.map fun n => PyData.int ((n : Nat) : Int)) (u.map fun n => PyData.int ((n : Nat) : Int)) = decide (t = u)
  | [], [] => by simp [PyData.eqvAll]
  | [], _ :: _ => by simp [PyData.eqvAll]
  | _ :: _, [] => by simp [PyData.eqvAll]
  | a :: t, b :: u => by
    simp only [List.map_cons, PyData.eqvAll, PyData.eqv, eqvAll_nats t u]
    rw [show (((a : Nat) : Int) == ((b : Nat) : Int)) = decide (a = b) by
      rw [Bool.eq_iff_iff, beq_iff_eq, decide_eq_true_iff]
      omega, ← Bool.decide_and]
    exact decide_eq_decide.mpr (by simp)
theorem eqv_tupE (t u : List Nat) : PyData.eqv (encT t) (encT u) = decide (t = u) := by
  simp only [encT, PyData.eqv]
  exact eqvAll_nats t u
theorem tups_get {H : Hp} {rs : List Addr} {L : List (List Nat)} {i : Nat} {x : V} (hT : Tups K H rs L) (h : (rs.map V.ref)[i]? = some x) : ∃ a t, x = .ref a ∧ rs[i]? = some a ∧ L[i]? = some t ∧ SqT K H a (nv t) := by
  obtain ⟨a, ha, rfl⟩ := ref_get h
  obtain ⟨t, ht, hs⟩ := hT.get ha
  exact ⟨a, t, rfl, ha, ht, hs⟩
def sp_isd (K : PySem.W.Frag) : Sp := fun vs H Q _ => ∃ (p l : Addr) (t : List Nat) (rs : List Addr) (L : List (List Nat)), vs = [.ref p, .ref l] ∧ SqT K H p (nv t) ∧ SqA K H l (rs.map V.ref) ∧ Tups K H rs L ∧ (∀ u ∈ L, u.length = t.length) ∧ ∀ H', Same H H' → Q (.bl (L.any fun k => M7.fitB k t)) H'
theorem ok_isd (T : Txt K mg) : FnOk P w K mg base CX0 2 T.a_is_divided T.d_is_divided ["product", "products"] (sp_isd K) := by
  refine T.F_is_divided.ok sc_is_divided (fun vs H Q E h => ?_) (fun cdv A outer s H vs Q E hr h => ?_)
  · obtain ⟨p, l, t, rs, L, rfl, _⟩ := h
    rfl
  · obtain ⟨p, l, t, rs, L, rfl, hT, hA, hL, hd, q⟩ := h
    refine ⟨_, pss_cons (ps_for PassesOwn.never rfl (pi_any (pv 1)) (pg_name (i := 2) sc_is_divided.nd rfl (Or.inl rfl))
        (pss_one (ps_if (pt_val (pe_call (ok_fits T) hr (by rfl) T.m_fits T.F_fits.kp T.b_fits .nil pass0 (pa_cons (pv 2) (pa_cons (pv 0) pa_nil)))) (pss_one (ps_ret pe_bl)) pss_nil)))
      (pss_one (ps_ret pe_bl)), ?_⟩
    have el : (L.map fun k => M7.fitB k t).any id = L.any fun k => M7.fitB k t := by rw [List.any_map]; rfl
    refine ⟨_, rfl, l, rfl, for_any hA (fun i σ H' => ∃ v2 : Option V, σ = [some (.ref p), some (.ref l), v2] ∧ Same H H' ∧ ((L.map fun k => M7.fitB k t).take i).any id = false) ⟨none, rfl, Same.refl H, rfl⟩ (fun i σ' H' ⟨_, _, s, _⟩ => s) ?_ ?_⟩
    · rintro i x σ H' hx ⟨v2, rfl, sm, ha⟩
      obtain ⟨a, u, rfl, _, hu, hs⟩ := tups_get (hL.same sm) hx
      have hul := hd u (List.mem_of_getElem? hu)
      have st := any_take_step (l := L.map fun k => M7.fitB k t) (i := i) (b := M7.fitB u t) (by rw [List.getElem?_map, hu]; rfl)
      refine ⟨_, rfl, _, rfl, a, p, u, t, rfl, hs, same_sqt sm hT, hul.symm, fun H2 s2 => ⟨_, rfl, ?_⟩⟩
      rw [fit_eq]
      cases ef : M7.fitB u t with
      | true =>
        rw [ha, ef] at st
        have := any_drop st
        rw [el] at this
        rw [this] at q
        exact iteT (q _ (sm.trans s2))
      | false =>
        rw [ha, ef] at st
        exact iteF ⟨_, rfl, sm.trans s2, st⟩
    · rintro σ H' ⟨v2, rfl, sm, ha⟩
      have hlen : rs.length = L.length := hL.length
      rw [List.length_map, hlen, ← List.length_map (f := fun k => M7.fitB k t) (as := L), List.take_length, el] at ha
      rw [ha] at q
      exact q _ sm
theorem FunD.ok0 {x qual : Str} {st : Stmt} {f : Addr} {fd : FuncData} {N ps : List Str} {k : Nat} {sp : Sp} {dvs : List V} {kws : List (Str × V)} (F : FunD K x qual (defArgs st) (defBody st) (defScope st) dvs kws f fd) (S : FnScope N ps (defScope st)) (len : ∀ vs H Q E, sp vs H Q E → vs.length = ps.length)
    (hbody : ∀ (cdv : Value) (A : Around) (outer : List Env) (s : Shared) (H : Hp) (vs : List V) (Q : VK) (E : XK), Room k (A.deeper (envOfC qual (defScope st) s.heap.objs.size f cdv)) → sp vs H Q E →
      ∃ t, PSs (cxOf CX0 P w K mg base N qual (defScope st) f cdv A outer s H E).nox (defBody st) t ∧ t { nx := fun _ H' => Q .non H', rt := Q } (start N vs) H) : FnOk P w K mg base CX0 (k + 1) f fd ps sp := by
  obtain ⟨oc, od, dV, kV, doc, pm, an, cdv, ct, osl, rfl, lk, hcd, _, _⟩ := F.ex
  refine fn_of lk hcd S len fun A outer s H vs Q E hr hsp => ?_
  obtain ⟨t, h, q⟩ := hbody cdv A outer s H vs Q E hr hsp
  exact ⟨t, h.nox, q⟩
/-! ### least_of, where no more than 24 are kept -/
theorem keep_pre : ∀ (S kept : List (List Nat)), kept.length ≤ (S.foldl M7.takeN kept).length
  | [], _ => Nat.le_refl _
  | p :: S, kept => by
    refine Nat.le_trans ?_ (keep_pre S (M7.takeN kept p))
    unfold M7.takeN
    split
    · exact Nat.le_refl _
    · rw [List.length_append]
      exact Nat.le_succ _
theorem keep_sub : ∀ (S kept : List (List Nat)) (x : List Nat), x ∈ S.foldl M7.takeN kept → x ∈ kept ∨ x ∈ S
  | [], _, _, h => .inl h
  | p :: S, kept, x, h => by
    rcases keep_sub S (M7.takeN kept p) x h with h | h
    · have : x ∈ kept ∨ x = p := by
        revert h
        unfold M7.takeN
        split
        · exact .inl
        · intro h
          rcases List.mem_append.mp h with h | h
          · exact .inl h
          · exact .inr (List.mem_singleton.mp h)
      rcases this with h | h
      · exact .inl h
      · exact .inr (h ▸ List.mem_cons_self)
    · exact .inr (List.mem_cons_of_mem _ h)
theorem sqt_but {H H' : Hp} {z a : Addr} {xs ys : List V} (hz : H z = some (.lst ys)) (st : ∀ b o, b ≠ z → H b = some o → H' b = some o) (h : SqT K H a xs) : SqT K H' a xs := by
  have ne : ∀ {o : HO}, H a = some o → o ≠ .lst ys → a ≠ z := fun {o} e n k => by
    rw [k, hz] at e
    exact n (Option.some.inj e).symm
  rcases h with (h | ⟨o, h⟩) | h
  · exact .inl (.inl (st _ _ (ne h fun k => nomatch k) h))
  · exact .inl (.inr ⟨o, st _ _ (ne h fun k => nomatch k) h⟩)
  · exact .inr h
theorem tups_but {H H' : Hp} {z : Addr} {ys : List V} (hz : H z = some (.lst ys)) (st : ∀ b o, b ≠ z → H b = some o → H' b = some o) : ∀ {rs : List Addr} {L : List (List Nat)}, Tups K H rs L → Tups K H' rs L
  | _, _, .nil => .nil
  | _, _, .cons h t => .cons (sqt_but hz st h) (tups_but hz st t)
def sp_least (K : PySem.W.Frag) : Sp := fun vs H Q _ => ∃ (l : Addr) (rs : List Addr) (L : List (List Nat)) (d B : Nat), vs = [.ref l, .int 25] ∧ SqA K H l (rs.map V.ref) ∧ Tups K H rs L ∧ L.length < 64 ∧ 1 ≤ d ∧ (∀ t ∈ L, t.length = d) ∧ (∀ t ∈ L, ∀ e ∈ t, e < B) ∧
  ∀ H' q rs' M, Same H H' → H' q = some (.lst (rs'.map V.ref)) → Tups K H' rs' M → ((M7.leastN L).length ≤ 24 → M = M7.leastN L) → (24 < (M7.leastN L).length → 24 < M.length) → M.length ≤ 64 → Q (.ref q) H'
theorem ok_least (T : Txt K mg) : FnOk P w K mg base CX0 3 T.a_least_of T.d_least_of ["products", "most"] (sp_least K) := by
  refine K08.FunD.ok0 T.F_least_of sc_least_of (fun vs H Q E h => ?_) (fun cdv A outer s H vs Q E hr h => ?_)
  · obtain ⟨l, rs, L, d, B, rfl, _⟩ := h
    rfl
  · obtain ⟨l, rs, L, d, B, rfl, hA, hL, hz, hd1, hd, hB, q⟩ := h
    refine ⟨_, pss_cons (ps_set (i := 2) sc_least_of.nd rfl (Or.inl rfl) (pe_lst pa_nil))
      (pss_cons (ps_for PassesOwn.never rfl (pi_list (pe_sset rfl hr.units (by rfl) T.z_sorted (by rfl) T.z_set (pv 0))) (pg_name (i := 3) sc_least_of.nd rfl (Or.inl rfl))
        (pss_cons (ps_if (pt_cmpR op_eq (pe_callB call_len_seq (by rfl) T.z_len boot_len (pa_cons (pv 2) pa_nil)) (pv 1) (nomark _)) (pss_one ps_break) pss_nil)
        (pss_one (ps_if (pt_not (pt_val (pe_call (ok_isd T) hr (by rfl) T.m_is_divided T.F_is_divided.kp T.b_is_divided .nil pass0 (pa_cons (pv 3) (pa_cons (pv 2) pa_nil))))) (pss_one (ps_expr (pe_bm PySem.F.plainAttrs_list PySem.F.slot_list_append PySem.F.type_list_append mt_append (pv 2) (pa_cons (pv 3) pa_nil)))) pss_nil))))
      (pss_one (ps_ret (pv 2)))), ?_⟩
    refine ⟨by show 0 ≤ sizeLine; exact Nat.zero_le _, fun z hz0 => ?_⟩
    have sz := same_new hz0 (.lst [])
    refine ⟨_, rfl, l, rs, L, d, B, rfl, hA.same sz, hL.same sz, hz, hd1, hd, hB, fun H1 y qs s1 hyf hy hT => ?_⟩
    have S1 := sz.trans s1
    have hlc : qs.length = (M7.canonN L).length := hT.length
    have hdc : ∀ t ∈ M7.canonN L, t.length = d := fun t ht => hd t (M7.mem_canon.mp ht)
    have keep : M7.keepN (M7.canonN L) = M7.leastN L := M7.keep_least hd
    have pre : ∀ i, (((M7.canonN L).take i).foldl M7.takeN []).length ≤ (M7.leastN L).length := fun i => by
      have := keep_pre ((M7.canonN L).drop i) (((M7.canonN L).take i).foldl M7.takeN [])
      rw [← List.foldl_append, List.take_append_drop] at this
      rw [← keep]
      exact this
    have hyz : y ≠ z := fun e => by
      rw [e, upd_same] at hyf
      cases hyf
    have hz1 : H1 z = some (.lst []) := s1 _ _ upd_same
    have tups' : ∀ H', (∀ b o, b ≠ z → H1 b = some o → H' b = some o) → Tups K H' qs (M7.canonN L) := fun H' st => tups_but hz1 st hT
    refine ⟨y, rfl, ⟨_, SqL.of hy⟩, ?_⟩
    refine for_list (K := K) (a := y) (xs := qs.map V.ref) (fun i σ H' => ∃ (v3 : Option V) (ks : List Addr), σ = [some (.ref l), some (.int 25), some (.ref z), v3] ∧ (∀ b o, b ≠ z → H1 b = some o → H' b = some o) ∧ H' z = some (.lst (ks.map V.ref)) ∧ Tups K H' ks (((M7.canonN L).take i).foldl M7.takeN []) ∧ (((M7.canonN L).take i).foldl M7.takeN []).length ≤ 25)
      ⟨none, [], rfl, fun _ _ _ h => h, s1 _ _ upd_same, .nil, Nat.zero_le _⟩ ?_ ?_ ?_
    · rintro i σ H' _ ⟨v3, ks, rfl, st, _, _, _⟩
      exact SqL.of (st y _ hyz hy)
    · rintro i x σ H' hx ⟨v3, ks, rfl, st, hk, hT', h25⟩
      obtain ⟨a, t, rfl, _, ht, hs⟩ := tups_get (tups' H' st) hx
      have htd := hdc t (List.mem_of_getElem? ht)
      have hkl : ks.length = (((M7.canonN L).take i).foldl M7.takeN []).length := hT'.length
      have hp := pre i
      have st1 : ((M7.canonN L).take (i + 1)).foldl M7.takeN [] = M7.takeN (((M7.canonN L).take i).foldl M7.takeN []) t := by
        rw [take_more ht, List.foldl_append]
        rfl
      refine ⟨_, rfl, z, _, rfl, .inl (SqL.of hk), _, rfl, rfl, _, rfl, ?_⟩
      by_cases full : ks.length = 25
      · rw [decide_eq_true (by rw [List.length_map, full]; rfl)]
        refine iteT ⟨_, rfl, q H' z ks _ (fun b o h => st b o (ne_of_none h hz0) (S1 b o h)) hk hT' (fun h => ?_) (fun _ => by omega) (by omega)⟩
        omega
      rw [decide_eq_false (fun e => by have := V.int.inj e; rw [List.length_map] at this; omega)]
      refine iteF ⟨_, rfl, _, rfl, a, z, t, ks, _, rfl, hs, .inl (SqL.of hk), hT', fun u hu => ?_, fun H2 s2 => ⟨_, rfl, ?_⟩⟩
      · rcases keep_sub _ [] u hu with h | h
        · cases h
        · rw [htd, hdc u (List.mem_of_mem_take h)]
      cases ea : (((M7.canonN L).take i).foldl M7.takeN []).any fun k => M7.fitB k t with
      | true =>
        refine iteF ⟨_, ks, rfl, fun b o n h => s2 b o (st b o n h), s2 _ _ hk, ?_⟩
        rw [st1, M7.takeN, if_pos ea]
        exact ⟨hT'.same s2, h25⟩
      | false =>
        have hk2 := s2 _ _ hk
        refine iteT ⟨_, rfl, .inl ⟨rfl, _, SqL.of hk2⟩, _, rfl, z, _, _, rfl, rfl, hk2, by rw [List.length_map]; exact sizeK (by omega), ?_⟩
        refine ⟨_, ks ++ [a], rfl, fun b o n h => ?_, ?_, ?_⟩
        · rw [upd_ne n]
          exact s2 b o (st b o n h)
        · rw [upd_same, List.map_append]
          rfl
        · rw [st1, M7.takeN, if_neg (by rw [ea]; decide)]
          exact ⟨((hT'.same s2).updL hk2).app (.cons (sqt_updL hk2 (same_sqt s2 hs)) .nil), by rw [List.length_append, List.length_singleton]; omega⟩
    · rintro σ H' ⟨v3, ks, rfl, st, hk, hT', h25⟩
      rw [List.length_map, hlc, List.take_length] at hT' h25
      have keep' : (M7.canonN L).foldl M7.takeN [] = M7.leastN L := keep
      rw [keep'] at hT' h25
      exact ⟨_, rfl, q H' z ks _ (fun b o h => st b o (ne_of_none h hz0) (S1 b o h)) hk hT' (fun _ => rfl) id (by omega)⟩
end
end K08

namespace K08
open PySem PySem.Spec PyProof.Rows L2 RZ L5 R7 XX
section
variable {P : Program} {w : World} {K : PySem.W.Frag} {mg : Str → Option Value} {base : Heap}
/-! ### is_least_of, has_great_exponent -/
def sp_isl (K : PySem.W.Frag) : Sp := fun vs H Q _ => ∃ (p l : Addr) (t : List Nat) (rs : List Addr) (L : List (List Nat)), vs = [.ref p, .ref l] ∧ SqT K H p (nv t) ∧ SqA K H l (rs.map V.ref) ∧ Tups K H rs L ∧ (∀ u ∈ L, u.length = t.length) ∧ ∀ H', Same H H' → Q (.bl (M7.minB L t)) H'
theorem ok_isl (T : Txt K mg) : FnOk P w K mg base CX0 2 T.a_is_least_of T.d_is_least_of ["product", "products"] (sp_isl K) := by
  refine T.F_is_least_of.ok sc_is_least_of (fun vs H Q E h => ?_) (fun cdv A outer s H vs Q E hr h => ?_)
  · obtain ⟨p, l, t, rs, L, rfl, _⟩ := h
    rfl
  · obtain ⟨p, l, t, rs, L, rfl, hT, hA, hL, hd, q⟩ := h
    refine ⟨_, pss_cons (ps_for PassesOwn.never rfl (pi_any (pv 1)) (pg_name (i := 2) sc_is_least_of.nd rfl (Or.inl rfl))
        (pss_one (ps_if (PW.pt (pw_and (pt_cmpR (show OpR _ _ (rNeD K) from op_neD hr.units) (pv 2) (pv 0) (nomark _)) (pw_and1 (pt_val (pe_call (ok_fits T) hr (by rfl) T.m_fits T.F_fits.kp T.b_fits .nil pass0 (pa_cons (pv 2) (pa_cons (pv 0) pa_nil))))))) (pss_one (ps_ret pe_bl)) pss_nil)))
      (pss_one (ps_ret pe_bl)), ?_⟩
    have mn : M7.minB L t = !((L.map fun k => decide (k ≠ t) && M7.fitB k t).any id) := by
      unfold M7.minB
      rw [List.any_map]
      rfl
    refine ⟨_, rfl, l, rfl, for_any hA (fun i σ H' => ∃ v2 : Option V, σ = [some (.ref p), some (.ref l), v2] ∧ Same H H' ∧ ((L.map fun k => decide (k ≠ t) && M7.fitB k t).take i).any id = false) ⟨none, rfl, Same.refl H, rfl⟩ (fun i σ' H' ⟨_, _, s, _⟩ => s) ?_ ?_⟩
    · rintro i x σ H' hx ⟨v2, rfl, sm, ha⟩
      obtain ⟨a, u, rfl, _, hu, hs⟩ := tups_get (hL.same sm) hx
      have hul := hd u (List.mem_of_getElem? hu)
      have st := any_take_step (l := L.map fun k => decide (k ≠ t) && M7.fitB k t) (i := i) (b := decide (u ≠ t) && M7.fitB u t) (by rw [List.getElem?_map, hu]; rfl)
      have hT' := same_sqt sm hT
      refine ⟨_, rfl, _, rfl, _, _, dp_tup hs, dp_tup hT', shaped_tup u, shaped_tup t, _, rfl, ?_⟩
      rw [eqv_tupE]
      by_cases hut : u = t
      · rw [decide_eq_true hut]
        refine iteF (iteF ⟨_, rfl, sm, ?_⟩)
        rw [st, ha, decide_eq_false (fun h => h hut), Bool.false_and]
        rfl
      · rw [decide_eq_false hut]
        refine iteT ⟨_, rfl, _, rfl, a, p, u, t, rfl, hs, hT', hul.symm, fun H2 s2 => ⟨_, rfl, ?_⟩⟩
        rw [fit_eq]
        cases ef : M7.fitB u t with
        | true =>
          rw [ha, ef, decide_eq_true (show u ≠ t from hut)] at st
          have := any_drop st
          rw [mn, this] at q
          exact iteT (q _ (sm.trans s2))
        | false =>
          rw [ha, ef, Bool.and_false] at st
          exact iteF ⟨_, rfl, sm.trans s2, st⟩
    · rintro σ H' ⟨v2, rfl, sm, ha⟩
      have hlen : rs.length = L.length := hL.length
      rw [List.length_map, hlen, ← List.length_map (f := fun k => decide (k ≠ t) && M7.fitB k t) (as := L), List.take_length] at ha
      rw [mn, ha] at q
      exact q _ sm
def hugeB (t : List Nat) : Bool := t.any fun e => decide (60 < e)
/-- a least member has an exponent above 60 -/
def bigB (L : List (List Nat)) : Bool := L.any fun t => hugeB t && M7.minB L t
def sp_hge (K : PySem.W.Frag) : Sp := fun vs H Q _ => ∃ (l : Addr) (rs : List Addr) (L : List (List Nat)) (d : Nat), vs = [.ref l] ∧ SqA K H l (rs.map V.ref) ∧ Tups K H rs L ∧ 1 ≤ d ∧ (∀ t ∈ L, t.length = d) ∧ ∀ H', Same H H' → Q (.bl (bigB L)) H'
theorem ok_hge (T : Txt K mg) : FnOk P w K mg base CX0 3 T.a_has_great_exponent T.d_has_great_exponent ["products"] (sp_hge K) := by
  refine T.F_has_great_exponent.ok sc_has_great_exponent (fun vs H Q E h => ?_) (fun cdv A outer s H vs Q E hr h => ?_)
  · obtain ⟨l, rs, L, d, rfl, _⟩ := h
    rfl
  · obtain ⟨l, rs, L, d, rfl, hA, hL, hd1, hd, q⟩ := h
    refine ⟨_, pss_cons (ps_for PassesOwn.never rfl (pi_any (pv 0)) (pg_name (i := 1) sc_has_great_exponent.nd rfl (Or.inl rfl))
        (pss_one (ps_if (PW.pt (pw_and (pt_cmpR op_gt (pe_callB (cr_maxT rfl) (by rfl) T.z_max boot_max (pa_cons (pv 1) pa_nil)) (pe_glob (v := .int 60) rfl T.c_MAX_EXPONENT ⟨_, rfl⟩) (nomark _))
          (pw_and1 (pt_val (pe_call (ok_isl T) hr (by rfl) T.m_is_least_of T.F_is_least_of.kp T.b_is_least_of .nil pass0 (pa_cons (pv 1) (pa_cons (pv 0) pa_nil))))))) (pss_one (ps_ret pe_bl)) pss_nil)))
      (pss_one (ps_ret pe_bl)), ?_⟩
    have el : (L.map fun t => hugeB t && M7.minB L t).any id = bigB L := by rw [List.any_map]; rfl
    refine ⟨_, rfl, l, rfl, for_any hA (fun i σ H' => ∃ v1 : Option V, σ = [some (.ref l), v1] ∧ Same H H' ∧ ((L.map fun t => hugeB t && M7.minB L t).take i).any id = false) ⟨none, rfl, Same.refl H, rfl⟩ (fun i σ' H' ⟨_, _, s, _⟩ => s) ?_ ?_⟩
    · rintro i x σ H' hx ⟨v1, rfl, sm, ha⟩
      obtain ⟨a, u, rfl, _, hu, hs⟩ := tups_get (hL.same sm) hx
      have hm := List.mem_of_getElem? hu
      have hul := hd u hm
      have st := any_take_step (l := L.map fun t => hugeB t && M7.minB L t) (i := i) (b := hugeB u && M7.minB L u) (by rw [List.getElem?_map, hu]; rfl)
      refine ⟨_, rfl, a, _, rfl, by rw [← nv_ints]; exact hs, by rw [List.length_map]; omega, fun m hm2 hmax => ?_⟩
      obtain ⟨e, he, rfl⟩ := List.mem_map.mp hm2
      have hg : hugeB u = decide (((e : Nat) : Int) > 60) := by
        rw [Bool.eq_iff_iff, decide_eq_true_iff]
        unfold hugeB
        rw [List.any_eq_true]
        constructor
        · rintro ⟨f, hf, h⟩
          have := of_decide_eq_true h
          have := hmax _ (List.mem_map_of_mem (f := fun n : Nat => ((n : Nat) : Int)) hf)
          omega
        · intro h
          exact ⟨e, he, decide_eq_true (by omega)⟩
      refine ⟨_, _, rfl, rfl, _, rfl, ?_⟩
      rw [← hg]
      cases eh : hugeB u with
      | false =>
        rw [ha, eh, Bool.false_and] at st
        exact iteF (iteF ⟨_, rfl, sm, st⟩)
      | true =>
        refine iteT ⟨_, rfl, _, rfl, a, l, u, rs, L, rfl, hs, hA.same sm, hL.same sm, fun v hv => by rw [hul, hd v hv], fun H2 s2 => ⟨_, rfl, ?_⟩⟩
        cases em : M7.minB L u with
        | true =>
          rw [ha, eh, em] at st
          have := any_drop st
          rw [el] at this
          rw [this] at q
          exact iteT (q _ (sm.trans s2))
        | false =>
          rw [ha, eh, em] at st
          exact iteF ⟨_, rfl, sm.trans s2, st⟩
    · rintro σ H' ⟨v1, rfl, sm, ha⟩
      have hlen : rs.length = L.length := hL.length
      rw [List.length_map, hlen, ← List.length_map (f := fun t => hugeB t && M7.minB L t) (as := L), List.take_length, el] at ha
      rw [ha] at q
      exact q _ sm
end
end K08

/-! what a list of tuples tells: the tuples above it; the least ones of lists that tell the same are the same -/
namespace M7
/-- above one of them -/
abbrev Up (L : List (List Nat)) (t : List Nat) : Prop := ∃ k ∈ L, fitB k t = true
abbrev Len (d : Nat) (L : List (List Nat)) : Prop := ∀ t ∈ L, t.length = d
theorem min_true {A : List (List Nat)} {p : List Nat} : minB A p = true ↔ ∀ q ∈ A, fitB q p = true → q = p := by
  constructor
  · intro h q hq hf
    cases e : decide (q = p) with
    | true => exact of_decide_eq_true e
    | false =>
      have := min_false.mpr ⟨q, hq, of_decide_eq_false e, hf⟩
      rw [h] at this
      cases this
  · intro h
    cases e : minB A p with
    | true => rfl
    | false =>
      obtain ⟨q, h1, h2, h3⟩ := min_false.mp e
      exact absurd (h q h1 h3) h2
theorem mem_least {L : List (List Nat)} {x : List Nat} : x ∈ leastN L ↔ x ∈ L ∧ ∀ q ∈ L, fitB q x = true → q = x := by
  unfold leastN
  rw [List.mem_filter, mem_canon, min_true]
  constructor
  · rintro ⟨h1, h2⟩
    exact ⟨h1, fun q hq => h2 q (mem_canon.mpr hq)⟩
  · rintro ⟨h1, h2⟩
    exact ⟨h1, fun q hq => h2 q (mem_canon.mp hq)⟩
theorem asc_least {d : Nat} {L : List (List Nat)} (h : Len d L) : Asc (leastN L) := (asc_canon h).filter _
theorem len_least {d : Nat} {L : List (List Nat)} (h : Len d L) : Len d (leastN L) := fun t ht => h t (mem_least.mp ht).1
theorem up_least {d : Nat} {L : List (List Nat)} (h : Len d L) {t : List Nat} : Up (leastN L) t ↔ Up L t := by
  constructor
  · rintro ⟨k, hk, hf⟩
    exact ⟨k, (mem_least.mp hk).1, hf⟩
  · rintro ⟨k, hk, hf⟩
    have hd : ∀ y ∈ canonN L, y.length = d := fun y hy => h y (mem_canon.mp hy)
    obtain ⟨m, h1, h2, h3⟩ := below hd k.sum k (Nat.le_refl _) (mem_canon.mpr hk)
    exact ⟨m, List.mem_filter.mpr ⟨h1, h2⟩, fit_trans (by rw [h k hk, hd m h1]) h3 hf⟩
theorem least_sub {d : Nat} {L M : List (List Nat)} (hL : Len d L) (hM : Len d M) (h : ∀ t, t.length = d → (Up L t ↔ Up M t)) {x : List Nat} (hx : x ∈ leastN L) : x ∈ leastN M := by
  obtain ⟨h1, h2⟩ := mem_least.mp hx
  have hxd := hL x h1
  -- whatever of M lies below x is x
  have key : ∀ m ∈ M, fitB m x = true → m = x := fun m hm hf => by
    obtain ⟨l, hl, hlm⟩ := (h m (hM m hm)).mpr ⟨m, hm, fit_refl m⟩
    have e := h2 l hl (fit_trans (by rw [hM m hm, hL l hl]) hlm hf)
    subst e
    exact (fit_anti (by rw [hM m hm, hxd]) hlm hf).symm
  obtain ⟨m, hm, hf⟩ := (h x hxd).mp ⟨x, h1, fit_refl x⟩
  have e := key m hm hf
  subst e
  exact mem_least.mpr ⟨hm, key⟩
/-- lists that tell the same have the same least ones -/
theorem least_ext {d : Nat} {L M : List (List Nat)} (hL : Len d L) (hM : Len d M) (h : ∀ t, t.length = d → (Up L t ↔ Up M t)) : leastN L = leastN M :=
  asc_unique (asc_least hL) (asc_least hM) fun x => ⟨least_sub hL hM h, least_sub hM hL fun t ht => (h t ht).symm⟩
theorem up_app {L M : List (List Nat)} {t : List Nat} : Up (L ++ M) t ↔ Up L t ∨ Up M t := by
  constructor
  · rintro ⟨k, hk, hf⟩
    rcases List.mem_append.mp hk with h | h
    · exact .inl ⟨k, h, hf⟩
    · exact .inr ⟨k, h, hf⟩
  · rintro (⟨k, hk, hf⟩ | ⟨k, hk, hf⟩)
    · exact ⟨k, List.mem_append_left _ hk, hf⟩
    · exact ⟨k, List.mem_append_right _ hk, hf⟩
/-- each of the one with each of the other -/
abbrev eachF (f : Nat → Nat → Nat) (L M : List (List Nat)) : List (List Nat) := L.flatMap fun t => M.map fun u => List.zipWith f t u
theorem up_each {f : Nat → Nat → Nat} {L M : List (List Nat)} {t : List Nat} : Up (eachF f L M) t ↔ ∃ a ∈ L, ∃ b ∈ M, fitB (List.zipWith f a b) t = true := by
  constructor
  · rintro ⟨k, hk, hf⟩
    obtain ⟨a, ha, h2⟩ := List.mem_flatMap.mp hk
    obtain ⟨b, hb, rfl⟩ := List.mem_map.mp h2
    exact ⟨a, ha, b, hb, hf⟩
  · rintro ⟨a, ha, b, hb, hf⟩
    exact ⟨_, List.mem_flatMap.mpr ⟨a, ha, List.mem_map.mpr ⟨b, hb, rfl⟩⟩, hf⟩
theorem len_each {f : Nat → Nat → Nat} {d : Nat} {L M : List (List Nat)} (hL : Len d L) (hM : Len d M) : Len d (eachF f L M) := fun t ht => by
  obtain ⟨a, ha, h2⟩ := List.mem_flatMap.mp ht
  obtain ⟨b, hb, rfl⟩ := List.mem_map.mp h2
  rw [List.length_zipWith, hL a ha, hM b hb, Nat.min_self]
/-- f grows in both places -/
structure Grows (f : Nat → Nat → Nat) : Prop where
  mono : ∀ a b c e, a ≤ c → b ≤ e → f a b ≤ f c e
theorem grows_add : Grows (· + ·) := ⟨fun _ _ _ _ h k => Nat.add_le_add h k⟩
theorem grows_max : Grows max := ⟨fun a b c e h k => by omega⟩
theorem zip_fit {f : Nat → Nat → Nat} (g : Grows f) : ∀ {a b c e : List Nat}, c.length = a.length → b.length = a.length → e.length = a.length → fitB a c = true → fitB b e = true → fitB (List.zipWith f a b) (List.zipWith f c e) = true
  | [], _, _, _, _, _, _, _, _ => by simp [fitB]
  | _ :: _, [], _, _, _, h, _, _, _ => by simp at h
  | _ :: _, _ :: _, [], _, h, _, _, _, _ => by simp at h
  | _ :: _, _ :: _, _ :: _, [], _, _, h, _, _ => by simp at h
  | x :: a, y :: b, z :: c, v :: e, h1, h2, h3, k1, k2 => by
    rw [fit_cons] at k1 k2
    show fitB (f x y :: List.zipWith f a b) (f z v :: List.zipWith f c e) = true
    rw [fit_cons]
    exact ⟨g.mono _ _ _ _ k1.1 k2.1, zip_fit g (by simpa using h1) (by simpa using h2) (by simpa using h3) k1.2 k2.2⟩
/-- least ones may be taken before or behind -/
theorem each_least {f : Nat → Nat → Nat} (g : Grows f) {d : Nat} {L M : List (List Nat)} (hL : Len d L) (hM : Len d M) : leastN (eachF f (leastN L) (leastN M)) = leastN (eachF f L M) := by
  refine least_ext (len_each (len_least hL) (len_least hM)) (len_each hL hM) fun t ht => ?_
  rw [up_each, up_each]
  constructor
  · rintro ⟨a, ha, b, hb, hf⟩
    exact ⟨a, (mem_least.mp ha).1, b, (mem_least.mp hb).1, hf⟩
  · rintro ⟨a, ha, b, hb, hf⟩
    obtain ⟨a', ha', fa⟩ := (up_least hL).mpr ⟨a, ha, fit_refl a⟩
    obtain ⟨b', hb', fb⟩ := (up_least hM).mpr ⟨b, hb, fit_refl b⟩
    have la := len_least hL a' ha'
    have lb := len_least hM b' hb'
    have l1 := hL a ha
    have l2 := hM b hb
    exact ⟨a', ha', b', hb', fit_trans (by rw [List.length_zipWith, List.length_zipWith, la, lb, l1, l2]) (zip_fit g (by rw [la, l1]) (by rw [la, lb]) (by rw [la, l2]) fa fb) hf⟩
theorem app_least {d : Nat} {L M : List (List Nat)} (hL : Len d L) (hM : Len d M) : leastN (leastN L ++ leastN M) = leastN (L ++ M) := by
  refine least_ext (d := d) (fun t ht => ?_) (fun t ht => ?_) fun t ht => ?_
  · rcases List.mem_append.mp ht with h | h
    · exact len_least hL t h
    · exact len_least hM t h
  · rcases List.mem_append.mp ht with h | h
    · exact hL t h
    · exact hM t h
  · rw [up_app, up_app, up_least hL, up_least hM]
theorem least_least {d : Nat} {L : List (List Nat)} (hL : Len d L) : leastN (leastN L) = leastN L := least_ext (len_least hL) hL fun t _ => up_least hL
end M7

/-! sums, meets and products of what lists tell: laws of arithmetic -/
namespace M7
theorem zip_comm {f : Nat → Nat → Nat} (h : ∀ a b, f a b = f b a) : ∀ a b : List Nat, List.zipWith f a b = List.zipWith f b a
  | [], [] => rfl
  | [], _ :: _ => rfl
  | _ :: _, [] => rfl
  | x :: a, y :: b => by
    show f x y :: List.zipWith f a b = f y x :: List.zipWith f b a
    rw [h x y, zip_comm h a b]
theorem zip_assoc {f : Nat → Nat → Nat} (h : ∀ a b c, f (f a b) c = f a (f b c)) : ∀ a b c : List Nat, List.zipWith f (List.zipWith f a b) c = List.zipWith f a (List.zipWith f b c)
  | [], _, _ => rfl
  | _ :: _, [], _ => rfl
  | _ :: _, _ :: _, [] => rfl
  | x :: a, y :: b, z :: c => by
    show f (f x y) z :: List.zipWith f (List.zipWith f a b) c = f x (f y z) :: List.zipWith f a (List.zipWith f b c)
    rw [h x y z, zip_assoc h a b c]
theorem each_comm {f : Nat → Nat → Nat} (h : ∀ a b, f a b = f b a) {d : Nat} {L M : List (List Nat)} (hL : Len d L) (hM : Len d M) : leastN (eachF f L M) = leastN (eachF f M L) := by
  refine least_ext (len_each hL hM) (len_each hM hL) fun t _ => ?_
  rw [up_each, up_each]
  constructor
  · rintro ⟨a, ha, b, hb, hf⟩
    exact ⟨b, hb, a, ha, by rw [zip_comm h b a]; exact hf⟩
  · rintro ⟨a, ha, b, hb, hf⟩
    exact ⟨b, hb, a, ha, by rw [zip_comm h b a]; exact hf⟩
theorem each_assoc {f : Nat → Nat → Nat} (h : ∀ a b c, f (f a b) c = f a (f b c)) {d : Nat} {L M N : List (List Nat)} (hL : Len d L) (hM : Len d M) (hN : Len d N) : leastN (eachF f (eachF f L M) N) = leastN (eachF f L (eachF f M N)) := by
  refine least_ext (len_each (len_each hL hM) hN) (len_each hL (len_each hM hN)) fun t _ => ?_
  rw [up_each, up_each]
  constructor
  · rintro ⟨p, hp, c, hc, hf⟩
    obtain ⟨a, ha, h2⟩ := List.mem_flatMap.mp hp
    obtain ⟨b, hb, rfl⟩ := List.mem_map.mp h2
    exact ⟨a, ha, _, List.mem_flatMap.mpr ⟨b, hb, List.mem_map.mpr ⟨c, hc, rfl⟩⟩, by rw [← zip_assoc h]; exact hf⟩
  · rintro ⟨a, ha, p, hp, hf⟩
    obtain ⟨b, hb, h2⟩ := List.mem_flatMap.mp hp
    obtain ⟨c, hc, rfl⟩ := List.mem_map.mp h2
    exact ⟨_, List.mem_flatMap.mpr ⟨a, ha, List.mem_map.mpr ⟨b, hb, rfl⟩⟩, c, hc, by rw [zip_assoc h]; exact hf⟩
theorem each_dist {f : Nat → Nat → Nat} {d : Nat} {L M N : List (List Nat)} (hL : Len d L) (hM : Len d M) (hN : Len d N) : leastN (eachF f L (M ++ N)) = leastN (eachF f L M ++ eachF f L N) := by
  have hMN : Len d (M ++ N) := fun t ht => (List.mem_append.mp ht).elim (hM t) (hN t)
  refine least_ext (len_each hL hMN) (fun t ht => (List.mem_append.mp ht).elim (len_each hL hM t) (len_each hL hN t)) fun t _ => ?_
  rw [up_app, up_each, up_each, up_each]
  constructor
  · rintro ⟨a, ha, b, hb, hf⟩
    rcases List.mem_append.mp hb with hb | hb
    · exact .inl ⟨a, ha, b, hb, hf⟩
    · exact .inr ⟨a, ha, b, hb, hf⟩
  · rintro (⟨a, ha, b, hb, hf⟩ | ⟨a, ha, b, hb, hf⟩)
    · exact ⟨a, ha, b, List.mem_append_left _ hb, hf⟩
    · exact ⟨a, ha, b, List.mem_append_right _ hb, hf⟩
theorem app_comm {d : Nat} {L M : List (List Nat)} (hL : Len d L) (hM : Len d M) : leastN (L ++ M) = leastN (M ++ L) :=
  least_ext (fun t ht => (List.mem_append.mp ht).elim (hL t) (hM t)) (fun t ht => (List.mem_append.mp ht).elim (hM t) (hL t)) fun t _ => by
    rw [up_app, up_app]
    exact Or.comm
theorem app_self {d : Nat} {L : List (List Nat)} (hL : Len d L) : leastN (L ++ L) = leastN L :=
  least_ext (fun t ht => (List.mem_append.mp ht).elim (hL t) (hL t)) hL fun t _ => by
    rw [up_app]
    exact or_self_iff
/-- above both -/
theorem max_fit : ∀ {a b t : List Nat}, b.length = a.length → t.length = a.length → (fitB (List.zipWith max a b) t = true ↔ fitB a t = true ∧ fitB b t = true)
  | [], [], [], _, _ => by simp [fitB]
  | [], _ :: _, _, h, _ => by simp at h
  | [], [], _ :: _, _, h => by simp at h
  | _ :: _, [], _, h, _ => by simp at h
  | _ :: _, _ :: _, [], _, h => by simp at h
  | x :: a, y :: b, z :: t, h1, h2 => by
    show fitB (max x y :: List.zipWith max a b) (z :: t) = true ↔ _
    rw [fit_cons, fit_cons, fit_cons, max_fit (by simpa using h1) (by simpa using h2)]
    constructor
    · rintro ⟨h, h3, h4⟩
      exact ⟨⟨by omega, h3⟩, by omega, h4⟩
    · rintro ⟨⟨h3, h4⟩, h5, h6⟩
      exact ⟨by omega, h4, h6⟩
/-- what a meet tells is what both tell -/
theorem up_meet {d : Nat} {L M : List (List Nat)} (hL : Len d L) (hM : Len d M) {t : List Nat} (ht : t.length = d) : Up (eachF max L M) t ↔ Up L t ∧ Up M t := by
  rw [up_each]
  constructor
  · rintro ⟨a, ha, b, hb, hf⟩
    obtain ⟨h1, h2⟩ := (max_fit (by rw [hM b hb, hL a ha]) (by rw [ht, hL a ha])).mp hf
    exact ⟨⟨a, ha, h1⟩, b, hb, h2⟩
  · rintro ⟨⟨a, ha, h1⟩, b, hb, h2⟩
    exact ⟨a, ha, b, hb, (max_fit (by rw [hM b hb, hL a ha]) (by rw [ht, hL a ha])).mpr ⟨h1, h2⟩⟩
end M7

/-! lots whose members are least: few, low, of one length; the laws in that form -/
namespace M7
structure Lt (d n m : Nat) (L : List (List Nat)) : Prop where
  len : Len d L
  low : ∀ t ∈ L, ∀ e ∈ t, e ≤ m
  few : L.length ≤ n
  own : leastN L = L
variable {d n m k j : Nat} {L M N : List (List Nat)} {f : Nat → Nat → Nat}
theorem least_short (L : List (List Nat)) : (leastN L).length ≤ L.length := Nat.le_trans (List.length_filter_le _ _) (canon_len L)
theorem Lt.of (h1 : Len d L) (h2 : ∀ t ∈ L, ∀ e ∈ t, e ≤ m) (h3 : L.length ≤ n) : Lt d n m (leastN L) := ⟨len_least h1, fun t ht => h2 t (mem_least.mp ht).1, Nat.le_trans (least_short L) h3, least_least h1⟩
theorem len_app (a : Len d L) (b : Len d M) : Len d (L ++ M) := fun t ht => (List.mem_append.mp ht).elim (a t) (b t)
theorem low_app (a : ∀ t ∈ L, ∀ e ∈ t, e ≤ m) (b : ∀ t ∈ M, ∀ e ∈ t, e ≤ m) : ∀ t ∈ L ++ M, ∀ e ∈ t, e ≤ m := fun t ht => (List.mem_append.mp ht).elim (a t) (b t)
theorem Lt.add (a : Lt d n m L) (b : Lt d k m M) : Lt d (n + k) m (leastN (L ++ M)) := .of (len_app a.len b.len) (low_app a.low b.low) (by
  rw [List.length_append]
  exact Nat.add_le_add a.few b.few)
structure Op (f : Nat → Nat → Nat) : Prop where
  grows : Grows f
  comm : ∀ a b, f a b = f b a
  assoc : ∀ a b c, f (f a b) c = f a (f b c)
  low : ∀ a b, f a b ≤ a + b
  zero : ∀ a, f a 0 = a
theorem op_add : Op (· + ·) := ⟨grows_add, Nat.add_comm, Nat.add_assoc, fun _ _ => Nat.le_refl _, fun _ => rfl⟩
theorem op_max : Op max := ⟨grows_max, Nat.max_comm, Nat.max_assoc, fun a b => by omega, fun a => by omega⟩
theorem zip_low (hf : Op f) : ∀ {t u : List Nat}, (∀ e ∈ t, e ≤ m) → (∀ e ∈ u, e ≤ k) → ∀ e ∈ List.zipWith f t u, e ≤ m + k
  | [], _, _, _, e, h => by simp at h
  | _ :: _, [], _, _, e, h => by simp at h
  | a :: t, b :: u, h1, h2, e, h => by
    rcases List.mem_cons.mp (show e ∈ f a b :: List.zipWith f t u from h) with h | h
    · have := hf.low a b
      have := h1 a List.mem_cons_self
      have := h2 b List.mem_cons_self
      omega
    · exact zip_low hf (fun e h => h1 e (List.mem_cons_of_mem _ h)) (fun e h => h2 e (List.mem_cons_of_mem _ h)) e h
theorem low_each (hf : Op f) (a : ∀ t ∈ L, ∀ e ∈ t, e ≤ m) (b : ∀ t ∈ M, ∀ e ∈ t, e ≤ k) : ∀ t ∈ eachF f L M, ∀ e ∈ t, e ≤ m + k := fun t ht => by
  obtain ⟨p, hp, h2⟩ := List.mem_flatMap.mp ht
  obtain ⟨u, hu, rfl⟩ := List.mem_map.mp h2
  exact zip_low hf (a p hp) (b u hu)
theorem count_each : ∀ L : List (List Nat), (eachF f L M).length = L.length * M.length
  | [] => by simp [eachF]
  | t :: L => by
    have := count_each L
    simp only [eachF] at this ⊢
    rw [List.flatMap_cons, List.length_append, this, List.length_map, List.length_cons, Nat.succ_mul, Nat.add_comm]
theorem Lt.each (hf : Op f) (a : Lt d n m L) (b : Lt d k j M) : Lt d (n * k) (m + j) (leastN (eachF f L M)) := .of (len_each a.len b.len) (low_each hf a.low b.low) (by
  rw [count_each]
  exact Nat.mul_le_mul a.few b.few)
theorem Lt.more {n' m' : Nat} (a : Lt d n m L) (h : n ≤ n') (h2 : m ≤ m') : Lt d n' m' L := ⟨a.len, fun t ht e he => Nat.le_trans (a.low t ht e he) h2, Nat.le_trans a.few h, a.own⟩
/-! ### the laws -/
theorem l_add_assoc {n1 n2 n3 m1 m2 m3 : Nat} (a : Lt d n1 m1 L) (b : Lt d n2 m2 M) (c : Lt d n3 m3 N) : leastN (leastN (L ++ M) ++ N) = leastN (L ++ leastN (M ++ N)) := by
  have h1 := app_least (len_app a.len b.len) c.len
  have h2 := app_least a.len (len_app b.len c.len)
  rw [c.own] at h1
  rw [a.own] at h2
  rw [h1, h2, List.append_assoc]
theorem l_each_assoc {n1 n2 n3 m1 m2 m3 : Nat} (hf : Op f) (a : Lt d n1 m1 L) (b : Lt d n2 m2 M) (c : Lt d n3 m3 N) : leastN (eachF f (leastN (eachF f L M)) N) = leastN (eachF f L (leastN (eachF f M N))) := by
  have h1 := each_least hf.grows (len_each (f := f) a.len b.len) c.len
  have h2 := each_least hf.grows a.len (len_each (f := f) b.len c.len)
  rw [c.own] at h1
  rw [a.own] at h2
  rw [h1, h2, each_assoc hf.assoc a.len b.len c.len]
theorem l_dist {n1 n2 n3 m1 m2 m3 : Nat} (hf : Op f) (a : Lt d n1 m1 L) (b : Lt d n2 m2 M) (c : Lt d n3 m3 N) : leastN (eachF f L (leastN (M ++ N))) = leastN (leastN (eachF f L M) ++ leastN (eachF f L N)) := by
  have h1 := each_least hf.grows a.len (len_app b.len c.len)
  rw [a.own] at h1
  rw [h1, app_least (len_each a.len b.len) (len_each a.len c.len), each_dist a.len b.len c.len]
theorem l_none {n1 m1 : Nat} (a : Lt d n1 m1 L) : leastN (L ++ leastN []) = L := by
  show leastN (L ++ []) = L
  rw [List.append_nil]
  exact a.own
abbrev z0 (d : Nat) : List Nat := List.replicate d 0
theorem least_z (d : Nat) : leastN [z0 d] = [z0 d] := by
  have e : minB [z0 d] (z0 d) = true := min_true.mpr fun q hq _ => List.mem_singleton.mp hq
  show List.filter (minB [z0 d]) [z0 d] = _
  rw [List.filter_cons_of_pos e]
  rfl
theorem zip_z (hf : Op f) : ∀ t : List Nat, List.zipWith f t (z0 t.length) = t
  | [] => rfl
  | a :: t => by
    show f a 0 :: List.zipWith f t (z0 t.length) = _
    rw [hf.zero, zip_z hf t]
theorem each_z (hf : Op f) : ∀ {L : List (List Nat)}, Len d L → eachF f L [z0 d] = L
  | [], _ => rfl
  | t :: L, h => by
    show List.zipWith f t (z0 d) :: eachF f L [z0 d] = _
    rw [each_z hf fun t ht => h t (List.mem_cons_of_mem _ ht)]
    have e := h t List.mem_cons_self
    subst e
    rw [zip_z hf]
theorem l_every {n1 m1 : Nat} (hf : Op f) (a : Lt d n1 m1 L) : leastN (eachF f L (leastN [z0 d])) = L := by
  rw [least_z, each_z hf a.len]
  exact a.own
theorem fit_z : ∀ t : List Nat, fitB (z0 t.length) t = true
  | [] => rfl
  | a :: t => fit_cons.mpr ⟨Nat.zero_le _, fit_z t⟩
theorem len_z (d : Nat) : Len d [z0 d] := fun t ht => by
  rw [List.mem_singleton.mp ht]
  exact List.length_replicate
theorem l_all {n1 m1 : Nat} (a : Lt d n1 m1 L) : leastN (L ++ leastN [z0 d]) = leastN [z0 d] := by
  rw [least_z]
  refine (least_ext (len_app a.len (len_z d)) (len_z d) fun t ht => ?_).trans (least_z d)
  have h : Up [z0 d] t := ⟨z0 d, List.mem_singleton.mpr rfl, by rw [← ht]; exact fit_z t⟩
  rw [up_app]
  exact ⟨fun _ => h, fun _ => .inr h⟩
theorem each_nil : ∀ L : List (List Nat), eachF f L [] = []
  | [] => rfl
  | _ :: L => each_nil L
theorem l_nothing (L : List (List Nat)) : leastN (eachF f L (leastN [])) = leastN [] := by
  show leastN (eachF f L []) = _
  rw [each_nil]
theorem l_twice {n1 m1 : Nat} (a : Lt d n1 m1 L) : leastN (L ++ L) = L := by
  rw [app_self a.len]
  exact a.own
theorem l_self {n1 m1 : Nat} (a : Lt d n1 m1 L) : leastN (eachF max L L) = L := by
  rw [show leastN (eachF max L L) = leastN L from least_ext (len_each a.len a.len) a.len fun t ht => by rw [up_meet a.len a.len ht, and_self]]
  exact a.own
/-! ### members -/
abbrev inB (L : List (List Nat)) (t : List Nat) : Bool := L.any fun k => fitB k t
theorem in_up {L : List (List Nat)} {t : List Nat} : inB L t = true ↔ Up L t := by
  rw [inB, List.any_eq_true]
theorem in_add (hL : Len d L) (hM : Len d M) (t : List Nat) : inB (leastN (L ++ M)) t = (inB L t || inB M t) := by
  rw [Bool.eq_iff_iff, Bool.or_eq_true, in_up, in_up, in_up, up_least (len_app hL hM), up_app]
theorem in_meet (hL : Len d L) (hM : Len d M) {t : List Nat} (ht : t.length = d) : inB (leastN (eachF max L M)) t = (inB L t && inB M t) := by
  rw [Bool.eq_iff_iff, Bool.and_eq_true, in_up, in_up, in_up, up_least (len_each hL hM), up_meet hL hM ht]
theorem fit_left : ∀ {a b : List Nat}, b.length = a.length → fitB a (List.zipWith (· + ·) a b) = true
  | [], _, _ => by simp [fitB]
  | _ :: _, [], h => by simp at h
  | x :: a, y :: b, h => fit_cons.mpr ⟨Nat.le_add_right _ _, fit_left (by simpa using h)⟩
theorem fit_right : ∀ {a b : List Nat}, b.length = a.length → fitB b (List.zipWith (· + ·) a b) = true
  | [], [], _ => rfl
  | [], _ :: _, h => by simp at h
  | _ :: _, [], h => by simp at h
  | x :: a, y :: b, h => fit_cons.mpr ⟨Nat.le_add_left _ _, fit_right (by simpa using h)⟩
theorem in_made (hL : Len d L) (hM : Len d M) {t : List Nat} (ht : t ∈ leastN (eachF (· + ·) L M)) : inB (leastN (eachF max L M)) t = true := by
  have h := (mem_least.mp ht).1
  have hl := len_each hL hM t h
  rw [in_meet hL hM hl, Bool.and_eq_true, in_up, in_up]
  obtain ⟨p, hp, h2⟩ := List.mem_flatMap.mp h
  obtain ⟨u, hu, rfl⟩ := List.mem_map.mp h2
  exact ⟨⟨p, hp, fit_left (by rw [hL p hp, hM u hu])⟩, u, hu, fit_right (by rw [hL p hp, hM u hu])⟩
end M7

namespace K08
open PySem PySem.Spec PyProof.Rows L2 RZ L5 R7 XX
section
variable {P : Program} {w : World} {K : PySem.W.Frag} {mg : Str → Option Value} {base : Heap}
/-! ### own errors are made -/
def sp_ini (C : Addr) (f : Str) : Sp := fun vs H Q _ => ∃ a v, vs = [.ref a, v] ∧ H a = some (exo a C none) ∧ ∀ dx, H dx = none → dx ≠ a → Q .non (upd (upd H dx (exd dx [(f, v)])) a (exo a C (some dx)))
theorem ok_iniM (T : Txt K mg) : FnOk P w K mg base CX0 1 T.f_TooMany T.d_TooMany ["self", "most"] (sp_ini T.C_TooMany "most") := by
  refine T.F_TooMany.ok sci_TooMany (fun vs H Q E h => ?_) (fun cdv A outer s H vs Q E hr h => ?_)
  · obtain ⟨a, v, rfl, _⟩ := h
    rfl
  · obtain ⟨a, v, rfl, ha, q⟩ := h
    refine ⟨_, pss_one (ps_ost1 (newId := "OverflowError.__new__") PySem.F.store_OverflowError (pv 0) (pv 1)), ?_⟩
    exact ⟨_, rfl, _, rfl, a, _, rfl, T.o_TooMany, T.n_TooMany, ha, q⟩
/-- what a raise of such an error leaves -/
theorem ini_made {C : Addr} {f : Str} {v : V} {H : Hp} {a : Addr} {q : XK} (hl : True) (ha : H a = none) (h : ∀ H' dd, Same H H' → H' dd = some (.xd [(f, v)]) → q (.ref C) (some dd) H') :
    sp_ini C f (.ref a :: ([v] ++ [])) (upd H a (exo a C none)) (fun x H2 => x = .non ∧ ∃ (d : Addr) (fs : List (Str × V)), H2 a = some (exo a C (some d)) ∧ H2 d = some (exd d fs) ∧ H d = none ∧ q (.ref C) (some d) (upd (del H2 a) d (.xd fs))) (fun _ _ _ => False) := by
  refine ⟨a, v, rfl, upd_same, fun dx n ne => ⟨rfl, dx, _, upd_same, by rw [upd_ne ne, upd_same], by rw [upd_ne ne] at n; exact n, ?_⟩⟩
  have n' : H dx = none := by rw [upd_ne ne] at n; exact n
  refine h _ dx (fun b o e => ?_) upd_same
  have b1 : b ≠ a := fun z => by rw [z, ha] at e; cases e
  have b2 : b ≠ dx := fun z => by rw [z, n'] at e; cases e
  rw [upd_ne b2, del_ne b1, upd_ne b1, upd_ne b2, upd_ne b1]
  exact e
/-! ### limited_members -/
theorem big_iff {L : List (List Nat)} : bigB L = true ↔ ∃ t ∈ M7.leastN L, ∃ e ∈ t, 60 < e := by
  unfold bigB hugeB
  rw [List.any_eq_true]
  constructor
  · rintro ⟨t, ht, h⟩
    rw [Bool.and_eq_true, List.any_eq_true] at h
    obtain ⟨⟨e, he, hh⟩, hm⟩ := h
    exact ⟨t, M7.mem_least.mpr ⟨ht, M7.min_true.mp hm⟩, e, he, of_decide_eq_true hh⟩
  · rintro ⟨t, ht, e, he, hh⟩
    obtain ⟨h1, h2⟩ := M7.mem_least.mp ht
    exact ⟨t, h1, by rw [Bool.and_eq_true, List.any_eq_true]; exact ⟨⟨e, he, decide_eq_true hh⟩, M7.min_true.mpr h2⟩⟩
theorem big_no {L : List (List Nat)} (h : ∀ t ∈ L, ∀ e ∈ t, e ≤ 60) : bigB L = false := by
  cases eb : bigB L with
  | false => rfl
  | true =>
    obtain ⟨t, ht, e, he, hh⟩ := big_iff.mp eb
    have := h t (M7.mem_least.mp ht).1 e he
    omega
/-- TooMany with the most that there may be -/
def TellM (CM : Addr) (E : XK) (H : Hp) (n : Int) : Prop := ∀ H' dd, Same H H' → H' dd = some (.xd [("most", .int n)]) → E (.ref CM) (some dd) H'
theorem TellM.after {CM : Addr} {E : XK} {H H1 : Hp} {n : Int} (s : Same H H1) (h : TellM CM E H n) : TellM CM E H1 n := fun H' dd s' => h H' dd (s.trans s')
def sp_limX (K : PySem.W.Frag) (CM : Addr) : Sp := fun vs H Q E => ∃ (l : Addr) (rs : List Addr) (L : List (List Nat)) (d B : Nat), vs = [.ref l] ∧ SqA K H l (rs.map V.ref) ∧ Tups K H rs L ∧ 1 ≤ d ∧ (∀ t ∈ L, t.length = d) ∧ L.length < 64 ∧ (∀ t ∈ L, ∀ e ∈ t, e < B) ∧
  (bigB L = true → TellM CM E H 60) ∧ (bigB L = false → 24 < (M7.leastN L).length → TellM CM E H 24) ∧
  (bigB L = false → (M7.leastN L).length ≤ 24 → ∀ H' q rs', Same H H' → SqT K H' q (rs'.map V.ref) → Tups K H' rs' (M7.leastN L) → Q (.ref q) H')
theorem ok_limX (T : Txt K mg) : FnOk P w K mg base (L2.CX P w) 4 T.a_limited_members T.d_limited_members ["products"] (sp_limX K T.C_TooMany) := by
  refine T.F_limited_members.okX sc_limited_members (fun vs H Q E h => ?_) (fun cdv A outer s H vs Q E hr h => ?_)
  · obtain ⟨l, rs, L, d, B, rfl, _⟩ := h
    rfl
  · obtain ⟨l, rs, L, d, B, rfl, hA, hL, hd1, hd, hz, hB, qb, qm, q⟩ := h
    refine ⟨_, pss_cons (ps_if (pt_val (pe_call (E := E0) (ok_hge T) hr (by rfl) T.m_has_great_exponent T.F_has_great_exponent.kp T.b_has_great_exponent .nil pass0 (pa_cons (pv 0) pa_nil)))
        (pss_one (ps_raise rfl (takes_of rfl rfl rfl rfl) (pmk_oexB PySem.F.excBase_OverflowError T.o_TooMany T.i_TooMany T.ti_TooMany (ok_iniM T) (hr.mono (by decide)) T.b_TooMany .nil pass0 (by rfl) T.g_TooMany (pa_cons (pe_glob (v := .int 60) rfl T.c_MAX_EXPONENT ⟨_, rfl⟩) pa_nil)))) pss_nil)
      (pss_cons (ps_set (i := 1) sc_limited_members.nd rfl (Or.inl rfl) (pe_call (E := E0) (ok_least T) hr (by rfl) T.m_least_of T.k_least_of T.b_least_of .nil pass0 (pa_cons (pv 0) (pa_cons (pe_op op_add (pe_glob (v := .int 24) rfl T.c_MAX_MEMBERS ⟨_, rfl⟩) pe_int) pa_nil))))
      (pss_cons (ps_if (pt_cmpR op_gt (pe_callB call_len_seq (by rfl) T.z_len boot_len (pa_cons (pv 1) pa_nil)) (pe_glob (v := .int 24) rfl T.c_MAX_MEMBERS ⟨_, rfl⟩) (nomark _))
        (pss_one (ps_raise rfl (takes_of rfl rfl rfl rfl) (pmk_oexB PySem.F.excBase_OverflowError T.o_TooMany T.i_TooMany T.ti_TooMany (ok_iniM T) (hr.mono (by decide)) T.b_TooMany .nil pass0 (by rfl) T.g_TooMany (pa_cons (pe_glob (v := .int 24) rfl T.c_MAX_MEMBERS ⟨_, rfl⟩) pa_nil)))) pss_nil)
      (pss_one (ps_ret (pe_callTy call_tuple_of (by rfl) T.z_tuple boot_tuple (pa_cons (pv 1) pa_nil)))))), ?_⟩
    refine ⟨_, rfl, l, rs, L, d, rfl, hA, hL, hd1, hd, fun H1 s1 => ⟨_, rfl, ?_⟩⟩
    cases eb : bigB L with
    | true =>
      exact iteT ⟨by decide, fun a ha => ini_made True.intro ha fun H' dd sm hd => qb eb H' dd (s1.trans sm) hd⟩
    | false =>
      refine iteF ⟨_, rfl, _, _, rfl, rfl, l, rs, L, d, B, rfl, hA.same s1, hL.same s1, hz, hd1, hd, hB, fun H2 z rs' M s2 hz2 hT hM1 hM2 hM3 => ?_⟩
      have hlen : rs'.length = M.length := hT.length
      refine ⟨_, rfl, z, _, rfl, .inl (SqL.of hz2), _, _, rfl, rfl, _, rfl, ?_⟩
      by_cases many : 24 < (M7.leastN L).length
      · have := hM2 many
        rw [decide_eq_true (by rw [List.length_map]; omega)]
        exact iteT ⟨by decide, fun a ha => ini_made True.intro ha fun H' dd sm hd => qm eb many H' dd (s1.trans (s2.trans sm)) hd⟩
      · have e := hM1 (by omega)
        rw [e] at hlen hT
        rw [decide_eq_false (by rw [List.length_map]; omega)]
        refine iteF ⟨_, rfl, z, _, rfl, .inl ⟨SqL.of hz2, fun z2 hz3 => ?_⟩⟩
        have s3 := same_new hz3 (.tup (rs'.map V.ref))
        exact q eb (by omega) _ z2 rs' (s1.trans (s2.trans s3)) (SqT.of upd_same) (hT.same s3)
/-- products that a lot may hold: of one length, small, few -/
structure Few (d : Nat) (L : List (List Nat)) : Prop where
  pos : 1 ≤ d
  len : ∀ t ∈ L, t.length = d
  low : ∀ t ∈ L, ∀ e ∈ t, e ≤ 60
  few : L.length < 64
  kept : (M7.leastN L).length ≤ 24
def sp_lim (K : PySem.W.Frag) : Sp := fun vs H Q _ => ∃ (l : Addr) (rs : List Addr) (L : List (List Nat)) (d : Nat), vs = [.ref l] ∧ SqA K H l (rs.map V.ref) ∧ Tups K H rs L ∧ Few d L ∧
  ∀ H' q rs', Same H H' → SqT K H' q (rs'.map V.ref) → Tups K H' rs' (M7.leastN L) → Q (.ref q) H'
theorem ok_lim (T : Txt K mg) : FnOk P w K mg base (L2.CX P w) 4 T.a_limited_members T.d_limited_members ["products"] (sp_lim K) :=
  (ok_limX T).imp fun vs H Q E ⟨l, rs, L, d, e, hA, hL, hf, q⟩ => ⟨l, rs, L, d, 61, e, hA, hL, hf.pos, hf.len, hf.few, fun t ht e he => Nat.lt_succ_of_le (hf.low t ht e he), fun h => (by rw [big_no hf.low] at h; cases h), fun _ h => absurd hf.kept (by omega), fun _ _ => q⟩
/-! ### are_products -/
def sp_arp (K : PySem.W.Frag) : Sp := fun vs H Q _ => ∃ (l : Addr) (rs : List Addr) (L : List (List Nat)) (d : Nat), vs = [.ref l, .int ((d : Nat) : Int)] ∧ SqT K H l (rs.map V.ref) ∧ Tups K H rs L ∧ L.length ≤ 200 ∧ d ≤ 1000 ∧ (∀ t ∈ L, t.length = d) ∧ (∀ t ∈ L, ∀ e ∈ t, e ≤ 8) ∧ ∀ H', Same H H' → Q (.bl true) H'
theorem are_low {t : List Nat} {m : Nat} (h : ∀ e ∈ t, e ≤ m) : areB (some (t.map fun n => some ((n : Nat) : Int))) ((t.length : Nat) : Int) ((m : Nat) : Int) = true := by
  refine Bool.and_eq_true_iff.mpr ⟨decide_eq_true (by rw [List.length_map]), List.all_eq_true.mpr fun o ho => ?_⟩
  obtain ⟨n, hn, rfl⟩ := List.mem_map.mp ho
  have := h n hn
  show (decide ((0 : Int) ≤ ((n : Nat) : Int)) && decide (((n : Nat) : Int) ≤ ((m : Nat) : Int))) = true
  rw [decide_eq_true (show (0 : Int) ≤ ((n : Nat) : Int) by omega), decide_eq_true (show ((n : Nat) : Int) ≤ ((m : Nat) : Int) by omega)]
  rfl
theorem ok_arp (T : Txt K mg) : FnOk P w K mg base CX0 4 T.a_are_products T.d_are_products ["value", "letters"] (sp_arp K) := by
  refine T.F_are_products.ok sc_are_products (fun vs H Q E h => ?_) (fun cdv A outer s H vs Q E hr h => ?_)
  · obtain ⟨l, rs, L, d, rfl, _⟩ := h
    rfl
  · obtain ⟨l, rs, L, d, rfl, hA, hL, h200, hd1, hd, h8, q⟩ := h
    refine ⟨_, pss_cons (ps_if (PW.pt (pw_or (pt_not (pt_val (pe_callB call_isi (by rfl) T.z_isinstance boot_isinstance (pa_cons (pv 0) (pa_cons (pe_bltn (v := .ty "tuple") (by rfl) T.z_tuple boot_tuple rfl) pa_nil)))))
        (pw_or1 (pt_cmpR op_gt (pe_callB call_len_seq (by rfl) T.z_len boot_len (pa_cons (pv 0) pa_nil)) (pe_glob (v := .int 200) rfl T.c_MAX_PASSED ⟨_, rfl⟩) (nomark _))))) (pss_one (ps_ret pe_bl)) pss_nil)
      (pss_one (ps_ret (pe_callB (cr_all rfl) (by rfl) T.z_all (by decide +kernel) (pa_cons
        (pe_lc (own := [("member", 2)]) (g := gName 2) (tt := tYes) rfl sc_are_products.nd (pi_tup (pv 0)) (blkOk_by (own := [("member", 2)]) (N := N_are_products) (sc := defScope s_are_products) (by decide +kernel))
          (fun _ _ _ _ _ => pg_name (i := 2) sc_are_products.nd rfl (Or.inl rfl)) (fun _ _ _ _ _ => pts_nil)
          (fun _ _ _ _ _ => pe_call (ok_are T) hr (by rfl) T.m_are_exponents T.F_are_exponents.kp T.b_are_exponents .nil pass0 (pa_cons (pv 2) (pa_cons (pv 1) (pa_cons (pe_glob (v := .int 8) rfl T.c_MAX_MEMBER_EXPONENT ⟨_, rfl⟩) pa_nil))))) pa_nil)))), ?_⟩
    have hlen : rs.length = L.length := hL.length
    refine ⟨_, rfl, _, _, _, _, true, rfl, .ty _, sqt_ty hA, kit_ty (by decide +kernel), true, rfl, ?_⟩
    refine iteF ⟨_, rfl, l, _, rfl, .inr hA, _, _, rfl, rfl, _, rfl, ?_⟩
    rw [decide_eq_false (by rw [List.length_map]; omega)]
    refine iteF ⟨_, rfl, l, rfl, ⟨_, hA⟩, fun D hD => ?_⟩
    have s1 : Same H (upd H D (.lst [])) := same_new hD _
    refine lc_tup (K := K) (a := l) (xs := rs.map V.ref) (fun i H' => Same H H' ∧ H' D = some (.lst ((List.replicate i true).map V.bl))) ⟨s1, upd_same⟩ (fun i H' _ h => same_sqt h.1 hA) (fun i x H' hi h => ?_) (fun H' h => ?_)
    · obtain ⟨sm, eD⟩ := h
      obtain ⟨a, u, rfl, _, hu, hs⟩ := tups_get (hL.same sm) hi
      have hm := List.mem_of_getElem? hu
      have hlt : i < rs.length := by
        have := (List.getElem?_eq_some_iff.mp hi).1
        rw [List.length_map] at this
        exact this
      have hud := hd u hm
      refine ⟨rfl, _, rfl, _, rfl, .ref a, _, _, 8, rfl, va_prod hs (by omega), fun H2 s2 => ?_⟩
      have e8 : areB (some (u.map fun n => some ((n : Nat) : Int))) ((u.length : Nat) : Int) 8 = true := are_low (m := 8) (h8 u hm)
      rw [← hud, e8]
      refine ⟨_, s2 _ _ eD, by rw [List.length_map, List.length_replicate]; exact sizeK (by omega), same_updL (sm.trans s2) hD, ?_⟩
      rw [upd_same, List.replicate_succ', List.map_append]
      rfl
    · obtain ⟨sm, eD⟩ := h
      refine ⟨D, _, rfl, SqL.of eD, ?_⟩
      rw [show (List.replicate (rs.map V.ref).length true).all id = true by rw [List.all_replicate]; simp]
      exact q H' sm
end
end K08

namespace K08
open PySem PySem.Spec PyProof.Rows L2 RZ L5 R7 XX
section
variable {P : Program} {w : World} {K : PySem.W.Frag} {mg : Str → Option Value} {base : Heap}
/-! ### the class Lot -/
abbrev s_init : Stmt := inClass (topS 45) 0
abbrev N_init : List Str := ["self", "letters", "members"]
theorem sc_init : FnScope N_init ["self", "letters", "members"] (defScope s_init) := ⟨rfl, rfl, rfl, by decide +kernel, rfl, by decide +kernel, by decide +kernel⟩
structure LotT (K : PySem.W.Frag) (mg : Str → Option Value) where
  C : Addr
  cl : Cls K C
  nL : NoAttr K C "_letters"
  nM : NoAttr K C "_members"
  gC : mg "Lot" = some (.ref C)
  fI : Addr
  dI : FuncData
  FI : Fun K "__init__" "Lot.__init__" s_init fI dI
  bI : Binds K dI ["self", "letters", "members"] []
  M : Mk K C fI
def lotF (d : Nat) (m : Addr) : List (Str × V) := [("_letters", .int ((d : Nat) : Int)), ("_members", .ref m)]
/-- a lot at a: its letters, its least members -/
def LotAt (K : PySem.W.Frag) (C : Addr) (H : Hp) (a : Addr) (d : Nat) (L : List (List Nat)) : Prop := ∃ dx m rs, H a = some (.ins C dx (lotF d m)) ∧ SqT K H m (rs.map V.ref) ∧ Tups K H rs L
theorem LotAt.same {C : Addr} {H H' : Hp} {a : Addr} {d : Nat} {L : List (List Nat)} (s : Same H H') : LotAt K C H a d L → LotAt K C H' a d L := fun ⟨dx, m, rs, h1, h2, h3⟩ => ⟨dx, m, rs, s _ _ h1, same_sqt s h2, h3.same s⟩
theorem sqt_ins {H H' : Hp} {z a C dx : Addr} {fs : List (Str × V)} {xs : List V} (hz : H z = some (.ins C dx fs)) (st : ∀ b o, b ≠ z → H b = some o → H' b = some o) (h : SqT K H a xs) : SqT K H' a xs := by
  have ne : ∀ {o : HO}, H a = some o → o ≠ .ins C dx fs → a ≠ z := fun {o} e n k => by
    rw [k, hz] at e
    exact n (Option.some.inj e).symm
  rcases h with (h | ⟨o, h⟩) | h
  · exact .inl (.inl (st _ _ (ne h fun k => nomatch k) h))
  · exact .inl (.inr ⟨o, st _ _ (ne h fun k => nomatch k) h⟩)
  · exact .inr h
theorem tups_ins {H H' : Hp} {z C dx : Addr} {fs : List (Str × V)} (hz : H z = some (.ins C dx fs)) (st : ∀ b o, b ≠ z → H b = some o → H' b = some o) : ∀ {rs : List Addr} {L : List (List Nat)}, Tups K H rs L → Tups K H' rs L
  | _, _, .nil => .nil
  | _, _, .cons h t => .cons (sqt_ins hz st h) (tups_ins hz st t)
def sp_init (K : PySem.W.Frag) (C : Addr) : Sp := fun vs H Q _ => ∃ (p dx l : Addr) (d : Nat) (rs : List Addr) (L : List (List Nat)), vs = [.ref p, .int ((d : Nat) : Int), .ref l] ∧ H p = some (.ins C dx []) ∧ SqT K H l (rs.map V.ref) ∧ Tups K H rs L ∧ Few d L ∧ d ≤ 8 ∧ (∀ t ∈ L, ∀ e ∈ t, e ≤ 8) ∧
  ∀ H' m rs', (∀ b o, b ≠ p → H b = some o → H' b = some o) → H' p = some (.ins C dx (lotF d m)) → SqT K H' m (rs'.map V.ref) → Tups K H' rs' (M7.leastN L) → Q .non H'
theorem ok_init (T : Txt K mg) (O : LotT K mg) : FnOk P w K mg base CX0 5 O.fI O.dI ["self", "letters", "members"] (sp_init K O.C) := by
  refine O.FI.ok sc_init (fun vs H Q E h => ?_) (fun cdv A outer s H vs Q E hr h => ?_)
  · obtain ⟨p, dx, l, d, rs, L, rfl, _⟩ := h
    rfl
  · obtain ⟨p, dx, l, d, rs, L, rfl, hp, hA, hL, hf, hd8, h8, q⟩ := h
    refine ⟨_, pss_cons (ps_expr (pe_call (ok_checkw T) (hr.mono (by decide)) (by rfl) T.m_check_within T.F_check_within.kp T.b_check_within .nil pass0 (pa_cons (pv 1) (pa_cons pe_int (pa_cons (pe_glob (v := .int 8) rfl T.c_MAX_LETTERS ⟨_, rfl⟩) pa_nil)))))
      (pss_cons (ps_if (pt_not (pt_val (pe_call (ok_arp T) hr (by rfl) T.m_are_products T.F_are_products.kp T.b_are_products .nil pass0 (pa_cons (pv 2) (pa_cons (pv 1) pa_nil))))) (pss_one ps_never) pss_nil)
      (pss_cons (ps_fld (pv 0) (pv 1) rfl)
      (pss_one (ps_fld (pv 0) (pe_call (E := E0) (ok_lim T) hr (by rfl) T.m_limited_members T.F_limited_members.kp T.b_limited_members .nil passG (pa_cons (pv 2) pa_nil)) rfl)))), ?_⟩
    have h1 := hf.pos
    have h64 := hf.few
    refine ⟨_, rfl, _, _, _, rfl, by omega, by omega, ?_⟩
    refine ⟨_, rfl, _, rfl, l, rs, L, d, rfl, hA, hL, by omega, by omega, hf.len, h8, fun H1 s1 => ⟨_, rfl, iteF ?_⟩⟩
    have hp1 := s1 _ _ hp
    refine ⟨_, rfl, _, rfl, p, _, dx, [], rfl, hp1, O.cl, O.nL, by show 0 < 1000; decide, ?_⟩
    have st1 : ∀ b o, b ≠ p → H1 b = some o → (upd H1 p (.ins O.C dx (putF "_letters" (.int ((d : Nat) : Int)) []))) b = some o := fun b o n h => by
      rw [upd_ne n]
      exact h
    have hp2 : (upd H1 p (.ins O.C dx (putF "_letters" (.int ((d : Nat) : Int)) []))) p = some (.ins O.C dx [("_letters", .int ((d : Nat) : Int))]) := upd_same
    generalize (upd H1 p (.ins O.C dx (putF "_letters" (.int ((d : Nat) : Int)) []))) = H2 at st1 hp2 ⊢
    refine ⟨_, rfl, l, rs, L, d, rfl, .inr (sqt_ins hp1 st1 (same_sqt s1 hA)), tups_ins hp1 st1 (hL.same s1), hf, fun H3 m rs' s3 hm hT => ?_⟩
    have hp3 := s3 _ _ hp2
    refine ⟨_, rfl, p, _, dx, _, rfl, hp3, O.cl, O.nM, by show 1 < 1000; decide, ?_⟩
    have st3 : ∀ b o, b ≠ p → H3 b = some o → (upd H3 p (.ins O.C dx (putF "_members" (.ref m) [("_letters", .int ((d : Nat) : Int))]))) b = some o := fun b o n h => by
      rw [upd_ne n]
      exact h
    refine q _ m rs' (fun b o n h => st3 b o n (s3 b o (st1 b o n (s1 b o h)))) ?_ (sqt_ins hp3 st3 hm) (tups_ins hp3 st3 hT)
    rw [upd_same]
    rfl
end
end K08

namespace K08
open PySem PySem.Spec PyProof.Rows L2 RZ L5 R7 XX
section
variable {P : Program} {w : World} {K : PySem.W.Frag} {mg : Str → Option Value} {base : Heap}
/-! ### made_lot, the properties letters and members, check_letters -/
abbrev s_letters : Stmt := inClass (topS 45) 2
abbrev s_members : Stmt := inClass (topS 45) 3
theorem sc_letters : FnScope ["self"] ["self"] (defScope s_letters) := ⟨rfl, rfl, rfl, by decide +kernel, rfl, by decide +kernel, by decide +kernel⟩
theorem sc_members : FnScope ["self"] ["self"] (defScope s_members) := ⟨rfl, rfl, rfl, by decide +kernel, rfl, by decide +kernel, by decide +kernel⟩
structure LotP (K : PySem.W.Frag) (C : Addr) where
  pL : Addr
  gL : Addr
  dL : FuncData
  PL : PropOf K C "letters" pL gL
  FL : Fun K "letters" "Lot.letters" s_letters gL dL
  bL : Binds K dL ["self"] []
  pM : Addr
  gM : Addr
  dM : FuncData
  PM : PropOf K C "members" pM gM
  FM : Fun K "members" "Lot.members" s_members gM dM
  bM : Binds K dM ["self"] []
def sp_ltr (K : PySem.W.Frag) (C : Addr) : Sp := fun vs H Q _ => ∃ a d L, vs = [.ref a] ∧ LotAt K C H a d L ∧ Q (.int ((d : Nat) : Int)) H
theorem ok_ltr (O : LotT K mg) (R : LotP K O.C) : FnOk P w K mg base CX0 1 R.gL R.dL ["self"] (sp_ltr K O.C) := by
  refine R.FL.ok sc_letters (fun vs H Q E h => ?_) (fun cdv A outer s H vs Q E hr h => ?_)
  · obtain ⟨a, d, L, rfl, _⟩ := h
    rfl
  · obtain ⟨a, d, L, rfl, ⟨dx, m, rs, h1, h2, h3⟩, q⟩ := h
    exact ⟨_, pss_one (ps_ret (pe_fld (pv 0) rfl)), _, rfl, a, O.C, dx, _, _, rfl, h1, O.cl, O.nL, rfl, q⟩
def sp_mem (K : PySem.W.Frag) (C : Addr) : Sp := fun vs H Q _ => ∃ a d L, vs = [.ref a] ∧ LotAt K C H a d L ∧ ∀ m rs, SqT K H m (rs.map V.ref) → Tups K H rs L → Q (.ref m) H
theorem ok_mem (O : LotT K mg) (R : LotP K O.C) : FnOk P w K mg base CX0 1 R.gM R.dM ["self"] (sp_mem K O.C) := by
  refine R.FM.ok sc_members (fun vs H Q E h => ?_) (fun cdv A outer s H vs Q E hr h => ?_)
  · obtain ⟨a, d, L, rfl, _⟩ := h
    rfl
  · obtain ⟨a, d, L, rfl, ⟨dx, m, rs, h1, h2, h3⟩, q⟩ := h
    exact ⟨_, pss_one (ps_ret (pe_fld (pv 0) rfl)), _, rfl, a, O.C, dx, _, _, rfl, h1, O.cl, O.nM, rfl, q m rs h2 h3⟩
theorem few_nil {d : Nat} (h : 1 ≤ d) : Few d [] := ⟨h, fun _ h => (nomatch h), fun _ h => (nomatch h), by decide, by decide⟩
def sp_made (K : PySem.W.Frag) (C : Addr) : Sp := fun vs H Q _ => ∃ (d : Nat) (m : Addr) (rs : List Addr) (L : List (List Nat)), vs = [.int ((d : Nat) : Int), .ref m] ∧ 1 ≤ d ∧ d ≤ 8 ∧ SqT K H m (rs.map V.ref) ∧ Tups K H rs L ∧
  ∀ H' a, Same H H' → H a = none → LotAt K C H' a d L → Q (.ref a) H'
theorem ok_made (T : Txt K mg) (O : LotT K mg) : FnOk P w K mg base CX0 7 T.a_made_lot T.d_made_lot ["letters", "members"] (sp_made K O.C) := by
  refine T.F_made_lot.ok sc_made_lot (fun vs H Q E h => ?_) (fun cdv A outer s H vs Q E hr h => ?_)
  · obtain ⟨d, m, rs, L, rfl, _⟩ := h
    rfl
  · obtain ⟨d, m, rs, L, rfl, h1, h8, hm, hL, q⟩ := h
    refine ⟨_, pss_cons (ps_set (i := 2) sc_made_lot.nd rfl (Or.inl rfl) (pe_make O.M (ok_init T O) hr rfl O.gC O.bI .nil pass0 (pa_cons (pv 0) (pa_cons (pe_tup pa_nil) pa_nil))))
      (pss_cons (ps_fld (pv 2) (pv 1) rfl)
      (pss_one (ps_ret (pv 2)))), ?_⟩
    refine ⟨_, rfl, by show 0 ≤ sizeLine; exact Nat.zero_le _, fun t0 ht0 => ?_⟩
    have st0 := same_new ht0 (.tup [])
    intro x dx nx nd ne
    have hx0 : H x = none := st0.free nx
    have hd0 : H dx = none := st0.free nd
    have sx : Same (upd H t0 (.tup [])) (upd (upd (upd H t0 (.tup [])) dx (.own x)) x (.ins O.C dx [])) := (same_new nd (.own x)).trans (same_new (by rw [upd_ne (Ne.symm ne)]; exact nx) _)
    refine ⟨x, dx, t0, d, [], [], rfl, upd_same, SqT.of (sx _ _ upd_same), .nil, few_nil h1, h8, fun _ h => (nomatch h), fun H2 m2 rs2 st2 hx2 hm2 hT2 => ⟨rfl, ?_⟩⟩
    have S2 : Same H H2 := fun b o h => st2 b o (ne_of_none h hx0) (sx b o (st0 b o h))
    refine ⟨_, rfl, _, rfl, x, O.C, dx, _, rfl, hx2, O.cl, O.nM, by show 2 < 1000; decide, ?_⟩
    have st3 : ∀ b o, b ≠ x → H2 b = some o → (upd H2 x (.ins O.C dx (putF "_members" (.ref m) (lotF d m2)))) b = some o := fun b o n h => by
      rw [upd_ne n]
      exact h
    refine ⟨_, rfl, q _ x (fun b o h => st3 b o (ne_of_none h hx0) (S2 b o h)) hx0 ⟨dx, m, rs, ?_, sqt_ins hx2 st3 (same_sqt S2 hm), tups_ins hx2 st3 (hL.same S2)⟩⟩
    rw [upd_same]
    rfl
def sp_chl (K : PySem.W.Frag) (C : Addr) : Sp := fun vs H Q _ => ∃ a b d L M, vs = [.ref a, .ref b] ∧ LotAt K C H a d L ∧ LotAt K C H b d M ∧ Q .non H
theorem ok_chl (T : Txt K mg) (O : LotT K mg) (R : LotP K O.C) : FnOk P w K mg base CX0 3 T.a_check_letters T.d_check_letters ["one", "other"] (sp_chl K O.C) := by
  refine T.F_check_letters.ok sc_check_letters (fun vs H Q E h => ?_) (fun cdv A outer s H vs Q E hr h => ?_)
  · obtain ⟨a, b, d, L, M, rfl, _⟩ := h
    rfl
  · obtain ⟨a, b, d, L, M, rfl, hA, hB, q⟩ := h
    refine ⟨_, pss_one (ps_if (pt_cmpR op_ne (pe_prop (E := E0) (pv 0) O.cl R.PL (ok_ltr O R) hr R.bL .nil pass0 rfl) (pe_prop (E := E0) (pv 1) O.cl R.PL (ok_ltr O R) hr R.bL .nil pass0 rfl) (nomark _)) (pss_one ps_never) pss_nil), ?_⟩
    have ia := hA
    have ib := hB
    obtain ⟨dx, m, rs, h1, _⟩ := ia
    obtain ⟨dx2, m2, rs2, h2, _⟩ := ib
    refine ⟨_, rfl, a, dx, _, rfl, h1, a, d, L, rfl, hA, _, rfl, b, dx2, _, rfl, h2, b, d, M, rfl, hB, rfl, _, rfl, ?_⟩
    rw [decide_eq_true rfl]
    exact iteF q
end
end K08

namespace K08
open PySem PySem.Spec PyProof.Rows L2 RZ L5 R7 XX
section
variable {P : Program} {w : World} {K : PySem.W.Frag} {mg : Str → Option Value} {base : Heap}
/-! ### one + other -/
abbrev s_add : Stmt := inClass (topS 45) 7
abbrev N_add : List Str := ["self", "other"]
theorem sc_add : FnScope N_add ["self", "other"] (defScope s_add) := ⟨rfl, rfl, rfl, by decide +kernel, rfl, by decide +kernel, by decide +kernel⟩
structure LotO (K : PySem.W.Frag) (mg : Str → Option Value) (C : Addr) where
  first : PySem.W.selfFirst K C = true
  ty : ∀ (H : Hp) (a dx : Addr) (fs : List (Str × V)), H a = some (.ins C dx fs) → TyX K H (.ref a) (.ref C)
  kit : PySem.W.kitOne K (.ref C) (.ref C) = some true
  fA : Addr
  dA : FuncData
  FA : Fun K "__add__" "Lot.__add__" s_add fA dA
  bA : Binds K dA ["self", "other"] []
  aA : PySem.W.findIn K (.ref C) (PySem.dunder Operator.Add.info.2) = some (some (.ref fA))
  nA : PySem.W.isFn K (.ref fA) = true
def sp_add (K : PySem.W.Frag) (C : Addr) : Sp := fun vs H Q _ => ∃ a b d L M, vs = [.ref a, .ref b] ∧ LotAt K C H a d L ∧ LotAt K C H b d M ∧ d ≤ 8 ∧ Few d (L ++ M) ∧ ∀ H' c, Same H H' → H c = none → LotAt K C H' c d (M7.leastN (L ++ M)) → Q (.ref c) H'
theorem ok_add (T : Txt K mg) (O : LotT K mg) (R : LotP K O.C) (W : LotO K mg O.C) : FnOk P w K mg base CX0 8 W.fA W.dA ["self", "other"] (sp_add K O.C) := by
  refine W.FA.ok sc_add (fun vs H Q E h => ?_) (fun cdv A outer s H vs Q E hr h => ?_)
  · obtain ⟨a, b, d, L, M, rfl, _⟩ := h
    rfl
  · obtain ⟨a, b, d, L, M, rfl, hA, hB, hd8, hf, q⟩ := h
    refine ⟨_, pss_cons (ps_if (pt_not (pt_val (pe_callB call_isi (by rfl) T.z_isinstance boot_isinstance (pa_cons (pv 1) (pa_cons (pe_glob (v := .ref O.C) rfl O.gC rfl) pa_nil))))) (pss_one ps_never) pss_nil)
      (pss_cons (ps_expr (pe_call (ok_chl T O R) (hr.mono (by decide)) (by rfl) T.m_check_letters T.F_check_letters.kp T.b_check_letters .nil pass0 (pa_cons (pv 0) (pa_cons (pv 1) pa_nil))))
      (pss_one (ps_ret (pe_call (ok_made T O) hr (by rfl) T.m_made_lot T.F_made_lot.kp T.b_made_lot .nil pass0 (pa_cons (pe_fld (pv 0) rfl)
        (pa_cons (pe_call (E := E0) (ok_lim T) (hr.mono (by decide)) (by rfl) T.m_limited_members T.F_limited_members.kp T.b_limited_members .nil passG (pa_cons (pe_op op_catB (pe_fld (pv 0) rfl) (pe_prop (E := E0) (pv 1) O.cl R.PM (ok_mem O R) (hr.mono (by decide)) R.bM .nil pass0 rfl)) pa_nil)) pa_nil)))))), ?_⟩
    have ia := hA
    have ib := hB
    obtain ⟨dx, m, rs, h1, h2, h3⟩ := ia
    obtain ⟨dy, m2, rs2, k1, k2, k3⟩ := ib
    refine ⟨_, rfl, _, _, _, _, true, rfl, .own _, W.ty H b dy _ k1, W.kit, true, rfl, iteF ?_⟩
    refine ⟨_, rfl, _, rfl, a, b, d, L, M, rfl, hA, hB, ?_⟩
    refine ⟨_, rfl, a, O.C, dx, _, _, rfl, h1, O.cl, O.nL, rfl, _, rfl, a, O.C, dx, _, _, rfl, h1, O.cl, O.nM, rfl, _, rfl, b, dy, _, rfl, k1, b, d, M, rfl, hB, fun m' rs' km kt => ?_⟩
    have hl1 : rs.length = L.length := h3.length
    have hl2 : rs'.length = M.length := kt.length
    have hfew := hf.few
    rw [List.length_append] at hfew
    refine ⟨m, m', _, _, rfl, rfl, h2, km, Nat.le_of_lt (sizeK (by rw [List.length_map, List.length_map]; omega)), fun H1 z s1 hz => ?_⟩
    rw [← List.map_append] at hz
    refine ⟨z, rs ++ rs', L ++ M, d, rfl, .inr hz, (h3.app kt).same s1, hf, fun H2 z2 rs2 s2 hz2 hT2 => ?_⟩
    exact ⟨d, z2, rs2, _, rfl, hf.pos, hd8, hz2, hT2, fun H3 c s3 hc hl => q H3 c (s1.trans (s2.trans s3)) ((s1.trans s2).free hc) hl⟩
end
end K08

namespace K08
open PySem PySem.Spec PyProof.Rows L2 RZ L5 R7 XX
section
variable {P : Program} {w : World} {K : PySem.W.Frag} {mg : Str → Option Value} {base : Heap}
/-! ### one * other -/
abbrev s_mul : Stmt := inClass (topS 45) 8
abbrev N_mul : List Str := ["self", "other", "both", "one", "two"]
theorem sc_mul : FnScope N_mul ["self", "other"] (defScope s_mul) := ⟨rfl, rfl, rfl, by decide +kernel, rfl, by decide +kernel, by decide +kernel⟩
structure LotM (K : PySem.W.Frag) (C : Addr) where
  fM : Addr
  dM : FuncData
  FM : Fun K "__mul__" "Lot.__mul__" s_mul fM dM
  bM : Binds K dM ["self", "other"] []
  aM : PySem.W.findIn K (.ref C) (PySem.dunder Operator.Mult.info.2) = some (some (.ref fM))
  nM : PySem.W.isFn K (.ref fM) = true
theorem zi_add (t u : List Nat) : (zi addZ t u).map V.int = nv (List.zipWith (· + ·) t u) := by
  show _ = List.map _ _
  rw [List.map_zipWith, List.map_zipWith]
  rfl
/-- each of the one with each of the other -/
abbrev eachN (f : Nat → Nat → Nat) (L M : List (List Nat)) : List (List Nat) := L.flatMap fun t => M.map fun u => List.zipWith f t u
theorem each_len (f : Nat → Nat → Nat) (M : List (List Nat)) : ∀ L : List (List Nat), (eachN f L M).length = L.length * M.length
  | [] => by simp [eachN]
  | t :: L => by
    have := each_len f M L
    simp only [eachN] at this ⊢
    rw [List.flatMap_cons, List.length_append, this, List.length_map, List.length_cons, Nat.succ_mul, Nat.add_comm]
def sp_mul (K : PySem.W.Frag) (C : Addr) (f : Nat → Nat → Nat) : Sp := fun vs H Q _ => ∃ a b d L M, vs = [.ref a, .ref b] ∧ LotAt K C H a d L ∧ LotAt K C H b d M ∧ d ≤ 8 ∧ (∀ t ∈ L, t.length = d) ∧ (∀ t ∈ M, t.length = d) ∧ Few d (eachN f L M) ∧ ∀ H' c, Same H H' → H c = none → LotAt K C H' c d (M7.leastN (eachN f L M)) → Q (.ref c) H'
theorem ok_mul (T : Txt K mg) (O : LotT K mg) (R : LotP K O.C) (W : LotO K mg O.C) (Y : LotM K O.C) : FnOk P w K mg base CX0 8 Y.fM Y.dM ["self", "other"] (sp_mul K O.C (· + ·)) := by
  refine Y.FM.ok sc_mul (fun vs H Q E h => ?_) (fun cdv A outer s H vs Q E hr h => ?_)
  · obtain ⟨a, b, d, L, M, rfl, _⟩ := h
    rfl
  · obtain ⟨a, b, d, L, M, rfl, hA, hB, hd8, hdL, hdM, hf, q⟩ := h
    refine ⟨_, pss_cons (ps_if (pt_not (pt_val (pe_callB call_isi (by rfl) T.z_isinstance boot_isinstance (pa_cons (pv 1) (pa_cons (pe_glob (v := .ref O.C) rfl O.gC rfl) pa_nil))))) (pss_one ps_never) pss_nil)
      (pss_cons (ps_expr (pe_call (ok_chl T O R) (hr.mono (by decide)) (by rfl) T.m_check_letters T.F_check_letters.kp T.b_check_letters .nil pass0 (pa_cons (pv 0) (pa_cons (pv 1) pa_nil))))
      (pss_cons (ps_setLc2 (i := 2) (own := [("one", 3), ("two", 4)]) (vs1 := [4]) (g := gName 3) (g1 := gName 4) (tt := tYes) (tt1 := tYes) rfl sc_mul.nd rfl rfl (sw_true rfl rfl rfl (by decide +kernel)) (pi_tup (pe_fld (pv 0) rfl))
          (blkOk_by (own := [("one", 3), ("two", 4)]) (N := N_mul) (sc := defScope s_mul) (by decide +kernel)) (by decide)
          (fun _ _ _ _ _ => pg_name (i := 3) sc_mul.nd rfl (Or.inl rfl)) (fun _ _ _ _ _ => pts_nil)
          (fun _ _ _ _ _ => show PI _ _ _ (iTup K (tProp O.C (sp_mem K O.C) [] E0 (tVar 1))) from pi_tup (pe_prop (E := E0) (pv 1) O.cl R.PM (ok_mem O R) (hr.mono (show 1 + 1 ≤ 7 by decide)) R.bM .nil pass0 rfl))
          (fun _ _ _ _ _ => pg_name (i := 4) sc_mul.nd rfl (Or.inl rfl)) (fun _ _ _ _ _ => pts_nil)
          (fun _ _ _ _ _ => pe_call (ok_added T) (hr.mono (by decide)) (by rfl) T.m_added T.F_added.kp T.b_added .nil pass0 (pa_cons (pv 3) (pa_cons (pv 4) pa_nil))))
      (pss_one (ps_ret (pe_call (ok_made T O) hr (by rfl) T.m_made_lot T.F_made_lot.kp T.b_made_lot .nil pass0 (pa_cons (pe_fld (pv 0) rfl)
        (pa_cons (pe_call (E := E0) (ok_lim T) (hr.mono (by decide)) (by rfl) T.m_limited_members T.F_limited_members.kp T.b_limited_members .nil passG (pa_cons (pv 2) pa_nil)) pa_nil))))))), ?_⟩
    have ia := hA
    have ib := hB
    obtain ⟨dx, m, rs, h1, h2, h3⟩ := ia
    obtain ⟨dy, m2, rs2, k1, k2, k3⟩ := ib
    refine ⟨_, rfl, _, _, _, _, true, rfl, .own _, W.ty H b dy _ k1, W.kit, true, rfl, iteF ?_⟩
    refine ⟨_, rfl, _, rfl, a, b, d, L, M, rfl, hA, hB, ?_⟩
    refine ⟨_, rfl, a, O.C, dx, _, _, rfl, h1, O.cl, O.nM, rfl, m, rfl, ⟨_, h2⟩, fun D hD => ?_⟩
    have hlen : rs.length = L.length := h3.length
    have hall := hf.few
    rw [each_len] at hall
    refine out2_tup (K := K) (a := m) (xs := rs.map V.ref) (fun i H' => Same H H' ∧ ∃ ds : List Addr, H' D = some (.lst (ds.map V.ref)) ∧ Tups K H' ds (eachN (· + ·) (L.take i) M)) ⟨same_new hD _, [], upd_same, .nil⟩ (fun i H' h => same_sqt h.1 h2) ?_ ?_
    · rintro i x H' hx ⟨sm, ds, eD, hT⟩
      obtain ⟨p1, t, rfl, _, ht, hs⟩ := tups_get (h3.same sm) hx
      have htl := hdL t (List.mem_of_getElem? ht)
      have hi : i < L.length := (List.getElem?_eq_some_iff.mp ht).1
      refine ⟨rfl, _, rfl, b, dy, _, rfl, sm _ _ k1, b, d, M, rfl, hB.same sm, fun m' rs' km kt => ⟨m', rfl, ⟨_, km⟩, ?_⟩⟩
      have hlm : rs'.length = M.length := kt.length
      refine in2_tup (K := K) (b := m') (ys := rs'.map V.ref) (fun j H2 => Same H H2 ∧ SqT K H2 m' (rs'.map V.ref) ∧ Tups K H2 rs' M ∧ SqT K H2 p1 (nv t) ∧ ∃ ds : List Addr, H2 D = some (.lst (ds.map V.ref)) ∧ Tups K H2 ds (eachN (· + ·) (L.take i) M ++ (M.take j).map fun u => List.zipWith (· + ·) t u))
        ⟨sm, km, kt, hs, ds, eD, by rw [List.take_zero, List.map_nil, List.append_nil]; exact hT⟩ (fun j H2 h => h.2.1) ?_ ?_
      · rintro j y H2 hy ⟨sm2, km2, kt2, hs2, ds2, eD2, hT2⟩
        obtain ⟨p2, u, rfl, _, hu, hsu⟩ := tups_get kt2 hy
        have hul := hdM u (List.mem_of_getElem? hu)
        have hj : j < M.length := (List.getElem?_eq_some_iff.mp hu).1
        refine ⟨rfl, _, rfl, _, rfl, p1, p2, t, u, rfl, hs2, hsu, by rw [hul, htl], by omega, fun H3 z s3 hz => ?_⟩
        rw [zi_add] at hz
        have eD3 := s3 _ _ eD2
        have hds : ds2.length = i * M.length + j := by
          have e1 : ds2.length = _ := hT2.length
          rw [e1, List.length_append, each_len, List.length_map, List.length_take, List.length_take, Nat.min_eq_left (Nat.le_of_lt hi), Nat.min_eq_left (Nat.le_of_lt hj)]
        have hbound : i * M.length + j < 64 := by
          have := Nat.mul_le_mul_right M.length (show i + 1 ≤ L.length from hi)
          rw [Nat.succ_mul] at this
          omega
        refine ⟨_, eD3, by rw [List.length_map]; exact sizeK (by omega), same_updL (sm2.trans s3) hD, sqt_updL eD3 (same_sqt s3 km2), (kt2.same s3).updL eD3, sqt_updL eD3 (same_sqt s3 hs2), ds2 ++ [z], ?_, ?_⟩
        · rw [upd_same, List.map_append]
          rfl
        · rw [take_more hu, List.map_append, ← List.append_assoc]
          exact ((hT2.same s3).updL eD3).app (.cons (sqt_updL eD3 hz) .nil)
      · rintro H2 ⟨sm2, _, _, _, ds2, eD2, hT2⟩
        refine ⟨sm2, ds2, eD2, ?_⟩
        rw [List.length_map, hlm, List.take_length] at hT2
        rw [take_more ht]
        show Tups K H2 ds2 ((L.take i ++ [t]).flatMap _)
        rw [List.flatMap_append, List.flatMap_cons, List.flatMap_nil, List.append_nil]
        exact hT2
    · rintro H2 ⟨sm2, ds2, eD2, hT2⟩
      rw [List.length_map, hlen, List.take_length] at hT2
      refine ⟨_, rfl, a, O.C, dx, _, _, rfl, sm2 _ _ h1, O.cl, O.nL, rfl, _, rfl, D, ds2, _, d, rfl, .inl (SqL.of eD2), hT2, hf, fun H3 z2 rs3 s3 hz2 hT3 => ?_⟩
      exact ⟨d, z2, rs3, _, rfl, hf.pos, hd8, hz2, hT3, fun H4 c s4 hc hl => q H4 c (sm2.trans (s3.trans s4)) ((sm2.trans s3).free hc) hl⟩
end
end K08

namespace K08
open PySem PySem.Spec PyProof.Rows L2 RZ L5 R7 XX
section
variable {P : Program} {w : World} {K : PySem.W.Frag} {mg : Str → Option Value} {base : Heap}
/-! ### one.meet(other) -/
abbrev s_meet : Stmt := inClass (topS 45) 9
abbrev N_meet : List Str := ["self", "other", "both", "one", "two"]
theorem sc_meet : FnScope N_meet ["self", "other"] (defScope s_meet) := ⟨rfl, rfl, rfl, by decide +kernel, rfl, by decide +kernel, by decide +kernel⟩
structure LotX (K : PySem.W.Frag) (C : Addr) where
  fX : Addr
  dX : FuncData
  FX : Fun K "meet" "Lot.meet" s_meet fX dX
  bX : Binds K dX ["self", "other"] []
  mX : Meth K C "meet" fX
theorem zi_max (t u : List Nat) : (zi maxZ t u).map V.int = nv (List.zipWith max t u) := by
  show _ = List.map _ _
  rw [List.map_zipWith, List.map_zipWith]
  congr 1
  funext a b
  show V.int (if _ then _ else _) = V.int _
  congr 1
  split <;> omega
theorem ok_meet (T : Txt K mg) (O : LotT K mg) (R : LotP K O.C) (W : LotO K mg O.C) (Y : LotX K O.C) : FnOk P w K mg base CX0 8 Y.fX Y.dX ["self", "other"] (sp_mul K O.C max) := by
  refine Y.FX.ok sc_meet (fun vs H Q E h => ?_) (fun cdv A outer s H vs Q E hr h => ?_)
  · obtain ⟨a, b, d, L, M, rfl, _⟩ := h
    rfl
  · obtain ⟨a, b, d, L, M, rfl, hA, hB, hd8, hdL, hdM, hf, q⟩ := h
    refine ⟨_, pss_cons (ps_if (PW.pt (pw_or (pt_not (pt_val (pe_callB call_isi (by rfl) T.z_isinstance boot_isinstance (pa_cons (pv 1) (pa_cons (pe_glob (v := .ref O.C) rfl O.gC rfl) pa_nil)))))
        (pw_or1 (pt_cmpR op_ne (pe_prop (E := E0) (pv 1) O.cl R.PL (ok_ltr O R) (hr.mono (show 1 + 1 ≤ 7 by decide)) R.bL .nil pass0 rfl) (pe_fld (pv 0) rfl) (nomark _))))) (pss_one ps_never) pss_nil)
      (pss_cons (ps_setLc2 (i := 2) (own := [("one", 3), ("two", 4)]) (vs1 := [4]) (g := gName 3) (g1 := gName 4) (tt := tYes) (tt1 := tYes) rfl sc_meet.nd rfl rfl (sw_true rfl rfl rfl (by decide +kernel)) (pi_tup (pe_fld (pv 0) rfl))
          (blkOk_by (own := [("one", 3), ("two", 4)]) (N := N_meet) (sc := defScope s_meet) (by decide +kernel)) (by decide)
          (fun _ _ _ _ _ => pg_name (i := 3) sc_meet.nd rfl (Or.inl rfl)) (fun _ _ _ _ _ => pts_nil)
          (fun _ _ _ _ _ => show PI _ _ _ (iTup K (tProp O.C (sp_mem K O.C) [] E0 (tVar 1))) from pi_tup (pe_prop (E := E0) (pv 1) O.cl R.PM (ok_mem O R) (hr.mono (show 1 + 1 ≤ 7 by decide)) R.bM .nil pass0 rfl))
          (fun _ _ _ _ _ => pg_name (i := 4) sc_meet.nd rfl (Or.inl rfl)) (fun _ _ _ _ _ => pts_nil)
          (fun _ _ _ _ _ => pe_call (ok_greater T) (hr.mono (by decide)) (by rfl) T.m_greater T.F_greater.kp T.b_greater .nil pass0 (pa_cons (pv 3) (pa_cons (pv 4) pa_nil))))
      (pss_one (ps_ret (pe_call (ok_made T O) hr (by rfl) T.m_made_lot T.F_made_lot.kp T.b_made_lot .nil pass0 (pa_cons (pe_fld (pv 0) rfl)
        (pa_cons (pe_call (E := E0) (ok_lim T) (hr.mono (by decide)) (by rfl) T.m_limited_members T.F_limited_members.kp T.b_limited_members .nil passG (pa_cons (pv 2) pa_nil)) pa_nil)))))), ?_⟩
    have ia := hA
    have ib := hB
    obtain ⟨dx, m, rs, h1, h2, h3⟩ := ia
    obtain ⟨dy, m2, rs2, k1, k2, k3⟩ := ib
    refine ⟨_, rfl, _, _, _, _, true, rfl, .own _, W.ty H b dy _ k1, W.kit, true, rfl, iteF ?_⟩
    refine ⟨_, rfl, b, dy, _, rfl, k1, b, d, M, rfl, hB, _, rfl, a, O.C, dx, _, _, rfl, h1, O.cl, O.nL, rfl, rfl, _, rfl, ?_⟩
    rw [decide_eq_true rfl]
    refine iteF ?_
    refine ⟨_, rfl, a, O.C, dx, _, _, rfl, h1, O.cl, O.nM, rfl, m, rfl, ⟨_, h2⟩, fun D hD => ?_⟩
    have hlen : rs.length = L.length := h3.length
    have hall := hf.few
    rw [each_len] at hall
    refine out2_tup (K := K) (a := m) (xs := rs.map V.ref) (fun i H' => Same H H' ∧ ∃ ds : List Addr, H' D = some (.lst (ds.map V.ref)) ∧ Tups K H' ds (eachN max (L.take i) M)) ⟨same_new hD _, [], upd_same, .nil⟩ (fun i H' h => same_sqt h.1 h2) ?_ ?_
    · rintro i x H' hx ⟨sm, ds, eD, hT⟩
      obtain ⟨p1, t, rfl, _, ht, hs⟩ := tups_get (h3.same sm) hx
      have htl := hdL t (List.mem_of_getElem? ht)
      have hi : i < L.length := (List.getElem?_eq_some_iff.mp ht).1
      refine ⟨rfl, _, rfl, b, dy, _, rfl, sm _ _ k1, b, d, M, rfl, hB.same sm, fun m' rs' km kt => ⟨m', rfl, ⟨_, km⟩, ?_⟩⟩
      have hlm : rs'.length = M.length := kt.length
      refine in2_tup (K := K) (b := m') (ys := rs'.map V.ref) (fun j H2 => Same H H2 ∧ SqT K H2 m' (rs'.map V.ref) ∧ Tups K H2 rs' M ∧ SqT K H2 p1 (nv t) ∧ ∃ ds : List Addr, H2 D = some (.lst (ds.map V.ref)) ∧ Tups K H2 ds (eachN max (L.take i) M ++ (M.take j).map fun u => List.zipWith max t u))
        ⟨sm, km, kt, hs, ds, eD, by rw [List.take_zero, List.map_nil, List.append_nil]; exact hT⟩ (fun j H2 h => h.2.1) ?_ ?_
      · rintro j y H2 hy ⟨sm2, km2, kt2, hs2, ds2, eD2, hT2⟩
        obtain ⟨p2, u, rfl, _, hu, hsu⟩ := tups_get kt2 hy
        have hul := hdM u (List.mem_of_getElem? hu)
        have hj : j < M.length := (List.getElem?_eq_some_iff.mp hu).1
        refine ⟨rfl, _, rfl, _, rfl, p1, p2, t, u, rfl, hs2, hsu, by rw [hul, htl], by omega, fun H3 z s3 hz => ?_⟩
        rw [zi_max] at hz
        have eD3 := s3 _ _ eD2
        have hds : ds2.length = i * M.length + j := by
          have e1 : ds2.length = _ := hT2.length
          rw [e1, List.length_append, each_len, List.length_map, List.length_take, List.length_take, Nat.min_eq_left (Nat.le_of_lt hi), Nat.min_eq_left (Nat.le_of_lt hj)]
        have hbound : i * M.length + j < 64 := by
          have := Nat.mul_le_mul_right M.length (show i + 1 ≤ L.length from hi)
          rw [Nat.succ_mul] at this
          omega
        refine ⟨_, eD3, by rw [List.length_map]; exact sizeK (by omega), same_updL (sm2.trans s3) hD, sqt_updL eD3 (same_sqt s3 km2), (kt2.same s3).updL eD3, sqt_updL eD3 (same_sqt s3 hs2), ds2 ++ [z], ?_, ?_⟩
        · rw [upd_same, List.map_append]
          rfl
        · rw [take_more hu, List.map_append, ← List.append_assoc]
          exact ((hT2.same s3).updL eD3).app (.cons (sqt_updL eD3 hz) .nil)
      · rintro H2 ⟨sm2, _, _, _, ds2, eD2, hT2⟩
        refine ⟨sm2, ds2, eD2, ?_⟩
        rw [List.length_map, hlm, List.take_length] at hT2
        rw [take_more ht]
        show Tups K H2 ds2 ((L.take i ++ [t]).flatMap _)
        rw [List.flatMap_append, List.flatMap_cons, List.flatMap_nil, List.append_nil]
        exact hT2
    · rintro H2 ⟨sm2, ds2, eD2, hT2⟩
      rw [List.length_map, hlen, List.take_length] at hT2
      refine ⟨_, rfl, a, O.C, dx, _, _, rfl, sm2 _ _ h1, O.cl, O.nL, rfl, _, rfl, D, ds2, _, d, rfl, .inl (SqL.of eD2), hT2, hf, fun H3 z2 rs3 s3 hz2 hT3 => ?_⟩
      exact ⟨d, z2, rs3, _, rfl, hf.pos, hd8, hz2, hT3, fun H4 c s4 hc hl => q H4 c (sm2.trans (s3.trans s4)) ((sm2.trans s3).free hc) hl⟩
end
end K08

/-! == between two objects of one own class -/
namespace W7
open PySem PySem.W PySem.Calls PyProof.Rows
section
variable {prog : Program} {w : World} {A : Around} {E : Value → Shared → Prop} {s : Shared} {K : Frag} {x y C f : Addr} {ox oy : Obj} {od oe : Option Obj}
theorem cmp_same {op : CmpOp} {Q : Value → Shared → Prop} (room : A.units < cLine) (kin : K.In s.heap) (I : InstAt s.heap x ox C od) (J : InstAt s.heap y oy C oe)
    (at_ : findIn K (.ref C) (cmpInfo op).2.1 = some (some (.ref f))) (fn : isFn K (.ref f) = true) (h : wpAny (model prog w) A (call (.ref f) [.ref x, .ref y]) (PySem.W.CmpBack Q) E s) : wpAny (model prog w) A (richCompare op (.ref x) (.ref y)) Q E s := by
  have tried : wpAny (model prog w) A (tryCompare (.ref x) (cmpInfo op).2.1 (.ref y)) (fun r s' => ∃ v, r = some v ∧ Q v s') E s := by
    unfold tryCompare
    refine wpAny_bind (ifBound_K kin I at_ fn (wpAny_mono h (fun v s' hv => ?_) fun _ _ e => e))
    cases v <;> first | exact hv.elim | exact wpAny_pure ⟨_, rfl, hv⟩
  unfold richCompare
  simp only [oneThing_ref]
  refine wpAny_holding (wpAny_bind (wpAny_cRoomFor room (wpAny_bind (I.type.here (wpAny_bind (J.type.here ?_))))))
  have same : (Value.ref C != Value.ref C) = false := by simp
  simp only [same, Bool.false_eq_true, if_false]
  refine wpAny_bind (wpAny_pure ?_)
  simp only [Bool.false_eq_true, if_false]
  refine wpAny_bind (wpAny_mono tried (fun r s' got => ?_) fun _ _ e => e)
  obtain ⟨v, rfl, q⟩ := got
  exact wpAny_pure q
end
end W7
namespace W7
open PySem PySem.Spec PyProof.Rows L2
section
variable {X : Cx} {CX : CXT} {C f : Addr} {fd : FuncData} {ps : List Str} {sp : Sp} {k : Nat}
theorem op_eqOwn (at_ : PySem.W.findIn X.K (.ref C) "__eq__" = some (some (.ref f))) (fn : PySem.W.isFn X.K (.ref f) = true) (F : FnOk X.prog X.w X.K X.mg X.base CX k f fd ps sp) (hr : Room k X.A) (hb : Binds X.K fd ps []) (hx : Passes CX X E0) : OpR X (compareOp .Eq) (rOwn C sp) := by
  intro pins s σ H x y v u Q I rx ry h
  obtain ⟨a, b, dx, dy, fs, gs, rfl, rfl, ha, hb2, q⟩ := h
  obtain rfl : v = Value.ref a := rx
  obtain rfl : u = Value.ref b := ry
  obtain ⟨_, Oa, _⟩ := ins_get I.hok ha
  obtain ⟨_, Ja, _⟩ := Oa.look
  obtain ⟨_, Ob, _⟩ := ins_get I.hok hb2
  obtain ⟨_, Jb, _⟩ := Ob.look
  refine cmp_same (op := .Eq) (Nat.lt_of_le_of_lt (Nat.le_add_right _ _) hr.units) I.kIn Ja Jb at_ fn (wpAny_mono (run_fn (dvs := []) (ds := []) (vs := [.ref a, .ref b]) (us := [.ref a, .ref b]) (Q := Q) F hr hb .nil hx I (.cons rfl (.cons rfl .nil)) q) (fun r s' z => ?_) fun _ _ z => z)
  cases r with
  | notImplemented =>
    obtain ⟨_, _, _, rel, _⟩ := z
    exact no_notimpl rel
  | _ => exact z
end
end W7

namespace K08
open PySem PySem.Spec PyProof.Rows L2 RZ L5 R7 XX
section
variable {P : Program} {w : World} {K : PySem.W.Frag} {mg : Str → Option Value} {base : Heap}
/-! ### ==, in, len: what the methods tell -/
abbrev s_has : Stmt := inClass (topS 45) 12
abbrev s_eq : Stmt := inClass (topS 45) 13
abbrev s_len : Stmt := inClass (topS 45) 15
theorem sc_has : FnScope ["self", "value"] ["self", "value"] (defScope s_has) := ⟨rfl, rfl, rfl, by decide +kernel, rfl, by decide +kernel, by decide +kernel⟩
theorem sc_eq : FnScope ["self", "other"] ["self", "other"] (defScope s_eq) := ⟨rfl, rfl, rfl, by decide +kernel, rfl, by decide +kernel, by decide +kernel⟩
theorem sc_len : FnScope ["self"] ["self"] (defScope s_len) := ⟨rfl, rfl, rfl, by decide +kernel, rfl, by decide +kernel, by decide +kernel⟩
structure LotC (K : PySem.W.Frag) where
  fH : Addr
  dH : FuncData
  FH : Fun K "__contains__" "Lot.__contains__" s_has fH dH
  bH : Binds K dH ["self", "value"] []
  fE : Addr
  dE : FuncData
  FE : Fun K "__eq__" "Lot.__eq__" s_eq fE dE
  bE : Binds K dE ["self", "other"] []
  fN : Addr
  dN : FuncData
  FN : Fun K "__len__" "Lot.__len__" s_len fN dN
  bN : Binds K dN ["self"] []
theorem eqvAll_tups : ∀ L M : List (List Nat), PyData.eqvAll (L.map encT) (M.map encT) = decide (L = M)
  | [], [] => by simp [PyData.eqvAll]
  | [], _ :: _ => by simp [PyData.eqvAll]
  | _ :: _, [] => by simp [PyData.eqvAll]
  | t :: L, u :: M => by
    rw [List.map_cons, List.map_cons, PyData.eqvAll, eqv_tupE, eqvAll_tups L M, ← Bool.decide_and]
    exact decide_eq_decide.mpr (by simp)
theorem shaped_tupsT (L : List (List Nat)) : SeqAt.shaped (.tuple (L.map encT)) = true := by
  have h := can_tups L
  unfold SeqAt.shaped
  simp only [PyData.canLay0, PyData.depth, h.1, Bool.true_and]
  exact decide_eq_true (by omega)
def sp_eql (K : PySem.W.Frag) (C : Addr) : Sp := fun vs H Q _ => ∃ a b d e L M, vs = [.ref a, .ref b] ∧ LotAt K C H a d L ∧ LotAt K C H b e M ∧ Q (.bl (decide (d = e) && decide (L = M))) H
theorem ok_eql (T : Txt K mg) (O : LotT K mg) (W : LotO K mg O.C) (Z : LotC K) : FnOk P w K mg base CX0 1 Z.fE Z.dE ["self", "other"] (sp_eql K O.C) := by
  refine Z.FE.ok sc_eq (fun vs H Q E h => ?_) (fun cdv A outer s H vs Q E hr h => ?_)
  · obtain ⟨a, b, d, e, L, M, rfl, _⟩ := h
    rfl
  · obtain ⟨a, b, d, e, L, M, rfl, ⟨dx, m, rs, h1, h2, h3⟩, ⟨dy, m2, rs2, k1, k2, k3⟩, q⟩ := h
    refine ⟨_, pss_one (ps_ret (pe_and (pe_callB call_isi (by rfl) T.z_isinstance boot_isinstance (pa_cons (pv 1) (pa_cons (pe_glob (v := .ref O.C) rfl O.gC rfl) pa_nil)))
      (pe_and (pe_cmpR op_eq (pe_fld (pv 0) rfl) (pe_fld (pv 1) rfl) (nomark _)) (pe_one (pe_cmpR (op_eqD hr.units) (pe_fld (pv 0) rfl) (pe_fld (pv 1) rfl) (nomark _)))))), ?_⟩
    refine ⟨_, rfl, _, _, _, _, true, rfl, .own _, W.ty H b dy _ k1, W.kit, true, rfl, iteT ?_⟩
    refine ⟨_, rfl, a, O.C, dx, _, _, rfl, h1, O.cl, O.nL, rfl, _, rfl, b, O.C, dy, _, _, rfl, k1, O.cl, O.nL, rfl, rfl, _, rfl, ite2 (fun c => ?_) (fun c => ?_)⟩
    · have c' : d = e := by
        have := V.int.inj (of_decide_eq_true c)
        omega
      rw [decide_eq_true c', Bool.true_and] at q
      refine ⟨_, rfl, a, O.C, dx, _, _, rfl, h1, O.cl, O.nM, rfl, _, rfl, b, O.C, dy, _, _, rfl, k1, O.cl, O.nM, rfl, _, _, .tup h2 (dp_tups h3), .tup k2 (dp_tups k3), shaped_tupsT L, shaped_tupsT M, ?_⟩
      rw [show PyData.eqv (.tuple (L.map encT)) (.tuple (M.map encT)) = decide (L = M) by simp only [PyData.eqv]; exact eqvAll_tups L M]
      exact q
    · have c' : ¬ d = e := fun z => c (decide_eq_true (by rw [z]))
      rw [decide_eq_false c', Bool.false_and] at q
      exact q
def sp_has (K : PySem.W.Frag) (C : Addr) : Sp := fun vs H Q _ => ∃ a p d L t, vs = [.ref a, .ref p] ∧ LotAt K C H a d L ∧ SqT K H p (nv t) ∧ t.length = d ∧ d ≤ 8 ∧ (∀ e ∈ t, e ≤ 60) ∧ (∀ u ∈ L, u.length = d) ∧ ∀ H', Same H H' → Q (.bl (L.any fun k => M7.fitB k t)) H'
theorem ok_has (T : Txt K mg) (O : LotT K mg) (Z : LotC K) : FnOk P w K mg base CX0 4 Z.fH Z.dH ["self", "value"] (sp_has K O.C) := by
  refine Z.FH.ok sc_has (fun vs H Q E h => ?_) (fun cdv A outer s H vs Q E hr h => ?_)
  · obtain ⟨a, p, d, L, t, rfl, _⟩ := h
    rfl
  · obtain ⟨a, p, d, L, t, rfl, hA, hp, rfl, h8, h60, hd, q⟩ := h
    have ia := hA
    obtain ⟨dx, m, rs, h1, h2, h3⟩ := ia
    refine ⟨_, pss_cons (ps_if (pt_not (pt_val (pe_call (ok_are T) hr (by rfl) T.m_are_exponents T.F_are_exponents.kp T.b_are_exponents .nil pass0 (pa_cons (pv 1) (pa_cons (pe_fld (pv 0) rfl) (pa_cons (pe_glob (v := .int 60) rfl T.c_MAX_EXPONENT ⟨_, rfl⟩) pa_nil)))))) (pss_one (ps_ret pe_bl)) pss_nil)
      (pss_one (ps_ret (pe_call (ok_isd T) (hr.mono (by decide)) (by rfl) T.m_is_divided T.F_is_divided.kp T.b_is_divided .nil pass0 (pa_cons (pv 1) (pa_cons (pe_fld (pv 0) rfl) pa_nil))))), ?_⟩
    refine ⟨_, rfl, _, rfl, a, O.C, dx, _, _, rfl, h1, O.cl, O.nL, rfl, .ref p, _, _, 60, rfl, va_prod hp (by omega), fun H1 s1 => ⟨_, rfl, ?_⟩⟩
    have e60 : areB (some (t.map fun n => some ((n : Nat) : Int))) ((t.length : Nat) : Int) 60 = true := are_low (m := 60) h60
    rw [e60]
    refine iteF ⟨_, rfl, _, rfl, a, O.C, dx, _, _, rfl, s1 _ _ h1, O.cl, O.nM, rfl, p, m, t, rs, L, rfl, same_sqt s1 hp, .inr (same_sqt s1 h2), h3.same s1, hd, fun H2 s2 => q H2 (s1.trans s2)⟩
def sp_len (K : PySem.W.Frag) (C : Addr) : Sp := fun vs H Q _ => ∃ a d L, vs = [.ref a] ∧ LotAt K C H a d L ∧ Q (.int ((L.length : Nat) : Int)) H
theorem ok_len (T : Txt K mg) (O : LotT K mg) (Z : LotC K) : FnOk P w K mg base CX0 1 Z.fN Z.dN ["self"] (sp_len K O.C) := by
  refine Z.FN.ok sc_len (fun vs H Q E h => ?_) (fun cdv A outer s H vs Q E hr h => ?_)
  · obtain ⟨a, d, L, rfl, _⟩ := h
    rfl
  · obtain ⟨a, d, L, rfl, ⟨dx, m, rs, h1, h2, h3⟩, q⟩ := h
    refine ⟨_, pss_one (ps_ret (pe_callB call_len_seq (by rfl) T.z_len boot_len (pa_cons (pe_fld (pv 0) rfl) pa_nil))), ?_⟩
    refine ⟨_, rfl, a, O.C, dx, _, _, rfl, h1, O.cl, O.nM, rfl, m, _, rfl, .inr h2, ?_⟩
    have hl : rs.length = L.length := h3.length
    rw [List.length_map, hl]
    exact q
end
end K08

namespace K08
open PySem PySem.Spec PyProof.Rows L2 RZ L5 R7 XX
section
variable {P : Program} {w : World} {K : PySem.W.Frag} {mg : Str → Option Value} {base : Heap}
/-! ### _law_product, _law_products, _law_lot -/
theorem bar_updL {p D : Addr} {o : HO} {H H' : Hp} (b : Bar p H H') (hD : H D = none) : Bar p H (upd H' D o) := fun c u n h => by
  rw [upd_ne (ne_of_none h hD)]
  exact b c u n h
theorem nat_of {i : Int} (h0 : 0 ≤ i) : ∃ n : Nat, i = ((n : Nat) : Int) := ⟨i.toNat, by omega⟩
def sp_wprod (K : PySem.W.Frag) : Sp := fun vs H Q _ => ∃ (p : Addr) (l mm : Nat) (g x c : Int), vs = [.ref p, .int ((l : Nat) : Int), .int ((mm : Nat) : Int)] ∧ H p = some (pailO g x c) ∧ 1 ≤ l ∧ l ≤ 8 ∧ 1 ≤ mm ∧ mm ≤ 10 ∧
  ∀ H' z t g x c, Bar p H H' → H' p = some (pailO g x c) → SqT K H' z (nv t) → t.length = l → (∀ e ∈ t, e ≤ mm) → Q (.ref z) H'
theorem ok_wprod (T : Txt K mg) : FnOk P w K mg base CX0 3 T.a_w_product T.d_w_product ["_law_pail_here", "_law_letters", "_law_most"] (sp_wprod K) := by
  refine T.F_w_product.ok sc_w_product (fun vs H Q E h => ?_) (fun cdv A outer s H vs Q E hr h => ?_)
  · obtain ⟨p, l, mm, g, x, c, rfl, _⟩ := h
    rfl
  · obtain ⟨p, l, mm, g, x, c, rfl, hp, h1, h8, m1, m10, q⟩ := h
    refine ⟨_, pss_cons (ps_set (i := 3) sc_w_product.nd rfl (Or.inr rfl) (pe_call (ok_some T) hr (by rfl) T.m_w_some T.F_w_some.kp T.b_w_some .nil pass0 (pa_cons (pv 0) (pa_cons
          (pe_lst (pa_cons pe_int (pa_cons pe_int (pa_cons pe_int (pa_cons (pv 2) pa_nil))))) pa_nil))))
      (pss_one (ps_ret (pe_callTy call_tuple_of (by rfl) T.z_tuple boot_tuple (pa_cons
      (pe_lc (own := [("_law_at", 4)]) (g := gName 4) (tt := tYes) rfl sc_w_product.nd (pi_range1 rfl T.z_range (pa_cons (pv 1) pa_nil)) (blkOk_by (own := [("_law_at", 4)]) (N := N_w_product) (sc := defScope s_w_product) (by decide +kernel))
        (fun _ _ _ _ _ => pg_name (i := 4) sc_w_product.nd rfl (Or.inl rfl)) (fun _ _ _ _ _ => pts_nil)
        (fun _ _ _ _ _ => pe_op op_mul (pe_call (ok_dip T) (hr.mono (by decide)) (by rfl) T.m_w_dipped T.F_w_dipped.kp T.b_w_dipped .nil pass0 (pa_cons (pv 0) (pa_cons (pe_op op_add (pe_callB (call_min2 rfl) (by rfl) T.z_min (by decide +kernel) (pa_cons (pv 3) (pa_cons (pv 2) pa_nil))) pe_int) pa_nil)))
          (pe_callTy call_int1 (by rfl) T.z_int boot_int (pa_cons (pe_cmpR op_gt (pe_call (ok_dip T) (hr.mono (by decide)) (by rfl) T.m_w_dipped T.F_w_dipped.kp T.b_w_dipped .nil pass0 (pa_cons (pv 0) (pa_cons pe_int pa_nil))) pe_int (nomark _)) pa_nil)))) pa_nil)))), ?_⟩
    refine ⟨_, rfl, _, rfl, by show 4 ≤ sizeLine; decide, fun y hy => ?_⟩
    have hyp : y ≠ p := fun z => by rw [z, hp] at hy; cases hy
    have sy := same_new hy (.lst [V.int 1, V.int 2, V.int 2, V.int ((mm : Nat) : Int)])
    refine ⟨p, y, _, g, x, c, rfl, sy _ _ hp, hyp, SqL.of upd_same, by simp, by simp, fun g2 x2 c2 v hv => ?_⟩
    obtain ⟨n, rfl, hn1, hn⟩ : ∃ n : Int, v = .int n ∧ 1 ≤ n ∧ n ≤ 10 := by
      simp only [List.mem_cons, List.not_mem_nil, or_false] at hv
      rcases hv with rfl | rfl | rfl | rfl
      · exact ⟨1, rfl, by omega, by omega⟩
      · exact ⟨2, rfl, by omega, by omega⟩
      · exact ⟨2, rfl, by omega, by omega⟩
      · exact ⟨_, rfl, by omega, by omega⟩
    have sb0 : Bar p H (upd (upd H y (.lst [V.int 1, V.int 2, V.int 2, V.int ((mm : Nat) : Int)])) p (pailO g2 x2 c2)) := (Bar.same sy).trans Bar.upd
    have hp0 : (upd (upd H y (.lst [V.int 1, V.int 2, V.int 2, V.int ((mm : Nat) : Int)])) p (pailO g2 x2 c2)) p = some (pailO g2 x2 c2) := upd_same
    generalize (upd (upd H y (.lst [V.int 1, V.int 2, V.int 2, V.int ((mm : Nat) : Int)])) p (pailO g2 x2 c2)) = H0 at sb0 hp0
    refine ⟨_, rfl, _, rfl, by omega, by omega, fun D hD => ?_⟩
    have hDp : D ≠ p := fun z => by rw [z, hp0] at hD; cases hD
    refine lc_range (lo := 0) (n := ((l : Nat) : Int).toNat) (fun i H' => ∃ (g x c : Int) (t : List Nat), Bar p H0 H' ∧ H' p = some (pailO g x c) ∧ H' D = some (.lst (nv t)) ∧ t.length = i ∧ ∀ e ∈ t, e ≤ mm)
      ⟨g2, x2, c2, [], Bar.same (same_new hD _), by rw [upd_ne (Ne.symm hDp)]; exact hp0, upd_same, rfl, fun _ h => nomatch h⟩ (fun i H' hi h => ?_) (fun H' h => ?_)
    · obtain ⟨g1, x1, c1, t, sb, hp1, eD, hz, ht⟩ := h
      have hmin : 1 ≤ (if ((mm : Nat) : Int) < n then ((mm : Nat) : Int) else n) ∧ (if ((mm : Nat) : Int) < n then ((mm : Nat) : Int) else n) ≤ ((mm : Nat) : Int) := by
        split <;> omega
      refine ⟨rfl, _, rfl, _, rfl, _, rfl, _, _, rfl, _, _, rfl, rfl, p, _, g1, x1, c1, rfl, hp1, by omega, by omega, fun g3 x3 c3 r hr0 hr1 => ?_⟩
      refine ⟨_, rfl, p, _, g3, x3, c3, rfl, upd_same, by omega, by omega, fun g4 x4 c4 r2 hr2 hr3 => ?_⟩
      obtain ⟨m, rfl⟩ := nat_of hr0
      have eD' : (upd (upd H' p (pailO g3 x3 c3)) p (pailO g4 x4 c4)) D = some (.lst (nv t)) := by
        rw [upd_ne hDp, upd_ne hDp]
        exact eD
      have key : ∀ b : Nat, b ≤ 1 → ∃ acc, (upd (upd H' p (pailO g3 x3 c3)) p (pailO g4 x4 c4)) D = some (.lst acc) ∧ acc.length < sizeLine ∧ ∃ (g x c : Int) (t : List Nat), Bar p H0 (upd (upd (upd H' p (pailO g3 x3 c3)) p (pailO g4 x4 c4)) D (.lst (acc ++ [V.int (((m : Nat) : Int) * ((b : Nat) : Int))]))) ∧
          (upd (upd (upd H' p (pailO g3 x3 c3)) p (pailO g4 x4 c4)) D (.lst (acc ++ [V.int (((m : Nat) : Int) * ((b : Nat) : Int))]))) p = some (pailO g x c) ∧ (upd (upd (upd H' p (pailO g3 x3 c3)) p (pailO g4 x4 c4)) D (.lst (acc ++ [V.int (((m : Nat) : Int) * ((b : Nat) : Int))]))) D = some (.lst (nv t)) ∧ t.length = i + 1 ∧ ∀ e ∈ t, e ≤ mm := fun b hb => by
        refine ⟨_, eD', by rw [nv_len]; exact sizeK (by omega), g4, x4, c4, t ++ [m * b], ?_, ?_, ?_, by rw [List.length_append, hz]; rfl, fun e he => ?_⟩
        · exact bar_updL (sb.trans (Bar.upd.trans Bar.upd)) hD
        · rw [upd_ne (Ne.symm hDp), upd_same]
        · rw [upd_same, nv_app]
          show _ = some (HO.lst (nv t ++ [V.int (((m * b : Nat)) : Int)]))
          rw [Int.natCast_mul]
        · rcases List.mem_append.mp he with he | he
          · exact ht e he
          · rw [List.mem_singleton.mp he]
            have : m ≤ mm := by omega
            exact Nat.le_trans (Nat.mul_le_mul this hb) (by omega)
      refine ⟨_, _, rfl, rfl, .inr ⟨_, rfl, ?_⟩⟩
      obtain ⟨b, hb, eb⟩ : ∃ b : Nat, b ≤ 1 ∧ (if decide (0 < r2) = true then (1 : Int) else 0) = ((b : Nat) : Int) := by
        by_cases z : 0 < r2
        · exact ⟨1, Nat.le_refl _, if_pos (decide_eq_true z)⟩
        · exact ⟨0, by omega, if_neg (by rw [decide_eq_false z]; decide)⟩
      rw [eb]
      exact ⟨_, _, rfl, rfl, .inl ⟨by omega, by omega⟩, key b hb⟩
    · obtain ⟨g1, x1, c1, t, sb, hp1, eD, hz, ht⟩ := h
      refine ⟨D, _, rfl, .inl ⟨SqL.of eD, fun z hz' => ?_⟩⟩
      exact q _ z t g1 x1 c1 (sb0.trans (sb.trans (Bar.same (same_new hz' _)))) (same_new hz' _ _ _ hp1) (SqT.of upd_same) (by omega) ht
end
end K08

namespace K08
open PySem PySem.Spec PyProof.Rows L2 RZ L5 R7 XX
section
variable {P : Program} {w : World} {K : PySem.W.Frag} {mg : Str → Option Value} {base : Heap}
theorem bar_but {p : Addr} {H H' : Hp} (b : Bar p H H') : ∀ c o, c ≠ p → H c = some o → H' c = some o := fun c o n h => b c o n h
theorem bar_sqt {p a : Addr} {H H' : Hp} {g x c : Int} {xs : List V} (hp : H p = some (pailO g x c)) (b : Bar p H H') (h : SqT K H a xs) : SqT K H' a xs := sqt_but hp (bar_but b) h
theorem bar_tups {p : Addr} {H H' : Hp} {g x c : Int} {rs : List Addr} {L : List (List Nat)} (hp : H p = some (pailO g x c)) (b : Bar p H H') (h : Tups K H rs L) : Tups K H' rs L := tups_but hp (bar_but b) h
theorem bar_lot {C p a : Addr} {d : Nat} {L : List (List Nat)} {H H' : Hp} {g x c : Int} (hp : H p = some (pailO g x c)) (b : Bar p H H') : LotAt K C H a d L → LotAt K C H' a d L := fun ⟨dx, m, rs, h1, h2, h3⟩ => ⟨dx, m, rs, b _ _ (fun e => by rw [e, hp] at h1; cases h1) h1, bar_sqt hp b h2, bar_tups hp b h3⟩
def sp_wprods (K : PySem.W.Frag) : Sp := fun vs H Q _ => ∃ (p : Addr) (l many mm : Nat) (g x c : Int), vs = [.ref p, .int ((l : Nat) : Int), .int ((many : Nat) : Int), .int ((mm : Nat) : Int)] ∧ H p = some (pailO g x c) ∧ 1 ≤ l ∧ l ≤ 8 ∧ many ≤ 10 ∧ 1 ≤ mm ∧ mm ≤ 10 ∧
  ∀ H' z rs L g x c, Bar p H H' → H' p = some (pailO g x c) → SqT K H' z (rs.map V.ref) → Tups K H' rs L → L.length ≤ many → (∀ t ∈ L, t.length = l) → (∀ t ∈ L, ∀ e ∈ t, e ≤ mm) → Q (.ref z) H'
theorem ok_wprods (T : Txt K mg) : FnOk P w K mg base CX0 4 T.a_w_products T.d_w_products ["_law_pail_here", "_law_letters", "_law_many", "_law_most"] (sp_wprods K) := by
  refine T.F_w_products.ok sc_w_products (fun vs H Q E h => ?_) (fun cdv A outer s H vs Q E hr h => ?_)
  · obtain ⟨p, l, many, mm, g, x, c, rfl, _⟩ := h
    rfl
  · obtain ⟨p, l, many, mm, g, x, c, rfl, hp, h1, h8, hmany, m1, m10, q⟩ := h
    refine ⟨_, pss_one (ps_ret (pe_callTy call_tuple_of (by rfl) T.z_tuple boot_tuple (pa_cons
      (pe_lc (own := [("_law_turn", 4)]) (g := gName 4) (tt := tYes) rfl sc_w_products.nd (pi_range1 rfl T.z_range (pa_cons (pe_call (ok_dip T) (hr.mono (by decide)) (by rfl) T.m_w_dipped T.F_w_dipped.kp T.b_w_dipped .nil pass0 (pa_cons (pv 0) (pa_cons (pe_op op_add (pv 2) pe_int) pa_nil))) pa_nil)) (blkOk_by (own := [("_law_turn", 4)]) (N := N_w_products) (sc := defScope s_w_products) (by decide +kernel))
        (fun _ _ _ _ _ => pg_name (i := 4) sc_w_products.nd rfl (Or.inl rfl)) (fun _ _ _ _ _ => pts_nil)
        (fun _ _ _ _ _ => pe_call (ok_wprod T) hr (by rfl) T.m_w_product T.F_w_product.kp T.b_w_product .nil pass0 (pa_cons (pv 0) (pa_cons (pv 1) (pa_cons (pv 3) pa_nil))))) pa_nil))), ?_⟩
    refine ⟨_, rfl, _, rfl, _, _, rfl, rfl, p, _, g, x, c, rfl, hp, by omega, by omega, fun g0 x0 c0 r hr0 hr1 => ?_⟩
    obtain ⟨n, rfl⟩ := nat_of hr0
    have hp0 : (upd H p (pailO g0 x0 c0)) p = some (pailO g0 x0 c0) := upd_same
    have sb0 : Bar p H (upd H p (pailO g0 x0 c0)) := Bar.upd
    generalize upd H p (pailO g0 x0 c0) = H0 at hp0 sb0 ⊢
    refine ⟨_, rfl, by omega, by omega, fun D hD => ?_⟩
    have hDp : D ≠ p := fun z => by rw [z, hp0] at hD; cases hD
    refine lc_range (lo := 0) (n := ((n : Nat) : Int).toNat) (fun i H' => ∃ (g x c : Int) (rs : List Addr) (L : List (List Nat)), Bar p H0 H' ∧ H' p = some (pailO g x c) ∧ H' D = some (.lst (rs.map V.ref)) ∧ Tups K H' rs L ∧ L.length = i ∧ (∀ t ∈ L, t.length = l) ∧ ∀ t ∈ L, ∀ e ∈ t, e ≤ mm)
      ⟨g0, x0, c0, [], [], Bar.same (same_new hD _), by rw [upd_ne (Ne.symm hDp)]; exact hp0, upd_same, .nil, rfl, fun _ h => (nomatch h), fun _ h => (nomatch h)⟩ (fun i H' hi h => ?_) (fun H' h => ?_)
    · obtain ⟨g1, x1, c1, rs, L, sb, hp1, eD, hT, hz, hl, ht⟩ := h
      refine ⟨rfl, _, rfl, _, rfl, _, rfl, p, l, mm, g1, x1, c1, rfl, hp1, h1, h8, m1, m10, fun H2 z t g2 x2 c2 b2 hp2 hz2 hzl hzt => ?_⟩
      have eD2 : H2 D = some (.lst (rs.map V.ref)) := b2 D _ hDp eD
      have hrl : rs.length = L.length := hT.length
      refine ⟨_, eD2, by rw [List.length_map]; exact sizeK (by omega), g2, x2, c2, rs ++ [z], L ++ [t], bar_updL (sb.trans b2) hD, by rw [upd_ne (Ne.symm hDp)]; exact hp2, by rw [upd_same, List.map_append]; rfl, ((bar_tups hp1 b2 hT).updL eD2).app (.cons (sqt_updL eD2 hz2) .nil), by rw [List.length_append, hz]; rfl, fun u hu => ?_, fun u hu => ?_⟩
      · rcases List.mem_append.mp hu with hu | hu
        · exact hl u hu
        · rw [List.mem_singleton.mp hu]
          exact hzl
      · rcases List.mem_append.mp hu with hu | hu
        · exact ht u hu
        · rw [List.mem_singleton.mp hu]
          exact hzt
    · obtain ⟨g1, x1, c1, rs, L, sb, hp1, eD, hT, hz, hl, ht⟩ := h
      refine ⟨D, _, rfl, .inl ⟨SqL.of eD, fun z hz' => ?_⟩⟩
      have s5 := same_new hz' (.tup (rs.map V.ref))
      exact q _ z rs L g1 x1 c1 (sb0.trans (sb.trans (Bar.same s5))) (s5 _ _ hp1) (SqT.of upd_same) (hT.same s5) (by omega) hl ht
theorem least_short (L : List (List Nat)) : (M7.leastN L).length ≤ L.length := Nat.le_trans (List.length_filter_le _ _) (M7.canon_len L)
end
end K08

namespace K08
open PySem PySem.Spec PyProof.Rows L2 RZ L5 R7 XX
section
variable {P : Program} {w : World} {K : PySem.W.Frag} {mg : Str → Option Value} {base : Heap}
/-! ### _law_divides, _law_least -/
theorem shaped_natsL (t : List Nat) : SeqAt.shaped (.list (t.map fun n => PyData.int ((n : Nat) : Int))) = true := by
  have g := can_nats t
  unfold SeqAt.shaped
  simp only [PyData.canLay0, PyData.depth, g.1, g.2, Bool.true_and]
  exact decide_eq_true (by omega)
theorem eqv_nilL (l : List PyData) : PyData.eqv (.list l) (.list []) = decide (l = []) := by
  cases l with
  | nil => decide +kernel
  | cons a b =>
    rw [decide_eq_false (List.cons_ne_nil a b)]
    rfl
def sp_wdiv (K : PySem.W.Frag) : Sp := fun vs H Q _ => ∃ (p r : Addr) (t u : List Nat), vs = [.ref p, .ref r] ∧ SqT K H p (nv t) ∧ SqT K H r (nv u) ∧ t.length = u.length ∧ t.length ≤ 8 ∧ ∀ H', Same H H' → Q (.bl (M7.fitB t u)) H'
theorem ok_wdiv (T : Txt K mg) : FnOk P w K mg base CX0 1 T.a_w_divides T.d_w_divides ["_law_one", "_law_other"] (sp_wdiv K) := by
  refine T.F_w_divides.ok sc_w_divides (fun vs H Q E h => ?_) (fun cdv A outer s H vs Q E hr h => ?_)
  · obtain ⟨p, r, t, u, rfl, _⟩ := h
    rfl
  · obtain ⟨p, r, t, u, rfl, hT, hU, hl, hz, q⟩ := h
    refine ⟨_, pss_one (ps_ret (pe_cmpR (op_eqD hr.units)
      (pe_lc (own := [("_law_at", 2)]) (g := gName 2) rfl sc_w_divides.nd (pi_range1 rfl T.z_range (pa_cons (pe_callB call_len_seq (by rfl) T.z_len boot_len (pa_cons (pv 0) pa_nil)) pa_nil)) (blkOk_by (own := [("_law_at", 2)]) (N := N_w_divides) (sc := defScope s_w_divides) (by decide +kernel))
        (fun _ _ _ _ _ => pg_name (i := 2) sc_w_divides.nd rfl (Or.inl rfl))
        (fun _ _ _ _ _ => pts_one (pt_cmpR op_gt (pe_ix (show IxR _ (rIxT K) from ix_tup) (pv 0) (pv 2) (fun _ _ => rfl)) (pe_ix (show IxR _ (rIxT K) from ix_tup) (pv 1) (pv 2) (fun _ _ => rfl)) (nomark _))) (fun _ _ _ _ _ => pv 2)) (pe_lst pa_nil) (nomark _))), ?_⟩
    refine ⟨_, rfl, p, _, rfl, .inr hT, _, rfl, by rw [nv_len]; omega, by rw [nv_len]; omega, fun D hD => ?_⟩
    have sD := same_new hD (.lst [])
    refine lc_range (lo := 0) (n := (((nv t).length : Nat) : Int).toNat) (fun i H' => Same H H' ∧ ∃ c : List Nat, c.length ≤ i ∧ H' D = some (.lst (nv c)) ∧ decide (c = []) = ((fitL t u).take i).all id) ⟨sD, [], Nat.le_refl _, upd_same, rfl⟩ (fun i H' hi h => ?_) (fun H' h => ?_)
    · obtain ⟨sm, c, hc, eD, hall⟩ := h
      rw [nv_len] at hi
      have hi' : i < t.length := by omega
      have ha : t[i]? = some (t.getD i 0) := getD_at hi'
      have hb : u[i]? = some (u.getD i 0) := getD_at (by omega)
      generalize t.getD i 0 = a at ha
      generalize u.getD i 0 = b at hb
      have st := all_take_step (fit_get ha hb)
      rw [Int.zero_add]
      refine ⟨rfl, _, rfl, _, rfl, p, _, _, _, rfl, rfl, same_sqt sm hT, nv_at ha, _, rfl, _, rfl, r, _, _, _, rfl, rfl, same_sqt sm hU, nv_at hb, _, _, rfl, rfl, _, rfl, ite2 (fun g => ?_) (fun g => ?_)⟩
      · have g' := of_decide_eq_true g
        refine ⟨_, rfl, _, eD, by rw [nv_len]; exact sizeK (by omega), same_updL sm hD, c ++ [i], by rw [List.length_append]; exact Nat.succ_le_succ hc, by rw [upd_same, nv_app]; rfl, ?_⟩
        rw [st, decide_eq_false (show ¬ a ≤ b by omega), Bool.and_false, decide_eq_false (by simp)]
      · have g' : ¬ _ := fun z => g (decide_eq_true z)
        refine ⟨sm, c, by omega, eD, ?_⟩
        rw [st, decide_eq_true (show a ≤ b by omega), Bool.and_true, hall]
    · obtain ⟨sm, c, hc, eD, hall⟩ := h
      have e2 : (fitL t u).take (((nv t).length : Nat) : Int).toNat = fitL t u := List.take_of_length_le (by rw [List.length_zipWith, nv_len]; omega)
      rw [e2] at hall
      refine ⟨Nat.zero_le _, fun z hz8 => ?_⟩
      have s8 := same_new hz8 (.lst [])
      refine ⟨.list (c.map fun n => PyData.int ((n : Nat) : Int)), .list [], .lst (SqL.of (s8 _ _ eD)) (dp_nats _), .lst (SqL.of upd_same) .nil, shaped_natsL c, by decide, ?_⟩
      have e3 : PyData.eqv (.list (c.map fun n => PyData.int ((n : Nat) : Int))) (.list []) = M7.fitB t u := by
        rw [eqv_nilL, ← fit_eq]
        show _ = (fitL t u).all id
        rw [← hall]
        exact decide_eq_decide.mpr List.map_eq_nil_iff
      rw [e3]
      exact q _ (sm.trans s8)
end
end K08

/-! sets of tuples of numbers, of which few are different -/
namespace W8
open PySem PySem.Spec PyProof.Rows L2
theorem len_sub {α : Type} [DecidableEq α] : ∀ {l m : List α}, l.Nodup → (∀ x ∈ l, x ∈ m) → l.length ≤ m.length
  | [], _, _, _ => Nat.zero_le _
  | x :: l, m, h, sub => by
    obtain ⟨hx, hl⟩ := List.nodup_cons.mp h
    have ih := len_sub (l := l) (m := m.erase x) hl fun y hy => (List.mem_erase_of_ne (fun e : y = x => hx (by rw [← e]; exact hy))).mpr (sub y (List.mem_cons_of_mem _ hy))
    have := List.length_erase_of_mem (sub x List.mem_cons_self)
    have pos := List.length_pos_of_mem (sub x List.mem_cons_self)
    rw [List.length_cons]
    omega
/-- few different ones -/
def Dst (ks : List (Addr × List Int)) : Prop := ∀ L : List (Addr × List Int), (∀ p ∈ L, p ∈ ks) → (L.map (·.2)).Nodup → L.length ≤ 62
section
variable {P : Program} {w : World} {A : Around} {E : Value → Shared → Prop} {s : Shared}
theorem set_update_dist {I : Addr} {fp wr : List Addr} {G : Array GenState → Array GenState → Prop} {n : Nat} {Pv : Nat → Value → Prop} {St : Nat → Shared → Prop} {R : Result → Shared → Prop}
    (W : WalksS P w A.in1 I fp wr G n Pv St) (S : Addr) (hSf : S ∉ fp) (ks : List (Addr × List Int)) (hn : n = ks.length) (hfew : Dst ks) (hval : ∀ i v, Pv i v → ∃ p, ks[i]? = some p ∧ v = .ref p.1)
    (h0 : Heap) (hk : ∀ p ∈ ks, IsT P w h0 p.2 p.1) (hS0 : h0.get? S = none) (hw0 : ∀ b ∈ wr, h0.get? b = none) (hu : A.in1.units < cLine) :
    ∀ (k i : Nat) (s : Shared), n - i = k → i ≤ n → St i s → (∀ b o, h0.get? b = some o → s.heap.get? b = some o) → (∃ L es ep t, SetTR P w s.heap S L es ep t ∧ Got ks i L) →
      (∀ s' L es ep t, Moved (S :: wr) G s s' → SetTR P w s'.heap S L es ep t → Got ks n L → (∀ b o, h0.get? b = some o → s'.heap.get? b = some o) → R (.ok (.ret .none)) s') →
      codeAny (model P w) A (.builtin "set.update.loop" ⟨[.ref S, .ref I], []⟩) R s := by
  have hSw : S ∉ wr := fun h => hSf (W.sub _ h)
  have hsub : ∀ b ∈ wr, b ∈ S :: wr := fun b hb => List.mem_cons_of_mem _ hb
  have keepM : ∀ {s s' : Shared}, Moved wr G s s' → (∀ b o, h0.get? b = some o → s.heap.get? b = some o) → ∀ b o, h0.get? b = some o → s'.heap.get? b = some o := fun hm hkp b o e =>
    hm.heap b o (fun hb => by rw [hw0 b hb] at e; cases e) (hkp b o e)
  intro k
  induction k with
  | zero =>
    intro i s hk' hi hst hkp ⟨L, es, ep, t, hS, g⟩ hR
    have hin : i = n := by omega
    subst hin
    refine codeAny_builtin F.entry_set_update_loop ?_
    rw [Around.under_plainId F.plain_set_update_loop _]
    show wpAny _ A.in1 (pyNext (.ref I) >>= _) _ _ s
    refine wpAny_bind (W.done s _ _ hst fun s' hm => ?_)
    show wpAny _ A.in1 (ret Value.none) _ _ s'
    have hkp' := keepM hm hkp
    have sub : ∀ p ∈ L, p ∈ ks := fun p hp => List.mem_of_mem_take (g.sub p hp)
    exact wpAny_pure (hR s' L es ep t (hm.mono hsub) (hS.keep (fun o e => hm.heap S o hSw e) fun p hp => isT_keep (hk p (sub p hp)) hkp') g hkp')
  | succ k ih =>
    intro i s hk' hi hst hkp ⟨L, es, ep, t, hS, g⟩ hR
    have hlt : i < n := by omega
    refine codeAny_builtin F.entry_set_update_loop ?_
    rw [Around.under_plainId F.plain_set_update_loop _]
    show wpAny _ A.in1 (pyNext (.ref I) >>= _) _ _ s
    refine wpAny_bind (W.item i s _ _ hlt hst fun v s' hP hst' hm => ?_)
    obtain ⟨p, hp, rfl⟩ := hval i v hP
    have hkp' := keepM hm hkp
    have sub : ∀ p ∈ L, p ∈ ks := fun p hp => List.mem_of_mem_take (g.sub p hp)
    have hS' : SetTR P w s'.heap S L es ep t := hS.keep (fun o e => hm.heap S o hSw e) fun q hq => isT_keep (hk q (sub q hq)) hkp'
    have hx : IsT P w s'.heap p.2 p.1 := isT_keep (hk p (List.mem_of_getElem? hp)) hkp'
    show wpAny _ A.in1 (holding [Value.ref p.1] (setAdd S (.ref p.1)) >>= _) _ _ s'
    refine wpAny_bind (wpAny_holding ?_)
    unfold setAdd
    refine wpAny_holding ?_
    refine wpAny_bind (wpAny_pyHash_tuple hu hx ?_)
    refine add_at (s := { s' with toks := s'.toks + (p.2.length + 1) }) hS' hx hu (by have := hfew L sub hS.nd; omega) fun b h' L' es' ep' t' hsb hS2 c1 c2 => ?_
    have g' : Got ks (i + 1) L' := by
      rcases Classical.em (p.2 ∈ L.map (·.2)) with c | c
      · rw [c1 c]; exact g.same hp c
      · exact g.more hp (c2 c)
    have hkp2 : ∀ b o, h0.get? b = some o → h'.get? b = some o := fun b o e => (hsb.2 b (fun z => by rw [z, hS0] at e; cases e)).trans (hkp' b o e)
    refine wpAny_pure ⟨plainId_quiet F.plain_set_update_loop _, ih (i + 1) _ (by omega) hlt (W.frame _ s' _ _ hst' (Nat.le_add_right _ _) fun b hb o e => ?_) hkp2 ⟨L', es', ep', t', hS2, g'⟩ fun s'' L2 es2 ep2 t2 hm'' hS'' g'' hkp'' => ?_⟩
    · rw [hsb.2 b (fun h : b = S => hSf (by rw [← h]; exact hb))]; exact e
    · refine hR s'' L2 es2 ep2 t2 (Moved.trans W.gtrans ((hm.mono hsub).then_heap (Nat.le_add_right _ _) fun b o hb e => ?_) hm'') hS'' g'' hkp''
      rw [hsb.2 b (fun h : b = S => hb (by rw [h]; exact List.mem_cons_self))]; exact e


set_option maxRecDepth 100000 in
set_option maxHeartbeats 3200000 in
theorem call_set_dist {l : Addr} {items : Array Value} (ks : List (Addr × List Int)) {Q : Value → Shared → Prop} (hh : A.handled = none) (hl : s.heap.IsList l items) (hit : items.toList = ks.map fun p => Value.ref p.1)
    (hk : ∀ p ∈ ks, IsT P w s.heap p.2 p.1) (hfew : Dst ks) (hu : A.units + 3 < cLine)
    (h : ∀ (h' : Heap) (tk : Nat) L es ep t, SetTR P w h' s.heap.objs.size L es ep t → Got ks ks.length L → (∀ b o, s.heap.get? b = some o → h'.get? b = some o) → Q (.ref s.heap.objs.size) { s with heap := h', toks := tk }) :
    wpAny (model P w) A (call (.type "set") [.ref l]) Q E s := by
  have hisz : items.size = ks.length := by
    have q := congrArg List.length hit
    rw [Array.length_toList, List.length_map] at q
    exact q
  obtain ⟨c, tl, hmro⟩ := F.called_set.mro
  have hmade := F.called_set.made
  have hsub := F.called_set.sub
  refine wpAny_call (codeAny_of_tree ?_)
  show wpAny _ _ (callAny (.type "set") _) _ _ _
  refine wpAny_pure ⟨Code.quiet_builtin _ (by decide +kernel), codeAny_builtin F.entry_type_call ?_⟩
  rw [Around.under_plain (weight_type_call_type "set" [.ref l] []) rfl]
  have h1 := F.called_set.notType
  have h2 := F.called_set.canCreate
  have hct := F.typeCall_set_1 (.ref l)
  repeat (any_goals (first | assumption | wp_step))

  refine codeAny_mono (code_set_led1 (.ref l) (E := E) (Q₁ := fun obj s₁ => obj = .ref s.heap.objs.size ∧ s₁ = { s with heap := s.heap.push { cls := .type "set", dict := none, data := .set #[] 0 (.fresh 0 0 (!w.params.followText "set-order")) } }) ⟨rfl, rfl⟩) fun r s₁ hr => ?_
  cases r with
  | error e => exact hr
  | ok fl =>
    cases fl with
    | ret obj =>
      obtain ⟨rfl, rfl⟩ := hr
      have hS : (s.heap.push { cls := .type "set", dict := none, data := .set #[] 0 (.fresh 0 0 (!w.params.followText "set-order")) }).get? s.heap.objs.size = some { cls := .type "set", dict := none, data := .set #[] 0 (.fresh 0 0 (!w.params.followText "set-order")) } := Heap.get?_push_size _ rfl
      have hT : Shared.TypeIs { s with heap := s.heap.push { cls := .type "set", dict := none, data := .set #[] 0 (.fresh 0 0 (!w.params.followText "set-order")) } } (.ref s.heap.objs.size) "set" := ⟨_, hS, rfl⟩
      have hli := F.called_set.init.lookup
      have hbi := F.called_set.init.bind (.ref s.heap.objs.size)
      repeat (any_goals (first | assumption | wp_step))

      refine codeAny_mono (codeAny_call_builtin (R := wants (fun r s₂ => r = .none ∧ ∃ h' tk L es ep t, s₂ = { s with heap := h', toks := tk } ∧ SetTR P w h' s.heap.objs.size L es ep t ∧ Got ks ks.length L ∧
          (∀ b o, s.heap.get? b = some o → h'.get? b = some o)) E) F.called_set.init.plain F.entry_set_init (check_set_init_1 hT ?_)) fun r₂ s₂ hr₂ => ?_
      · obtain ⟨ol, hol, hcl, nl, hdl⟩ := hl
        obtain ⟨ocls, odict, odata, oslots⟩ := ol
        simp only at hcl hdl
        subst hcl; subst hdl
        have hol' : (s.heap.push { cls := .type "set", dict := none, data := .set #[] 0 (.fresh 0 0 (!w.params.followText "set-order")) }).get? l = some { cls := .type "list", dict := odict, data := .seq items nl, slots := oslots } := Heap.get?_push_of_some _ hol
        have hsls := F.sub_list_set
        have hslf := F.sub_list_frozenset
        have hne : (Value.type "list" == Value.type "dict") = false := by decide
        have hl1 : (s.heap.push { cls := .type "set", dict := none, data := .set #[] 0 (.fresh 0 0 (!w.params.followText "set-order")) }).IsList l items := ⟨_, hol', rfl, nl, rfl⟩
        unfold Builtin.«set.__init__» noKeywords Builtin.Frozenset.updateFrom
        generalize hPI : pyIter = PI
        wp_walk
        subst hPI

        refine wpAny_pyIter_list hl1 ?_
        refine wpAny_bind (wpAny_runValue ?_)
        have hlS : l < s.heap.objs.size := Heap.lt_size hol
        have hh3 : A.in1.in1.in1.handled = none := by simp [hh]
        have hz1 : (s.heap.push { cls := .type "set", dict := none, data := .set #[] 0 (.fresh 0 0 (!w.params.followText "set-order")) }).objs.size = s.heap.objs.size + 1 := Heap.size_push ..
        have hneI : l ≠ (s.heap.push { cls := .type "set", dict := none, data := .set #[] 0 (.fresh 0 0 (!w.params.followText "set-order")) }).objs.size := by
          rw [Heap.size_push]; exact Nat.ne_of_lt (Nat.lt_succ_of_lt hlS)
        have hSf : s.heap.objs.size ∉ [(s.heap.push { cls := .type "set", dict := none, data := .set #[] 0 (.fresh 0 0 (!w.params.followText "set-order")) }).objs.size, l] := by
          rw [Heap.size_push]; simp only [List.mem_cons, List.mem_singleton, List.not_mem_nil, or_false, not_or]
          exact ⟨Nat.ne_of_lt (Nat.lt_succ_self _), Nat.ne_of_gt hlS⟩
        have hval : ∀ (i : Nat) (v : Value), items[i]? = some v → ∃ p, ks[i]? = some p ∧ v = .ref p.1 := fun i v hv => by
          have q : items.toList[i]? = some v := by rw [Array.getElem?_toList]; exact hv
          rw [hit, List.getElem?_map] at q
          cases hq : ks[i]? with
          | none => rw [hq] at q; cases q
          | some p =>
            rw [hq] at q
            exact ⟨p, rfl, (Option.some.inj q).symm⟩
        have none_of : ∀ b, s.heap.objs.size ≤ b → s.heap.get? b = none := fun b hb => by
          cases q : s.heap.get? b with
          | none => rfl
          | some o => exact absurd (Nat.lt_of_lt_of_le (Heap.lt_size q) hb) (Nat.lt_irrefl _)
        refine set_update_dist ((Walks.list hh3 _ l hneI items).toS) s.heap.objs.size
          hSf ks hisz hfew hval s.heap hk (none_of _ (Nat.le_refl _)) (fun b hb => none_of b (by
            rw [List.mem_singleton.mp hb, Heap.size_push]
            exact Nat.le_succ _)) hu (items.size - 0) 0 _ (by omega) (Nat.zero_le _)
          ⟨⟨_, Heap.get?_push_size _ rfl, rfl, rfl⟩, (hl1.push _)⟩ (fun b o e => Heap.get?_push_of_some _ (Heap.get?_push_of_some _ e)) ?hS0 ?hR
        case hS0 =>
          have hget : ((s.heap.push { cls := .type "set", dict := none, data := .set #[] 0 (.fresh 0 0 (!w.params.followText "set-order")) }).push { cls := .type "list_iterator", data := .fields #[.ref l, .int 0 0] }).get? s.heap.objs.size
              = some { cls := .type "set", dict := none, data := .set #[] 0 (.fresh 0 0 (!w.params.followText "set-order")) } := Heap.get?_push_of_some _ hS
          exact ⟨[], #[], 0, _, setTR_fresh hget, Got.zero ks⟩
        case hR =>
          intro s' L es ep t hm hS' g' hkp
          obtain ⟨h', g2, d', tk', os'⟩ := s'
          have eg : g2 = s.gens := hm.gens
          have ed : d' = s.drawn := hm.drawn
          have eo : os' = s.os := hm.os
          subst eg; subst ed; subst eo
          show wpAny _ _ _ _ _ _
          refine wpAny_pure ?_
          show wpAny _ _ (ret Value.none) _ _ _
          rw [hisz] at g'
          exact wpAny_pure ⟨rfl, h', tk', L, es, ep, t, rfl, hS', g', hkp⟩

      · cases r₂ with
        | error e => exact hr₂
        | ok fl₂ =>
          cases fl₂ with
          | ret r =>
            obtain ⟨rfl, h', tk, L, es, ep, t, rfl, hS', g', hk'⟩ := hr₂
            repeat (any_goals (first | assumption | wp_step))
            exact h _ _ _ _ _ _ hS' g' hk'
          | _ => exact hr₂.elim
    | _ => exact hr.elim

end
section
variable {X : Cx}
def rSetD (K : PySem.W.Frag) (P : Program) (w : World) : List V → Hp → VK → Prop := fun xs H Q => ∃ (l : Addr) (ks : List (Addr × List Int)), xs = [V.ref l] ∧ SqL K H l (ks.map fun p => V.ref p.1) ∧ (∀ p ∈ ks, SqT K H p.1 (p.2.map V.int)) ∧ Dst ks ∧
  ∀ a L, H a = none → (∀ p ∈ L, p ∈ ks) → (∀ p ∈ ks, p.2 ∈ L.map (·.2)) → Q (.ref a) (upd H a (SetTO P w a L))
theorem cr_setDist (hc : X.calm = true) (hu : X.A.units + 64 < cLine) : CallR X (.type "set") (rSetD X.K X.prog X.w) := by
  intro pins s σ H xs us Q I r h
  obtain ⟨l, ks, rfl, hl, hk, hf, q⟩ := h
  rw [Vals.ref1 r]
  obtain ⟨its, rv, pl, hz⟩ := I.list hl
  have hn : H s.heap.objs.size = none := I.hok.fresh (Nat.le_refl _)
  refine call_set_dist (P := X.prog) (w := X.w) ks (I.ok.hd hc) pl.isList (by simpa using refs_of_vals rv) (fun p hp => I.isT (hk p hp)) hf (by omega) fun h' tk L es ep t R g k => ?_
  refine ⟨.ref s.heap.objs.size, upd H s.heap.objs.size (SetTO X.prog X.w s.heap.objs.size L), I.laid (t' := tk) k (Nat.le_refl _) (setTO_new R.t0), rfl, q _ L hn (fun p hp => ?_) fun p hp => ?_⟩
  · exact List.mem_of_mem_take (g.sub p hp)
  · exact g.all p (by rw [List.take_length]; exact hp)
end
end W8
namespace R7
open PySem PySem.Spec PyProof.Rows L2 L5 M7 W8
section
variable {X : Cx}
/-- sorted(set(x)) -/
def tSD (K : PySem.W.Frag) (te : TE) : TE := fun σ H Q => te σ H fun x H1 => ∃ (l : Addr) (rs : List Addr) (L : List (List Nat)) (d B : Nat), x = .ref l ∧ SqL K H1 l (rs.map V.ref) ∧ Tups K H1 rs L ∧ (canonN L).length ≤ 62 ∧ 1 ≤ d ∧ (∀ t ∈ L, t.length = d) ∧ (∀ t ∈ L, ∀ e ∈ t, e < B) ∧
  ∀ H' q rs', Same H1 H' → H1 q = none → H' q = some (.lst (rs'.map V.ref)) → Tups K H' rs' (canonN L) → Q (.ref q) H'
theorem pe_sdist {e : Expr} {te : TE} {p1 p2 q1 q2 : Pos} (calm : X.calm = true) (room : X.A.units + 64 < cLine) (g1 : Gl X "sorted") (m1 : X.mg "sorted" = none) (g2 : Gl X "set") (m2 : X.mg "set" = none) (he : PE X e te)
    (t1 : starEach [.Call (.Name "set" p2) [e] [] q2] X.env = (false, eval (.Call (.Name "set" p2) [e] [] q2) X.env) :: starEach [] X.env := by rfl) (t2 : starEach [e] X.env = (false, eval e X.env) :: starEach [] X.env := by rfl)  :
    PE X (.Call (.Name "sorted" p1) [.Call (.Name "set" p2) [e] [] q2] [] q1) (tSD X.K te) := by
  have he' : PE X e (fun σ H Q => ∃ P : VK, te σ H P ∧ ∀ x H1, P x H1 → Q x H1) := ⟨fun pins s σ H Q I ⟨P, h, m⟩ => thn (he.run pins s σ H P I h) fun u s1 ⟨v, H1, I1, r, q⟩ => ⟨v, H1, I1, r, m v H1 q⟩⟩
  refine weakE (pe_callB (cr_sortedT calm) g1 m1 (by decide +kernel) (pa_cons (pe_callTy (cr_setDist calm room) g2 m2 (by decide +kernel) (pa_cons he' pa_nil (hs := t2)) (he := t2)) pa_nil (hs := t1)) (he := t1)) ?_
  intro σ H Q h
  refine ⟨_, h, ?_⟩
  rintro x H1 ⟨l, rs, L, d, B, rfl, at_, hT, few, hd, hlen, hB, q⟩
  obtain ⟨ks, e1, e2, e3⟩ := tups_pairs hT
  have nvz : ∀ t : List Nat, (zN t).map V.int = nv t := fun t => (nv_ints t).symm
  have ks3 : ∀ p ∈ ks.map (fun p => (p.1, zN p.2)), SqT X.K H1 p.1 (p.2.map V.int) := fun p hp => by
    obtain ⟨k, hk, rfl⟩ := List.mem_map.mp hp
    show SqT X.K H1 k.1 ((zN k.2).map V.int)
    rw [nvz]
    exact e3 k hk
  have refs : (ks.map fun p => (p.1, zN p.2)).map (fun p => V.ref p.1) = rs.map V.ref := by
    rw [List.map_map, ← e1, List.map_map]
    rfl
  have nvi : ∀ a b : List Nat, zN a = zN b → a = b := fun a b e => zN_inj e
  have few' : W8.Dst (ks.map fun p => (p.1, zN p.2)) := fun Ls sub nd => by
    refine Nat.le_trans ?_ few
    have e : (Ls.map fun p => p.2.map Int.toNat).length = Ls.length := List.length_map ..
    have back : ∀ t : List Nat, (zN t).map Int.toNat = t := fun t => by
      rw [List.map_map]
      exact (List.map_congr_left fun n _ => by show (((n : Nat) : Int)).toNat = n; omega).trans (List.map_id _)
    rw [← e]
    refine W8.len_sub ?_ fun t ht => ?_
    · rw [List.nodup_iff_pairwise_ne, List.pairwise_map]
      have nd' : Ls.Pairwise fun q r => q.2 ≠ r.2 := List.pairwise_map.mp nd
      refine nd'.imp_of_mem fun {q r} hq hr hne z => hne ?_
      obtain ⟨k1, _, rfl⟩ := List.mem_map.mp (sub q hq)
      obtain ⟨k2, _, rfl⟩ := List.mem_map.mp (sub r hr)
      have z' : (zN k1.2).map Int.toNat = (zN k2.2).map Int.toNat := z
      rw [back, back] at z'
      show zN k1.2 = zN k2.2
      rw [z']
    · obtain ⟨q, hq, rfl⟩ := List.mem_map.mp ht
      obtain ⟨k1, hk1, rfl⟩ := List.mem_map.mp (sub q hq)
      show (zN k1.2).map Int.toNat ∈ canonN L
      rw [back]
      refine mem_canon.mpr ?_
      rw [← e2]
      exact List.mem_map_of_mem hk1
  have go : ∀ a Ls, H1 a = none → (∀ p ∈ Ls, p ∈ ks.map fun p => (p.1, zN p.2)) → (∀ p ∈ ks.map (fun p => (p.1, zN p.2)), p.2 ∈ Ls.map (·.2)) → rSortedT X.K X.prog X.w [.ref a] (upd H1 a (SetTO X.prog X.w a Ls)) Q := by
    intro a Ls ha sub all
    have sa := same_new ha (SetTO X.prog X.w a Ls)
    have memL : ∀ p ∈ Ls, ∃ k ∈ ks, p = (k.1, zN k.2) := fun p hp => by
      obtain ⟨k, hk, e⟩ := List.mem_map.mp (sub p hp)
      exact ⟨k, hk, e.symm⟩
    have inL : ∀ k ∈ ks, k.2 ∈ L := fun k hk => by
      rw [← e2]
      exact List.mem_map_of_mem hk
    refine ⟨a, Ls, d, (B : Int), rfl, upd_same, fun p hp => same_sqt sa (ks3 p (sub p hp)), hd, fun p hp => ?_, fun L' p pm nd _ pw hp => ?_⟩
    · obtain ⟨k, hk, rfl⟩ := memL p hp
      exact ⟨by rw [List.length_map]; exact hlen _ (inL k hk), bd_of (hB _ (inL k hk))⟩
    · -- what stands in the sorted list
      have mem' : ∀ r ∈ L', ∃ k ∈ ks, r = (k.1, zN k.2) := fun r hr => memL r (pm.mem_iff.mp hr)
      have back : ∀ k : Addr × List Nat, (zN k.2).map Int.toNat = k.2 := fun k => by
        rw [List.map_map]
        exact (List.map_congr_left fun n _ => by show (((n : Nat) : Int)).toNat = n; omega).trans (List.map_id _)
      have asc : Asc (L'.map fun r => r.2.map Int.toNat) := by
        have nd' : L'.Pairwise fun q r => q.2 ≠ r.2 := List.pairwise_map.mp nd
        have both := pw.and nd'
        rw [Asc, List.pairwise_map]
        refine both.imp_of_mem fun {q r} hq hr hqr => ?_
        obtain ⟨k1, hk1, rfl⟩ := mem' q hq
        obtain ⟨k2, hk2, rfl⟩ := mem' r hr
        show ltN ((zN k1.2).map Int.toNat) ((zN k2.2).map Int.toNat) = true
        rw [back, back]
        exact code_ltN (by rw [hlen _ (inL k1 hk1), hlen _ (inL k2 hk2)]) (hB _ (inL k1 hk1)) (hB _ (inL k2 hk2)) hqr.1 fun z => hqr.2 (by show zN k1.2 = zN k2.2; rw [z])
      have canon : (L'.map fun r => r.2.map Int.toNat) = canonN L := by
        refine canon_of asc hlen fun t => ⟨fun ht => ?_, fun ht => ?_⟩
        · obtain ⟨r, hr, rfl⟩ := List.mem_map.mp ht
          obtain ⟨k, hk, rfl⟩ := mem' r hr
          show (zN k.2).map Int.toNat ∈ L
          rw [back]
          exact inL k hk
        · rw [← e2] at ht
          obtain ⟨k, hk, rfl⟩ := List.mem_map.mp ht
          obtain ⟨r, hr, e⟩ := List.mem_map.mp (all (k.1, zN k.2) (List.mem_map_of_mem (f := fun p : Addr × List Nat => (p.1, zN p.2)) hk))
          refine List.mem_map.mpr ⟨r, pm.mem_iff.mpr hr, ?_⟩
          show r.2.map Int.toNat = k.2
          rw [e]
          exact back k
      have sp := same_new hp (.lst (L'.map fun q => V.ref q.1))
      have tl : Tups X.K (upd (upd H1 a (SetTO X.prog X.w a Ls)) p (.lst (L'.map fun q => V.ref q.1))) ((L'.map fun r => (r.1, r.2.map Int.toNat)).map (·.1)) ((L'.map fun r => (r.1, r.2.map Int.toNat)).map (·.2)) := pairs_tups fun r hr => by
        obtain ⟨r0, hr0, rfl⟩ := List.mem_map.mp hr
        obtain ⟨k, hk, rfl⟩ := mem' r0 hr0
        show SqT X.K _ k.1 (nv ((zN k.2).map Int.toNat))
        rw [back]
        exact same_sqt (sa.trans sp) (e3 k hk)
      rw [List.map_map, List.map_map] at tl
      have tl2 : Tups X.K (upd (upd H1 a (SetTO X.prog X.w a Ls)) p (.lst (L'.map fun q => V.ref q.1))) (L'.map (·.1)) (L'.map fun r => r.2.map Int.toNat) := tl
      rw [canon] at tl2
      refine q _ p (L'.map (·.1)) (sa.trans sp) (sa.free hp) ?_ tl2
      rw [upd_same, List.map_map]
      rfl
  exact ⟨l, _, rfl, by rw [refs]; exact at_, ks3, few', go⟩
end
end R7

/-! {e for t in x for u in y}: a set comprehension with two fors, of tuples of ints -/
namespace W8
open PySem PySem.Spec PyProof.Rows L2
theorem compTurnS2_out (elt t0 i0 t1 i1 : Expr) (ifs0 ifs1 : List Expr) (scope : Scope) (pos : Pos) (it acc : Value) (env : Env) :
    compTurn (.SetComp elt [⟨t0, i0, ifs0, 0⟩, ⟨t1, i1, ifs1, 0⟩] scope pos) 0 it acc env = (do
      standAt i0.pos
      match ← pyNext it with
      | none => pure (.done .next)
      | some v =>
        letOwnedTupleGo t0 it v
        assign t0 env v
        let mut ok := true
        for c in ifs0 do
          if ok then ok ← isTrue c env (eval c env)
        if ok then
          let x ← eval i1 env
          standAt i1.pos
          let x ← foldedSetIterable i1 env x
          let _ ← runOwn (.compStart (.SetComp elt [⟨t0, i0, ifs0, 0⟩, ⟨t1, i1, ifs1, 0⟩] scope pos) 1 (← holding [x] (pyIter x)) acc env) env
        again (.compLoop (.SetComp elt [⟨t0, i0, ifs0, 0⟩, ⟨t1, i1, ifs1, 0⟩] scope pos) 0 it acc env)) := by rfl
theorem compTurnS2_in (elt t0 i0 t1 i1 : Expr) (ifs0 ifs1 : List Expr) (scope : Scope) (pos : Pos) (it acc : Value) (env : Env) :
    compTurn (.SetComp elt [⟨t0, i0, ifs0, 0⟩, ⟨t1, i1, ifs1, 0⟩] scope pos) 1 it acc env = (do
      standAt i1.pos
      match ← pyNext it with
      | none => pure (.done .next)
      | some v =>
        letOwnedTupleGo t1 it v
        assign t1 env v
        let mut ok := true
        for c in ifs1 do
          if ok then ok ← isTrue c env (eval c env)
        if ok then
          (do let v ← eval elt env; standAt elt.pos; let _ ← call (.builtin "set.add") [acc, v])
        again (.compLoop (.SetComp elt [⟨t0, i0, ifs0, 0⟩, ⟨t1, i1, ifs1, 0⟩] scope pos) 1 it acc env)) := by rfl

section
variable {prog : Program} {w : World} {A : Around} {R : Result → Shared → Prop} {s : Shared} {elt t0 i0 t1 i1 : Expr} {ifs0 ifs1 : List Expr} {scope : Scope} {pos : Pos} {it acc : Value} {env : Env}
/-- the loop of the first clause -/
theorem compLoopS2_out (hs : ∀ x, foldedSetIterable i1 env x = pure x) (I : Nat → Shared → Prop)
    (turn : ∀ n s, I n s → wpAny (model prog w) A (pyNext it) (fun r s₁ => match r with
      | none => R (.ok .next) s₁
      | some v => wpAny (model prog w) A (letOwnedTupleGo t0 it v) (fun _ s₁' => wpAny (model prog w) A (assign t0 env v) (fun _ s₂ =>
          wpAny (model prog w) A (forIn ifs0 true fun c r => if r = true then do let ok ← isTrue c env (eval c env); pure (ForInStep.yield ok) else pure (ForInStep.yield r)) (fun ok s₃ =>
            if ok = true then wpAny (model prog w) A (eval i1 env) (fun x s₄ => wpAny (model prog w) A (pyIter x) (fun it1 s₅ =>
              codeAny (model prog w) A (.compStart (.SetComp elt [⟨t0, i0, ifs0, 0⟩, ⟨t1, i1, ifs1, 0⟩] scope pos) 1 it1 acc env) (fun r s' => match r with
                | .ok _ => ∃ m, m < n ∧ I m s'
                | .error _ => False) s₅) (notedBy (model prog w) A env fun e s' => R (.error e) s') s₄) (notedBy (model prog w) A env fun e s' => R (.error e) s') s₃
            else ∃ m, m < n ∧ I m s₃) (notedBy (model prog w) A env fun e s' => R (.error e) s') s₂) (notedBy (model prog w) A env fun e s' => R (.error e) s') s₁') (notedBy (model prog w) A env fun e s' => R (.error e) s') s₁) (notedBy (model prog w) A env fun e s' => R (.error e) s') s)
    (n : Nat) (h : I n s) :
    codeAny (model prog w) A (.compLoop (.SetComp elt [⟨t0, i0, ifs0, 0⟩, ⟨t1, i1, ifs1, 0⟩] scope pos) 0 it acc env) R s := by
  refine codeAny_loop rfl I (fun n s hI => ?_) n h
  show wpAny _ A ((compTurn (.SetComp elt [⟨t0, i0, ifs0, 0⟩, ⟨t1, i1, ifs1, 0⟩] scope pos) 0 it acc env).onRaise (fun x => do noteFrame x env; theTreesLotGoes x)) _ _ s
  refine wpAny_noted ?_
  rw [compTurnS2_out]
  refine wpAny_bind (wpAny_standAt (wpAny_bind (wpAny_mono (turn n s hI) (fun r s₁ h₁ => ?_) fun _ _ h' => h')))
  cases r with
  | none => exact wpAny_pure h₁
  | some v =>
    refine wpAny_bind (wpAny_mono h₁ (fun _ s₁' h₁' => ?_) fun _ _ h' => h')
    refine wpAny_bind (wpAny_mono h₁' (fun _ s₂ h₂ => wpAny_bind (wpAny_mono h₂ (fun ok s₃ h₃ => ?_) fun _ _ h' => h')) fun _ _ h' => h')
    cases ok with
    | false => exact wpAny_pure ⟨rfl, h₃⟩
    | true =>
      refine wpAny_bind (wpAny_mono h₃ (fun x s₄ h₄ => ?_) fun _ _ h' => h')
      refine wpAny_bind (wpAny_standAt (wpAny_bind (wpAny_of_eq (hs x) (wpAny_bind (wpAny_holding (wpAny_mono h₄ (fun it1 s₅ h₅ => ?_) fun _ _ h' => h'))))))
      refine wpAny_bind (wpAny_runOwn ?_)
      rw [Around.mark_none]
      refine codeAny_mono h₅ fun r s' hr => ?_
      cases r with
      | ok f =>
        first
          | exact wpAny_pure ⟨rfl, hr⟩
          | exact wpAny_bind (wpAny_pure (wpAny_pure ⟨rfl, hr⟩))
      | error e => exact hr.elim
/-- the loop of the second -/
theorem compLoopS2_in (I : Nat → Shared → Prop)
    (turn : ∀ n s, I n s → wpAny (model prog w) A (pyNext it) (fun r s₁ => match r with
      | none => R (.ok .next) s₁
      | some v => wpAny (model prog w) A (letOwnedTupleGo t1 it v) (fun _ s₁' => wpAny (model prog w) A (assign t1 env v) (fun _ s₂ =>
          wpAny (model prog w) A (forIn ifs1 true fun c r => if r = true then do let ok ← isTrue c env (eval c env); pure (ForInStep.yield ok) else pure (ForInStep.yield r)) (fun ok s₃ =>
            if ok = true then wpAny (model prog w) A (eval elt env) (fun x s₄ =>
              wpAny (model prog w) A (call (.builtin "set.add") [acc, x]) (fun _ s₅ => ∃ m, m < n ∧ I m s₅) (notedBy (model prog w) A env fun e s' => R (.error e) s') s₄) (notedBy (model prog w) A env fun e s' => R (.error e) s') s₃
            else ∃ m, m < n ∧ I m s₃) (notedBy (model prog w) A env fun e s' => R (.error e) s') s₂) (notedBy (model prog w) A env fun e s' => R (.error e) s') s₁') (notedBy (model prog w) A env fun e s' => R (.error e) s') s₁) (notedBy (model prog w) A env fun e s' => R (.error e) s') s)
    (n : Nat) (h : I n s) :
    codeAny (model prog w) A (.compLoop (.SetComp elt [⟨t0, i0, ifs0, 0⟩, ⟨t1, i1, ifs1, 0⟩] scope pos) 1 it acc env) R s := by
  refine codeAny_loop rfl I (fun n s hI => ?_) n h
  show wpAny _ A ((compTurn (.SetComp elt [⟨t0, i0, ifs0, 0⟩, ⟨t1, i1, ifs1, 0⟩] scope pos) 1 it acc env).onRaise (fun x => do noteFrame x env; theTreesLotGoes x)) _ _ s
  refine wpAny_noted ?_
  rw [compTurnS2_in]
  refine wpAny_bind (wpAny_standAt (wpAny_bind (wpAny_mono (turn n s hI) (fun r s₁ h₁ => ?_) fun _ _ h' => h')))
  cases r with
  | none => exact wpAny_pure h₁
  | some v =>
    refine wpAny_bind (wpAny_mono h₁ (fun _ s₁' h₁' => ?_) fun _ _ h' => h')
    refine wpAny_bind (wpAny_mono h₁' (fun _ s₂ h₂ => wpAny_bind (wpAny_mono h₂ (fun ok s₃ h₃ => ?_) fun _ _ h' => h')) fun _ _ h' => h')
    cases ok with
    | false => exact wpAny_pure ⟨rfl, h₃⟩
    | true =>
      exact wpAny_bind (wpAny_bind (wpAny_mono h₃ (fun x s₄ h₄ => wpAny_bind (wpAny_standAt (wpAny_bind (wpAny_mono h₄ (fun _ s₅ h₅ => wpAny_pure (wpAny_pure ⟨rfl, h₅⟩)) fun _ _ h' => h')))) fun _ _ h' => h'))
/-- the second clause's start -/
theorem compStartS1_ok (h0 : codeAny (model prog w) A (.compLoop (.SetComp elt [⟨t0, i0, ifs0, 0⟩, ⟨t1, i1, ifs1, 0⟩] scope pos) 1 it acc env) R s)
    (h : wpAny (model prog w) A (pyIter it) (fun it' s' => codeAny (model prog w) A (.compLoop (.SetComp elt [⟨t0, i0, ifs0, 0⟩, ⟨t1, i1, ifs1, 0⟩] scope pos) 1 it' acc env) R s')
      (notedBy (model prog w) A env fun x s' => R (.error x) s') s) :
    codeAny (model prog w) A (.compStart (.SetComp elt [⟨t0, i0, ifs0, 0⟩, ⟨t1, i1, ifs1, 0⟩] scope pos) 1 it acc env) R s := by
  refine codeAny_of_tree ?_
  show wpAny _ _ ((compStart (.SetComp elt [⟨t0, i0, ifs0, 0⟩, ⟨t1, i1, ifs1, 0⟩] scope pos) 1 it acc env).onRaise (fun x => do noteFrame x env; standAt theWindowsPlace)) _ _ s
  refine wpAny_notedAt ?_
  unfold compStart
  show wpAny _ _ (ask >>= _) _ _ s
  refine wpAny_bind (wpAny_askSetting (wpAny_ite ?_))
  split
  · first
      | exact wpAny_bind (wpAny_pure (wpAny_pure (And.intro rfl h0)))
      | exact wpAny_pure (And.intro rfl h0)
  · first
      | exact wpAny_bind (wpAny_rule (wpAny_bind (wpAny_standAt (wpAny_bind (wpAny_mono h (fun it' s' h' => wpAny_pure (And.intro rfl h')) fun _ _ x => x)))))
      | (refine wpAny_bind (wpAny_rule ?_); show wpAny _ _ (standAt i1.pos >>= _) _ _ s; exact wpAny_bind (wpAny_standAt (wpAny_bind (wpAny_mono h (fun it' s' h' => wpAny_pure (And.intro rfl h')) fun _ _ x => x))))
end

section
variable {X : Cx}
/-- set.add of a tuple of ints -/
theorem addT_ok {pins : List (Addr × Obj)} {σ : L2.St} {H : Hp} {s : Shared} {E : Value → Shared → Prop} {D b : Addr} {k : List Int} {L : List (Addr × List Int)} {Q : Value → Shared → Prop} (I : Inv X pins σ H s) (hc : X.calm = true) (room : X.A.units + 64 < cLine) (hD : H D = some (SetTO X.prog X.w D L)) (hk : ∀ p ∈ L, SqT X.K H p.1 (p.2.map V.int)) (hb : SqT X.K H b (k.map V.int)) (few : L.length + 1 < 64)
    (h : ∀ L' s', Inv X pins σ (upd H D (SetTO X.prog X.w D L')) s' → (k ∈ L.map (·.2) → L' = L) → (k ∉ L.map (·.2) → L'.Perm ((b, k) :: L)) → Q .none s') : wpAny (model X.prog X.w) X.A (call (.builtin "set.add") [.ref D, .ref b]) Q E s := by
  have R0 : SetT0 X.prog X.w s.heap D L := (I.hok D _ hD).1
  obtain ⟨es, ep, t, R⟩ := R0.full fun p hp => I.isT (hk p hp)
  obtain ⟨o, ho, hex, hd⟩ := R.ob
  have hT : s.TypeIs (.ref D) "set" := ⟨o, ho, hex.1⟩
  have hx := I.isT hb
  refine wpAny_call_entry F.slot_set_add hT F.entry_set_add ?_ (F.args_set_add_2 _ _)
  unfold Builtin.«set.add» Builtin.Frozenset.oneOther
  simp only [List.isEmpty_nil, bind_assoc]
  unfold Builtin.Frozenset.addrOf setAdd
  refine wpAny_bind (wpAny_pure ?_)
  try dsimp only
  refine wpAny_bind (wpAny_pure ?_)
  try dsimp only
  refine wpAny_bind ?_
  refine wpAny_holding ?_
  have units1 : X.A.in1.units < cLine := by
    rw [units_in1]
    omega
  refine wpAny_bind (wpAny_pyHash_tuple units1 hx ?_)
  refine add_at (s := { s with toks := s.toks + (k.length + 1) }) R hx units1 few fun c h' L' es' ep' t' sb R' c1 c2 => ?_
  show wpAny _ _ (ret Value.none) _ _ _
  have he : ∃ u, h'.get? D = some u := by
    obtain ⟨o, ho, _⟩ := R'.ob
    exact ⟨o, ho⟩
  exact wpAny_pure ⟨_, rfl, h L' _ (I.write (e := D) (t' := s.toks + (k.length + 1)) (by rw [hD]; trivial) (.inl rfl) (fun b u hb hu => (sb.2 b hb).trans hu) he (setTO_new R'.t0)) c1 c2⟩
/-- {elt for tg in iter if .. for tg1 in iter1 if ..}, elt a tuple of ints -/
def tSc2 (K : PySem.W.Frag) (P : Program) (w : World) (wi : TI) (g : TG) (tt : TT) (wi1 : TI) (g1 : TG) (tt1 : TT) (te : TE) (vs vs1 : List Nat) : TE := fun σ H Q => wi σ H fun J H1 => ∀ D, H1 D = none → ∃ W : Nat → Nat → Hp → Prop, (∃ m, W 0 m (upd H1 D (SetTO P w D []))) ∧ ∀ i m H, W i m H →
  (J.stop i H ∧ Q (.ref D) H) ∨ (J.go i H ∧ ∃ Nx : Hp → Prop, (∀ H', Nx H' → ∃ m', m' < m ∧ W (i + 1) m' H') ∧ ∀ x H', J.yld i H x H' → g x (wipe σ vs) H' fun σ2 H2 => wipe σ2 vs = wipe σ vs ∧ tt σ2 H2 fun b H3 =>
    if b = true then wi1 σ2 H3 fun J1 H4 => ∃ W1 : Nat → Nat → Hp → Prop, (∃ m, W1 0 m H4) ∧ ∀ j k H, W1 j k H →
      (J1.stop j H ∧ Nx H) ∨ (J1.go j H ∧ ∃ Nx1 : Hp → Prop, (∀ H', Nx1 H' → ∃ k', k' < k ∧ W1 (j + 1) k' H') ∧ ∀ x H', J1.yld j H x H' → g1 x (wipe σ2 vs1) H' fun σ3 H5 => wipe σ3 vs1 = wipe σ2 vs1 ∧ tt1 σ3 H5 fun b H6 =>
        if b = true then te σ3 H6 fun y H7 => ∃ (b : Addr) (t : List Int) (L : List (Addr × List Int)), y = .ref b ∧ SqT K H7 b (t.map V.int) ∧ (∀ p ∈ L, SqT K H7 p.1 (p.2.map V.int)) ∧ H7 D = some (SetTO P w D L) ∧ L.length + 1 < 64 ∧
          (∀ L', (t ∈ L.map (·.2) → L' = L) → (t ∉ L.map (·.2) → L'.Perm ((b, t) :: L)) → Nx1 (upd H7 D (SetTO P w D L'))) else Nx1 H6)
    else Nx H3)
theorem sc2_core {pins : List (Addr × Obj)} {s : Shared} {σ : L2.St} {H : Hp} {Q : VK} {elt tg iter tg1 iter1 : Expr} {ifs ifs1 : List Expr} {scope : Scope} {own : List (Str × Nat)} {vs1 : List Nat} {pos pos' : Pos} {wi wi1 : TI} {g g1 : TG} {tt tt1 : TT} {te : TE} {use : Option (Value → Sem Unit)} {Qf : Value → Shared → Prop}
    (hc : X.calm = true) (room : X.A.units + 64 < cLine) (hN : X.N.Nodup) (I : Inv X pins σ H s) (hi : PI X tg iter wi) (ok : BlkOk X.N X.env.scope scope own) (hv : ∀ i ∈ vs1, i ∈ own.map (·.2))
    (hg : ∀ (s : Shared) (H : Hp) (C : Addr) (cl : List (Str × Addr)) (fp : List Addr), PG (X.blk s H scope (compEnvC scope cl C X.env) fp) tg g) (ht : ∀ (s : Shared) (H : Hp) (C : Addr) (cl : List (Str × Addr)) (fp : List Addr), PTs (X.blk s H scope (compEnvC scope cl C X.env) fp) ifs tt)
    (he : ∀ (s : Shared) (H : Hp) (C : Addr) (cl : List (Str × Addr)) (fp : List Addr), PE (X.blk s H scope (compEnvC scope cl C X.env) fp) elt te) (hs : ∀ x, foldedSetIterable iter X.env x = pure x)
    (hi1 : ∀ (s : Shared) (H : Hp) (C : Addr) (cl : List (Str × Addr)) (fp : List Addr), PI (X.blk s H scope (compEnvC scope cl C X.env) fp) tg1 iter1 wi1)
    (hg1 : ∀ (s : Shared) (H : Hp) (C : Addr) (cl : List (Str × Addr)) (fp : List Addr), PG (X.blk s H scope (compEnvC scope cl C X.env) fp) tg1 g1)
    (ht1 : ∀ (s : Shared) (H : Hp) (C : Addr) (cl : List (Str × Addr)) (fp : List Addr), PTs (X.blk s H scope (compEnvC scope cl C X.env) fp) ifs1 tt1)
    (hs1 : ∀ env x, foldedSetIterable iter1 env x = pure x)
    (h : tSc2 X.K X.prog X.w wi g tt wi1 g1 tt1 te (own.map (·.2)) vs1 σ H Q)
    (hRR : ∀ D C s' m H', Inv X pins σ H' s' → Q (.ref D) H' → s'.heap.Ns C m → FpOk X pins H' C → compPost (model X.prog X.w) X.A X.xe use Qf (.ref D) C (.ok .next) s') :
    wpAny (model X.prog X.w) X.A (comprehension (.SetComp elt [⟨tg, iter, ifs, 0⟩, ⟨tg1, iter1, ifs1, 0⟩] scope pos) scope X.env pos' (newSet (.type "set")) false (eval iter X.env) use) Qf X.xe s := by
  have hfree : ∀ y ∈ scope.names, y.2 = .free → ∃ c, X.env.cells.lookup y.1 = some c := fun y hy e => by
    rcases ok.free y hy e with k | k
    · exact I.ok.has _ (.inl k)
    · exact I.ok.has _ (.inr k)
  refine wpAny_comprehension_free (use := use) rfl hs (closure_ok hfree) ok.kind (fun y hy e => by rw [ok.uniq y hy, e])
    (thn (hi.run pins s σ H _ I h) fun xv s1 hx => thn hx fun itv s2 h2 => ?_)
  obtain ⟨it, fp, tn, J, H2, e, I2, T, st2, f2, q⟩ := h2
  subst e
  refine PpSet.newSet_ok (newEnv_comp ?_)
  generalize hD : s2.heap.objs.size = D
  have hDn : H2 D = none := I2.hok.fresh (Nat.le_of_eq hD)
  obtain ⟨W, ⟨m0, w0⟩, turn⟩ := q D hDn
  -- the new list
  generalize hs3 : ({ s2 with heap := s2.heap.push { cls := .type "set", dict := none, data := .set #[] 0 (.fresh 0 0 (!X.w.params.followText "set-order")) } } : Shared) = s3
  have I3 : Inv X pins σ (upd H2 D (SetTO X.prog X.w D [])) s3 := by
    rw [← hs3]
    refine I2.laid (t' := s2.toks) (fun b o e => Heap.get?_push_of_some _ e) (Nat.le_of_eq hD) ?_
    rw [← hD]
    exact setTO_new (setTR_fresh (P := X.prog) (w := X.w) (Heap.get?_push_size _ rfl)).t0
  have h3 : s3.heap = s2.heap.push { cls := .type "set", dict := none, data := .set #[] 0 (.fresh 0 0 (!X.w.params.followText "set-order")) } := by rw [← hs3]
  have sz : ∀ b ∈ fp, b < s2.heap.objs.size := fun b hb => by
    obtain ⟨o, e, _⟩ := T.obj _ _ st2 b hb
    exact Heap.lt_size e
  have f3 : ∀ b ∈ fp, FpOk X pins (upd H2 D (SetTO X.prog X.w D [])) b ∧ b < s3.heap.objs.size := fun b hb => by
    have hlt := sz b hb
    refine ⟨⟨?_, (f2 b hb).2⟩, by rw [h3, Heap.size_push]; exact Nat.lt_succ_of_lt hlt⟩
    rw [upd_ne (by rw [← hD]; exact Nat.ne_of_lt hlt)]
    exact (f2 b hb).1
  have st3 : tn 0 s3.heap := T.keep _ _ _ st2 fun b _ o e => by rw [h3]; exact Heap.get?_push_of_some _ e
  have I4 := block_start I3 ok hN f3
  have pg := hg s3 (upd H2 D (SetTO X.prog X.w D [])) s3.heap.objs.size (cellsFrom (s3.heap.objs.size + 1) scope.names (cloFrom X.env.cells scope.names [])) fp
  have pt := ht s3 (upd H2 D (SetTO X.prog X.w D [])) s3.heap.objs.size (cellsFrom (s3.heap.objs.size + 1) scope.names (cloFrom X.env.cells scope.names [])) fp
  have pe := he s3 (upd H2 D (SetTO X.prog X.w D [])) s3.heap.objs.size (cellsFrom (s3.heap.objs.size + 1) scope.names (cloFrom X.env.cells scope.names [])) fp
  have pi1 := hi1 s3 (upd H2 D (SetTO X.prog X.w D [])) s3.heap.objs.size (cellsFrom (s3.heap.objs.size + 1) scope.names (cloFrom X.env.cells scope.names [])) fp
  have pg1 := hg1 s3 (upd H2 D (SetTO X.prog X.w D [])) s3.heap.objs.size (cellsFrom (s3.heap.objs.size + 1) scope.names (cloFrom X.env.cells scope.names [])) fp
  have pt1 := ht1 s3 (upd H2 D (SetTO X.prog X.w D [])) s3.heap.objs.size (cellsFrom (s3.heap.objs.size + 1) scope.names (cloFrom X.env.cells scope.names [])) fp
  show codeAny _ _ (.compStart (.SetComp elt [⟨tg, iter, ifs, 0⟩, ⟨tg1, iter1, ifs1, 0⟩] scope pos) 0 (.ref it) (.ref D) (compEnvC scope (cellsFrom (s3.heap.objs.size + 1) scope.names (cloFrom X.env.cells scope.names [])) s3.heap.objs.size X.env)) (compPost (model X.prog X.w) X.A X.xe use Qf (.ref D) s3.heap.objs.size) { s3 with heap := pushCells (s3.heap.push { cls := .type "dict", data := .dict #[] }) scope.names }
  have nfp : ∀ b ∈ fp, (upd H2 D (SetTO X.prog X.w D [])) b = none := fun b hb => (f3 b hb).1.1
  generalize hce : compEnvC scope (cellsFrom (s3.heap.objs.size + 1) scope.names (cloFrom X.env.cells scope.names [])) s3.heap.objs.size X.env = ce at I4 pg pt pe pi1 pg1 pt1 ⊢
  have cL : ce.locals = s3.heap.objs.size := by subst hce; rfl
  generalize hH3 : upd H2 D (SetTO X.prog X.w D []) = H3 at I3 I4 pg pt pe pi1 pg1 pt1 w0 nfp f3
  generalize hs4 : ({ s3 with heap := pushCells (s3.heap.push { cls := .type "dict", data := .dict #[] }) scope.names } : Shared) = s4 at I4 ⊢
  have st4 : tn 0 s4.heap := T.keep _ _ _ st3 fun b _ o e => by rw [← hs4]; exact pushCells_keeps _ _ _ _ (Heap.get?_push_of_some _ e)
  have stat : ∀ {σ' : L2.St} {H' : Hp} {s' : Shared}, Inv (X.blk s3 H3 scope ce fp) [] σ' H' s' → (∀ b ∈ fp, H' b = none) → ∀ b ∈ fp, FpOk (X.blk s3 H3 scope ce fp) [] H' b := fun {σ' H' s'} I' hn b hb =>
    ⟨hn b hb, (I'.ok.exf b hb).1, I'.ok.exfs b hb, .inl hb, fun x c e => (I'.ok.exf b hb).2 x c e, fun p hp => absurd (show p ∈ ([] : List (Addr × Obj)) ++ [] from hp) (by simp)⟩
  have loop : codeAny (model X.prog X.w) X.A (.compLoop (.SetComp elt [⟨tg, iter, ifs, 0⟩, ⟨tg1, iter1, ifs1, 0⟩] scope pos) 0 (.ref it) (.ref D) ce) (compPost (model X.prog X.w) X.A X.xe use Qf (.ref D) s3.heap.objs.size) s4 := by
    refine compLoopS2_out (hs1 ce) (fun n s' => ∃ i H', Inv (X.blk s3 H3 scope ce fp) [] (wipe σ (own.map (·.2))) H' s' ∧ tn i s'.heap ∧ (∀ b ∈ fp, H' b = none) ∧ W i n H') ?_ m0 ⟨0, H3, I4, st4, nfp, w0⟩
    rintro n s5 ⟨i, H5, I5, st5, n5, w5⟩
    rcases turn i n H5 w5 with ⟨stop, qq⟩ | ⟨go, Nx, hNx, step⟩
    · have td := T.done (X.blk s3 H3 scope ce fp) rfl rfl rfl hc i [] s5 _ H5 (fun _ _ => False) I5 (stat I5 n5) st5 stop
      refine thnF td fun r s6 ⟨hr, I6⟩ => ?_
      subst hr
      -- back in the def's context
      have I7 : Inv X pins σ H5 s6 := I3.call' (ch := fp) I6.os I6.base I6.hok I6.bare fun b hb => ⟨(f3 b hb).1.2.2.2.1, (f3 b hb).1.2.1, (f3 b hb).1.2.2.2.2.1, (f3 b hb).1.2.2.2.2.2⟩
      have nC : H5 s3.heap.objs.size = none := by
        have z : H5 ce.locals = none := I6.free
        rw [cL] at z
        exact z
      obtain ⟨m, hn, _⟩ := I6.loc
      have hn : s6.heap.Ns ce.locals m := hn
      rw [cL] at hn
      exact hRR D s3.heap.objs.size s6 m H5 I7 qq hn (I3.fpOk (Nat.le_refl _) nC)
    · have ti := T.item (X.blk s3 H3 scope ce fp) rfl rfl rfl hc i [] s5 _ H5 (fun _ _ => False) I5 (stat I5 n5) st5 go
      refine thnF ti fun r s6 ⟨u, hr, h6⟩ => ?_
      subst hr
      refine thnF h6 fun _ s7 ⟨x, H7, I7, r7, y7, st7, n7⟩ => ?_
      have I7' := I7.pinned (stat I7 n7) (T.obj _ _ st7)
      refine thnF (pg.run _ s7 _ H7 x u _ I7' r7 (step x H7 y7)) fun _ s8 ⟨σ8, H8, I8, hw8, q8⟩ => ?_
      refine thnF (pt.run _ s8 σ8 H8 _ I8 q8) fun b s9 ⟨H9, I9, q9⟩ => ?_
      -- the turn's end, from any slots that know what the block knew at its start
      have fin : ∀ {σ9 : L2.St} {s' : Shared} {H' : Hp}, Inv (X.blk s3 H3 scope ce fp) ([] ++ pinsAt fp s7.heap) σ9 H' s' → (wipe σ (own.map (·.2))).length = σ9.length → (∀ (j : Nat) v, (wipe σ (own.map (·.2)))[j]? = some (some v) → σ9[j]? = some (some v)) → Nx H' →
          ∃ m, m < n ∧ ∃ i H', Inv (X.blk s3 H3 scope ce fp) [] (wipe σ (own.map (·.2))) H' s' ∧ tn i s'.heap ∧ (∀ b ∈ fp, H' b = none) ∧ W i m H' := fun {σ9 s' H'} I' hl hk nx => by
        obtain ⟨m', hm, w'⟩ := hNx H' nx
        have pin' : ∀ b ∈ fp, ∀ o, s7.heap.get? b = some o → s'.heap.get? b = some o ∧ H' b = none := fun b hb o e =>
          let z := I'.pin (b, o) (List.mem_append_right _ (List.mem_append_right _ (mem_pinsAt hb e)))
          ⟨z.1, z.2.1⟩
        refine ⟨m', hm, i + 1, H', (I'.unpinned (pins := [])).weak hl hk, T.keep _ _ _ st7 fun b hb o e => (pin' b hb o e).1, fun b hb => ?_, w'⟩
        obtain ⟨o, e, _⟩ := T.obj _ _ st7 b hb
        exact (pin' b hb o e).2
      have hl8 : (wipe σ (own.map (·.2))).length = σ8.length := by rw [← hw8, wipe_length]
      have hk8 : ∀ (j : Nat) v, (wipe σ (own.map (·.2)))[j]? = some (some v) → σ8[j]? = some (some v) := fun j v e => by
        rw [← hw8] at e
        exact (wipe_some e).1
      have hk9 : ∀ (j : Nat) v, (wipe σ (own.map (·.2)))[j]? = some (some v) → (wipe σ8 vs1)[j]? = some (some v) := fun j v e => by
        rw [← hw8] at e
        obtain ⟨e1, e2⟩ := wipe_some e
        rw [wipe_out fun z => e2 (hv j z)]
        exact e1
      cases b with
      | false =>
        simp only [Bool.false_eq_true, if_false] at q9 ⊢
        exact fin I9 hl8 hk8 q9
      | true =>
        simp only [if_true] at q9 ⊢
        refine thnF (pi1.run _ s9 σ8 H9 _ I9 q9) fun xv s10 hx => thnF hx fun itv s11 h11 => ?_
        obtain ⟨it1, fp1, tn1, J1, H11, e1, I11, T1, st11, f11, W1, ⟨m1, w1⟩, turn1⟩ := h11
        subst e1
        -- the inner loop
        have stat1 : ∀ {H' : Hp}, (∀ b ∈ fp1, H' b = none) → ∀ b ∈ fp1, FpOk (X.blk s3 H3 scope ce fp) ([] ++ pinsAt fp s7.heap) H' b := fun hn b hb => ⟨hn b hb, (f11 b hb).2⟩
        have loop1 : codeAny (model X.prog X.w) X.A (.compLoop (.SetComp elt [⟨tg, iter, ifs, 0⟩, ⟨tg1, iter1, ifs1, 0⟩] scope pos) 1 (.ref it1) (.ref D) ce)
            (fun r s' => match r with
              | .ok _ => ∃ m, m < n ∧ ∃ i H', Inv (X.blk s3 H3 scope ce fp) [] (wipe σ (own.map (·.2))) H' s' ∧ tn i s'.heap ∧ (∀ b ∈ fp, H' b = none) ∧ W i m H'
              | .error _ => False) s11 := by
          refine compLoopS2_in (fun k s' => ∃ j H', Inv (X.blk s3 H3 scope ce fp) ([] ++ pinsAt fp s7.heap) (wipe σ8 vs1) H' s' ∧ tn1 j s'.heap ∧ (∀ b ∈ fp1, H' b = none) ∧ W1 j k H') ?_ m1 ⟨0, H11, I11.weak (wipe_length _ _) (fun j v e => (wipe_some e).1), st11, fun b hb => (f11 b hb).1, w1⟩
          rintro k s12 ⟨j, H12, I12, st12, n12, w12⟩
          rcases turn1 j k H12 w12 with ⟨stop1, nx1⟩ | ⟨go1, Nx1, hNx1, step1⟩
          · refine thnF (T1.done (X.blk s3 H3 scope ce fp) rfl rfl rfl hc j _ s12 (wipe σ8 vs1) H12 (fun _ _ => False) I12 (stat1 n12) st12 stop1) fun r s13 ⟨hr, I13⟩ => ?_
            subst hr
            exact fin I13 (hl8.trans (wipe_length σ8 vs1).symm) hk9 nx1
          · refine thnF (T1.item (X.blk s3 H3 scope ce fp) rfl rfl rfl hc j _ s12 (wipe σ8 vs1) H12 (fun _ _ => False) I12 (stat1 n12) st12 go1) fun r s13 ⟨u1, hr, h13⟩ => ?_
            subst hr
            refine thnF h13 fun _ s14 ⟨x1, H14, I14, r14, y14, st14, n14⟩ => ?_
            have I14' := I14.pinned (stat1 n14) (T1.obj _ _ st14)
            refine thnF (pg1.run _ s14 (wipe σ8 vs1) H14 x1 u1 _ I14' r14 (step1 x1 H14 y14)) fun _ s15 ⟨σ15, H15, I15, hw15, q15⟩ => ?_
            refine thnF (pt1.run _ s15 σ15 H15 _ I15 q15) fun b1 s16 ⟨H16, I16, q16⟩ => ?_
            have fin1 : ∀ {s' : Shared} {H' : Hp}, Inv (X.blk s3 H3 scope ce fp) (([] ++ pinsAt fp s7.heap) ++ pinsAt fp1 s14.heap) σ15 H' s' → Nx1 H' → ∃ m, m < k ∧ ∃ j H', Inv (X.blk s3 H3 scope ce fp) ([] ++ pinsAt fp s7.heap) (wipe σ8 vs1) H' s' ∧ tn1 j s'.heap ∧ (∀ b ∈ fp1, H' b = none) ∧ W1 j m H' := fun {s' H'} I' nx => by
              obtain ⟨m', hm, w'⟩ := hNx1 H' nx
              have pin' : ∀ b ∈ fp1, ∀ o, s14.heap.get? b = some o → s'.heap.get? b = some o ∧ H' b = none := fun b hb o e =>
                let z := I'.pin (b, o) (List.mem_append_right _ (List.mem_append_right _ (mem_pinsAt hb e)))
                ⟨z.1, z.2.1⟩
              refine ⟨m', hm, j + 1, H', I'.unpinned.weak (by rw [← hw15, wipe_length]) (fun j v e => by rw [← hw15] at e; exact (wipe_some e).1), T1.keep _ _ _ st14 fun b hb o e => (pin' b hb o e).1, fun b hb => ?_, w'⟩
              obtain ⟨o, e, _⟩ := T1.obj _ _ st14 b hb
              exact (pin' b hb o e).2
            cases b1 with
            | false =>
              simp only [Bool.false_eq_true, if_false] at q16 ⊢
              exact fin1 I16 q16
            | true =>
              simp only [if_true] at q16 ⊢
              refine thnF (pe.run _ s16 σ15 H16 _ I16 q16) fun z s17 ⟨yv, H17, I17, r17, b0, t0, L0, ey, hT17, hk17, hD17, hz17, nx⟩ => ?_
              subst ey
              cases (show z = Value.ref b0 from r17)
              exact addT_ok (X := X.blk s3 H3 scope ce fp) I17 hc room hD17 hk17 hT17 hz17 fun L' s18 I18 c1 c2 => fin1 I18 (nx L' c1 c2)
        exact compStartS1_ok loop1 (T1.self X.A 0 _ _ _ st11 loop1)
  exact PpSet.codeAny_compStart_set loop (T.self X.A 0 _ _ _ st4 loop)
theorem pe_sc2 {elt tg iter tg1 iter1 : Expr} {ifs ifs1 : List Expr} {scope : Scope} {own : List (Str × Nat)} {vs1 : List Nat} {pos : Pos} {wi wi1 : TI} {g g1 : TG} {tt tt1 : TT} {te : TE} (hc : X.calm = true) (room : X.A.units + 64 < cLine) (hN : X.N.Nodup) (hi : PI X tg iter wi) (ok : BlkOk X.N X.env.scope scope own) (hv : ∀ i ∈ vs1, i ∈ own.map (·.2))
    (hg : ∀ (s : Shared) (H : Hp) (C : Addr) (cl : List (Str × Addr)) (fp : List Addr), PG (X.blk s H scope (compEnvC scope cl C X.env) fp) tg g) (ht : ∀ (s : Shared) (H : Hp) (C : Addr) (cl : List (Str × Addr)) (fp : List Addr), PTs (X.blk s H scope (compEnvC scope cl C X.env) fp) ifs tt)
    (hi1 : ∀ (s : Shared) (H : Hp) (C : Addr) (cl : List (Str × Addr)) (fp : List Addr), PI (X.blk s H scope (compEnvC scope cl C X.env) fp) tg1 iter1 wi1)
    (hg1 : ∀ (s : Shared) (H : Hp) (C : Addr) (cl : List (Str × Addr)) (fp : List Addr), PG (X.blk s H scope (compEnvC scope cl C X.env) fp) tg1 g1) (ht1 : ∀ (s : Shared) (H : Hp) (C : Addr) (cl : List (Str × Addr)) (fp : List Addr), PTs (X.blk s H scope (compEnvC scope cl C X.env) fp) ifs1 tt1)
    (he : ∀ (s : Shared) (H : Hp) (C : Addr) (cl : List (Str × Addr)) (fp : List Addr), PE (X.blk s H scope (compEnvC scope cl C X.env) fp) elt te) (hs : ∀ x, foldedSetIterable iter X.env x = pure x := by intro _; rfl) (hs1 : ∀ env x, foldedSetIterable iter1 env x = pure x := by intro _ _; rfl) :
    PE X (.SetComp elt [⟨tg, iter, ifs, 0⟩, ⟨tg1, iter1, ifs1, 0⟩] scope pos) (tSc2 X.K X.prog X.w wi g tt wi1 g1 tt1 te (own.map (·.2)) vs1) := by
  refine ⟨fun pins s σ H Q I h => ?_⟩
  rw [PpSet.eval_SetComp]
  refine sc2_core hc room hN I hi ok hv hg ht he hs hi1 hg1 ht1 hs1 h fun D C s' m H' I' q hn f => ⟨m, hn, fun h'' sb => ?_⟩
  obtain ⟨f0, f1, f2, f3, f4, f5⟩ := f
  exact ⟨.ref D, H', I'.turned (t' := s'.toks) (fun b o hb e => (sb.2 b hb).trans e) f0 f1 f3 f4 f5, rfl, q⟩
end
end W8

namespace K08
open PySem PySem.Spec PyProof.Rows L2 RZ L5 R7 XX
theorem filter_yes {f : List Nat → Bool} {A : List (List Nat)} {i : Nat} {t : List Nat} (h : A[i]? = some t) (e : f t = true) : (A.take (i + 1)).filter f = (A.take i).filter f ++ [t] := by
  rw [take_more h, List.filter_append, List.filter_cons_of_pos e]
  rfl
theorem filter_no {f : List Nat → Bool} {A : List (List Nat)} {i : Nat} {t : List Nat} (h : A[i]? = some t) (e : f t = false) : (A.take (i + 1)).filter f = (A.take i).filter f := by
  rw [take_more h, List.filter_append, List.filter_cons_of_neg (by rw [e]; decide)]
  exact List.append_nil _
theorem filter_nil_min (A : List (List Nat)) (t : List Nat) : decide ((A.filter fun q => decide (q ≠ t) && M7.fitB q t) = []) = M7.minB A t := by
  unfold M7.minB
  rw [Bool.eq_iff_iff, decide_eq_true_iff, List.filter_eq_nil_iff, Bool.not_eq_true', List.any_eq_false]
section
variable {P : Program} {w : World} {K : PySem.W.Frag} {mg : Str → Option Value} {base : Heap}
abbrev sc1 : Scope := { kind := .function, names := [(".0", .local), ("_law_one", .cell), ("_law_once", .cell)], isGenerator := false, isCoroutine := false, more := [] }
theorem blk_in {N : List Str} {sc sc' scope : Scope} {own : List (Str × Nat)} (e : sc'.names = sc.names) (h : BlkOk N sc scope own) : BlkOk N sc' scope own := ⟨h.kind, h.uniq, h.ix, fun y m k => by
  rw [e]
  exact h.free y m k, h.own⟩
def sp_wleast (K : PySem.W.Frag) : Sp := fun vs H Q _ => ∃ (l : Addr) (rs : List Addr) (L : List (List Nat)) (d BB : Nat), vs = [.ref l] ∧ SqL K H l (rs.map V.ref) ∧ Tups K H rs L ∧ (M7.canonN L).length ≤ 62 ∧ L.length ≤ 1000 ∧ 1 ≤ d ∧ d ≤ 8 ∧ (∀ t ∈ L, t.length = d) ∧ (∀ t ∈ L, ∀ e ∈ t, e < BB) ∧
  ∀ H' q rs', Same H H' → H' q = some (.lst (rs'.map V.ref)) → Tups K H' rs' (M7.leastN L) → Q (.ref q) H'
theorem ok_wleast (T : Txt K mg) : FnOk P w K mg base CX0 2 T.a_w_least T.d_w_least ["_law_products_here"] (sp_wleast K) := by
  refine T.F_w_least.ok sc_w_least (fun vs H Q E h => ?_) (fun cdv A outer s H vs Q E hr h => ?_)
  · obtain ⟨l, rs, L, d, BB, rfl, _⟩ := h
    rfl
  · obtain ⟨l, rs, L, d, BB, rfl, hA, hL, hz, hz2, hd1, hd8, hd, hB, q⟩ := h
    refine ⟨_, pss_cons (ps_set (i := 1) sc_w_least.nd rfl (Or.inr rfl) (pe_sdist rfl hr.units (by rfl) T.z_sorted (by rfl) T.z_set (pv 0)))
      (pss_one (ps_ret (pe_lc (own := [("_law_one", 2)]) (g := gName 2) rfl sc_w_least.nd (pi_list (pv 1)) (blkOk_by (own := [("_law_one", 2)]) (N := N_w_least) (sc := defScope s_w_least) (by decide +kernel))
        (fun _ _ _ _ _ => pg_name (i := 2) sc_w_least.nd rfl (Or.inr rfl))
        (fun _ _ _ _ _ => pts_one (pt_cmpR (show OpR _ _ (rEqD K) from op_eqD hr.units)
          (pe_lc (own := [("_law_two", 3)]) (g := gName 3) rfl sc_w_least.nd (show PI _ _ _ (iList K (tVar 1)) from pi_list (pv 1)) (blk_in (sc := sc1) (own := [("_law_two", 3)]) (N := N_w_least) rfl (blkOk_by (by decide +kernel)))
            (fun _ _ _ _ _ => pg_name (i := 3) sc_w_least.nd rfl (Or.inl rfl))
            (fun _ _ _ _ _ => pts_one (PW.pt (pw_and (pt_cmpR (show OpR _ _ (rNeD K) from op_neD hr.units) (pv 3) (pv 2) (nomark _)) (pw_and1 (pt_val (pe_call (ok_wdiv T) hr (by rfl) T.m_w_divides T.F_w_divides.kp T.b_w_divides .nil pass0 (pa_cons (pv 3) (pa_cons (pv 2) pa_nil))))))))
            (fun _ _ _ _ _ => pv 3)) (pe_lst pa_nil) (nomark _)))
        (fun _ _ _ _ _ => pv 2)))), ?_⟩
    refine ⟨_, rfl, l, rs, L, d, BB, rfl, hA, hL, hz, hd1, hd, hB, fun H1 y qs s1 hyf hy hT => ?_⟩
    have hlc : qs.length = (M7.canonN L).length := hT.length
    have hcl := M7.canon_len L
    have hdc : ∀ t ∈ M7.canonN L, t.length = d := fun t ht => hd t (M7.mem_canon.mp ht)
    have e0 : M7.leastN L = (M7.canonN L).filter (M7.minB (M7.canonN L)) := rfl
    rw [e0] at q
    generalize M7.canonN L = B at hT hlc hcl hdc q
    have flen : ∀ (f : List Nat → Bool) (i : Nat), ((B.take i).filter f).length ≤ 1000000 := fun f i => by
      have h1 := List.length_filter_le f (B.take i)
      rw [List.length_take] at h1
      omega
    refine ⟨_, rfl, y, rfl, ⟨_, SqL.of hy⟩, fun D hD => ?_⟩
    have sD := same_new hD (.lst [])
    refine lc_list (K := K) (a := y) (xs := qs.map V.ref) (fun i H' => Same H1 H' ∧ ∃ ds : List Addr, H' D = some (.lst (ds.map V.ref)) ∧ Tups K H' ds ((B.take i).filter (M7.minB B))) ⟨sD, [], upd_same, .nil⟩ (fun i H' _ h => SqL.of (h.1 _ _ hy)) ?_ ?_
    · rintro i x H' hx ⟨sm, ds, eD, hTd⟩
      obtain ⟨a, t, rfl, _, ht, hs⟩ := tups_get (hT.same sm) hx
      have htd := hdc t (List.mem_of_getElem? ht)
      refine ⟨rfl, _, rfl, y, rfl, ⟨_, SqL.of (sm _ _ hy)⟩, fun D2 hD2 => ?_⟩
      have sD2 := same_new hD2 (.lst [])
      refine lc_list (K := K) (a := y) (xs := qs.map V.ref) (fun j H2 => Same H' H2 ∧ ∃ es : List Addr, H2 D2 = some (.lst (es.map V.ref)) ∧ Tups K H2 es ((B.take j).filter fun q => decide (q ≠ t) && M7.fitB q t)) ⟨sD2, [], upd_same, .nil⟩ (fun j H2 _ h => SqL.of (h.1 _ _ (sm _ _ hy))) ?_ ?_
      · rintro j x H2 hx2 ⟨s2, es, eD2, hTe⟩
        obtain ⟨b, u, rfl, _, hu, hsu⟩ := tups_get ((hT.same sm).same s2) hx2
        have hud := hdc u (List.mem_of_getElem? hu)
        have hs2 := same_sqt s2 hs
        refine ⟨rfl, _, rfl, _, rfl, _, _, dp_tup hsu, dp_tup hs2, shaped_tup u, shaped_tup t, _, rfl, ?_⟩
        rw [eqv_tupE]
        by_cases hut : u = t
        · rw [decide_eq_true hut]
          refine iteF (iteF ⟨s2, es, eD2, ?_⟩)
          rw [filter_no hu (by rw [decide_eq_false (fun h => h hut), Bool.false_and])]
          exact hTe
        · rw [decide_eq_false hut]
          refine iteT ⟨_, rfl, _, rfl, b, a, u, t, rfl, hsu, hs2, by rw [hud, htd], by omega, fun H3 s3 => ⟨_, rfl, ?_⟩⟩
          have eD3 := s3 _ _ eD2
          cases hf : M7.fitB u t with
          | true =>
            refine iteT ⟨_, rfl, _, eD3, by rw [List.length_map, show es.length = _ from hTe.length]; exact sizeK (flen _ j), same_updL (s2.trans s3) hD2, es ++ [b], by rw [upd_same, List.map_append]; rfl, ?_⟩
            rw [filter_yes hu (by rw [hf, decide_eq_true (show u ≠ t from hut)]; rfl)]
            exact ((hTe.same s3).updL eD3).app (.cons (sqt_updL eD3 (same_sqt s3 hsu)) .nil)
          | false =>
            refine iteF ⟨s2.trans s3, es, eD3, ?_⟩
            rw [filter_no hu (by rw [hf, Bool.and_false])]
            exact hTe.same s3
      · rintro H2 ⟨s2, es, eD2, hTe⟩
        rw [List.length_map, hlc, List.take_length] at hTe
        refine ⟨Nat.zero_le _, fun z hz8 => ?_⟩
        have s8 := same_new hz8 (.lst [])
        refine ⟨_, .list [], .lst (SqL.of (s8 _ _ eD2)) (dp_tups (hTe.same s8)), .lst (SqL.of upd_same) .nil, shaped_tups _, by decide, _, rfl, ?_⟩
        have S := s2.trans s8
        have eD3 := S _ _ eD
        have e3 : PyData.eqv (.list ((B.filter fun q => decide (q ≠ t) && M7.fitB q t).map encT)) (.list []) = M7.minB B t := by
          rw [eqv_nilL, ← filter_nil_min]
          exact decide_eq_decide.mpr List.map_eq_nil_iff
        rw [e3]
        cases hf : M7.minB B t with
        | true =>
          refine iteT ⟨_, rfl, _, eD3, by rw [List.length_map, show ds.length = _ from hTd.length]; exact sizeK (flen _ i), same_updL (sm.trans S) hD, ds ++ [a], by rw [upd_same, List.map_append]; rfl, ?_⟩
          rw [filter_yes ht hf]
          exact ((hTd.same S).updL eD3).app (.cons (sqt_updL eD3 (same_sqt S hs)) .nil)
        | false =>
          refine iteF ⟨sm.trans S, ds, eD3, ?_⟩
          rw [filter_no ht hf]
          exact hTd.same S
    · rintro H' ⟨sm, ds, eD, hTd⟩
      rw [List.length_map, hlc, List.take_length] at hTd
      exact q H' D ds (s1.trans sm) eD hTd
end
end K08

namespace K08
open PySem PySem.Spec PyProof.Rows L2 RZ L5 R7 XX
theorem for_anyF {K : PySem.W.Frag} {H H0 : Hp} {a : Addr} {xs : List V} {g : TG} {tb : TS} {D : Ends} {σ : L2.St} (at_ : SqA K H0 a xs) (Pv : Nat → L2.St → Hp → Prop) (h0 : Pv 0 σ H) (keep : ∀ i σ' H', Pv i σ' H' → Same H0 H')
    (step : ∀ i x σ H, xs[i]? = some x → Pv i σ H → g x σ H fun σ2 H2 => tb { D with nx := Pv (i + 1), ct := Pv (i + 1), bk := D.nx } σ2 H2) (done : ∀ σ H, Pv xs.length σ H → D.nx σ H) :
    ((∃ xs, SqL K H a xs) ∧ Turns (Itl K a) g tb D σ H) ∨ ((∃ xs, SqT K H a xs) ∧ Turns (Itt K a) g tb D σ H) :=
  at_.elim (fun h => .inl ⟨⟨_, (keep 0 σ H h0).seq h⟩, for_list Pv h0 (fun i σ' H' _ p => (keep i σ' H' p).seq h) step done⟩) fun h => .inr ⟨⟨_, same_sqt (keep 0 σ H h0) h⟩, for_tup Pv h0 (fun i σ' H' _ p => same_sqt (keep i σ' H' p) h) step done⟩
section
variable {P : Program} {w : World} {K : PySem.W.Frag} {mg : Str → Option Value} {base : Heap}
def sp_wpair (K : PySem.W.Frag) : Sp := fun vs H Q _ => ∃ (z : Str) (f : Nat → Nat → Nat) (a b : Addr) (rs ps : List Addr) (L M : List (List Nat)) (d : Nat), vs = [.str z, .ref a, .ref b] ∧ ((z = "joined" ∧ f = max) ∨ (z = "added" ∧ f = (· + ·))) ∧ SqA K H a (rs.map V.ref) ∧ SqT K H b (ps.map V.ref) ∧ Tups K H rs L ∧ Tups K H ps M ∧ (∀ t ∈ L, t.length = d) ∧ (∀ t ∈ M, t.length = d) ∧ d ≤ 8 ∧ L.length ≤ 100 ∧ M.length ≤ 100 ∧
  ∀ H' q rs', Same H H' → H' q = some (.lst (rs'.map V.ref)) → Tups K H' rs' (eachN f L M) → Q (.ref q) H'
theorem ok_wpair (T : Txt K mg) : FnOk P w K mg base CX0 2 T.a_w_pairwise T.d_w_pairwise ["_law_word", "_law_one", "_law_other"] (sp_wpair K) := by
  refine T.F_w_pairwise.ok sc_w_pairwise (fun vs H Q E h => ?_) (fun cdv A outer s H vs Q E hr h => ?_)
  · obtain ⟨z, f, a, b, rs, ps, L, M, d, rfl, _⟩ := h
    rfl
  · obtain ⟨z, f, a, b, rs, ps, L, M, d, rfl, hzf, hA, hB, hL, hM, hdL, hdM, hd8, hl1, hl2, q⟩ := h
    refine ⟨_, pss_cons (ps_set (i := 3) sc_w_pairwise.nd rfl (Or.inl rfl) (pe_lst pa_nil))
      (pss_cons (ps_for PassesOwn.never rfl (pi_any (pv 1)) (pg_name (i := 4) sc_w_pairwise.nd rfl (Or.inr rfl))
        (pss_one (ps_expr (pe_bm PySem.F.plainAttrs_list PySem.F.slot_list_extend PySem.F.type_list_extend mt_extend (pv 3) (pa_cons
          (pe_lc (own := [("_law_right_here", 5)]) (g := gName 5) (tt := tYes) rfl sc_w_pairwise.nd (pi_tup (pv 2)) (blkOk_by (own := [("_law_right_here", 5)]) (N := N_w_pairwise) (sc := defScope s_w_pairwise) (by decide +kernel))
            (fun _ _ _ _ _ => pg_name (i := 5) sc_w_pairwise.nd rfl (Or.inl rfl)) (fun _ _ _ _ _ => pts_nil)
            (fun _ _ _ _ _ => pe_ifExp (pt_cmpR (show OpR _ _ (rEqD K) from op_eqD hr.units) (pv 0) pe_str (nomark _))
              (pe_call (ok_w_joined T) hr (by rfl) T.m_w_joined T.F_w_joined.kp T.b_w_joined .nil pass0 (pa_cons (pv 4) (pa_cons (pv 5) pa_nil)))
              (pe_call (ok_w_added T) hr (by rfl) T.m_w_added T.F_w_added.kp T.b_w_added .nil pass0 (pa_cons (pv 4) (pa_cons (pv 5) pa_nil))))) pa_nil)))))
      (pss_one (ps_ret (pv 3)))), ?_⟩
    refine ⟨by show 0 ≤ sizeLine; exact Nat.zero_le _, fun y hy => ?_⟩
    have sy := same_new hy (.lst [])
    have hla : rs.length = L.length := hL.length
    have hlb : ps.length = M.length := hM.length
    refine ⟨_, rfl, a, rfl, ?_⟩
    refine for_anyF (K := K) (a := a) (xs := rs.map V.ref) hA (fun i σ H' => ∃ (v4 : Option V) (ds : List Addr), σ = [some (.str z), some (.ref a), some (.ref b), some (.ref y), v4, none] ∧ Same H H' ∧ H' y = some (.lst (ds.map V.ref)) ∧ Tups K H' ds (eachN f (L.take i) M)) ⟨none, [], rfl, sy, upd_same, .nil⟩ (fun i σ' H' ⟨_, _, _, sm, _⟩ => sm) ?_ ?_
    · rintro i x σ H' hx ⟨v4, ds, rfl, sm, ey, hT⟩
      obtain ⟨p1, t, rfl, _, ht, hs⟩ := tups_get (hL.same sm) hx
      have htl := hdL t (List.mem_of_getElem? ht)
      have hi : i < L.length := (List.getElem?_eq_some_iff.mp ht).1
      refine ⟨_, rfl, .inl ⟨rfl, _, SqL.of ey⟩, _, rfl, b, rfl, ⟨_, same_sqt sm hB⟩, fun D hD => ?_⟩
      have sD := same_new hD (.lst [])
      refine lc_tup (K := K) (a := b) (xs := ps.map V.ref) (fun j H2 => Same H' H2 ∧ ∃ es : List Addr, H2 D = some (.lst (es.map V.ref)) ∧ Tups K H2 es ((M.take j).map fun u => List.zipWith f t u)) ⟨sD, [], upd_same, .nil⟩ (fun j H2 _ h => same_sqt (sm.trans h.1) hB) ?_ ?_
      · rintro j x2 H2 hx2 ⟨s2, es, eD, hTe⟩
        obtain ⟨p2, u, rfl, _, hu, hsu⟩ := tups_get ((hM.same sm).same s2) hx2
        have hul := hdM u (List.mem_of_getElem? hu)
        have hj : j < M.length := (List.getElem?_eq_some_iff.mp hu).1
        have hel : es.length ≤ 100 := by
          have e1 : es.length = _ := hTe.length
          rw [e1, List.length_map, List.length_take]
          omega
        have fin : ∀ H3 x3, Same H2 H3 → SqT K H3 x3 (nv (List.zipWith f t u)) → ∃ acc, H3 D = some (.lst acc) ∧ acc.length < sizeLine ∧ Same H' (upd H3 D (.lst (acc ++ [V.ref x3]))) ∧ ∃ es : List Addr, (upd H3 D (.lst (acc ++ [V.ref x3]))) D = some (.lst (es.map V.ref)) ∧ Tups K (upd H3 D (.lst (acc ++ [V.ref x3]))) es ((M.take (j + 1)).map fun u => List.zipWith f t u) := fun H3 x3 s3 hx3 => by
          have eD3 := s3 _ _ eD
          refine ⟨_, eD3, by rw [List.length_map]; exact sizeK (by omega), same_updL (s2.trans s3) hD, es ++ [x3], by rw [upd_same, List.map_append]; rfl, ?_⟩
          rw [take_more hu, List.map_append]
          exact ((hTe.same s3).updL eD3).app (.cons (sqt_updL eD3 hx3) .nil)
        rcases hzf with ⟨rfl, rfl⟩ | ⟨rfl, rfl⟩
        · refine ⟨rfl, _, rfl, .str "joined", .str "joined", .str _, .str _, by decide +kernel, by decide +kernel, _, rfl, ?_⟩
          rw [show PyData.eqv (.str "joined") (.str "joined") = true by decide +kernel]
          refine iteT ⟨_, rfl, _, rfl, p1, p2, t, u, rfl, same_sqt s2 hs, hsu, by rw [hul, htl], by omega, fun H3 x3 s3 hx3 => ?_⟩
          rw [zi_max] at hx3
          exact fin H3 x3 s3 hx3
        · refine ⟨rfl, _, rfl, .str "added", .str "joined", .str _, .str _, by decide +kernel, by decide +kernel, _, rfl, ?_⟩
          rw [show PyData.eqv (.str "added") (.str "joined") = false by decide +kernel]
          refine iteF ⟨_, rfl, _, rfl, p1, p2, t, u, rfl, same_sqt s2 hs, hsu, by rw [hul, htl], by omega, fun H3 x3 s3 hx3 => ?_⟩
          rw [zi_add] at hx3
          exact fin H3 x3 s3 hx3
      · rintro H2 ⟨s2, es, eD, hTe⟩
        rw [List.length_map, hlb, List.take_length] at hTe
        have ey2 := s2 _ _ ey
        have h1 : ds.length = (L.take i).length * M.length := by
          have e1 : ds.length = _ := hT.length
          rw [e1, each_len]
        have h2 : es.length = M.length := by
          have e1 : es.length = _ := hTe.length
          rw [e1, List.length_map]
        have h3 : (L.take i).length * M.length ≤ 100 * 100 := Nat.mul_le_mul (by rw [List.length_take]; omega) hl2
        refine ⟨y, D, _, _, rfl, rfl, ey2, eD, Nat.le_of_lt (sizeK (by rw [List.length_map, List.length_map]; omega)), _, ds ++ es, rfl, same_updL (sm.trans s2) hy, by rw [upd_same, List.map_append], ?_⟩
        have e2 : eachN f (L.take (i + 1)) M = eachN f (L.take i) M ++ M.map fun u => List.zipWith f t u := by
          rw [take_more ht]
          show (L.take i ++ [t]).flatMap _ = _
          rw [List.flatMap_append, List.flatMap_cons, List.flatMap_nil, List.append_nil]
        rw [e2]
        exact ((hT.same s2).app hTe).updL ey2
    · rintro σ H' ⟨v4, ds, rfl, sm, ey, hT⟩
      rw [List.length_map, hla, List.take_length] at hT
      exact ⟨_, rfl, q H' y ds sm ey hT⟩
end
end K08

namespace K08
open PySem PySem.Spec PyProof.Rows L2 RZ L5 R7 XX
section
variable {P : Program} {w : World} {K : PySem.W.Frag} {mg : Str → Option Value} {base : Heap}
/-! ### taken_off, _law_lessened, nothing, check_product -/
abbrev cutZ (a b : Nat) : Int := if subZ a b > 0 then subZ a b else 0
theorem zi_offN (t u : List Nat) : (zi offZ t u).map V.int = nv (List.zipWith (· - ·) t u) := by
  show _ = List.map _ _
  rw [List.map_zipWith, List.map_zipWith]
  congr 1
  funext a b
  show V.int (if _ then _ else _) = V.int _
  congr 1
  show (if (0 : Int) > ((a : Nat) : Int) - ((b : Nat) : Int) then (0 : Int) else ((a : Nat) : Int) - ((b : Nat) : Int)) = (((a - b : Nat)) : Int)
  split <;> omega
theorem zi_cutN (t u : List Nat) : (zi cutZ t u).map V.int = nv (List.zipWith (· - ·) t u) := by
  show _ = List.map _ _
  rw [List.map_zipWith, List.map_zipWith]
  congr 1
  funext a b
  show V.int (if _ then _ else _) = V.int _
  congr 1
  show (if ((a : Nat) : Int) - ((b : Nat) : Int) > 0 then ((a : Nat) : Int) - ((b : Nat) : Int) else (0 : Int)) = (((a - b : Nat)) : Int)
  split <;> omega
def sp_less (K : PySem.W.Frag) : Sp := fun vs H Q _ => ∃ (p r : Addr) (t u : List Nat), vs = [.ref p, .ref r] ∧ SqT K H p (nv t) ∧ SqT K H r (nv u) ∧ u.length = t.length ∧ t.length ≤ 1000 ∧ ∀ H' z, Same H H' → SqT K H' z (nv (List.zipWith (· - ·) t u)) → Q (.ref z) H'
theorem ok_off (T : Txt K mg) : FnOk P w K mg base CX0 1 T.a_taken_off T.d_taken_off ["one", "other"] (sp_less K) := by
  refine T.F_taken_off.ok sc_taken_off (fun vs H Q E h => ?_) (fun cdv A outer s H vs Q E hr h => ?_)
  · obtain ⟨p, r, t, u, rfl, _⟩ := h
    rfl
  · obtain ⟨p, r, t, u, rfl, hT, hU, hl, hz, q⟩ := h
    refine ⟨_, pss_one (ps_ret (pe_callTy call_tuple_of (by rfl) T.z_tuple boot_tuple (pa_cons
      (pe_lc (own := [("a", 2), ("b", 3)]) (g := gTup K 2 (gCons (gName 2) (gCons (gName 3) gNil))) (tt := tYes) rfl sc_taken_off.nd (pi_zipA (by rfl) T.z_zip (pa_cons (pv 0) (pa_cons (pv 1) pa_nil))) (blkOk_by (own := [("a", 2), ("b", 3)]) (N := N_taken_off) (sc := defScope s_taken_off) (by decide +kernel))
        (fun _ _ _ _ _ => pg_tup (by rfl) (pgs_cons (pg_name (i := 2) sc_taken_off.nd rfl (Or.inl rfl)) (pgs_cons (pg_name (i := 3) sc_taken_off.nd rfl (Or.inl rfl)) pgs_nil))) (fun _ _ _ _ _ => pts_nil)
        (fun _ _ _ _ _ => pe_callB (call_max2 rfl) (by rfl) T.z_max boot_max (pa_cons (pe_op op_sub (pv 2) (pv 3)) (pa_cons pe_int pa_nil)))) pa_nil))), ?_⟩
    refine ⟨_, rfl, _, rfl, p, r, nv t, nv u, rfl, .inr ⟨hT, hU, fun D hD => ?_⟩⟩
    have sD : Same H (upd H D (.lst [])) := same_new hD _
    refine lc_zipT (by rw [nv_len, nv_len, hl]) (fun i H' => Same H H' ∧ H' D = some (.lst (((zi offZ t u).take i).map V.int))) ⟨sD, upd_same⟩ (fun i H' h => ⟨same_sqt h.1 hT, same_sqt h.1 hU⟩) (fun i x y T' H' hx hy h hT' => ?_) (fun H' h => ?_)
    · obtain ⟨sm, eD⟩ := h
      obtain ⟨n, hn, rfl⟩ := nv_get hx
      obtain ⟨m, hm, rfl⟩ := nv_get hy
      have hlt : i < t.length := (List.getElem?_eq_some_iff.mp hn).1
      have sT : Same H' (upd H' T' (.tup [.int ((n : Nat) : Int), .int ((m : Nat) : Int)])) := same_new hT' _
      refine ⟨T', _, rfl, SqT.of upd_same, rfl, _, _, rfl, _, _, rfl, rfl, ?_⟩
      refine ⟨rfl, _, rfl, _, rfl, _, _, rfl, rfl, _, _, rfl, ?_⟩
      refine ⟨_, sT _ _ eD, by rw [List.length_map, List.length_take]; exact sizeK (by omega), same_updL (sm.trans sT) hD, ?_⟩
      rw [upd_same, take_more (zi_get hn hm), List.map_append]
      rfl
    · obtain ⟨sm, eD⟩ := h
      have e2 : (zi offZ t u).take (nv t).length = zi offZ t u := List.take_of_length_le (by rw [nv_len, List.length_zipWith]; omega)
      rw [e2, zi_offN] at eD
      refine ⟨D, _, rfl, .inl ⟨SqL.of eD, fun z hz' => ?_⟩⟩
      have sZ : Same H (upd H' z (.tup (nv (List.zipWith (· - ·) t u)))) := sm.trans (same_new hz' _)
      exact q _ z sZ (SqT.of upd_same)
theorem ok_wless (T : Txt K mg) : FnOk P w K mg base CX0 1 T.a_w_lessened T.d_w_lessened ["_law_one", "_law_other"] (sp_less K) := by
  refine T.F_w_lessened.ok sc_w_lessened (fun vs H Q E h => ?_) (fun cdv A outer s H vs Q E hr h => ?_)
  · obtain ⟨p, r, t, u, rfl, _⟩ := h
    rfl
  · obtain ⟨p, r, t, u, rfl, hT, hU, hl, hz, q⟩ := h
    refine ⟨_, pss_one (ps_ret (pe_callTy call_tuple_of (by rfl) T.z_tuple boot_tuple (pa_cons
      (pe_lc (own := [("_law_left", 2), ("_law_right_here", 3)]) (g := gTup K 2 (gCons (gName 2) (gCons (gName 3) gNil))) (tt := tYes) rfl sc_w_lessened.nd (pi_zipA (by rfl) T.z_zip (pa_cons (pv 0) (pa_cons (pv 1) pa_nil))) (blkOk_by (own := [("_law_left", 2), ("_law_right_here", 3)]) (N := N_w_lessened) (sc := defScope s_w_lessened) (by decide +kernel))
        (fun _ _ _ _ _ => pg_tup (by rfl) (pgs_cons (pg_name (i := 2) sc_w_lessened.nd rfl (Or.inl rfl)) (pgs_cons (pg_name (i := 3) sc_w_lessened.nd rfl (Or.inl rfl)) pgs_nil))) (fun _ _ _ _ _ => pts_nil)
        (fun _ _ _ _ _ => pe_callB (call_max2 rfl) (by rfl) T.z_max boot_max (pa_cons pe_int (pa_cons (pe_op op_sub (pv 2) (pv 3)) pa_nil)))) pa_nil))), ?_⟩
    refine ⟨_, rfl, _, rfl, p, r, nv t, nv u, rfl, .inr ⟨hT, hU, fun D hD => ?_⟩⟩
    have sD : Same H (upd H D (.lst [])) := same_new hD _
    refine lc_zipT (by rw [nv_len, nv_len, hl]) (fun i H' => Same H H' ∧ H' D = some (.lst (((zi cutZ t u).take i).map V.int))) ⟨sD, upd_same⟩ (fun i H' h => ⟨same_sqt h.1 hT, same_sqt h.1 hU⟩) (fun i x y T' H' hx hy h hT' => ?_) (fun H' h => ?_)
    · obtain ⟨sm, eD⟩ := h
      obtain ⟨n, hn, rfl⟩ := nv_get hx
      obtain ⟨m, hm, rfl⟩ := nv_get hy
      have hlt : i < t.length := (List.getElem?_eq_some_iff.mp hn).1
      have sT : Same H' (upd H' T' (.tup [.int ((n : Nat) : Int), .int ((m : Nat) : Int)])) := same_new hT' _
      refine ⟨T', _, rfl, SqT.of upd_same, rfl, _, _, rfl, _, _, rfl, rfl, ?_⟩
      refine ⟨rfl, _, rfl, _, rfl, _, _, rfl, rfl, _, _, rfl, ?_⟩
      refine ⟨_, sT _ _ eD, by rw [List.length_map, List.length_take]; exact sizeK (by omega), same_updL (sm.trans sT) hD, ?_⟩
      rw [upd_same, take_more (zi_get hn hm), List.map_append]
      rfl
    · obtain ⟨sm, eD⟩ := h
      have e2 : (zi cutZ t u).take (nv t).length = zi cutZ t u := List.take_of_length_le (by rw [nv_len, List.length_zipWith]; omega)
      rw [e2, zi_cutN] at eD
      refine ⟨D, _, rfl, .inl ⟨SqL.of eD, fun z hz' => ?_⟩⟩
      have sZ : Same H (upd H' z (.tup (nv (List.zipWith (· - ·) t u)))) := sm.trans (same_new hz' _)
      exact q _ z sZ (SqT.of upd_same)
def sp_chp (K : PySem.W.Frag) : Sp := fun vs H Q _ => ∃ (p : Addr) (t : List Nat), vs = [.ref p, .int ((t.length : Nat) : Int)] ∧ SqT K H p (nv t) ∧ t.length ≤ 8 ∧ (∀ e ∈ t, e ≤ 60) ∧ ∀ H', Same H H' → Q .non H'
theorem ok_chp (T : Txt K mg) : FnOk P w K mg base CX0 4 T.a_check_product T.d_check_product ["value", "letters"] (sp_chp K) := by
  refine T.F_check_product.ok sc_check_product (fun vs H Q E h => ?_) (fun cdv A outer s H vs Q E hr h => ?_)
  · obtain ⟨p, t, rfl, _⟩ := h
    rfl
  · obtain ⟨p, t, rfl, hp, h8, h60, q⟩ := h
    refine ⟨_, pss_one (ps_if (pt_not (pt_val (pe_call (ok_are T) hr (by rfl) T.m_are_exponents T.F_are_exponents.kp T.b_are_exponents .nil pass0 (pa_cons (pv 0) (pa_cons (pv 1) (pa_cons (pe_glob (v := .int 60) rfl T.c_MAX_EXPONENT ⟨_, rfl⟩) pa_nil)))))) (pss_one ps_never) pss_nil), ?_⟩
    refine ⟨_, rfl, _, rfl, .ref p, _, _, 60, rfl, va_prod hp (by omega), fun H1 s1 => ⟨_, rfl, ?_⟩⟩
    have e60 : areB (some (t.map fun n => some ((n : Nat) : Int))) ((t.length : Nat) : Int) 60 = true := are_low (m := 60) h60
    rw [e60]
    exact iteF (q H1 s1)
end
end K08

/-! quotients and powers of lots by their least members -/
namespace M8
open M7
abbrev addN (a b : List Nat) : List Nat := List.zipWith (· + ·) a b
abbrev subN (a b : List Nat) : List Nat := List.zipWith (· - ·) a b
/-- the members without t -/
abbrev qN (L : List (List Nat)) (t : List Nat) : List (List Nat) := L.map fun u => subN u t
theorem fit_sub : ∀ {u t s : List Nat}, t.length = u.length → s.length = u.length → (fitB (subN u t) s = true ↔ fitB u (addN s t) = true)
  | [], _, _, _, _ => by simp [fitB, subN]
  | a :: u, [], _, h, _ => by simp at h
  | a :: u, _ :: _, [], _, h => by simp at h
  | a :: u, b :: t, c :: s, h1, h2 => by
    have ih := fit_sub (u := u) (t := t) (s := s) (by simpa using h1) (by simpa using h2)
    show (decide (a - b ≤ c) && fitB (subN u t) s) = true ↔ (decide (a ≤ c + b) && fitB u (addN s t)) = true
    rw [Bool.and_eq_true, Bool.and_eq_true, ih, decide_eq_true_iff, decide_eq_true_iff]
    exact and_congr_left fun _ => by omega
variable {d : Nat} {L M : List (List Nat)} {t u s : List Nat}
theorem len_add (ht : t.length = d) (hu : u.length = d) : (addN t u).length = d := by rw [List.length_zipWith]; omega
theorem len_sub (ht : t.length = d) (hu : u.length = d) : (subN t u).length = d := by rw [List.length_zipWith]; omega
theorem len_q (hL : Len d L) (ht : t.length = d) : Len d (qN L t) := fun v hv => by
  obtain ⟨u, hu, rfl⟩ := List.mem_map.mp hv
  exact len_sub (hL u hu) ht
theorem up_q (hL : Len d L) (ht : t.length = d) (hs : s.length = d) : Up (qN L t) s ↔ Up L (addN s t) := by
  constructor
  · rintro ⟨k, hk, hf⟩
    obtain ⟨u, hu, rfl⟩ := List.mem_map.mp hk
    exact ⟨u, hu, (fit_sub (by rw [ht, hL u hu]) (by rw [hs, hL u hu])).mp hf⟩
  · rintro ⟨u, hu, hf⟩
    exact ⟨_, List.mem_map_of_mem (f := fun u => subN u t) hu, (fit_sub (by rw [ht, hL u hu]) (by rw [hs, hL u hu])).mpr hf⟩
theorem add_assoc3 : addN (addN s u) t = addN s (addN t u) := by
  exact (zip_assoc (f := (· + ·)) Nat.add_assoc s u t).trans (congrArg (addN s) (zip_comm Nat.add_comm u t))
theorem q_q (hL : Len d L) (ht : t.length = d) (hu : u.length = d) : leastN (qN (leastN (qN L t)) u) = leastN (qN L (addN t u)) := by
  have h1 := len_least (len_q hL ht)
  refine least_ext (len_q h1 hu) (len_q hL (len_add ht hu)) fun s hs => ?_
  rw [up_q h1 hu hs, up_least (len_q hL ht), up_q hL ht (len_add hs hu), up_q hL (len_add ht hu) hs, add_assoc3]
theorem q_least (hL : Len d L) (ht : t.length = d) : leastN (qN (leastN L) t) = leastN (qN L t) :=
  least_ext (len_q (len_least hL) ht) (len_q hL ht) fun s hs => by rw [up_q (len_least hL) ht hs, up_q hL ht hs, up_least hL]
theorem q_add (hL : Len d L) (hM : Len d M) (ht : t.length = d) : leastN (qN (leastN (L ++ M)) t) = leastN (leastN (qN L t) ++ leastN (qN M t)) := by
  rw [q_least (len_app hL hM) ht, app_least (len_q hL ht) (len_q hM ht)]
  exact least_ext (len_q (len_app hL hM) ht) (len_app (len_q hL ht) (len_q hM ht)) fun s hs => by rw [up_q (len_app hL hM) ht hs, up_app, up_app, up_q hL ht hs, up_q hM ht hs]
theorem q_meet (hL : Len d L) (hM : Len d M) (ht : t.length = d) : leastN (qN (leastN (eachF max L M)) t) = leastN (eachF max (leastN (qN L t)) (leastN (qN M t))) := by
  have h3 := len_each (f := max) hL hM
  rw [q_least h3 ht, each_least grows_max (len_q hL ht) (len_q hM ht)]
  exact least_ext (len_q h3 ht) (len_each (len_q hL ht) (len_q hM ht)) fun s hs => by
    rw [up_q h3 ht hs, up_meet hL hM (len_add hs ht), up_meet (len_q hL ht) (len_q hM ht) hs, up_q hL ht hs, up_q hM ht hs]
theorem z_len : (z0 d).length = d := List.length_replicate
theorem z_addN : ∀ t : List Nat, addN (z0 t.length) t = t
  | [] => rfl
  | a :: t => by
    show (0 + a) :: addN (z0 t.length) t = a :: t
    rw [z_addN t, Nat.zero_add]
theorem in_q (hL : Len d L) (ht : t.length = d) (hs : s.length = d) : inB (leastN (qN L t)) s = inB L (addN s t) := by
  rw [Bool.eq_iff_iff, in_up, in_up, up_least (len_q hL ht), up_q hL ht hs]
theorem is_all (hL : Len d L) : leastN L = [z0 d] ↔ Up L (z0 d) := by
  constructor
  · intro h
    have : z0 d ∈ leastN L := by rw [h]; exact List.mem_singleton.mpr rfl
    exact ⟨_, (mem_least.mp this).1, fit_refl _⟩
  · rintro ⟨k, hk, hf⟩
    rw [← least_z d]
    refine least_ext hL (len_z d) fun s hs => ⟨fun _ => ⟨_, List.mem_singleton.mpr rfl, by rw [← hs]; exact fit_z s⟩, fun _ => ⟨k, hk, ?_⟩⟩
    exact fit_trans (u := z0 d) (by rw [z_len, hL k hk]) hf (by rw [← hs]; exact fit_z s)
theorem all_q (hL : Len d L) (ht : t.length = d) : decide (leastN (qN L t) = [z0 d]) = inB L t := by
  rw [Bool.eq_iff_iff, decide_eq_true_iff, is_all (len_q hL ht), in_up, up_q hL ht z_len]
  rw [show addN (z0 d) t = t by rw [← ht]; exact z_addN t]
theorem in_own (hL : Len d L) (ht : t.length = d) (hs : s ∈ L) : inB (leastN (qN L t)) s = true := by
  rw [in_q hL ht (hL s hs), in_up]
  exact ⟨s, hs, fit_left (by rw [ht, hL s hs])⟩
/-! ### powers -/
theorem least_canon (hL : Len d L) : leastN (canonN L) = leastN L :=
  least_ext (fun t ht => hL t (mem_canon.mp ht)) hL fun s _ => ⟨fun ⟨k, hk, h⟩ => ⟨k, mem_canon.mp hk, h⟩, fun ⟨k, hk, h⟩ => ⟨k, mem_canon.mpr hk, h⟩⟩
def pwN (d : Nat) (L : List (List Nat)) : Nat → List (List Nat)
  | 0 => [z0 d]
  | k + 1 => canonN (eachF (· + ·) (pwN d L k) L)
theorem len_pw (hL : Len d L) : ∀ k, Len d (pwN d L k)
  | 0 => len_z d
  | k + 1 => fun t ht => len_each (len_pw hL k) hL t (mem_canon.mp ht)
def wlN (d : Nat) (L : List (List Nat)) : Nat → List (List Nat)
  | 0 => [z0 d]
  | k + 1 => leastN (eachF (· + ·) (wlN d L k) L)
theorem wl_pw (hL : Len d L) (own : leastN L = L) : ∀ k, wlN d L k = leastN (pwN d L k)
  | 0 => (least_z d).symm
  | k + 1 => by
    show leastN (eachF (· + ·) (wlN d L k) L) = leastN (canonN _)
    rw [least_canon (len_each (len_pw hL k) hL), wl_pw hL own k]
    have h := each_least grows_add (len_pw hL k) hL
    rw [own] at h
    exact h
theorem wl_one (hL : Len d L) (own : leastN L = L) : wlN d L 1 = L := by
  show leastN (eachF (· + ·) [z0 d] L) = L
  rw [each_comm Nat.add_comm (len_z d) hL, each_z op_add hL, own]
theorem wl_two (hL : Len d L) (own : leastN L = L) : wlN d L 2 = leastN (eachF (· + ·) L L) := by
  show leastN (eachF (· + ·) (wlN d L 1) L) = _
  rw [wl_one hL own]
/-- words by their letters -/
def wdN (d : Nat) : Nat → List (List Nat) → List (List Nat)
  | 0, _ => [z0 d]
  | _ + 1, [] => []
  | k + 1, m :: L => (wdN d k (m :: L)).map (addN m) ++ wdN d (k + 1) L
termination_by k L => k + L.length
def cnt : Nat → Nat → Nat
  | 0, _ => 1
  | _ + 1, 0 => 0
  | k + 1, n + 1 => cnt k (n + 1) + cnt (k + 1) n
termination_by k n => k + n
theorem wd_len (d : Nat) : ∀ (k : Nat) (L : List (List Nat)), (wdN d k L).length = cnt k L.length
  | 0, _ => by rw [wdN, cnt]; rfl
  | _ + 1, [] => by rw [wdN]; show 0 = cnt _ 0; rw [cnt]
  | k + 1, m :: L => by
    rw [wdN, List.length_append, List.length_map, wd_len d k (m :: L), wd_len d (k + 1) L]
    show _ = cnt (k + 1) (L.length + 1)
    rw [cnt]
    rfl
termination_by k L => k + L.length
theorem wd_step (d : Nat) : ∀ (k : Nat) (L : List (List Nat)) (s m : List Nat), Len d L → s ∈ wdN d k L → m ∈ L → addN s m ∈ wdN d (k + 1) L
  | _, [], _, _, _, _, h => nomatch h
  | k, a :: L, s, m, hL, hs, hm => by
    rw [wdN]
    rcases List.mem_cons.mp hm with rfl | hm'
    · exact List.mem_append_left _ (List.mem_map.mpr ⟨s, hs, zip_comm Nat.add_comm m s⟩)
    · have hL' : Len d L := fun t ht => hL t (List.mem_cons_of_mem _ ht)
      cases k with
      | zero =>
        rw [wdN] at hs
        exact List.mem_append_right _ (wd_step d 0 L s m hL' (by rw [wdN]; exact hs) hm')
      | succ k =>
        have hs0 := hs
        rw [wdN] at hs
        rcases List.mem_append.mp hs with hs | hs
        · obtain ⟨s', hs', rfl⟩ := List.mem_map.mp hs
          refine List.mem_append_left _ (List.mem_map.mpr ⟨addN s' m, wd_step d k (a :: L) s' m hL hs' hm, ?_⟩)
          exact (zip_assoc Nat.add_assoc a s' m).symm
        · exact List.mem_append_right _ (wd_step d (k + 1) L s m hL' hs hm')
termination_by k L => k + L.length
theorem pw_wd (hL : Len d L) : ∀ k t, t ∈ pwN d L k → t ∈ wdN d k L
  | 0, t, h => by rw [wdN]; exact h
  | k + 1, t, h => by
    obtain ⟨s, hs, h⟩ := List.mem_flatMap.mp (mem_canon.mp h)
    obtain ⟨m, hm, rfl⟩ := List.mem_map.mp h
    exact wd_step d k L s m hL (pw_wd hL k s hs) hm
theorem nd_sub {α : Type} [DecidableEq α] : ∀ {l m : List α}, l.Nodup → (∀ x ∈ l, x ∈ m) → l.length ≤ m.length
  | [], _, _, _ => Nat.zero_le _
  | x :: l, m, h, sub => by
    obtain ⟨hx, hl⟩ := List.nodup_cons.mp h
    have ih := nd_sub (l := l) (m := m.erase x) hl fun y hy => (List.mem_erase_of_ne (fun e : y = x => hx (by rw [← e]; exact hy))).mpr (sub y (List.mem_cons_of_mem _ hy))
    have := List.length_erase_of_mem (sub x List.mem_cons_self)
    have pos := List.length_pos_of_mem (sub x List.mem_cons_self)
    rw [List.length_cons]
    omega
theorem cnt35 {k n : Nat} (hk : k ≤ 4) (hn : n ≤ 4) : cnt k n ≤ 35 := by
  have h : ∀ k ≤ 4, ∀ n ≤ 4, cnt k n ≤ 35 := by
    intro k hk n hn
    have e : k = 0 ∨ k = 1 ∨ k = 2 ∨ k = 3 ∨ k = 4 := by omega
    have e2 : n = 0 ∨ n = 1 ∨ n = 2 ∨ n = 3 ∨ n = 4 := by omega
    rcases e with rfl | rfl | rfl | rfl | rfl <;> rcases e2 with rfl | rfl | rfl | rfl | rfl <;> simp [cnt]
  exact h k hk n hn
theorem lt_irr : ∀ t : List Nat, ltN t t = false
  | [] => rfl
  | a :: t => by
    cases h : ltN (a :: t) (a :: t) with
    | false => rfl
    | true =>
      rcases lt_cons.mp h with z | ⟨_, z⟩
      · omega
      · rw [lt_irr t] at z
        cases z
theorem nd_asc {A : List (List Nat)} (h : Asc A) : A.Nodup := by
  rw [List.nodup_iff_pairwise_ne]
  exact List.Pairwise.imp (fun {a b} z e => by rw [e, lt_irr] at z; cases z) h
theorem pw_short (hL : Len d L) (h4 : L.length ≤ 4) {k : Nat} (hk : k ≤ 4) : (pwN d L k).length ≤ 35 := by
  refine Nat.le_trans ?_ (cnt35 hk h4)
  rw [← wd_len d k L]
  refine nd_sub ?_ (pw_wd hL k)
  cases k with
  | zero => exact List.nodup_cons.mpr ⟨fun h => (nomatch h), List.nodup_nil⟩
  | succ k => exact nd_asc (asc_canon (len_each (len_pw hL k) hL))
theorem wl_short (hL : Len d L) (own : leastN L = L) (h4 : L.length ≤ 4) {k : Nat} (hk : k ≤ 4) : (wlN d L k).length ≤ 35 := by
  rw [wl_pw hL own]
  exact Nat.le_trans (least_short _) (pw_short hL h4 hk)
/-- what is different of the next ones -/
theorem wl_next (hL : Len d L) (own : leastN L = L) (h4 : L.length ≤ 4) {k : Nat} (hk : k < 4) : (canonN (eachF (· + ·) (wlN d L k) L)).length ≤ 35 := by
  refine Nat.le_trans (nd_sub (nd_asc (asc_canon (len_each (by rw [wl_pw hL own]; exact len_least (len_pw hL k)) hL))) fun t ht => ?_) (pw_short hL h4 (k := k + 1) hk)
  refine mem_canon.mpr ?_
  obtain ⟨s, hs, h⟩ := List.mem_flatMap.mp (mem_canon.mp ht)
  rw [wl_pw hL own] at hs
  exact List.mem_flatMap.mpr ⟨s, (mem_least.mp hs).1, h⟩
theorem low_pw {m : Nat} (hl : ∀ t ∈ L, ∀ e ∈ t, e ≤ m) : ∀ k, ∀ t ∈ pwN d L k, ∀ e ∈ t, e ≤ k * m
  | 0, t, ht, e, he => by
    rw [List.mem_singleton.mp ht] at he
    have := List.eq_of_mem_replicate he
    omega
  | k + 1, t, ht, e, he => by
    have := low_each op_add (low_pw hl k) hl t (mem_canon.mp ht) e he
    rw [Nat.succ_mul]
    exact this
theorem low_wl {m : Nat} (hL : Len d L) (own : leastN L = L) (hl : ∀ t ∈ L, ∀ e ∈ t, e ≤ m) (k : Nat) : ∀ t ∈ wlN d L k, ∀ e ∈ t, e ≤ k * m := fun t ht => by
  rw [wl_pw hL own] at ht
  exact low_pw hl k t (mem_least.mp ht).1
theorem len_wl (hL : Len d L) (own : leastN L = L) (k : Nat) : Len d (wlN d L k) := by
  rw [wl_pw hL own]
  exact len_least (len_pw hL k)
end M8

namespace R8
open PySem PySem.Spec PyProof.Rows L2 L5 M7 R7
section
variable {K : PySem.W.Frag} {P : Program} {w : World} {g g1 : TG} {tt tt1 : TT} {te : TE} {vs vs1 : List Nat} {D : Addr}
/-- a set's entry, added -/
abbrev AddS (K : PySem.W.Frag) (P : Program) (w : World) (D : Addr) (y : V) (H7 : Hp) (Nx1 : Hp → Prop) : Prop := ∃ (b : Addr) (t : List Int) (L : List (Addr × List Int)), y = .ref b ∧ SqT K H7 b (t.map V.int) ∧ (∀ p ∈ L, SqT K H7 p.1 (p.2.map V.int)) ∧ H7 D = some (SetTO P w D L) ∧ L.length + 1 < 64 ∧
          (∀ L', (t ∈ L.map (·.2) → L' = L) → (t ∉ L.map (·.2) → L'.Perm ((b, t) :: L)) → Nx1 (upd H7 D (SetTO P w D L')))
abbrev In2S (K : PySem.W.Frag) (P : Program) (w : World) (J1 : It) (g1 : TG) (tt1 : TT) (te : TE) (vs1 : List Nat) (D : Addr) (σ2 : L2.St) (H4 : Hp) (Nx : Hp → Prop) : Prop := ∃ W1 : Nat → Nat → Hp → Prop, (∃ m, W1 0 m H4) ∧ ∀ j k H, W1 j k H →
  (J1.stop j H ∧ Nx H) ∨ (J1.go j H ∧ ∃ Nx1 : Hp → Prop, (∀ H', Nx1 H' → ∃ k', k' < k ∧ W1 (j + 1) k' H') ∧ ∀ x H', J1.yld j H x H' → g1 x (wipe σ2 vs1) H' fun σ3 H5 => wipe σ3 vs1 = wipe σ2 vs1 ∧ tt1 σ3 H5 fun b H6 =>
    if b = true then te σ3 H6 fun y H7 => AddS K P w D y H7 Nx1 else Nx1 H6)
theorem in2S_tup {b : Addr} {ys : List V} {σ2 : L2.St} {H4 : Hp} {Nx : Hp → Prop} (Pj : Nat → Hp → Prop) (h0 : Pj 0 H4) (at_ : ∀ j H, Pj j H → SqT K H b ys)
    (step : ∀ j y H, ys[j]? = some y → Pj j H → g1 y (wipe σ2 vs1) H fun σ3 H5 => wipe σ3 vs1 = wipe σ2 vs1 ∧ tt1 σ3 H5 fun c H6 => if c = true then te σ3 H6 fun z H7 => AddS K P w D z H7 (Pj (j + 1)) else Pj (j + 1) H6)
    (done : ∀ H, Pj ys.length H → Nx H) : In2S K P w (Itt K b) g1 tt1 te vs1 D σ2 H4 Nx := by
  refine ⟨fun j k H => j + k = ys.length ∧ Pj j H, ⟨ys.length, Nat.zero_add _, h0⟩, fun j k H0 hw => ?_⟩
  obtain ⟨e, pj⟩ := hw
  have here := at_ j H0 pj
  cases k with
  | zero =>
    obtain rfl : j = ys.length := e
    exact .inl ⟨⟨ys, here, Nat.le_refl _⟩, done H0 pj⟩
  | succ k =>
    have lt : j < ys.length := by omega
    refine .inr ⟨⟨ys, ys[j], here, List.getElem?_eq_getElem lt⟩, Pj (j + 1), fun H' p' => ⟨k, Nat.lt_succ_self k, by omega, p'⟩, fun x H' out => ?_⟩
    obtain ⟨same, val⟩ := out
    subst same
    exact step j x _ (val ys here) pj
theorem out2S_list {a : Addr} {xs : List V} {wi1 : TI} {σ : L2.St} {H1 : Hp} {Qd : Hp → Prop} (Pi : Nat → Hp → Prop) (h0 : Pi 0 (upd H1 D (SetTO P w D []))) (at_ : ∀ i H, Pi i H → SqL K H a xs)
    (step : ∀ i x H, xs[i]? = some x → Pi i H → g x (wipe σ vs) H fun σ2 H2 => wipe σ2 vs = wipe σ vs ∧ tt σ2 H2 fun c H3 => if c = true then wi1 σ2 H3 fun J1 H4 => In2S K P w J1 g1 tt1 te vs1 D σ2 H4 (Pi (i + 1)) else Pi (i + 1) H3)
    (done : ∀ H, Pi xs.length H → Qd H) :
    ∃ W : Nat → Nat → Hp → Prop, (∃ m, W 0 m (upd H1 D (SetTO P w D []))) ∧ ∀ i m H, W i m H →
      ((Itl K a).stop i H ∧ Qd H) ∨ ((Itl K a).go i H ∧ ∃ Nx : Hp → Prop, (∀ H', Nx H' → ∃ m', m' < m ∧ W (i + 1) m' H') ∧ ∀ x H', (Itl K a).yld i H x H' → g x (wipe σ vs) H' fun σ2 H2 => wipe σ2 vs = wipe σ vs ∧ tt σ2 H2 fun b H3 =>
        if b = true then wi1 σ2 H3 fun J1 H4 => In2S K P w J1 g1 tt1 te vs1 D σ2 H4 Nx else Nx H3) := by
  refine ⟨fun i m H => i + m = xs.length ∧ Pi i H, ⟨xs.length, Nat.zero_add _, h0⟩, fun i m H0 hw => ?_⟩
  obtain ⟨e, pi⟩ := hw
  have here := at_ i H0 pi
  cases m with
  | zero =>
    obtain rfl : i = xs.length := e
    exact .inl ⟨⟨xs, here, Nat.le_refl _⟩, done H0 pi⟩
  | succ m =>
    have lt : i < xs.length := by omega
    refine .inr ⟨⟨xs, xs[i], here, List.getElem?_eq_getElem lt⟩, Pi (i + 1), fun H' p' => ⟨m, Nat.lt_succ_self m, by omega, p'⟩, fun x H' out => ?_⟩
    obtain ⟨same, val⟩ := out
    subst same
    exact step i x _ (val xs here) pi
/-- the set at D holds what M has -/
structure HasS (K : PySem.W.Frag) (H : Hp) (Ls : List (Addr × List Int)) (M : List (List Nat)) : Prop where
  each : ∀ p ∈ Ls, SqT K H p.1 (p.2.map V.int)
  sub : ∀ p ∈ Ls, ∃ t ∈ M, p.2 = zN t
  all : ∀ t ∈ M, zN t ∈ Ls.map (·.2)
  nd : (Ls.map (·.2)).Nodup
theorem HasS.nil {H : Hp} : HasS K H [] [] := ⟨(fun _ h => nomatch h), (fun _ h => nomatch h), (fun _ h => nomatch h), List.nodup_nil⟩
theorem HasS.len {H : Hp} {Ls : List (Addr × List Int)} {M A : List (List Nat)} (h : HasS K H Ls M) (sub : ∀ t ∈ M, t ∈ A) : Ls.length ≤ A.length := by
  rw [← List.length_map (f := (·.2)) (as := Ls), ← List.length_map (f := zN) (as := A)]
  refine W8.len_sub h.nd fun x hx => ?_
  obtain ⟨p, hp, rfl⟩ := List.mem_map.mp hx
  obtain ⟨t, ht, e⟩ := h.sub p hp
  rw [e]
  exact List.mem_map_of_mem (sub t ht)
theorem HasS.add {H H' : Hp} {Ls L' : List (Addr × List Int)} {M : List (List Nat)} {b : Addr} {t : List Nat} (h : HasS K H Ls M) (keep : ∀ p : Addr, ∀ xs, SqT K H p xs → SqT K H' p xs) (hb : SqT K H b ((zN t).map V.int)) (c1 : zN t ∈ Ls.map (·.2) → L' = Ls) (c2 : zN t ∉ Ls.map (·.2) → L'.Perm ((b, zN t) :: Ls)) : HasS K H' L' (M ++ [t]) := by
  by_cases c : zN t ∈ Ls.map (·.2)
  · rw [c1 c]
    refine ⟨fun p hp => keep _ _ (h.each p hp), fun p hp => ?_, fun u hu => ?_, h.nd⟩
    · obtain ⟨u, hu, e⟩ := h.sub p hp
      exact ⟨u, List.mem_append_left _ hu, e⟩
    · rcases List.mem_append.mp hu with hu | hu
      · exact h.all u hu
      · rw [List.mem_singleton.mp hu]
        exact c
  · have pm := c2 c
    refine ⟨fun p hp => ?_, fun p hp => ?_, fun u hu => ?_, ?_⟩
    · rcases List.mem_cons.mp (pm.mem_iff.mp hp) with rfl | hp
      · exact keep _ _ hb
      · exact keep _ _ (h.each p hp)
    · rcases List.mem_cons.mp (pm.mem_iff.mp hp) with rfl | hp
      · exact ⟨t, List.mem_append_right _ (List.mem_singleton.mpr rfl), rfl⟩
      · obtain ⟨u, hu, e⟩ := h.sub p hp
        exact ⟨u, List.mem_append_left _ hu, e⟩
    · rw [(pm.map (·.2)).mem_iff, List.map_cons]
      rcases List.mem_append.mp hu with hu | hu
      · exact List.mem_cons_of_mem _ (h.all u hu)
      · rw [List.mem_singleton.mp hu]
        exact List.mem_cons_self
    · refine (pm.map (·.2)).nodup_iff.mpr ?_
      rw [List.map_cons]
      exact List.nodup_cons.mpr ⟨c, h.nd⟩
theorem HasS.same {H H' : Hp} {Ls : List (Addr × List Int)} {M : List (List Nat)} (s : Same H H') (h : HasS K H Ls M) : HasS K H' Ls M := ⟨fun p hp => same_sqt s (h.each p hp), h.sub, h.all, h.nd⟩
/-- sorted(that set) -/
theorem sorted_has {H1 : Hp} {a : Addr} {Ls : List (Addr × List Int)} {M : List (List Nat)} {d B : Nat} {Q : VK} (ha : H1 a = some (SetTO P w a Ls)) (h : HasS K H1 Ls M) (hd : 1 ≤ d) (hlen : ∀ t ∈ M, t.length = d) (hB : ∀ t ∈ M, ∀ e ∈ t, e < B)
    (q : ∀ H' q rs', Same H1 H' → H1 q = none → H' q = some (.lst (rs'.map V.ref)) → Tups K H' rs' (canonN M) → Q (.ref q) H') : rSortedT K P w [.ref a] H1 Q := by
  refine ⟨a, Ls, d, (B : Int), rfl, ha, h.each, hd, fun p hp => ?_, fun L' p pm nd _ pw hp => ?_⟩
  · obtain ⟨t, ht, e⟩ := h.sub p hp
    rw [e]
    exact ⟨by rw [List.length_map]; exact hlen t ht, bd_of (hB t ht)⟩
  · have mem' : ∀ r ∈ L', ∃ t ∈ M, r.2 = zN t := fun r hr => h.sub r (pm.mem_iff.mp hr)
    have back : ∀ t : List Nat, (zN t).map Int.toNat = t := fun t => by
      rw [List.map_map]
      exact (List.map_congr_left fun n _ => by show (((n : Nat) : Int)).toNat = n; omega).trans (List.map_id _)
    have asc : Asc (L'.map fun r => r.2.map Int.toNat) := by
      have nd' : L'.Pairwise fun q r => q.2 ≠ r.2 := List.pairwise_map.mp nd
      have both := pw.and nd'
      rw [Asc, List.pairwise_map]
      refine both.imp_of_mem fun {q r} hq hr hqr => ?_
      obtain ⟨t, ht, e1⟩ := mem' q hq
      obtain ⟨u, hu, e2⟩ := mem' r hr
      rw [e1, e2] at hqr ⊢
      rw [back, back]
      exact code_ltN (by rw [hlen t ht, hlen u hu]) (hB t ht) (hB u hu) hqr.1 fun z => hqr.2 (by rw [z])
    have canon : (L'.map fun r => r.2.map Int.toNat) = canonN M := by
      refine canon_of asc hlen fun t => ⟨fun ht => ?_, fun ht => ?_⟩
      · obtain ⟨r, hr, rfl⟩ := List.mem_map.mp ht
        obtain ⟨u, hu, e⟩ := mem' r hr
        rw [e, back]
        exact hu
      · obtain ⟨r, hr, e⟩ := List.mem_map.mp (h.all t ht)
        refine List.mem_map.mpr ⟨r, pm.mem_iff.mpr hr, ?_⟩
        rw [e]
        exact back t
    have sp := same_new hp (.lst (L'.map fun q => V.ref q.1))
    have tl : Tups K (upd H1 p (.lst (L'.map fun q => V.ref q.1))) ((L'.map fun r => (r.1, r.2.map Int.toNat)).map (·.1)) ((L'.map fun r => (r.1, r.2.map Int.toNat)).map (·.2)) := pairs_tups fun r hr => by
      obtain ⟨r0, hr0, rfl⟩ := List.mem_map.mp hr
      obtain ⟨u, hu, e⟩ := mem' r0 hr0
      show SqT K _ r0.1 (nv (r0.2.map Int.toNat))
      have h1 := h.each r0 (pm.mem_iff.mp hr0)
      rw [e] at h1 ⊢
      rw [back, nv_ints]
      exact same_sqt sp h1
    rw [List.map_map, List.map_map] at tl
    have tl2 : Tups K (upd H1 p (.lst (L'.map fun q => V.ref q.1))) (L'.map (·.1)) (L'.map fun r => r.2.map Int.toNat) := tl
    rw [canon] at tl2
    refine q _ p (L'.map (·.1)) sp hp ?_ tl2
    rw [upd_same, List.map_map]
    rfl
end
end R8

namespace K08
open PySem PySem.Spec PyProof.Rows L2 RZ L5 R7 XX
def rRepB (K : PySem.W.Frag) : R2 := fun x y H Q => ∃ l k xs, x = .ref l ∧ y = .int k ∧ SqT K H l xs ∧ xs ≠ [] ∧ -1000 ≤ k ∧ k ≤ 1000 ∧ xs.length ≤ 1000 ∧ ∀ H' z, Same H H' → SqT K H' z (List.replicate k.toNat xs).flatten → Q (.ref z) H'
theorem op_repB {X : Cx} : OpR X (binaryOp .Mult) (rRepB X.K) := by
  intro pins s σ H x y v u Q I rx ry h
  obtain ⟨l, k, xs, rfl, rfl, hx, hne, h1, h2, hz, q⟩ := h
  refine op_repA pins s σ H _ _ v u Q I rx ry ⟨l, k, xs, rfl, rfl, hx, hne, h1, h2, hz, fun e => ?_, fun _ p hp => q _ p (same_new hp _) (SqT.of upd_same)⟩
  subst e
  refine q H l (Same.refl H) ?_
  have e2 : (List.replicate (1 : Int).toNat xs).flatten = xs := by
    show (List.replicate 1 xs).flatten = xs
    simp
  rw [e2]
  exact hx
theorem zeros_nv : ∀ d : Nat, (List.replicate d [V.int 0]).flatten = nv (M7.z0 d)
  | 0 => rfl
  | d + 1 => by
    show V.int 0 :: (List.replicate d [V.int 0]).flatten = V.int 0 :: nv (M7.z0 d)
    rw [zeros_nv d]
section
variable {P : Program} {w : World} {K : PySem.W.Frag} {mg : Str → Option Value} {base : Heap}
def sp_nothing (K : PySem.W.Frag) : Sp := fun vs H Q _ => ∃ d : Nat, vs = [.int ((d : Nat) : Int)] ∧ d ≤ 8 ∧ ∀ H' z, Same H H' → SqT K H' z (nv (M7.z0 d)) → Q (.ref z) H'
theorem ok_nothing (T : Txt K mg) : FnOk P w K mg base CX0 1 T.a_nothing T.d_nothing ["letters"] (sp_nothing K) := by
  refine T.F_nothing.ok sc_nothing (fun vs H Q E h => ?_) (fun cdv A outer s H vs Q E hr h => ?_)
  · obtain ⟨d, rfl, _⟩ := h
    rfl
  · obtain ⟨d, rfl, h8, q⟩ := h
    refine ⟨_, pss_one (ps_ret (pe_op op_repB (pe_tup (pa_cons pe_int pa_nil)) (pv 0))), ?_⟩
    refine ⟨by show 1 ≤ sizeLine; decide, fun z hz => ?_⟩
    have sz := same_new hz (.tup [V.int 0])
    refine ⟨_, rfl, z, ((d : Nat) : Int), [.int 0], rfl, rfl, SqT.of upd_same, by simp, by omega, by omega, by decide, fun H' y s' hy => ?_⟩
    rw [Int.toNat_natCast, zeros_nv] at hy
    exact q H' y (sz.trans s') hy
/-! ### is_all, quotient, power, ==, in, len, iter -/
abbrev s_is_all : Stmt := inClass (topS 45) 5
theorem sc_is_all : FnScope ["self"] ["self"] (defScope s_is_all) := ⟨rfl, rfl, rfl, by decide +kernel, rfl, by decide +kernel, by decide +kernel⟩
abbrev s_quot : Stmt := inClass (topS 45) 10
abbrev N_quot : List Str := ["self", "product", "left", "member"]
theorem sc_quot : FnScope N_quot ["self", "product"] (defScope s_quot) := ⟨rfl, rfl, rfl, by decide +kernel, rfl, by decide +kernel, by decide +kernel⟩
abbrev s_pow : Stmt := inClass (topS 45) 11
abbrev N_pow : List Str := ["self", "many", "found", "_", "one", "member"]
theorem sc_pow : FnScope N_pow ["self", "many"] (defScope s_pow) := ⟨rfl, rfl, rfl, by decide +kernel, rfl, by decide +kernel, by decide +kernel⟩
structure LotB (K : PySem.W.Frag) (C : Addr) where
  pA : Addr
  fA : Addr
  dA : FuncData
  PA : PropOf K C "is_all" pA fA
  FA : Fun K "is_all" "Lot.is_all" s_is_all fA dA
  bA : Binds K dA ["self"] []
  fQ : Addr
  dQ : FuncData
  FQ : Fun K "quotient" "Lot.quotient" s_quot fQ dQ
  bQ : Binds K dQ ["self", "product"] []
  mQ : Meth K C "quotient" fQ
  fP : Addr
  dP : FuncData
  FP : Fun K "power" "Lot.power" s_pow fP dP
  bP : Binds K dP ["self", "many"] []
  mP : Meth K C "power" fP
def sp_isall (K : PySem.W.Frag) (C : Addr) : Sp := fun vs H Q _ => ∃ a d L, vs = [.ref a] ∧ LotAt K C H a d L ∧ d ≤ 8 ∧ ∀ H', Same H H' → Q (.bl (decide (L = [M7.z0 d]))) H'
theorem ok_isall (T : Txt K mg) (O : LotT K mg) (B : LotB K O.C) : FnOk P w K mg base CX0 2 B.fA B.dA ["self"] (sp_isall K O.C) := by
  refine B.FA.ok sc_is_all (fun vs H Q E h => ?_) (fun cdv A outer s H vs Q E hr h => ?_)
  · obtain ⟨a, d, L, rfl, _⟩ := h
    rfl
  · obtain ⟨a, d, L, rfl, ⟨dx, m, rs, h1, h2, h3⟩, h8, q⟩ := h
    refine ⟨_, pss_one (ps_ret (pe_cmpR (op_eqD hr.units) (pe_fld (pv 0) rfl) (pe_tup (pa_cons (pe_call (ok_nothing T) hr (by rfl) T.m_nothing T.F_nothing.kp T.b_nothing .nil pass0 (pa_cons (pe_fld (pv 0) rfl) pa_nil)) pa_nil)) (nomark _))), ?_⟩
    refine ⟨_, rfl, a, O.C, dx, _, _, rfl, h1, O.cl, O.nM, rfl, _, rfl, a, O.C, dx, _, _, rfl, h1, O.cl, O.nL, rfl, d, rfl, h8, fun H1 z s1 hz => ⟨by show 1 ≤ sizeLine; decide, fun y hy => ?_⟩⟩
    have sy := same_new hy (.tup [V.ref z])
    have S := s1.trans sy
    refine ⟨_, _, .tup (same_sqt S h2) (dp_tups (h3.same S)), .tup (SqT.of upd_same) (dp_tups (rs := [z]) (L := [M7.z0 d]) (.cons (same_sqt sy hz) .nil)), shaped_tupsT L, shaped_tupsT [M7.z0 d], ?_⟩
    rw [show PyData.eqv (.tuple (L.map encT)) (.tuple ([M7.z0 d].map encT)) = decide (L = [M7.z0 d]) by simp only [PyData.eqv]; exact eqvAll_tups L [M7.z0 d]]
    exact q _ S
def sp_quot (K : PySem.W.Frag) (C : Addr) : Sp := fun vs H Q _ => ∃ (a p : Addr) (d : Nat) (L : List (List Nat)) (t : List Nat), vs = [.ref a, .ref p] ∧ LotAt K C H a d L ∧ SqT K H p (nv t) ∧ t.length = d ∧ 1 ≤ d ∧ d ≤ 8 ∧ (∀ e ∈ t, e ≤ 60) ∧ (∀ u ∈ L, u.length = d) ∧ (∀ u ∈ L, ∀ e ∈ u, e ≤ 60) ∧ L.length ≤ 24 ∧
  ∀ H' c, Same H H' → LotAt K C H' c d (M7.leastN (M8.qN L t)) → Q (.ref c) H'
theorem ok_quot (T : Txt K mg) (O : LotT K mg) (B : LotB K O.C) : FnOk P w K mg base CX0 8 B.fQ B.dQ ["self", "product"] (sp_quot K O.C) := by
  refine B.FQ.ok sc_quot (fun vs H Q E h => ?_) (fun cdv A outer s H vs Q E hr h => ?_)
  · obtain ⟨a, p, d, L, t, rfl, _⟩ := h
    rfl
  · obtain ⟨a, p, d, L, t, rfl, ⟨dx, m, rs, h1, h2, h3⟩, hp, htl, hd1, hd8, h60, hdL, hL60, h24, q⟩ := h
    refine ⟨_, pss_cons (ps_expr (pe_call (ok_chp T) (hr.mono (by decide)) (by rfl) T.m_check_product T.F_check_product.kp T.b_check_product .nil pass0 (pa_cons (pv 1) (pa_cons (pe_fld (pv 0) rfl) pa_nil))))
      (pss_cons (ps_setLc (i := 2) (own := [("member", 3)]) (g := gName 3) (tt := tYes) rfl sc_quot.nd rfl rfl (sw_true rfl rfl rfl (by decide +kernel)) (pi_tup (pe_fld (pv 0) rfl)) (blkOk_by (own := [("member", 3)]) (N := N_quot) (sc := defScope s_quot) (by decide +kernel))
            (fun _ _ _ _ _ => pg_name (i := 3) sc_quot.nd rfl (Or.inl rfl)) (fun _ _ _ _ _ => pts_nil)
            (fun _ _ _ _ _ => pe_call (ok_off T) (hr.mono (by decide)) (by rfl) T.m_taken_off T.F_taken_off.kp T.b_taken_off .nil pass0 (pa_cons (pv 3) (pa_cons (pv 1) pa_nil))))
      (pss_one (ps_ret (pe_call (ok_made T O) hr (by rfl) T.m_made_lot T.F_made_lot.kp T.b_made_lot .nil pass0 (pa_cons (pe_fld (pv 0) rfl)
        (pa_cons (pe_call (E := E0) (ok_lim T) (hr.mono (by decide)) (by rfl) T.m_limited_members T.F_limited_members.kp T.b_limited_members .nil passG (pa_cons (pv 2) pa_nil)) pa_nil)))))), ?_⟩
    subst htl
    refine ⟨_, rfl, _, rfl, a, O.C, dx, _, _, rfl, h1, O.cl, O.nL, rfl, p, t, rfl, hp, hd8, h60, fun H1 s1 => ?_⟩
    have h1' := s1 _ _ h1
    have h2' := same_sqt s1 h2
    have h3' := h3.same s1
    have hp' := same_sqt s1 hp
    have hlen : rs.length = L.length := h3.length
    refine ⟨_, rfl, a, O.C, dx, _, _, rfl, h1', O.cl, O.nM, rfl, m, rfl, ⟨_, h2'⟩, fun D hD => ?_⟩
    have sD := same_new hD (.lst [])
    refine lc_tup (K := K) (a := m) (xs := rs.map V.ref) (fun i H' => Same H1 H' ∧ ∃ ds : List Addr, H' D = some (.lst (ds.map V.ref)) ∧ Tups K H' ds (M8.qN (L.take i) t)) ⟨sD, [], upd_same, .nil⟩ (fun i H' _ h => same_sqt h.1 h2') (fun i x H' hx h => ?_) (fun H' h => ?_)
    · obtain ⟨sm, ds, eD, hT⟩ := h
      obtain ⟨p1, u, rfl, _, hu, hs⟩ := tups_get (h3'.same sm) hx
      have hul := hdL u (List.mem_of_getElem? hu)
      have hdl : ds.length ≤ 24 := by
        have e1 : ds.length = _ := hT.length
        rw [e1, List.length_map, List.length_take]
        omega
      refine ⟨rfl, _, rfl, _, rfl, p1, p, u, t, rfl, hs, same_sqt sm hp', hul.symm, by omega, fun H3 z s3 hz => ?_⟩
      have eD3 := s3 _ _ eD
      refine ⟨_, eD3, by rw [List.length_map]; exact sizeK (by omega), same_updL (sm.trans s3) hD, ds ++ [z], by rw [upd_same, List.map_append]; rfl, ?_⟩
      rw [take_more hu]
      show Tups K _ _ (List.map _ (L.take i ++ [u]))
      rw [List.map_append]
      exact ((hT.same s3).updL eD3).app (.cons (sqt_updL eD3 hz) .nil)
    · obtain ⟨sm, ds, eD, hT⟩ := h
      rw [List.length_map, hlen, List.take_length] at hT
      have hq : Few t.length (M8.qN L t) := ⟨hd1, M8.len_q hdL rfl, fun v hv e he => by
        obtain ⟨u, hu, rfl⟩ := List.mem_map.mp hv
        obtain ⟨x, hx, y, hy, rfl⟩ : ∃ x ∈ u, ∃ y ∈ t, e = x - y := by
          have he' : e ∈ List.zipWith (· - ·) u t := he
          rw [← List.map_uncurry_zip_eq_zipWith] at he'
          obtain ⟨⟨x, y⟩, hxy, rfl⟩ := List.mem_map.mp he'
          exact ⟨x, (List.of_mem_zip hxy).1, y, (List.of_mem_zip hxy).2, rfl⟩
        have := hL60 u hu x hx
        omega, by rw [List.length_map]; omega, Nat.le_trans (M7.least_short _) (by rw [List.length_map]; exact h24)⟩
      refine ⟨_, rfl, a, O.C, dx, _, _, rfl, sm _ _ h1', O.cl, O.nL, rfl, _, rfl, D, ds, _, t.length, rfl, .inl (SqL.of eD), hT, hq, fun H3 z2 rs3 s3 hz2 hT3 => ?_⟩
      exact ⟨t.length, z2, rs3, _, rfl, hd1, hd8, hz2, hT3, fun H4 c s4 hc hl => q H4 c (s1.trans (sm.trans (s3.trans s4))) hl⟩
end
end K08

namespace K08
open PySem PySem.Spec PyProof.Rows L2 RZ L5 R7 XX
section
variable {P : Program} {w : World} {K : PySem.W.Frag} {mg : Str → Option Value} {base : Heap}
/-! ### power -/
/-- a lot of these, or too many -/
def TellL (K : PySem.W.Frag) (C CM : Addr) (d : Nat) (M : List (List Nat)) (H : Hp) (Q : VK) (E : XK) : Prop :=
  (bigB M = true → TellM CM E H 60) ∧ (bigB M = false → 24 < (M7.leastN M).length → TellM CM E H 24) ∧ (bigB M = false → (M7.leastN M).length ≤ 24 → ∀ H' c, Same H H' → LotAt K C H' c d (M7.leastN M) → Q (.ref c) H')
theorem zi_zN (t u : List Nat) : (zi addZ t u) = R7.zN (M8.addN t u) := by
  show _ = List.map _ _
  rw [List.map_zipWith]
  rfl
def sp_pow (K : PySem.W.Frag) (C CM : Addr) : Sp := fun vs H Q E => ∃ (a : Addr) (d : Nat) (L : List (List Nat)) (k : Nat), vs = [.ref a, .int ((k : Nat) : Int)] ∧ LotAt K C H a d L ∧ 1 ≤ d ∧ d ≤ 8 ∧ (∀ u ∈ L, u.length = d) ∧ (∀ u ∈ L, ∀ e ∈ u, e ≤ 60) ∧ L.length ≤ 4 ∧ k ≤ 4 ∧ TellL K C CM d (M8.pwN d L k) H Q E
theorem ok_pow (T : Txt K mg) (O : LotT K mg) (B : LotB K O.C) : FnOk P w K mg base (L2.CX P w) 8 B.fP B.dP ["self", "many"] (sp_pow K O.C T.C_TooMany) := by
  refine B.FP.okX sc_pow (fun vs H Q E h => ?_) (fun cdv A outer s H vs Q E hr h => ?_)
  · obtain ⟨a, d, L, k, rfl, _⟩ := h
    rfl
  · obtain ⟨a, d, L, k, rfl, hA, hd1, hd8, hdL, hL60, h4, hk4, qb, qm, q⟩ := h
    refine ⟨_, pss_cons (ps_expr (pe_call (E := E0) (ok_checkw T) (hr.mono (by decide)) (by rfl) T.m_check_within T.F_check_within.kp T.b_check_within .nil pass0 (pa_cons (pv 1) (pa_cons pe_int (pa_cons (pe_glob (v := .int 4) rfl T.c_MAX_POWER ⟨_, rfl⟩) pa_nil)))))
      (pss_cons (ps_set (i := 2) sc_pow.nd rfl (Or.inl rfl) (pe_lst (pa_cons (pe_call (E := E0) (ok_nothing T) (hr.mono (by decide)) (by rfl) T.m_nothing T.F_nothing.kp T.b_nothing .nil pass0 (pa_cons (pe_fld (pv 0) rfl) pa_nil)) pa_nil)))
      (pss_cons ((ps_for (passes_of rfl) rfl (pi_range1 rfl T.z_range (pa_cons (pv 1) pa_nil)) (pg_name (i := 3) sc_pow.nd rfl (Or.inl rfl))
        (pss_one (ps_set (i := 2) sc_pow.nd rfl (Or.inl rfl) (pe_callB (cr_sortedT rfl) (by rfl) T.z_sorted (by decide +kernel) (pa_cons
          (W8.pe_sc2 (own := [("one", 4), ("member", 5)]) (vs1 := [5]) (g := gName 4) (g1 := gName 5) (tt := tYes) (tt1 := tYes) rfl hr.units sc_pow.nd (pi_list (pv 2))
            (blkOk_by (own := [("one", 4), ("member", 5)]) (N := N_pow) (sc := defScope s_pow) (by decide +kernel)) (by decide)
            (fun _ _ _ _ _ => pg_name (i := 4) sc_pow.nd rfl (Or.inl rfl)) (fun _ _ _ _ _ => pts_nil)
            (fun _ _ _ _ _ => show PI _ _ _ (iTup K (tFld K (tVar 0) "_members")) from pi_tup (pe_fld (pv 0) rfl))
            (fun _ _ _ _ _ => pg_name (i := 5) sc_pow.nd rfl (Or.inl rfl)) (fun _ _ _ _ _ => pts_nil)
            (fun _ _ _ _ _ => pe_call (E := E0) (ok_added T) (hr.mono (by decide)) (by rfl) T.m_added T.F_added.kp T.b_added .nil pass0 (pa_cons (pv 4) (pa_cons (pv 5) pa_nil)))) pa_nil))))))
      (pss_one (ps_ret (pe_call (E := E0) (ok_made T O) hr (by rfl) T.m_made_lot T.F_made_lot.kp T.b_made_lot .nil pass0 (pa_cons (pe_fld (pv 0) rfl)
        (pa_cons (pe_call (ok_limX T) (hr.mono (by decide)) (by rfl) T.m_limited_members T.F_limited_members.kp T.b_limited_members .nil (passes_call (takes_of rfl rfl rfl rfl) fun _ _ _ _ z => z) (pa_cons (pv 2) pa_nil)) pa_nil))))))), ?_⟩
    obtain ⟨dx, m, rs, h1, h2, h3⟩ := hA
    have hlen : rs.length = L.length := h3.length
    refine ⟨_, rfl, _, _, _, rfl, by omega, by omega, ?_⟩
    refine ⟨_, rfl, a, O.C, dx, _, _, rfl, h1, O.cl, O.nL, rfl, d, rfl, hd8, fun H1 z0 s1 hz0 => ⟨by show 1 ≤ sizeLine; decide, fun z hz => ?_⟩⟩
    have sz := same_new hz (.lst [V.ref z0])
    have S1 := s1.trans sz
    refine ⟨_, rfl, _, rfl, by omega, by omega, ?_⟩
    refine for_range (lo := 0) (n := ((k : Nat) : Int).toNat) (fun i σ H' => ∃ (v3 : Option V) (f : Addr) (ds : List Addr), σ = [some (.ref a), some (.int ((k : Nat) : Int)), some (.ref f), v3, none, none] ∧ Same H H' ∧ H' f = some (.lst (ds.map V.ref)) ∧ Tups K H' ds (M8.pwN d L i))
      ⟨none, z, [z0], rfl, S1, upd_same, .cons (same_sqt sz hz0) .nil⟩ (fun i σ H' hi h => ?_) (fun σ H' h => ?_)
    · obtain ⟨v3, f, ds, rfl, sm, hf, hT⟩ := h
      have hik : i < k := by omega
      have hdl : ds.length = (M8.pwN d L i).length := hT.length
      have hLp := M8.len_pw (d := d) hdL i
      have low := M8.low_pw (d := d) hL60 i
      have fits : (M8.pwN d L (i + 1)).length ≤ 35 := M8.pw_short hdL h4 (by omega)
      refine ⟨_, rfl, f, rfl, ⟨_, SqL.of hf⟩, fun D hD => ?_⟩
      have sD := same_new hD (SetTO P w D [])
      have hDf : D ≠ f := fun e => by rw [e, hf] at hD; cases hD
      have inAll : ∀ (M : List (List Nat)), (∀ t ∈ M, t ∈ M7.eachF (· + ·) (M8.pwN d L i) L) → ∀ t ∈ M, t ∈ M8.pwN d L (i + 1) := fun M h t ht => M7.mem_canon.mpr (h t ht)
      refine R8.out2S_list (K := K) (P := P) (w := w) (a := f) (xs := ds.map V.ref) (fun j H2 => Same H' H2 ∧ ∃ Ls, H2 D = some (SetTO P w D Ls) ∧ R8.HasS K H2 Ls (M7.eachF (· + ·) ((M8.pwN d L i).take j) L)) ⟨sD, [], upd_same, .nil⟩ (fun j H2 h => SqL.of (h.1 _ _ hf)) ?_ ?_
      · rintro j x H2 hx ⟨s2, Ls, eD, hS⟩
        obtain ⟨p1, t, rfl, _, ht, hs⟩ := tups_get (hT.same s2) hx
        have htl := hLp t (List.mem_of_getElem? ht)
        have S2 := sm.trans s2
        refine ⟨rfl, _, rfl, a, O.C, dx, _, _, rfl, S2 _ _ h1, O.cl, O.nM, rfl, m, rfl, ⟨_, same_sqt S2 h2⟩, ?_⟩
        refine R8.in2S_tup (K := K) (P := P) (w := w) (b := m) (ys := rs.map V.ref) (fun n H3 => Same H' H3 ∧ ∃ Ls, H3 D = some (SetTO P w D Ls) ∧ R8.HasS K H3 Ls (M7.eachF (· + ·) ((M8.pwN d L i).take j) L ++ (L.take n).map fun u => M8.addN t u))
          ⟨s2, Ls, eD, by rw [List.take_zero, List.map_nil, List.append_nil]; exact hS⟩ (fun n H3 h => same_sqt (sm.trans h.1) h2) ?_ ?_
        · rintro n y H3 hy ⟨s3, Ls3, eD3, hS3⟩
          obtain ⟨p2, u, rfl, _, hu, hsu⟩ := tups_get (h3.same (sm.trans s3)) hy
          have hul := hdL u (List.mem_of_getElem? hu)
          have hs3 : SqT K H3 p1 (nv t) := by
            obtain ⟨p1', t', e1, _, e2, e3⟩ := tups_get (hT.same s3) hx
            cases e1
            rw [ht] at e2
            cases e2
            exact e3
          refine ⟨rfl, _, rfl, _, rfl, p1, p2, t, u, rfl, hs3, hsu, by rw [hul, htl], by omega, fun H4 y4 s4 hy4 => ?_⟩
          rw [zi_zN] at hy4
          have eD4 := s4 _ _ eD3
          have hS4 := hS3.same s4
          have few : Ls3.length ≤ 35 := Nat.le_trans (hS4.len (inAll _ fun v hv => by
            rcases List.mem_append.mp hv with hv | hv
            · obtain ⟨q1, hq1, hv⟩ := List.mem_flatMap.mp hv
              exact List.mem_flatMap.mpr ⟨q1, List.mem_of_mem_take hq1, hv⟩
            · obtain ⟨q1, hq1, rfl⟩ := List.mem_map.mp hv
              exact List.mem_flatMap.mpr ⟨t, List.mem_of_getElem? ht, List.mem_map_of_mem (List.mem_of_mem_take hq1)⟩)) fits
          refine ⟨y4, _, Ls3, rfl, hy4, hS4.each, eD4, by omega, fun L' c1 c2 => ?_⟩
          have keepE : ∀ (o : HO) (b : Addr), H4 b = some o → (∀ φ, o ≠ .ext φ) → (upd H4 D (SetTO P w D L')) b = some o := fun o b hb hne => by
            rw [upd_ne fun e => by rw [e, eD4] at hb; exact hne _ (Option.some.inj hb).symm]
            exact hb
          have keepT : ∀ (p : Addr) (xs : List V), SqT K H4 p xs → SqT K (upd H4 D (SetTO P w D L')) p xs := fun p xs h => by
            rcases h with (h | ⟨o, h⟩) | h
            · exact .inl (.inl (keepE _ _ h fun _ z => nomatch z))
            · exact .inl (.inr ⟨o, keepE _ _ h fun _ z => nomatch z⟩)
            · exact .inr h
          refine ⟨same_updL (s3.trans s4) hD, L', upd_same, ?_⟩
          rw [take_more hu, List.map_append, ← List.append_assoc]
          exact hS4.add keepT hy4 c1 c2
        · rintro H3 ⟨s3, Ls3, eD3, hS3⟩
          rw [List.length_map, hlen, List.take_length] at hS3
          refine ⟨s3, Ls3, eD3, ?_⟩
          rw [take_more ht]
          show R8.HasS K H3 Ls3 ((List.take j (M8.pwN d L i) ++ [t]).flatMap _)
          rw [List.flatMap_append, List.flatMap_cons, List.flatMap_nil, List.append_nil]
          exact hS3
      · rintro H2 ⟨s2, Ls, eD, hS⟩
        rw [List.length_map, hdl, List.take_length] at hS
        unfold tNil
        dsimp only
        refine R8.sorted_has (B := i * 60 + 60 + 1) eD hS hd1 (M7.len_each hLp hdL) (fun t ht e he => Nat.lt_succ_of_le (M7.low_each M7.op_add low hL60 t ht e he)) fun H3 f3 rs3 s3 _ hf3 hT3 => ?_
        exact ⟨_, f3, rs3, rfl, sm.trans (s2.trans s3), hf3, hT3⟩
    · obtain ⟨v3, f, ds, rfl, sm, hf, hT⟩ := h
      rw [show ((k : Nat) : Int).toNat = k by omega] at hT
      have hLp := M8.len_pw (d := d) hdL k
      have sh := M8.pw_short hdL h4 hk4
      refine ⟨_, rfl, a, O.C, dx, _, _, rfl, sm _ _ h1, O.cl, O.nL, rfl, _, rfl, f, ds, _, d, k * 60 + 1, rfl, .inl (SqL.of hf), hT, hd1, hLp, by omega, fun t ht e he => Nat.lt_succ_of_le (M8.low_pw hL60 k t ht e he), fun h => (qb h).after sm, fun h h' => (qm h h').after sm, fun hb hs H2 z2 rs2 s2 hz2 hT2 => ?_⟩
      exact ⟨d, z2, rs2, _, rfl, hd1, hd8, hz2, hT2, fun H3 c s3 hc hl => q hb hs H3 c (sm.trans (s2.trans s3)) hl⟩
end
end K08

namespace K08
open PySem PySem.Spec PyProof.Rows L2 RZ L5 R7 XX
section
variable {P : Program} {w : World} {K : PySem.W.Frag} {mg : Str → Option Value} {base : Heap}
/-! ### one * other, with its errors -/
def sp_mulX (K : PySem.W.Frag) (C CM : Addr) : Sp := fun vs H Q E => ∃ a b d L M, vs = [.ref a, .ref b] ∧ LotAt K C H a d L ∧ LotAt K C H b d M ∧ 1 ≤ d ∧ d ≤ 8 ∧ (∀ t ∈ L, t.length = d) ∧ (∀ t ∈ M, t.length = d) ∧ (∀ t ∈ eachN (· + ·) L M, ∀ e ∈ t, e < 200) ∧ L.length * M.length < 64 ∧ TellL K C CM d (eachN (· + ·) L M) H Q E
theorem ok_mulX (T : Txt K mg) (O : LotT K mg) (R : LotP K O.C) (W : LotO K mg O.C) (Y : LotM K O.C) : FnOk P w K mg base (L2.CX P w) 8 Y.fM Y.dM ["self", "other"] (sp_mulX K O.C T.C_TooMany) := by
  refine Y.FM.okX sc_mul (fun vs H Q E h => ?_) (fun cdv A outer s H vs Q E hr h => ?_)
  · obtain ⟨a, b, d, L, M, rfl, _⟩ := h
    rfl
  · obtain ⟨a, b, d, L, M, rfl, hA, hB, hd1, hd8, hdL, hdM, low, hall, qb, qm, q⟩ := h
    refine ⟨_, pss_cons (ps_if (pt_not (pt_val (pe_callB call_isi (by rfl) T.z_isinstance boot_isinstance (pa_cons (pv 1) (pa_cons (pe_glob (v := .ref O.C) rfl O.gC rfl) pa_nil))))) (pss_one ps_never) pss_nil)
      (pss_cons (ps_expr (pe_call (E := E0) (ok_chl T O R) (hr.mono (by decide)) (by rfl) T.m_check_letters T.F_check_letters.kp T.b_check_letters .nil pass0 (pa_cons (pv 0) (pa_cons (pv 1) pa_nil))))
      (pss_cons (ps_setLc2 (i := 2) (own := [("one", 3), ("two", 4)]) (vs1 := [4]) (g := gName 3) (g1 := gName 4) (tt := tYes) (tt1 := tYes) rfl sc_mul.nd rfl rfl (sw_true rfl rfl rfl (by decide +kernel)) (pi_tup (pe_fld (pv 0) rfl))
          (blkOk_by (own := [("one", 3), ("two", 4)]) (N := N_mul) (sc := defScope s_mul) (by decide +kernel)) (by decide)
          (fun _ _ _ _ _ => pg_name (i := 3) sc_mul.nd rfl (Or.inl rfl)) (fun _ _ _ _ _ => pts_nil)
          (fun _ _ _ _ _ => show PI _ _ _ (iTup K (tProp O.C (sp_mem K O.C) [] E0 (tVar 1))) from pi_tup (pe_prop (E := E0) (pv 1) O.cl R.PM (ok_mem O R) (hr.mono (show 1 + 1 ≤ 7 by decide)) R.bM .nil pass0 rfl))
          (fun _ _ _ _ _ => pg_name (i := 4) sc_mul.nd rfl (Or.inl rfl)) (fun _ _ _ _ _ => pts_nil)
          (fun _ _ _ _ _ => pe_call (E := E0) (ok_added T) (hr.mono (by decide)) (by rfl) T.m_added T.F_added.kp T.b_added .nil pass0 (pa_cons (pv 3) (pa_cons (pv 4) pa_nil))))
      (pss_one (ps_ret (pe_call (E := E0) (ok_made T O) hr (by rfl) T.m_made_lot T.F_made_lot.kp T.b_made_lot .nil pass0 (pa_cons (pe_fld (pv 0) rfl)
        (pa_cons (pe_call (ok_limX T) (hr.mono (by decide)) (by rfl) T.m_limited_members T.F_limited_members.kp T.b_limited_members .nil (passes_call (takes_of rfl rfl rfl rfl) fun _ _ _ _ z => z) (pa_cons (pv 2) pa_nil)) pa_nil))))))), ?_⟩
    have ia := hA
    have ib := hB
    obtain ⟨dx, m, rs, h1, h2, h3⟩ := ia
    obtain ⟨dy, m2, rs2, k1, k2, k3⟩ := ib
    refine ⟨_, rfl, _, _, _, _, true, rfl, .own _, W.ty H b dy _ k1, W.kit, true, rfl, iteF ?_⟩
    refine ⟨_, rfl, _, rfl, a, b, d, L, M, rfl, hA, hB, ?_⟩
    refine ⟨_, rfl, a, O.C, dx, _, _, rfl, h1, O.cl, O.nM, rfl, m, rfl, ⟨_, h2⟩, fun D hD => ?_⟩
    have hlen : rs.length = L.length := h3.length
    refine out2_tup (K := K) (a := m) (xs := rs.map V.ref) (fun i H' => Same H H' ∧ ∃ ds : List Addr, H' D = some (.lst (ds.map V.ref)) ∧ Tups K H' ds (eachN (· + ·) (L.take i) M)) ⟨same_new hD _, [], upd_same, .nil⟩ (fun i H' h => same_sqt h.1 h2) ?_ ?_
    · rintro i x H' hx ⟨sm, ds, eD, hT⟩
      obtain ⟨p1, t, rfl, _, ht, hs⟩ := tups_get (h3.same sm) hx
      have htl := hdL t (List.mem_of_getElem? ht)
      have hi : i < L.length := (List.getElem?_eq_some_iff.mp ht).1
      refine ⟨rfl, _, rfl, b, dy, _, rfl, sm _ _ k1, b, d, M, rfl, hB.same sm, fun m' rs' km kt => ⟨m', rfl, ⟨_, km⟩, ?_⟩⟩
      have hlm : rs'.length = M.length := kt.length
      refine in2_tup (K := K) (b := m') (ys := rs'.map V.ref) (fun j H2 => Same H H2 ∧ SqT K H2 m' (rs'.map V.ref) ∧ Tups K H2 rs' M ∧ SqT K H2 p1 (nv t) ∧ ∃ ds : List Addr, H2 D = some (.lst (ds.map V.ref)) ∧ Tups K H2 ds (eachN (· + ·) (L.take i) M ++ (M.take j).map fun u => List.zipWith (· + ·) t u))
        ⟨sm, km, kt, hs, ds, eD, by rw [List.take_zero, List.map_nil, List.append_nil]; exact hT⟩ (fun j H2 h => h.2.1) ?_ ?_
      · rintro j y H2 hy ⟨sm2, km2, kt2, hs2, ds2, eD2, hT2⟩
        obtain ⟨p2, u, rfl, _, hu, hsu⟩ := tups_get kt2 hy
        have hul := hdM u (List.mem_of_getElem? hu)
        have hj : j < M.length := (List.getElem?_eq_some_iff.mp hu).1
        refine ⟨rfl, _, rfl, _, rfl, p1, p2, t, u, rfl, hs2, hsu, by rw [hul, htl], by omega, fun H3 z s3 hz => ?_⟩
        rw [zi_add] at hz
        have eD3 := s3 _ _ eD2
        have hds : ds2.length = i * M.length + j := by
          have e1 : ds2.length = _ := hT2.length
          rw [e1, List.length_append, each_len, List.length_map, List.length_take, List.length_take, Nat.min_eq_left (Nat.le_of_lt hi), Nat.min_eq_left (Nat.le_of_lt hj)]
        have hbound : i * M.length + j < 64 := by
          have := Nat.mul_le_mul_right M.length (show i + 1 ≤ L.length from hi)
          rw [Nat.succ_mul] at this
          omega
        refine ⟨_, eD3, by rw [List.length_map]; exact sizeK (by omega), same_updL (sm2.trans s3) hD, sqt_updL eD3 (same_sqt s3 km2), (kt2.same s3).updL eD3, sqt_updL eD3 (same_sqt s3 hs2), ds2 ++ [z], ?_, ?_⟩
        · rw [upd_same, List.map_append]
          rfl
        · rw [take_more hu, List.map_append, ← List.append_assoc]
          exact ((hT2.same s3).updL eD3).app (.cons (sqt_updL eD3 hz) .nil)
      · rintro H2 ⟨sm2, _, _, _, ds2, eD2, hT2⟩
        refine ⟨sm2, ds2, eD2, ?_⟩
        rw [List.length_map, hlm, List.take_length] at hT2
        rw [take_more ht]
        show Tups K H2 ds2 ((L.take i ++ [t]).flatMap _)
        rw [List.flatMap_append, List.flatMap_cons, List.flatMap_nil, List.append_nil]
        exact hT2
    · rintro H2 ⟨sm2, ds2, eD2, hT2⟩
      rw [List.length_map, hlen, List.take_length] at hT2
      refine ⟨_, rfl, a, O.C, dx, _, _, rfl, sm2 _ _ h1, O.cl, O.nL, rfl, _, rfl, D, ds2, _, d, 200, rfl, .inl (SqL.of eD2), hT2, hd1, M7.len_each hdL hdM, by rw [each_len]; omega, fun t ht e he => low t ht e he, fun h => (qb h).after sm2, fun h h' => (qm h h').after sm2, fun hb hs H3 z2 rs3 s3 hz2 hT3 => ?_⟩
      exact ⟨d, z2, rs3, _, rfl, hd1, hd8, hz2, hT3, fun H4 c s4 hc hl => q hb hs H4 c (sm2.trans (s3.trans s4)) hl⟩
end
end K08

/-! in, not in, len, str, != of objects of one own class -/
namespace W7
open PySem PySem.W PySem.Calls PyProof.Rows Builtin
section
variable {M : Model} {prog : Program} {w : World} {A : Around} {E : Value → Shared → Prop} {s : Shared} {K : Frag} {x y C f : Addr} {ox oy : Obj} {od oe : Option Obj} {v : Value}
theorem contains_in {Q : Bool → Shared → Prop} (X : K.In s.heap) (I : InstAt s.heap x ox C od) (hs : findIn K (.ref C) "__contains__" = some (some (.ref f))) (hf : isFn K (.ref f) = true)
    (h : wpAny M A (call (.ref f) [.ref x, v]) (PySem.W.BoolBack Q) E s) : wpAny M A (contains (.ref x) v) Q E s := by
  unfold contains
  refine wpAny_holding (wpAny_bind (wpAny_bind (I.type.here ((looks_findIn X hs).here ?_))))
  rw [if_neg (by simp)]
  refine wpAny_bind (unlessNone_K X I hs hf (wpAny_mono h (fun r s' z => ?_) fun _ _ e => e))
  cases r <;> first | exact z.elim | exact wpAny_truthy_bool z
theorem len_in {Q : Value → Shared → Prop} (X : K.In s.heap) (I : InstAt s.heap x ox C od) (hs : findIn K (.ref C) "__len__" = some (some (.ref f))) (hf : isFn K (.ref f) = true)
    (h : wpAny (model prog w) A.in1 (call (.ref f) [.ref x]) (PySem.W.LenBack Q) E s) : wpAny (model prog w) A (call (.builtin "len") [.ref x]) Q E s := by
  refine Calls.call_function_entry kind_len plain_len entry_len (args_len1 _) ?_
  unfold Builtin.«len»
  refine wpAny_bind (m := oneArg "len" _) (wpAny_pure ?_)
  refine wpAny_bind (m := callSpecial? (.ref x) (Str.ofString "__len__")) (special_fn X I hs (beq_iff_eq.mp hf) (wpAny_mono h (fun r s' hr => ?_) fun _ _ y => y))
  cases r <;> first | exact hr.elim | skip
  rename_i n u
  obtain ⟨⟨h0, h1⟩, hq⟩ := hr
  refine wpAny_bind (wpAny_holding (wpAny_pure ?_))
  refine wpAny_bind (wpAny_letGo ?_)
  show wpAny _ _ (if n < 0 then _ else _) _ _ _
  rw [if_neg (by omega)]
  show wpAny _ _ (if n ≥ 2 ^ 63 then _ else _) _ _ _
  rw [if_neg (by omega)]
  exact wpAny_bind (wpAny_mkInt (wpAny_pure ⟨_, rfl, hq⟩))
theorem ifBound_B {name : Str} {id : String} {args : List Value} {Q : Option Value → Shared → Prop} (X : K.In s.heap) (I : InstAt s.heap x ox C od) (hs : findIn K (.ref C) name = some (some (.builtin id)))
    (hb : ∀ self, bindSpecial (.builtin id) self = pure (.builtin id, [self])) (h : wpAny M A (call (.builtin id) (.ref x :: args)) (fun v => Q (some v)) E s) : wpAny M A (callSpecialIfBound? (.ref x) name args) Q E s := by
  simp only [callSpecialIfBound?, bindSpecialIfBound?]
  refine wpAny_holding (wpAny_bind (wpAny_bind (wpAny_bind (I.type.here ((looks_findIn X hs).here ?_)))))
  refine wpAny_bind (wpAny_askSetting (wpAny_ite ?_))
  have fin : wpAny M A (call (.builtin id) ([.ref x] ++ args) >>= fun v => pure (some v)) Q E s := wpAny_bind (wpAny_mono h (fun v s' h' => wpAny_pure h') fun _ _ h' => h')
  split
  · exact wpAny_bind ((Looks.of_pure (hb _)).here (wpAny_pure (by exact fin)))
  · exact wpAny_tryCatch (wpAny_bind ((Looks.of_pure (hb _)).here (wpAny_pure (by exact fin))))
theorem object_ne_own {Q : Value → Shared → Prop} (hu : A.in1.units < cLine) (X : K.In s.heap) (I : InstAt s.heap x ox C od) (hm : mroIn K C (.type "object") = some true) (hr : findIn K (.ref C) "__eq__" = some (some (.ref f))) (hf : isFn K (.ref f) = true)
    (h : wpAny (model prog w) A.in1 (call (.ref f) [.ref x, .ref y]) (PySem.W.BoolBack fun b => Q (.bool (!b))) E s) : wpAny (model prog w) A (call (.builtin "object.__ne__") [.ref x, .ref y]) Q E s := by
  refine wpAny_call (codeAny_call_builtin PySem.F.slot_object_ne.plain PySem.F.entry_object_ne (check_slot (i := "object.__ne__") (owner := "object") (n := "__ne__") (by decide +kernel) (by decide +kernel) (I.type.andThen (looks_mroIn X hm)) (PySem.F.args_object_ne_2 _ _) ?_))
  unfold Builtin.«object.__ne__»
  refine wpAny_bind (m := slotArgs "__ne__" 1 _) (wpAny_pure ?_)
  refine wpAny_bind (m := cRoomFor _ _) (wpAny_cRoomFor hu ?_)
  refine wpAny_bind (m := callSpecialIfBound? (.ref x) (Str.ofString "__eq__") _) (ifBound_K X I hr hf (wpAny_mono h (fun r s' hq => ?_) fun _ _ y => y))
  cases r <;> first | exact hq.elim | skip
  rename_i b
  exact wpAny_bind (wpAny_truthy_bool (wpAny_pure hq))
theorem ne_same {Q : Value → Shared → Prop} (room : A.units < cLine) (room1 : A.in1.units < cLine) (kin : K.In s.heap) (I : InstAt s.heap x ox C od) (J : InstAt s.heap y oy C oe) (hm : mroIn K C (.type "object") = some true)
    (hn : findIn K (.ref C) (cmpInfo .NotEq).2.1 = some (some (.builtin "object.__ne__"))) (at_ : findIn K (.ref C) "__eq__" = some (some (.ref f))) (fn : isFn K (.ref f) = true)
    (h : wpAny (model prog w) A.in1 (call (.ref f) [.ref x, .ref y]) (PySem.W.BoolBack fun b => Q (.bool (!b))) E s) : wpAny (model prog w) A (richCompare .NotEq (.ref x) (.ref y)) Q E s := by
  have tried : wpAny (model prog w) A (tryCompare (.ref x) (cmpInfo .NotEq).2.1 (.ref y)) (fun r s' => ∃ v, r = some v ∧ Q v s') E s := by
    unfold tryCompare
    refine wpAny_bind (ifBound_B kin I hn PySem.F.slot_object_ne.bind (object_ne_own room1 kin I hm at_ fn (wpAny_mono h (fun r s' z => ?_) fun _ _ e => e)))
    cases r <;> first | exact z.elim | skip
    exact wpAny_pure ⟨_, rfl, z⟩
  unfold richCompare
  simp only [oneThing_ref]
  refine wpAny_holding (wpAny_bind (wpAny_cRoomFor room (wpAny_bind (I.type.here (wpAny_bind (J.type.here ?_))))))
  have same : (Value.ref C != Value.ref C) = false := by simp
  simp only [same, Bool.false_eq_true, if_false]
  refine wpAny_bind (wpAny_pure ?_)
  simp only [Bool.false_eq_true, if_false]
  refine wpAny_bind (wpAny_mono tried (fun r s' got => ?_) fun _ _ e => e)
  obtain ⟨v, rfl, q⟩ := got
  exact wpAny_pure q
end
end W7
namespace W7
open PySem PySem.Spec PyProof.Rows L2
section
variable {X : Cx} {CX : CXT} {C f : Addr} {fd : FuncData} {ps : List Str} {sp : Sp} {k : Nat}
/-- v in o, o of the own class at C -/
def rInOwn (C : Addr) (sp : Sp) (g : Bool → Bool) : R2 := fun x y H Q => ∃ (a dx : Addr) (fs : List (Str × V)), y = .ref a ∧ H a = some (.ins C dx fs) ∧ sp [.ref a, x] H (fun v H' => ∃ b, v = .bl b ∧ Q (.bl (g b)) H') E0
theorem run_in {pins : List (Addr × Obj)} {s : Shared} {σ : L2.St} {H : Hp} {x : V} {v : Value} {Q : Bool → Shared → Prop} {R : Bool → Hp → Prop} {a dx : Addr} {fs : List (Str × V)} (at_ : PySem.W.findIn X.K (.ref C) "__contains__" = some (some (.ref f))) (fn : PySem.W.isFn X.K (.ref f) = true) (F : FnOk X.prog X.w X.K X.mg X.base CX k f fd ps sp) (hr : Room k X.A) (hb : Binds X.K fd ps []) (hx : Passes CX X E0)
    (I : Inv X pins σ H s) (rx : RelV x v) (ha : H a = some (.ins C dx fs)) (q : sp [.ref a, x] H (fun v H' => ∃ b, v = .bl b ∧ R b H') E0) (hQ : ∀ b H' s', Inv X pins σ H' s' → R b H' → Q b s') : wpAny (model X.prog X.w) X.A (contains (.ref a) v) Q X.xe s := by
  obtain ⟨_, Oa, _⟩ := ins_get I.hok ha
  obtain ⟨_, Ja, _⟩ := Oa.look
  refine contains_in I.kIn Ja at_ fn (wpAny_mono (run_fn (dvs := []) (ds := []) (vs := [.ref a, x]) (us := [.ref a, v]) F hr hb .nil hx I (.cons rfl (.cons rx .nil)) q) (fun r s' z => ?_) fun _ _ z => z)
  obtain ⟨u, H', I', ru, b, rfl, hR⟩ := z
  cases (show r = Value.bool b from ru)
  exact hQ b H' s' I' hR
theorem op_inOwn (at_ : PySem.W.findIn X.K (.ref C) "__contains__" = some (some (.ref f))) (fn : PySem.W.isFn X.K (.ref f) = true) (F : FnOk X.prog X.w X.K X.mg X.base CX k f fd ps sp) (hr : Room k X.A) (hb : Binds X.K fd ps []) (hx : Passes CX X E0) : OpR X (compareOp .In) (rInOwn C sp id) := by
  intro pins s σ H x y v u Q I rx ry h
  obtain ⟨a, dx, fs, rfl, ha, q⟩ := h
  obtain rfl : u = Value.ref a := ry
  exact wpAny_bind (run_in at_ fn F hr hb hx I rx ha q fun b H' s' I' hR => wpAny_pure ⟨.bl b, H', I', rfl, hR⟩)
theorem op_notinOwn (at_ : PySem.W.findIn X.K (.ref C) "__contains__" = some (some (.ref f))) (fn : PySem.W.isFn X.K (.ref f) = true) (F : FnOk X.prog X.w X.K X.mg X.base CX k f fd ps sp) (hr : Room k X.A) (hb : Binds X.K fd ps []) (hx : Passes CX X E0) : OpR X (compareOp .NotIn) (rInOwn C sp not) := by
  intro pins s σ H x y v u Q I rx ry h
  obtain ⟨a, dx, fs, rfl, ha, q⟩ := h
  obtain rfl : u = Value.ref a := ry
  exact wpAny_bind (run_in at_ fn F hr hb hx I rx ha q fun b H' s' I' hR => wpAny_pure ⟨.bl (!b), H', I', rfl, hR⟩)
/-- a run somewhere below the running body -/
theorem run_sub {pins : List (Addr × Obj)} {σ : L2.St} {H : Hp} {s : Shared} {Q : VK} {us : List Value} {vs : List V} {A1 : Around} {E : XK} (F : FnOk X.prog X.w X.K X.mg X.base CX k f fd ps sp) (sb : Sub X k A1) (hb : Binds X.K fd ps []) (hx : Passes CX X E)
    (I : Inv X pins σ H s) (r : Vals vs us) (h : sp vs H Q E) : wpAny (model X.prog X.w) A1 (call (.ref f) us) (EP X pins σ Q) X.xe s := by
  have e0 : Env0 X.prog X.w X.K X.mg X.base A1 X.stack s H := by
    have e := I.env0
    exact ⟨by rw [sb.fr]; exact e.frames, e.mod, e.bs, e.bsz, e.funs, e.frf, e.hok, e.bare⟩
  have hl := F.len _ _ _ _ h
  have hl2 : us.length = ps.length := by rw [← r.length]; exact hl
  refine wpAny_call (codeAny_mono (F.run A1 X.stack s H ⟨us, []⟩ us vs Q E sb.room e0 (by
    have := hb s us I.kIn (by rw [List.append_nil]; exact hl2)
    rw [List.append_nil] at this
    exact this) r h) fun r s' hq => ?_)
  cases r with
  | error e => exact hx pins σ H s e s' I hq
  | ok fl =>
    cases fl with
    | ret u => exact I.after hq
    | next => exact False.elim hq
    | brk => exact False.elim hq
    | cont => exact False.elim hq
def rLenOwn (C : Addr) (sp : Sp) : List V → Hp → VK → Prop := fun vs H Q => ∃ (a dx : Addr) (fs : List (Str × V)), vs = [.ref a] ∧ H a = some (.ins C dx fs) ∧ sp [.ref a] H (fun v H' => ∃ n : Nat, v = .int ((n : Nat) : Int) ∧ n < 1000000 ∧ Q (.int ((n : Nat) : Int)) H') E0
theorem call_lenOwn1 (at_ : PySem.W.findIn X.K (.ref C) "__len__" = some (some (.ref f))) (fn : PySem.W.isFn X.K (.ref f) = true) (F : FnOk X.prog X.w X.K X.mg X.base CX k f fd ps sp) (hr : Room (k + 1) X.A) (hb : Binds X.K fd ps []) (hx : Passes CX X E0) : CallR X (.builtin "len") (rLenOwn C sp) := by
  intro pins s σ H vs us Q I r h
  obtain ⟨a, dx, fs, rfl, ha, q⟩ := h
  cases r with
  | cons r0 rr =>
    cases rr
    cases r0
    obtain ⟨_, Oa, _⟩ := ins_get I.hok ha
    obtain ⟨_, Ja, _⟩ := Oa.look
    refine len_in I.kIn Ja at_ fn (wpAny_mono (run_sub (vs := [.ref a]) (us := [.ref a]) F ⟨hr.in1, rfl⟩ hb hx I (.cons rfl .nil) q) (fun r s' z => ?_) fun _ _ z => z)
    obtain ⟨v, H', I', rv, n, rfl, hn, hQ⟩ := z
    obtain ⟨t, rfl⟩ := rv
    exact ⟨⟨by omega, by omega⟩, .int _, H', I'.tok _, ⟨_, rfl⟩, hQ⟩
def rStrOwn (C : Addr) (sp : Sp) : List V → Hp → VK → Prop := fun vs H Q => ∃ (a dx : Addr) (fs : List (Str × V)), vs = [.ref a] ∧ H a = some (.ins C dx fs) ∧ sp [.ref a] H (fun v H' => ∃ x : Str, v = .str x ∧ Q (.str x) H') E0
theorem call_strOwn1 (at_ : PySem.W.findIn X.K (.ref C) "__str__" = some (some (.ref f))) (fn : PySem.W.isFn X.K (.ref f) = true) (F : FnOk X.prog X.w X.K X.mg X.base CX k f fd ps sp) (hr : Room (k + 2) X.A) (hb : Binds X.K fd ps []) (hx : Passes CX X E0) : CallR X (.type "str") (rStrOwn C sp) := by
  intro pins s σ H vs us Q I r h
  obtain ⟨a, dx, fs, rfl, ha, q⟩ := h
  cases r with
  | cons r0 rr =>
    cases rr
    cases r0
    obtain ⟨_, Oa, _⟩ := ins_get I.hok ha
    obtain ⟨_, Ja, _⟩ := Oa.look
    have sb : Sub X k X.A.in1.in1 := ⟨(hr.in1).in1, rfl⟩
    refine PySem.W.kso_call (Nat.lt_of_le_of_lt (Nat.le_add_right _ 64) sb.room.units) I.kIn Ja at_ fn (wpAny_mono (run_sub (vs := [.ref a]) (us := [.ref a]) F sb hb hx I (.cons rfl .nil) q) (fun r s' z => ?_) fun _ _ z => z)
    obtain ⟨v, H', I', rv, x, rfl, hQ⟩ := z
    obtain ⟨t, rfl⟩ := rv
    exact ⟨.str x, H', I', ⟨_, rfl⟩, hQ⟩
def rNeOwn (C : Addr) (sp : Sp) : R2 := fun x y H Q => ∃ (a b dx dy : Addr) (fs gs : List (Str × V)), x = .ref a ∧ y = .ref b ∧ H a = some (.ins C dx fs) ∧ H b = some (.ins C dy gs) ∧ sp [.ref a, .ref b] H (fun v H' => ∃ c, v = .bl c ∧ Q (.bl (!c)) H') E0
theorem op_neOwn (hm : PySem.W.mroIn X.K C (.type "object") = some true) (hn : PySem.W.findIn X.K (.ref C) "__ne__" = some (some (.builtin "object.__ne__"))) (at_ : PySem.W.findIn X.K (.ref C) "__eq__" = some (some (.ref f))) (fn : PySem.W.isFn X.K (.ref f) = true) (F : FnOk X.prog X.w X.K X.mg X.base CX k f fd ps sp) (hr : Room (k + 1) X.A) (hb : Binds X.K fd ps []) (hx : Passes CX X E0) : OpR X (compareOp .NotEq) (rNeOwn C sp) := by
  intro pins s σ H x y v u Q I rx ry h
  obtain ⟨a, b, dx, dy, fs, gs, rfl, rfl, ha, hb2, q⟩ := h
  obtain rfl : v = Value.ref a := rx
  obtain rfl : u = Value.ref b := ry
  obtain ⟨_, Oa, _⟩ := ins_get I.hok ha
  obtain ⟨_, Ja, _⟩ := Oa.look
  obtain ⟨_, Ob, _⟩ := ins_get I.hok hb2
  obtain ⟨_, Jb, _⟩ := Ob.look
  have sb : Sub X k X.A.in1 := ⟨hr.in1, rfl⟩
  refine ne_same (Nat.lt_of_le_of_lt (Nat.le_add_right _ _) hr.units) (Nat.lt_of_le_of_lt (Nat.le_add_right _ _) sb.room.units) I.kIn Ja Jb hm hn at_ fn (wpAny_mono (run_sub (vs := [.ref a, .ref b]) (us := [.ref a, .ref b]) F sb hb hx I (.cons rfl (.cons rfl .nil)) q) (fun r s' z => ?_) fun _ _ z => z)
  obtain ⟨v, H', I', rv, c, rfl, hQ⟩ := z
  cases (show r = Value.bool c from rv)
  exact ⟨.bl (!c), H', I', rfl, hQ⟩
end
end W7

/-! iteration over an object whose own __iter__ gives an iterator over a tuple -/
namespace W7
open PySem PySem.Spec PyProof.Rows L2 ItX
/-- at it a new iterator over the tuple at m -/
def ItTO (m it : Addr) : HO := .ext fun h => h.IsTupleIter it m 0
section
variable {X : Cx}
theorem itT_ok {P : Program} {w : World} {H : Hp} {h : Heap} {m it : Addr} (e : h.IsTupleIter it m 0) : ObjOk P w H h it (ItTO m it) := ⟨e, (by obtain ⟨o, ho, _⟩ := e; exact ⟨o, ho⟩), fun h1 h2 q k => q.at fun o z => k o z⟩
def rIterTN (K : PySem.W.Frag) (n : Nat) : List V → Hp → VK → Prop := fun xs H Q => ∃ (l : Addr) (zs : List V), xs = [.ref l] ∧ SqT K H l zs ∧ ∀ it, H it = Option.none → n ≤ it → Q (.ref it) (upd H it (ItTO l it))
open Builtin in
theorem call_iterTN : CallR X (.builtin "iter") (rIterTN X.K X.s_0.heap.objs.size) := by
  intro pins s σ H xs us Q I r h
  obtain ⟨l, zs, rfl, hq, q⟩ := h
  obtain ⟨u, rfl, ru⟩ := vals1 r
  cases ru
  obtain ⟨its, rv, pl, hz⟩ := I.tuple hq
  refine Calls.call_function_entry (by decide +kernel) (by decide +kernel) PySem.W.kdk_entry_iter (PySem.W.kdk_args_iter _) ?_
  unfold Builtin.«iter»
  refine wpAny_bind (m := someArgs "iter" 1 2 _) (wpAny_of_eq (a := [Value.ref l]) (by first | rfl | kernel_rfl!) ?_)
  show wpAny _ _ (pyIter (.ref l) >>= _) _ _ _
  refine wpAny_bind (wpAny_pyIter_tuple pl ?_)
  refine wpAny_pure ⟨_, rfl, ?_⟩
  exact ⟨.ref s.heap.objs.size, _, I.laid (t' := s.toks) (fun b u e => Heap.get?_push_of_some _ e) (Nat.le_refl _) (itT_ok ⟨_, Heap.get?_push_size _ rfl, rfl, rfl⟩), rfl, q _ (I.hok.fresh (Nat.le_refl _)) I.sz⟩
end
/-- a call of an own def in one state: what is promised may speak of the state -/
theorem fn_at {CX : CXT} {P : Program} {w : World} {K : PySem.W.Frag} {mg : Str → Option Value} {base : Heap} {k : Nat} {f : Addr} {name qual : Str} {params : Arguments} {body : List Stmt} {scope : Scope} {dV kV doc pm cdv ct oc : Value} {an od : Option Addr}
    {osl : Array (Option Value)} {N ps : List Str} (lk : K.lookup f = some ⟨oc, od, .func (PySem.W.fnOf name qual params body scope dV kV doc pm an cdv ct), osl⟩) (hcd : PySem.W.codeIn K cdv qual = true) (S : FnScope N ps scope)
    {A : Around} {outer : List Env} {s : Shared} {H : Hp} {args : Args} {us : List Value} {vs : List V} {Q : VK} {E : XK} (hr : Room (k + 1) A) (e0 : Env0 P w K mg base A outer s H) (hb : BindsTo s (PySem.W.fnOf name qual params body scope dV kV doc pm an cdv ct) args (ps.zip us)) (r : Vals vs us) (hl : vs.length = ps.length)
    (hbody : Room k (A.deeper (envOfC qual scope s.heap.objs.size f cdv)) → ∃ t, PSs (cxOf CX P w K mg base N qual scope f cdv A outer s H E) body t ∧ t { nx := fun _ H' => Q .non H', rt := Q } (start N vs) H) :
    codeAny (model P w) A (.call (.ref f) args) (CR CX outer P w H s Q E) s := by
  have KX : K.In s.heap := e0.mod.kin.keeps fun b o e => (e0.bs b o e).1
  have lim : s.heap.NoLimit := e0.mod.nolimit.keeps fun b o e => (e0.bs b o e).1
  have kinds : ∀ y ∈ ps.zip us, scope.names.lookup y.1 = some .local ∨ (scope.names.lookup y.1 = some .cell ∧ ((cellsFrom (s.heap.objs.size + 1) scope.names []).lookup y.1).isSome = true) := fun ⟨n, v⟩ hy => by
    rcases S.par n (List.of_mem_zip hy).1 with q | q
    · exact .inl q
    · exact .inr ⟨q, PySem.W.cellsFrom_some _ _ _ (.inl q)⟩
  obtain ⟨t, ht, hq⟩ := hbody (hr.deeper _)
  refine codeAny_call_function hr.depth (KX _ _ lk) rfl S.co S.gen rfl (PySem.W.codeRec_of KX hcd) (hb _ _ _ _ (wpAny_newFunctionEnv_cells S.kind kinds fun env he s1 x => ?_))
  subst he
  refine ⟨lim.keeps x.toInCall.keep, codeAny_func ?_⟩
  have I : Inv (cxOf CX P w K mg base N qual scope f cdv A outer s H E) [] (start N vs) H s1 := inv_start S hr.hd e0 hl r x
  refine wpAny_mono (ht.run [] s1 (start N vs) H _ I hq) (fun fl s' hs => ?_) fun e s' hs => hs
  cases fl with
  | ret u =>
    obtain ⟨v, σ', H', J, rv, q⟩ := hs
    exact ⟨v, H', J.os, J.bare, J.base, J.hok, rv, q⟩
  | next =>
    obtain ⟨σ', H', J, q⟩ := hs
    exact ⟨V.non, H', J.os, J.bare, J.base, J.hok, rfl, q⟩
  | brk =>
    obtain ⟨_, _, _, q⟩ := hs
    exact q.elim
  | cont =>
    obtain ⟨_, _, _, q⟩ := hs
    exact q.elim
/-- what the method __iter__ of the class at C does: m is where the tuple stands, R says which objects are meant -/
def ItM (X : Cx) (C f : Addr) (R : Addr → Addr → Hp → Prop) : Prop :=
  ∀ (pins : List (Addr × Obj)) (s : Shared) (σ : L2.St) (H : Hp) (a m : Addr), Inv X pins σ H s → R a m H → wpAny (model X.prog X.w) X.A (call (.ref f) [.ref a]) (fun v s' => ∃ it, v = .ref it ∧ Inv X pins σ (upd H it (ItTO m it)) s' ∧ H it = none ∧ X.s_0.heap.objs.size ≤ it) X.xe s
def iOwn (C : Addr) (R : Addr → Addr → Hp → Prop) (K : PySem.W.Frag) (te : TE) : TI := fun σ H Q => te σ H fun x H1 => ∃ (a m dx : Addr) (fs : List (Str × V)), x = .ref a ∧ H1 a = some (.ins C dx fs) ∧ R a m H1 ∧ Q (Itt K m) H1
theorem pi_own {X : Cx} {tg e : Expr} {te : TE} {C f : Addr} {R : Addr → Addr → Hp → Prop} (he : PE X e te) (at_ : PySem.W.findIn X.K (.ref C) "__iter__" = some (some (.ref f))) (fn : PySem.W.isFn X.K (.ref f) = true) (M : ItM X C f R) : PI X tg e (iOwn C R X.K te) := by
  refine ⟨fun pins s σ H Q I h => ?_⟩
  refine thn (he.run pins s σ H _ I h) fun u s1 ⟨x, H1, I1, rx, q1⟩ => ?_
  obtain ⟨a, m, dx, fs, rfl, ha, hR, q⟩ := q1
  obtain rfl : u = Value.ref a := rx
  obtain ⟨_, Oa, _⟩ := ins_get I1.hok ha
  obtain ⟨_, Ja, _⟩ := Oa.look
  obtain ⟨mm, hF⟩ := I1.fr
  refine PySem.W.owit_iter hF I1.ok.mod.kin Ja at_ fn (wpAny_mono (M pins s1 σ H1 a m I1 hR) (fun v s2 z => ?_) fun _ _ z => z)
  obtain ⟨it, rfl, I2, hit, hsz⟩ := z
  have hi := (I2.hok it _ upd_same).1
  obtain ⟨o, ho, hc, hd⟩ := id hi
  have hT : s2.TypeIs (.ref it) "tuple_iterator" := ⟨o, ho, hc⟩
  have I3 := inv_drop I2 (a := it) (show (upd H1 it (ItTO m it)) it = some (.ext _) from upd_same)
  rw [dropH_upd hit] at I3
  have fp := inv_fp I2 (a := it) (u := ItTO m it) upd_same hsz
  rw [dropH_upd hit] at fp
  unfold PySem.W.OwitIt
  refine wpAny_specialOf (name := Str.ofString "__next__") hT PySem.F.slot_tuple_iterator_next.lookup ?_
  exact ⟨it, [it], _, _, H1, rfl, I3, turn_tuple m it, hi, fun b hb => (by
    have e : b = it := by simpa using hb
    subst e
    exact fp), q⟩
end W7

/-! enumerate of a tuple -/
namespace PySem
open Sem (wp)
open AutoSeq1 (wpAny_loadPart')
theorem meets_enumerate_newT (l : Addr) (items : Array Value) :
    Meets (Builtin.«enumerate.__new__» ⟨[.type "enumerate", .ref l], []⟩) (fun _ R s => s.heap.IsTuple l items ∧
      R (.ok (.ret (.ref (s.heap.push { cls := .type "tuple_iterator", data := .fields #[.ref l, .int 0 0] }).objs.size)))
        { s with heap := (s.heap.push { cls := .type "tuple_iterator", data := .fields #[.ref l, .int 0 0] }).push { cls := .type "enumerate", data := .fields #[.none, .bool false, .ref s.heap.objs.size, rawInt 0, .none, .none] } }) :=
  .of_wp fun prog w A R s h => by
    obtain ⟨hp, g, d, tk, os⟩ := s; obtain ⟨hl, h⟩ := h
    have hsub := sub_enumerate
    have q1 : ∀ {A' : Around} {E : Value → Shared → Prop} {Q : Value → Shared → Prop}, Q (.ref hp.objs.size) ⟨(hp.push { cls := .type "tuple_iterator", data := .fields #[.ref l, .int 0 0] }), g, d, tk, os⟩ → wpAny (model prog w) A' (pyIter (.ref l)) Q E ⟨hp, g, d, tk, os⟩ :=
      fun q => wpAny_pyIter_tuple hl q
    wp_walk using q1
    refine wpAny_stack_any fun st => wpAny_pure ?_
    split
    · rename_i c _ _ _ _ _
      cases (c == Value.type "enumerate")
      · wp_walk using q1
        exact ⟨_, rfl, h⟩
      · wp_walk using q1
        exact ⟨_, rfl, h⟩
    · wp_walk using q1
      exact ⟨_, rfl, h⟩
section
variable {prog : Program} {w : World} {A : Around} {E : Value → Shared → Prop} {s : Shared}
theorem call_enumerate_tuple {l : Addr} {items : Array Value} {Q : Value → Shared → Prop} (hL : s.heap.IsTuple l items)
    (h : ∀ h', IsEnum h' (s.heap.objs.size + 1) s.heap.objs.size 0 .none → h'.IsTupleIter s.heap.objs.size l 0 → h'.objs.size = s.heap.objs.size + 2 →
      (∀ b o, s.heap.get? b = some o → h'.get? b = some o) → Q (.ref (s.heap.objs.size + 1)) { s with heap := h' }) :
    wpAny (model prog w) A (call (.type "enumerate") [.ref l]) Q E s := by
  refine callType_new F.called_enumerate (by decide) (F.typeCall_enumerate_1 _) (F.newCall_enumerate_1 _) (fun obj => F.args_object_init_2 obj _) F.entry_enumerate_new
    (meets_enumerate_newT l items) ⟨hL, ?_⟩
  have hz : (s.heap.push { cls := .type "tuple_iterator", data := .fields #[.ref l, .int 0 0] }).objs.size = s.heap.objs.size + 1 := Heap.size_push ..
  show _ ∧ _
  rw [hz]
  have he : IsEnum ((s.heap.push { cls := .type "tuple_iterator", data := .fields #[.ref l, .int 0 0] }).push
      { cls := .type "enumerate", data := .fields #[.none, .bool false, .ref s.heap.objs.size, rawInt 0, .none, .none] }) (s.heap.objs.size + 1) s.heap.objs.size 0 .none := by
    have := Heap.get?_push_size (s.heap.push { cls := .type "tuple_iterator", data := .fields #[.ref l, .int 0 0] })
      (o := { cls := .type "enumerate", data := .fields #[.none, .bool false, .ref s.heap.objs.size, rawInt 0, .none, .none] }) rfl
    rw [hz] at this; exact this
  refine ⟨⟨_, he, rfl⟩, h _ he ⟨_, Heap.get?_push_of_some _ (Heap.get?_push_size _ rfl), rfl, rfl⟩ (by rw [Heap.size_push, hz]) fun b o x => Heap.get?_push_of_some _ (Heap.get?_push_of_some _ x)⟩
end
end PySem
namespace L2
open PySem PySem.Spec PyProof.Rows
/-- the tuple at a, each item in a new pair -/
def IteT (K : PySem.W.Frag) (a : Addr) : It :=
  ⟨fun i H => ∃ (xs : List V) (x : V), SqT K H a xs ∧ xs[i]? = some x, fun i H v H' => ∃ T x, v = .ref T ∧ H T = none ∧ H' = upd H T (.tup [.int (i : Nat), x]) ∧ ∀ xs, SqT K H a xs → xs[i]? = some x, fun i H => ∃ xs : List V, SqT K H a xs ∧ xs.length ≤ i⟩
theorem turn_enumT {P : Program} {w : World} {K : PySem.W.Frag} {elts : List Expr} {kk : Nat} {tpos : Pos} (a e it : Addr) :
    Turn P w K (.Tuple elts kk tpos) (IteT K a) [e, it] e (fun i h => (∃ old, IsEnum h e it ((i : Nat) : Int) old) ∧ h.IsTupleIter it a i ∧ e ≠ it ∧ a < it) where
  mem := by simp
  obj := fun i h st b hb => by
    obtain ⟨⟨old, he⟩, ⟨o, ho, hc, hd⟩, _⟩ := st
    have e' : b = e ∨ b = it := by simpa using hb
    rcases e' with z | z
    · rw [z]; exact ⟨_, he, fun v q => nomatch q⟩
    · rw [z]; exact ⟨o, ho, fun v q => by rw [hd] at q; cases q⟩
  keep := fun i h h' st k => let ⟨⟨old, he⟩, hi, hne⟩ := st; ⟨⟨old, k e (by simp) _ he⟩, hi.at fun o q => k it (by simp) o q, hne⟩
  item := by
    intro X hP hw hK hc i pins s σ H E I hf st hg
    subst hP hw hK
    obtain ⟨⟨old, he⟩, hit, hne, hlt⟩ := st
    obtain ⟨xs, x, hq, hx⟩ := hg
    obtain ⟨its, rv, p, hz⟩ := I.tuple hq
    obtain ⟨u, hu, ru⟩ := rv.get hx
    have hel : e < s.heap.objs.size := Heap.lt_size he
    have hil : it < s.heap.objs.size := by obtain ⟨_, q, _⟩ := hit; exact Heap.lt_size q
    have hai : a ≠ it := Nat.ne_of_lt hlt
    have hae : a ≠ e := fun z => by
      obtain ⟨o, ho, hc', _⟩ := p
      rw [z, he] at ho
      rw [← Option.some.inj ho] at hc'
      injection hc' with q
      exact absurd q (by decide)
    have hi : i < its.toArray.size := by
      rcases Nat.lt_or_ge i its.toArray.size with z | z
      · exact z
      · rw [List.getElem?_eq_none (by simpa using z)] at hu
        cases hu
    refine wpAny_pyNext_enum_itemD (Draws.tuple (show X.A.in1.handled = none from I.ok.hd hc) it a hai its.toArray) he ⟨hit, p⟩ hi hne (by simp [hne, Ne.symm hae]) fun x' h' tk hx' ho hst hT hsz hk => ?_
    have ex : x' = u := by
      have : its.toArray[i]? = some u := by simpa using hu
      rw [this] at hx'
      exact (Option.some.inj hx').symm
    subst ex
    refine ⟨_, rfl, wpAny_letOwnedTupleGo_enum (s := { s with heap := h', toks := tk + 1 }) ho fun h'' he' sb => ?_⟩
    have hT2 : h''.get? s.heap.objs.size = some { cls := .type "tuple", data := .seq #[.int i tk, x'] } := (sb.2 _ (Nat.ne_of_gt hel)).trans hT
    have new : ObjOk X.prog X.w (upd H s.heap.objs.size (.tup [.int (i : Nat), x])) h'' s.heap.objs.size (.tup [.int (i : Nat), x]) :=
      ⟨by show 2 ≤ sizeLine; decide, [.int i tk, x'], .cons ⟨_, rfl⟩ (.cons ru .nil), ⟨_, hT2, rfl, _, rfl⟩⟩
    have I1 : Inv X pins σ (upd H s.heap.objs.size (.tup [.int (i : Nat), x])) { s with heap := h'', toks := tk + 1 } :=
      I.turnedNew (ch := [e, it]) (fun b ob hb q => (sb.2 b (fun z => hb (by simp [z]))).trans (hk b ob (fun z => hb (by simp [z])) (fun z => hb (by simp [z])) q)) hf (Nat.le_refl _) new
    refine ⟨.ref s.heap.objs.size, _, I1, rfl, ⟨_, x, rfl, I.hok.fresh (Nat.le_refl _), rfl, fun ys hy => by rw [I.tuple_inj hy hq]; exact hx⟩, ⟨⟨x', ?_⟩, hst.1.at fun o q => (sb.2 it (Ne.symm hne)).trans q, hne, hlt⟩, fun b hb => ?_⟩
    · have e1 : ((i + 1 : Nat) : Int) = (i : Int) + 1 := by omega
      rw [e1]; exact he'
    · have hb' : b < s.heap.objs.size := by
        have e' : b = e ∨ b = it := by simpa using hb
        rcases e' with z | z
        · rw [z]; exact hel
        · rw [z]; exact hil
      rw [upd_ne (Nat.ne_of_lt hb')]
      exact (hf b hb).1
  done := by
    intro X hP hw hK hc i pins s σ H E I hf st hg
    subst hP hw hK
    obtain ⟨⟨old, he⟩, hit, hne, hlt⟩ := st
    obtain ⟨xs, hq, hx⟩ := hg
    obtain ⟨its, rv, p, hz⟩ := I.tuple hq
    obtain ⟨f0, f1, f2, f3, f4, f5⟩ := hf it (by simp)
    have hl := rv.length
    have hd : X.A.handled = none := I.ok.hd hc
    have hx' : its.toArray[i]? = none := by simp; omega
    have hT : s.TypeIs (.ref e) "enumerate" := ⟨_, he, rfl⟩
    unfold pyNext
    refine wpAny_bind (wpAny_attempt (wpAny_callSpecial?_slot (name := Str.ofString "__next__") hT F.slot_enumerate_next
      (wpAny_call_entry F.slot_enumerate_next hT F.entry_enumerate_next ?_ (F.args_enumerate_next_1 _))))
    show wpAny _ _ (field (.ref e) 2 >>= _) _ _ _
    refine wpAny_bind (wpAny_field he rfl (x := .ref it) rfl ?_)
    refine wpAny_bind (wpAny_nextOf_tuple_end hd hit p hx' fun h' x he' hx2 => ?_)
    obtain ⟨o, ho, hc2⟩ := hx2
    refine wpAny_bind (wpAny_isInstance (T := "StopIteration") (b := true) ⟨o, ho, hc2⟩ isSubtype_stop ?_)
    exact wpAny_pure ⟨rfl, I.turned (t' := s.toks) (fun b o hb q => he' b o hb q) f0 f1 f3 f4 f5⟩
  self := fun A i s Q E st h => let ⟨⟨_, he⟩, _⟩ := st; wpAny_pyIter_enum he h
def iEnumT (K : PySem.W.Frag) (ta : TA) : TI := fun σ H R => ta σ H fun vs H1 => ∃ a xs, vs = [.ref a] ∧ SqT K H1 a xs ∧ R (IteT K a) H1
theorem pi_enumT {X : Cx} {e : Expr} {ta : TA} {p pos tpos : Pos} {elts : List Expr} {kk : Nat} (hg : Gl X "enumerate") (hm : X.mg "enumerate" = none) (ha : PA X [e] ta) (hs : starEach [e] X.env = [(false, eval e X.env)] := by rfl) :
    PI X (.Tuple elts kk tpos) (.Call (.Name "enumerate" p) [e] [] pos) (iEnumT X.K ta) := by
  refine ⟨fun pins s σ H R I h => ?_⟩
  refine Call_ (ld_blt I hg hm boot_enumerate (PyProof.Rows.callWith_type1 (thn (ha.run pos pins s σ H _ I h) fun us s1 ⟨vs, H1, I1, r1, q1⟩ => ?_) hs rfl))
  obtain ⟨a, xs, ex, hq, q⟩ := q1
  subst ex
  cases r1 with
  | cons r rr =>
    cases rr
    cases r
    obtain ⟨its, rv, p', hz⟩ := I1.tuple hq
    have hlt : a < s1.heap.objs.size := by obtain ⟨o, ho, _⟩ := id p'; exact Heap.lt_size ho
    refine call_enumerate_tuple p' fun h' he hit hsz hk => wpAny_pyIter_enum he ?_
    have I2 : Inv X pins σ H1 { s1 with heap := h' } := I1.kept (t' := s1.toks) hk
    refine ⟨s1.heap.objs.size + 1, [s1.heap.objs.size + 1, s1.heap.objs.size], _, _, H1, rfl, I2, turn_enumT a (s1.heap.objs.size + 1) s1.heap.objs.size, ⟨⟨.none, he⟩, hit, Nat.succ_ne_self _, hlt⟩, fun b hb => ?_, q⟩
    have e' : b = s1.heap.objs.size + 1 ∨ b = s1.heap.objs.size := by simpa using hb
    have hle : s1.heap.objs.size ≤ b := by
      rcases e' with z | z
      · rw [z]; exact Nat.le_add_right _ _
      · rw [z]; exact Nat.le_refl _
    exact I1.fpOk hle (I1.hok.fresh hle)
end L2

namespace K08
open PySem PySem.Spec PyProof.Rows L2 RZ L5 R7 XX
section
variable {P : Program} {w : World} {K : PySem.W.Frag} {mg : Str → Option Value} {base : Heap}
/-! ### iter, str -/
abbrev s_iter : Stmt := inClass (topS 45) 16
theorem sc_iter : FnScope ["self"] ["self"] (defScope s_iter) := ⟨rfl, rfl, rfl, by decide +kernel, rfl, by decide +kernel, by decide +kernel⟩
/-- what the class at C has for !=, in, len, iteration, str -/
structure LotD (K : PySem.W.Frag) (C : Addr) (Z : LotC K) where
  hm : PySem.W.mroIn K C (.type "object") = some true
  hne : PySem.W.findIn K (.ref C) "__ne__" = some (some (.builtin "object.__ne__"))
  aH : PySem.W.findIn K (.ref C) "__contains__" = some (some (.ref Z.fH))
  nH : PySem.W.isFn K (.ref Z.fH) = true
  aE : PySem.W.findIn K (.ref C) "__eq__" = some (some (.ref Z.fE))
  nE : PySem.W.isFn K (.ref Z.fE) = true
  aN : PySem.W.findIn K (.ref C) "__len__" = some (some (.ref Z.fN))
  nN : PySem.W.isFn K (.ref Z.fN) = true
  fT : Addr
  dT : FuncData
  FT : Fun K "__iter__" "Lot.__iter__" s_iter fT dT
  bT : Binds K dT ["self"] []
  aT : PySem.W.findIn K (.ref C) "__iter__" = some (some (.ref fT))
  nT : PySem.W.isFn K (.ref fT) = true
/-- the least members of the lot at a stand at m -/
def LotM_at (K : PySem.W.Frag) (C : Addr) (a m : Addr) (H : Hp) : Prop := ∃ d dx xs, H a = some (.ins C dx (lotF d m)) ∧ SqT K H m xs
theorem lot_iter {X : Cx} {CX : CXT} (T : Txt X.K X.mg) (O : LotT X.K X.mg) {Z : LotC X.K} (D : LotD X.K O.C Z) (hr : Room 1 X.A) (z_iter : X.mg "iter" = none) : W7.ItM X O.C D.fT (LotM_at X.K O.C) := by
  intro pins s σ H a m I h
  obtain ⟨d, dx, xs, h1, h2⟩ := h
  obtain ⟨oc, od, kV, doc, pm, an, cdv, ct, osl, e, lk, hcd⟩ := D.FT.ex
  have hb := D.bT s [.ref a] I.kIn rfl
  rw [e] at hb lk
  have r2 : Vals [V.ref a] [Value.ref a] := .cons rfl .nil
  refine wpAny_call (codeAny_mono (W7.fn_at (CX := CX0) (P := X.prog) (w := X.w) (mg := X.mg) (base := X.base) (A := X.A) (outer := X.stack) (s := s) (H := H) (args := ⟨[.ref a], []⟩) (us := [.ref a]) (vs := [.ref a]) (E := E0)
    (Q := fun v H' => ∃ it, v = .ref it ∧ H it = none ∧ s.heap.objs.size ≤ it ∧ H' = upd H it (W7.ItTO m it)) lk hcd sc_iter hr I.env0 hb r2 rfl (fun hr' => ?_)) fun r s' hq => ?_)
  · refine ⟨_, pss_one (ps_ret (pe_callB W7.call_iterTN (by rfl) z_iter (by decide +kernel) (pa_cons (pe_fld (pv 0) rfl) pa_nil))), ?_⟩
    exact ⟨_, rfl, a, O.C, dx, _, _, rfl, h1, O.cl, O.nM, rfl, m, xs, rfl, h2, fun it hit hn => ⟨it, rfl, hit, hn, rfl⟩⟩
  · cases r with
    | error e => exact (pass0 pins σ H s e s' I hq)
    | ok fl =>
      cases fl with
      | ret u =>
        obtain ⟨v, H', I', rv, it, rfl, hit, hn, rfl⟩ := I.after hq
        obtain rfl : u = Value.ref it := rv
        exact ⟨it, rfl, I', hit, Nat.le_trans I.sz hn⟩
      | next => exact False.elim hq
      | brk => exact False.elim hq
      | cont => exact False.elim hq
end
/-- all that a lot's methods are -/
structure LotsT (K : PySem.W.Frag) (mg : Str → Option Value) where
  T : Txt K mg
  O : LotT K mg
  R : LotP K O.C
  W : LotO K mg O.C
  Y : LotM K O.C
  V : LotX K O.C
  Z : LotC K
  D : LotD K O.C Z
  B : LotB K O.C
  zi : mg "iter" = none
section
variable {P : Program} {w : World} {K : PySem.W.Frag} {mg : Str → Option Value} {base : Heap}
mutual
theorem dp_same {H H' : Hp} (s : Same H H') : ∀ {v : V} {d : PyData}, Dp K H v d → Dp K H' v d
  | _, _, .non => .non
  | _, _, .bl b => .bl b
  | _, _, .int i => .int i
  | _, _, .str x => .str x
  | _, _, .lst h a => .lst (same_sql s h) (dpa_same s a)
  | _, _, .tup h a => .tup (same_sqt s h) (dpa_same s a)
theorem dpa_same {H H' : Hp} (s : Same H H') : ∀ {vs : List V} {ds : List PyData}, DpAll K H vs ds → DpAll K H' vs ds
  | _, _, .nil => .nil
  | _, _, .cons h t => .cons (dp_same s h) (dpa_same s t)
end
/-! ### _law_due, _law_power -/
abbrev manyD (n : Int) : PyData := .tuple [.str "refused", .str "many", .int n]
def DueD (M : List (List Nat)) : PyData := if bigB M = true then manyD 60 else if 24 < (M7.leastN M).length then manyD 24 else .tuple ((M7.leastN M).map encT)
theorem big_least {M : List (List Nat)} {d : Nat} (h : M7.Len d M) : bigB (M7.leastN M) = bigB M := by
  rw [Bool.eq_iff_iff, big_iff, big_iff, M7.least_least h]
theorem due_least {M : List (List Nat)} {d : Nat} (h : M7.Len d M) : DueD (M7.leastN M) = DueD M := by
  unfold DueD
  rw [big_least h, M7.least_least h]
theorem shaped_due (M : List (List Nat)) : SeqAt.shaped (DueD M) = true := by
  unfold DueD
  split
  · decide +kernel
  · split
    · decide +kernel
    · exact shaped_tupsT _
theorem eqv_due (M : List (List Nat)) : PyData.eqv (DueD M) (DueD M) = true := SeqAt.eqv_refl _ (by
  unfold DueD
  split
  · decide +kernel
  · split
    · decide +kernel
    · simp only [PyData.canLay0]
      exact (can_tups _).1)
theorem dp_many {H : Hp} {r : Addr} {n : Int} (h : H r = some (.tup [.str "refused", .str "many", .int n])) : Dp K H (.ref r) (manyD n) := .tup (SqT.of h) (.cons (.str _) (.cons (.str _) (.cons (.int _) .nil)))
def sp_due (K : PySem.W.Frag) : Sp := fun vs H Q _ => ∃ (l : Addr) (rs : List Addr) (M : List (List Nat)) (d BB : Nat), vs = [.ref l] ∧ SqL K H l (rs.map V.ref) ∧ Tups K H rs M ∧ M.length ≤ 60 ∧ 1 ≤ d ∧ d ≤ 8 ∧ M7.Len d M ∧ (∀ t ∈ M, ∀ e ∈ t, e < BB) ∧
  ∀ H' v, Same H H' → Dp K H' v (DueD M) → Q v H'
theorem filter_nil_any {M : List (List Nat)} {f : List Nat → Bool} : decide (M.filter f = []) = !(M.any f) := by
  rw [Bool.eq_iff_iff, decide_eq_true_iff, Bool.not_eq_true', List.any_eq_false, List.filter_eq_nil_iff]
theorem ok_due (T : Txt K mg) : FnOk P w K mg base CX0 3 T.a_w_due T.d_w_due ["_law_products_here"] (sp_due K) := by
  refine T.F_w_due.ok sc_w_due (fun vs H Q E h => ?_) (fun cdv A outer s H vs Q E hr h => ?_)
  · obtain ⟨l, rs, M, d, BB, rfl, _⟩ := h
    rfl
  · obtain ⟨l, rs, M, d, BB, rfl, hA, hM, hz, hd1, hd8, hl, hB, q⟩ := h
    refine ⟨_, pss_cons (ps_set (i := 1) sc_w_due.nd rfl (Or.inl rfl) (pe_call (ok_wleast T) hr (by rfl) T.m_w_least T.F_w_least.kp T.b_w_least .nil pass0 (pa_cons (pv 0) pa_nil)))
      (pss_cons (ps_if (pt_cmpR (show OpR _ _ (rNeD K) from op_neD hr.units) (pe_lc (own := [("_law_one", 2)]) (g := gName 2) rfl sc_w_due.nd (pi_list (pv 1)) (blkOk_by (own := [("_law_one", 2)]) (N := N_w_due) (sc := defScope s_w_due) (by decide +kernel))
          (fun _ _ _ _ _ => pg_name (i := 2) sc_w_due.nd rfl (Or.inl rfl))
          (fun _ _ _ _ _ => pts_one (pt_cmpR (show OpR _ _ (rI0 fun i j => .bl (decide (j < i))) from op_gt) (pe_callB (show CallR _ _ (rMaxT K) from cr_maxT rfl) (by rfl) T.z_max boot_max (pa_cons (pv 2) pa_nil)) pe_int (nomark _)))
          (fun _ _ _ _ _ => pv 2)) (pe_lst pa_nil) (nomark _)) (pss_one (ps_ret (pe_tup (pa_cons pe_str (pa_cons pe_str (pa_cons pe_int pa_nil)))))) pss_nil)
      (pss_one (ps_ret (pe_ifExp (pt_cmpR op_le (pe_callB call_len_seq (by rfl) T.z_len boot_len (pa_cons (pv 1) pa_nil)) pe_int (nomark _))
        (pe_callTy call_tuple_of (by rfl) T.z_tuple boot_tuple (pa_cons (pv 1) pa_nil)) (pe_tup (pa_cons pe_str (pa_cons pe_str (pa_cons pe_int pa_nil)))))))), ?_⟩
    refine ⟨_, rfl, l, rs, M, d, BB, rfl, hA, hM, Nat.le_trans (M7.canon_len M) (by omega), by omega, hd1, hd8, hl, hB, fun H1 y ds s1 hy hT => ?_⟩
    have hlL := M7.len_least hl
    have sh : (M7.leastN M).length ≤ 60 := Nat.le_trans (M7.least_short M) hz
    have hdl : ds.length = (M7.leastN M).length := hT.length
    have bg : (M7.leastN M).any hugeB = bigB M := by
      rw [Bool.eq_iff_iff, big_iff, List.any_eq_true]
      unfold hugeB
      constructor
      · rintro ⟨t, ht, h⟩
        obtain ⟨e, he, hh⟩ := List.any_eq_true.mp h
        exact ⟨t, ht, e, he, of_decide_eq_true hh⟩
      · rintro ⟨t, ht, e, he, hh⟩
        exact ⟨t, ht, List.any_eq_true.mpr ⟨e, he, decide_eq_true hh⟩⟩
    have dd : DueD M = if (M7.leastN M).any hugeB = true then manyD 60 else if 24 < (M7.leastN M).length then manyD 24 else .tuple ((M7.leastN M).map encT) := by
      rw [bg]
      rfl
    rw [dd] at q
    generalize M7.leastN M = N at hT hlL sh hdl q
    refine ⟨_, rfl, y, rfl, ⟨_, SqL.of hy⟩, fun D hD => ?_⟩
    have sD := same_new hD (.lst [])
    refine lc_list (K := K) (a := y) (xs := ds.map V.ref) (fun i H' => Same H1 H' ∧ ∃ es : List Addr, H' D = some (.lst (es.map V.ref)) ∧ Tups K H' es ((N.take i).filter hugeB)) ⟨sD, [], upd_same, .nil⟩ (fun i H' _ h => SqL.of (h.1 _ _ hy)) ?_ ?_
    · rintro i x H' hx ⟨sm, es, eD, hTe⟩
      obtain ⟨a, t, rfl, _, ht, hs⟩ := tups_get (hT.same sm) hx
      have htl := hlL t (List.mem_of_getElem? ht)
      have hel : es.length ≤ 60 := by
        have e1 : es.length = _ := hTe.length
        have e2 := List.length_filter_le hugeB (N.take i)
        rw [List.length_take] at e2
        omega
      refine ⟨rfl, _, rfl, a, _, rfl, by rw [← nv_ints]; exact hs, by rw [List.length_map]; omega, fun m hm2 hmax => ?_⟩
      obtain ⟨e, he, rfl⟩ := List.mem_map.mp hm2
      have hg : hugeB t = decide (((e : Nat) : Int) > 60) := by
        rw [Bool.eq_iff_iff, decide_eq_true_iff]
        unfold hugeB
        rw [List.any_eq_true]
        constructor
        · rintro ⟨f, hf, h⟩
          have := of_decide_eq_true h
          have := hmax _ (List.mem_map_of_mem (f := fun n : Nat => ((n : Nat) : Int)) hf)
          omega
        · intro h
          exact ⟨e, he, decide_eq_true (by omega)⟩
      refine ⟨_, _, rfl, rfl, _, rfl, ?_⟩
      rw [← hg]
      cases eh : hugeB t with
      | true =>
        refine iteT ⟨_, rfl, _, eD, by rw [List.length_map]; exact sizeK (by omega), same_updL sm hD, es ++ [a], by rw [upd_same, List.map_append]; rfl, ?_⟩
        rw [filter_yes ht eh]
        exact (hTe.updL eD).app (.cons (sqt_updL eD hs) .nil)
      | false =>
        refine iteF ⟨sm, es, eD, ?_⟩
        rw [filter_no ht eh]
        exact hTe
    · rintro H' ⟨sm, es, eD, hTe⟩
      rw [List.length_map, hdl, List.take_length] at hTe
      refine ⟨Nat.zero_le _, fun z hz8 => ?_⟩
      have s8 := same_new hz8 (.lst [])
      refine ⟨_, .list [], .lst (SqL.of (s8 _ _ eD)) (dp_tups (hTe.same s8)), .lst (SqL.of upd_same) .nil, shaped_tups _, by decide, _, rfl, ?_⟩
      have S := s1.trans (sm.trans s8)
      have e3 : PyData.eqv (.list ((N.filter hugeB).map encT)) (.list []) = !(N.any hugeB) := by
        rw [eqv_nilL, ← filter_nil_any]
        exact decide_eq_decide.mpr List.map_eq_nil_iff
      rw [e3]
      cases hf : N.any hugeB with
      | true =>
        rw [if_pos hf] at q
        refine iteT ⟨by show 3 ≤ sizeLine; decide, fun r hr2 => ?_⟩
        exact q _ _ (S.trans (same_new hr2 _)) (dp_many upd_same)
      | false =>
        rw [if_neg (by rw [hf]; decide)] at q
        have hy2 := s8 _ _ (sm _ _ hy)
        refine iteF ⟨_, rfl, y, _, rfl, .inl (SqL.of hy2), _, _, rfl, rfl, _, rfl, ?_⟩
        by_cases many : 24 < N.length
        · rw [if_pos many] at q
          rw [decide_eq_false (by rw [List.length_map]; omega)]
          refine iteF ⟨by show 3 ≤ sizeLine; decide, fun r hr2 => ?_⟩
          exact q _ _ (S.trans (same_new hr2 _)) (dp_many upd_same)
        · rw [if_neg many] at q
          rw [decide_eq_true (by rw [List.length_map]; omega)]
          refine iteT ⟨_, rfl, y, _, rfl, .inl ⟨SqL.of hy2, fun z2 hz3 => ?_⟩⟩
          have s3 := same_new hz3 (.tup (ds.map V.ref))
          exact q _ _ (S.trans s3) (.tup (SqT.of upd_same) (dp_tups ((hT.same (sm.trans s8)).same s3)))
def sp_wpow (K : PySem.W.Frag) : Sp := fun vs H Q _ => ∃ (m : Addr) (rs : List Addr) (L : List (List Nat)) (d k : Nat), vs = [.ref m, .int ((d : Nat) : Int), .int ((k : Nat) : Int)] ∧ SqT K H m (rs.map V.ref) ∧ Tups K H rs L ∧ M7.Len d L ∧ M7.leastN L = L ∧ L.length ≤ 4 ∧ (∀ t ∈ L, ∀ e ∈ t, e ≤ 60) ∧ 1 ≤ d ∧ d ≤ 8 ∧ k ≤ 4 ∧
  ∀ H' v, Same H H' → Dp K H' v (DueD (M8.pwN d L k)) → Q v H'
theorem ok_wpow (T : Txt K mg) : FnOk P w K mg base CX0 4 T.a_w_power T.d_w_power ["_law_members", "_law_letters", "_law_many"] (sp_wpow K) := by
  refine T.F_w_power.ok sc_w_power (fun vs H Q E h => ?_) (fun cdv A outer s H vs Q E hr h => ?_)
  · obtain ⟨m, rs, L, d, k, rfl, _⟩ := h
    rfl
  · obtain ⟨m, rs, L, d, k, rfl, hm, hT, hl, own, h4, h60, hd1, hd8, hk4, q⟩ := h
    refine ⟨_, pss_cons (ps_set (i := 3) sc_w_power.nd rfl (Or.inl rfl) (pe_lst (pa_cons (pe_op op_repB (pe_tup (pa_cons pe_int pa_nil)) (pv 1)) pa_nil)))
      (pss_cons (ps_for PassesOwn.never rfl (pi_range1 rfl T.z_range (pa_cons (pv 2) pa_nil)) (pg_name (i := 4) sc_w_power.nd rfl (Or.inl rfl))
        (pss_one (ps_set (i := 3) sc_w_power.nd rfl (Or.inl rfl) (pe_call (ok_wleast T) (hr.mono (by decide)) (by rfl) T.m_w_least T.F_w_least.kp T.b_w_least .nil pass0 (pa_cons
          (pe_call (ok_wpair T) (hr.mono (by decide)) (by rfl) T.m_w_pairwise T.F_w_pairwise.kp T.b_w_pairwise .nil pass0 (pa_cons pe_str (pa_cons (pv 3) (pa_cons (pv 0) pa_nil)))) pa_nil)))))
      (pss_one (ps_ret (pe_call (ok_due T) hr (by rfl) T.m_w_due T.F_w_due.kp T.b_w_due .nil pass0 (pa_cons (pv 3) pa_nil))))), ?_⟩
    refine ⟨by show 1 ≤ sizeLine; decide, fun z0 hz0 => ?_⟩
    have sz0 := same_new hz0 (.tup [V.int 0])
    refine ⟨_, rfl, z0, ((d : Nat) : Int), [.int 0], rfl, rfl, SqT.of upd_same, by simp, by omega, by omega, by decide, fun H1 y1 s1 hy1 => ⟨by show 1 ≤ sizeLine; decide, fun z hz => ?_⟩⟩
    rw [Int.toNat_natCast, zeros_nv] at hy1
    have sz := same_new hz (.lst [V.ref y1])
    refine ⟨_, rfl, _, rfl, by omega, by omega, ?_⟩
    refine for_range (lo := 0) (n := ((k : Nat) : Int).toNat) (fun i σ H' => ∃ (v4 : Option V) (f : Addr) (ds : List Addr), σ = [some (.ref m), some (.int ((d : Nat) : Int)), some (.int ((k : Nat) : Int)), some (.ref f), v4] ∧ Same H H' ∧ H' f = some (.lst (ds.map V.ref)) ∧ Tups K H' ds (M8.wlN d L i))
      ⟨none, z, [y1], rfl, sz0.trans (s1.trans sz), upd_same, .cons (same_sqt sz hy1) .nil⟩ (fun i σ H' hi h => ?_) (fun σ H' h => ?_)
    · obtain ⟨v4, f, ds, rfl, sm, hf, hTd⟩ := h
      have hik : i < k := by omega
      have sh := M8.wl_short hl own h4 (k := i) (by omega)
      have hlw := M8.len_wl hl own i
      have low := M8.low_wl hl own h60 i
      refine ⟨_, rfl, _, rfl, "added", (· + ·), f, m, ds, rs, _, L, d, rfl, .inr ⟨rfl, rfl⟩, .inl (SqL.of hf), same_sqt sm hm, hTd, hT.same sm, hlw, hl, hd8, by omega, by omega, fun H2 f2 rs2 s2 hf2 hT2 => ?_⟩
      refine ⟨f2, rs2, _, d, i * 60 + 60 + 1, rfl, SqL.of hf2, hT2, Nat.le_trans (M8.wl_next hl own h4 (by omega)) (by decide), ?_, hd1, hd8, M7.len_each hlw hl, fun t ht e he => Nat.lt_succ_of_le (M7.low_each M7.op_add low h60 t ht e he), fun H3 f3 rs3 s3 hf3 hT3 => ?_⟩
      · rw [each_len]
        have := Nat.mul_le_mul sh h4
        omega
      · exact ⟨_, f3, rs3, rfl, sm.trans (s2.trans s3), hf3, hT3⟩
    · obtain ⟨v4, f, ds, rfl, sm, hf, hTd⟩ := h
      rw [show ((k : Nat) : Int).toNat = k by omega] at hTd
      have sh := M8.wl_short hl own h4 hk4
      refine ⟨_, rfl, f, ds, _, d, k * 60 + 1, rfl, SqL.of hf, hTd, by omega, hd1, hd8, M8.len_wl hl own k, fun t ht e he => Nat.lt_succ_of_le (M8.low_wl hl own h60 k t ht e he), fun H2 v s2 hv => ?_⟩
      rw [M8.wl_pw hl own, due_least (M8.len_pw hl k)] at hv
      exact q H2 v (sm.trans s2) hv
end
end K08

namespace K08
open PySem PySem.Spec PyProof.Rows L2 RZ L5 R7 XX
section
variable {X : Cx} {W : WX}
theorem takes_len (tk : Takes X W) : Takes X (fun cls d σ H => σ.length = X.N.length → W cls d σ H) := fun u s' x => by
  obtain ⟨a, B, sI, pins', σ', H', cls, d, e, J, nb, up, sky, na, os, ag, wish⟩ := x
  exact tk u s' ⟨a, B, sI, pins', σ', H', cls, d, e, J, nb, up, sky, na, os, ag, wish J.len⟩
/-! ### _law_told(lambda: ..) -/
def Mix (K : PySem.W.Frag) (CM : Addr) (Q : VK) : XK := fun cls d H' =>
  cls = .ref CM ∧ ∃ dd v, d = some dd ∧ H' dd = some (.xd [("most", v)]) ∧ ∀ r, H' r = none → Q (.ref r) (upd H' r (.tup [.str "refused", .str "many", v]))
def TToldM (K : PySem.W.Frag) (C CM : Addr) : (XK → Hp → VK → Prop) → Hp → VK → Prop := fun tl H Q => tl (Mix K CM Q) H (fun x H1 => ∃ a dx fs, x = V.ref a ∧ H1 a = some (.ins C dx fs) ∧ sp_mem K C [.ref a] H1 Q E0)
theorem told_givesM (G : LotsT X.K X.mg) (hr : Room 3 X.A) {g : Addr} {cdg : Value} {q : Str} :
    LamX.GivesTo X N_w_told "_law_told" (defScope s_w_told) g cdg (defBody s_w_told) "_law_call" q (TToldM X.K G.O.C G.T.C_TooMany) := by
  intro f c' s H Q tl act hc h
  refine ⟨_, pss_one (ps_try_mix (X := (cxOf C8.CX0 X.prog X.w X.K X.mg X.base N_w_told "_law_told" (defScope s_w_told) g cdg X.A X.stack s H C8.E0).nox)
      (l := [⟨.ref G.T.C_TooMany, some 1, fun a cls d => _⟩]) (out := fun _ _ _ _ => False)
      (tb := fun W D σ H => ∃ Ech : XK, (∀ cls d σ' H', Ech cls d H' → σ'.length = N_w_told.length → W cls d σ' H') ∧ σ[0]? = some (some (.ref f)) ∧ H c' = some (LamX.CodeO c' q) ∧ tl Ech H (fun x H1 => ∃ a dx fs, x = V.ref a ∧ H1 a = some (.ins G.O.C dx fs) ∧ sp_mem X.K G.O.C [.ref a] H1 D.rt E0))
      rfl rfl sc_w_told.nd LamX.takes0 (fun W pn xe tk _ => ?_)
      (.cons ⟨rfl, by decide, .inl G.T.g_TooMany⟩ ⟨rfl, rfl⟩ (fun a oe cls d pn hz hf => pss_one (ps_ret (pe_tup (pa_cons pe_str (pa_cons pe_str (pa_cons (pe_xf (X := (cxOf C8.CX0 X.prog X.w X.K X.mg X.base N_w_told "_law_told" (defScope s_w_told) g cdg X.A X.stack s H C8.E0).nox) G.T.x_TooMany G.T.n_TooMany hz hf (pv 1)) pa_nil)))))) .nil)), ?_⟩
  · refine ⟨fun pins s' σ H' D I h' => ?_⟩
    obtain ⟨Ech, hW, h1, h2, h3⟩ := h'
    exact (pss_one (ps_ret (pe_prop (E := E0) (act _ pn xe Ech _ _ (takes_len tk) hW) G.O.cl G.R.PM (ok_mem G.O G.R) ((hr.deeper _).mono (by decide)) G.R.bM .nil pass0 rfl))).run pins s' σ H' D I ⟨h1, h2, h3⟩
  · refine ⟨Mix X.K G.T.C_TooMany Q, fun cls d σ' H' hm hl => ?_, rfl, hc, h⟩
    have set1 : ∀ a : Addr, (σ'.set 1 (some (V.ref a)))[1]? = some (some (V.ref a)) := fun a => by
      have hl2 : σ'.length = 2 := hl
      rw [List.getElem?_set_self (by omega)]
    obtain ⟨rfl, dd, v, rfl, hd, q⟩ := hm
    refine ⟨true, G.T.h_TooMany_TooMany, fun _ a na => ?_, fun z => nomatch z⟩
    exact ⟨.ref a, set1 a, rfl, rfl, dd, _, v, rfl, hd, rfl, by show 3 ≤ sizeLine; decide, q⟩
end
end K08

namespace K08
open PySem PySem.Spec PyProof.Rows L2 RZ L5 R7 XX
section
variable {P : Program} {w : World} {K : PySem.W.Frag} {mg : Str → Option Value} {base : Heap}
/-! ### _law_quotients_right -/
theorem eqv_tupsSame (L : List (List Nat)) : PyData.eqv (.tuple (L.map encT)) (.tuple (L.map encT)) = true := SeqAt.eqv_refl _ (by
  simp only [PyData.canLay0]
  exact (can_tups L).1)
theorem shaped_bool (b : Bool) : SeqAt.shaped (.bool b) = true := by cases b <;> decide +kernel
theorem eqv_bool (b : Bool) : PyData.eqv (.bool b) (.bool b) = true := by cases b <;> decide +kernel
theorem q_low {L : List (List Nat)} {t : List Nat} {m : Nat} (h : ∀ u ∈ L, ∀ e ∈ u, e ≤ m) : ∀ u ∈ M8.qN L t, ∀ e ∈ u, e ≤ m := fun v hv e he => by
  obtain ⟨u, hu, rfl⟩ := List.mem_map.mp hv
  have he' : e ∈ List.zipWith (· - ·) u t := he
  rw [← List.map_uncurry_zip_eq_zipWith] at he'
  obtain ⟨⟨x, y⟩, hxy, rfl⟩ := List.mem_map.mp he'
  have := h u hu x (List.of_mem_zip hxy).1
  show x - y ≤ m
  omega
theorem add_low {t u : List Nat} {m n : Nat} (ht : ∀ e ∈ t, e ≤ m) (hu : ∀ e ∈ u, e ≤ n) : ∀ e ∈ M8.addN t u, e ≤ m + n := M7.zip_low M7.op_add ht hu
def sp_qr (K : PySem.W.Frag) (C : Addr) : Sp := fun vs H Q _ => ∃ (p a x y : Addr) (d : Nat) (L : List (List Nat)) (t u : List Nat) (g z c : Int), vs = [.ref p, .ref a, .ref x, .ref y] ∧ H p = some (pailO g z c) ∧ LotAt K C H a d L ∧ SqT K H x (nv t) ∧ SqT K H y (nv u) ∧ t.length = d ∧ u.length = d ∧ 1 ≤ d ∧ d ≤ 8 ∧ (∀ e ∈ t, e ≤ 8) ∧ (∀ e ∈ u, e ≤ 8) ∧ M7.Len d L ∧ (∀ v ∈ L, ∀ e ∈ v, e ≤ 60) ∧ L.length ≤ 24 ∧
  ∀ H' g z c, Bar p H H' → H' p = some (pailO g z c) → Q (.bl true) H'
theorem ok_qr (G : LotsT K mg) : FnOk P w K mg base CX0 9 G.T.a_w_quotients_right G.T.d_w_quotients_right ["_law_pail_here", "_law_lot", "_law_one", "_law_other"] (sp_qr K G.O.C) := by
  obtain ⟨T, O, R, W, Y, Vx, Z, Dd, B, zi⟩ := G
  show FnOk P w K mg base CX0 9 T.a_w_quotients_right T.d_w_quotients_right ["_law_pail_here", "_law_lot", "_law_one", "_law_other"] (sp_qr K O.C)
  refine T.F_w_quotients_right.ok sc_w_quotients_right (fun vs H Q E h => ?_) (fun cdv A outer s H vs Q E hr h => ?_)
  · obtain ⟨p, a, x, y, d, L, t, u, g, z, c, rfl, _⟩ := h
    rfl
  · obtain ⟨p, a, x, y, d, L, t, u, g, z, c, rfl, hp, hA, hx, hy, htl, hul, hd1, hd8, ht8, hu8, hl, h60, h24, q⟩ := h
    have li : W7.ItM (cxOf CX0 P w K mg base N_w_quotients_right "_law_quotients_right" (defScope s_w_quotients_right) T.a_w_quotients_right cdv A outer s H E).nox O.C Dd.fT (LotM_at K O.C) := lot_iter (CX := CX0) (X := (cxOf CX0 P w K mg base N_w_quotients_right "_law_quotients_right" (defScope s_w_quotients_right) T.a_w_quotients_right cdv A outer s H E).nox) T O Dd (hr.mono (by decide)) zi
    refine ⟨_, pss_cons (ps_set (i := 4) sc_w_quotients_right.nd rfl (Or.inr rfl) (pe_meth (pv 1) O.cl B.mQ (ok_quot T O B) hr B.bQ .nil pass0 (pa_cons (pv 2) pa_nil)))
      (pss_cons (ps_if (pt_cmpR (op_neD hr.units) (pe_prop (E := E0) (pv 4) O.cl R.PM (ok_mem O R) (hr.mono (by decide)) R.bM .nil pass0 rfl)
          (pe_callTy call_tuple_of (by rfl) T.z_tuple boot_tuple (pa_cons (pe_call (ok_wleast T) (hr.mono (by decide)) (by rfl) T.m_w_least T.F_w_least.kp T.b_w_least .nil pass0 (pa_cons
            (pe_lc (own := [("_law_member", 7)]) (g := gName 7) (tt := tYes) rfl sc_w_quotients_right.nd (W7.pi_own (pv 1) Dd.aT Dd.nT li) (blkOk_by (own := [("_law_member", 7)]) (N := N_w_quotients_right) (sc := defScope s_w_quotients_right) (by decide +kernel))
              (fun _ _ _ _ _ => pg_name (i := 7) sc_w_quotients_right.nd rfl (Or.inl rfl)) (fun _ _ _ _ _ => pts_nil)
              (fun _ _ _ _ _ => pe_call (ok_wless T) (hr.mono (by decide)) (by rfl) T.m_w_lessened T.F_w_lessened.kp T.b_w_lessened .nil pass0 (pa_cons (pv 7) (pa_cons (pv 2) pa_nil)))) pa_nil)) pa_nil)) (nomark _)) (pss_one (ps_ret pe_bl)) pss_nil)
      (pss_cons (ps_if (PW.pt (pw_or (pt_cmpR (W7.op_neOwn Dd.hm Dd.hne Dd.aE Dd.nE (ok_eql T O W Z) (hr.mono (by decide)) Z.bE pass0) (pe_meth (pv 4) O.cl B.mQ (ok_quot T O B) hr B.bQ .nil pass0 (pa_cons (pv 3) pa_nil))
            (pe_meth (pv 1) O.cl B.mQ (ok_quot T O B) hr B.bQ .nil pass0 (pa_cons (pe_call (ok_w_added T) (hr.mono (by decide)) (by rfl) T.m_w_added T.F_w_added.kp T.b_w_added .nil pass0 (pa_cons (pv 2) (pa_cons (pv 3) pa_nil))) pa_nil)) (nomark _))
          (pw_or1 (pt_cmpR (op_neD hr.units) (pe_prop (E := E0) (pv 4) O.cl B.PA (ok_isall T O B) (hr.mono (by decide)) B.bA .nil pass0 rfl) (pe_cmpR (W7.op_inOwn Dd.aH Dd.nH (ok_has T O Z) (hr.mono (by decide)) Z.bH pass0) (pv 2) (pv 1) rfl) (nomark _))))) (pss_one (ps_ret pe_bl)) pss_nil)
      (pss_cons (ps_for PassesOwn.never rfl (pi_range1 rfl T.z_range (pa_cons pe_int pa_nil)) (pg_name (i := 5) sc_w_quotients_right.nd rfl (Or.inl rfl))
        (pss_cons (ps_set (i := 6) sc_w_quotients_right.nd rfl (Or.inl rfl) (pe_call (ok_wprod T) (hr.mono (by decide)) (by rfl) T.m_w_product T.F_w_product.kp T.b_w_product .nil pass0 (pa_cons (pv 0) (pa_cons (pe_prop (E := E0) (pv 1) O.cl R.PL (ok_ltr O R) (hr.mono (by decide)) R.bL .nil pass0 rfl) (pa_cons pe_int pa_nil)))))
        (pss_one (ps_if (pt_cmpR (op_neD hr.units) (pe_cmpR (W7.op_inOwn Dd.aH Dd.nH (ok_has T O Z) (hr.mono (by decide)) Z.bH pass0) (pv 6) (pv 4) rfl)
            (pe_cmpR (W7.op_inOwn Dd.aH Dd.nH (ok_has T O Z) (hr.mono (by decide)) Z.bH pass0) (pe_call (ok_w_added T) (hr.mono (by decide)) (by rfl) T.m_w_added T.F_w_added.kp T.b_w_added .nil pass0 (pa_cons (pv 6) (pa_cons (pv 2) pa_nil))) (pv 1) rfl) (nomark _)) (pss_one (ps_ret pe_bl)) pss_nil))))
      (pss_one (ps_ret (pe_cmpR (op_eqD hr.units)
          (pe_lc (own := [("_law_member", 7)]) (g := gName 7) rfl sc_w_quotients_right.nd (W7.pi_own (pv 1) Dd.aT Dd.nT li) (blkOk_by (own := [("_law_member", 7)]) (N := N_w_quotients_right) (sc := defScope s_w_quotients_right) (by decide +kernel))
            (fun _ _ _ _ _ => pg_name (i := 7) sc_w_quotients_right.nd rfl (Or.inl rfl))
            (fun _ _ _ _ _ => pts_one (pt_cmpR (show OpR _ _ (W7.rInOwn O.C (sp_has K O.C) (!·)) from W7.op_notinOwn Dd.aH Dd.nH (ok_has T O Z) (hr.mono (by decide)) Z.bH pass0) (pv 7) (pv 4) rfl))
            (fun _ _ _ _ _ => pv 7)) (pe_lst pa_nil) (nomark _))))))), ?_⟩
    -- the quotient
    have ia := hA
    obtain ⟨dx, m, rs, h1, h2, h3⟩ := ia
    have hlen : rs.length = L.length := h3.length
    have ht60 : ∀ e ∈ t, e ≤ 60 := fun e he => Nat.le_trans (ht8 e he) (by decide)
    have hu60 : ∀ e ∈ u, e ≤ 60 := fun e he => Nat.le_trans (hu8 e he) (by decide)
    refine ⟨_, rfl, a, dx, _, rfl, h1, rfl, _, rfl, a, x, d, L, t, rfl, hA, hx, htl, hd1, hd8, ht60, hl, h60, h24, fun H1 f s1 hF => ?_⟩
    have hFl := M7.len_least (M8.len_q hl htl)
    have hF60 : ∀ v ∈ M7.leastN (M8.qN L t), ∀ e ∈ v, e ≤ 60 := fun v hv => q_low h60 v (M7.mem_least.mp hv).1
    have hF24 : (M7.leastN (M8.qN L t)).length ≤ 24 := Nat.le_trans (M7.least_short _) (by rw [List.length_map]; exact h24)
    obtain ⟨dy, m2, rs2, k1, k2, k3⟩ := id hF
    refine ⟨_, rfl, f, dy, _, rfl, k1, f, d, _, rfl, hF, fun m3 rs3 hm3 hT3 => ?_⟩
    -- by the law's own
    have hx1 := same_sqt s1 hx
    refine ⟨_, rfl, a, m, dx, _, rfl, s1 _ _ h1, ⟨d, dx, _, s1 _ _ h1, same_sqt s1 h2⟩, fun D hD => ?_⟩
    have sD := same_new hD (.lst [])
    refine lc_tup (K := K) (a := m) (xs := rs.map V.ref) (fun i H' => Same H1 H' ∧ ∃ ds : List Addr, H' D = some (.lst (ds.map V.ref)) ∧ Tups K H' ds (M8.qN (L.take i) t)) ⟨sD, [], upd_same, .nil⟩ (fun i H' _ h => same_sqt (s1.trans h.1) h2) ?_ ?_
    · rintro i v H' hv ⟨sm, ds, eD, hT⟩
      obtain ⟨p1, k, rfl, _, hk, hs⟩ := tups_get ((h3.same s1).same sm) hv
      have hkl := hl k (List.mem_of_getElem? hk)
      have hdl : ds.length ≤ 24 := by
        have e1 : ds.length = _ := hT.length
        rw [e1, List.length_map, List.length_take]
        omega
      refine ⟨rfl, _, rfl, _, rfl, p1, x, k, t, rfl, hs, same_sqt sm hx1, by rw [htl, hkl], by omega, fun H3 z3 s3 hz3 => ?_⟩
      have eD3 := s3 _ _ eD
      refine ⟨_, eD3, by rw [List.length_map]; exact sizeK (by omega), same_updL (sm.trans s3) hD, ds ++ [z3], by rw [upd_same, List.map_append]; rfl, ?_⟩
      rw [take_more hk]
      show Tups K _ _ (List.map _ (L.take i ++ [k]))
      rw [List.map_append]
      exact ((hT.same s3).updL eD3).app (.cons (sqt_updL eD3 hz3) .nil)
    rintro H2 ⟨sm, ds, eD, hT⟩
    rw [List.length_map, hlen, List.take_length] at hT
    have hql : (M8.qN L t).length ≤ 24 := by rw [List.length_map]; exact h24
    refine ⟨D, ds, _, d, 61, rfl, SqL.of eD, hT, Nat.le_trans (M7.canon_len _) (by omega), by omega, hd1, hd8, M8.len_q hl htl, fun v hv e he => Nat.lt_succ_of_le (q_low h60 v hv e he), fun H3 y3 ds3 s3 hy3 hT4 => ?_⟩
    refine ⟨y3, _, rfl, .inl ⟨SqL.of hy3, fun z4 hz4 => ?_⟩⟩
    have s4 := same_new hz4 (.tup (ds3.map V.ref))
    have S4 := sm.trans (s3.trans s4)
    refine ⟨_, _, .tup (same_sqt S4 hm3) (dp_tups (hT3.same S4)), .tup (SqT.of upd_same) (dp_tups (hT4.same s4)), shaped_tupsT _, shaped_tupsT _, _, rfl, ?_⟩
    rw [eqv_tupsSame]
    refine iteF ?_
    have SB := s1.trans S4
    have hFB := hF.same S4
    have hAB := hA.same SB
    generalize (upd H3 z4 (.tup (ds3.map V.ref))) = H4 at S4 SB hFB hAB ⊢
    clear hT4 hy3 s4 hz4
    have hxB := same_sqt SB hx
    have hyB := same_sqt SB hy
    -- one after the other
    obtain ⟨dy', m2', rs2', k1', _⟩ := id hFB
    obtain ⟨dx', m', rs', h1', _⟩ := id hAB
    refine ⟨_, rfl, f, dy', _, rfl, k1', rfl, _, rfl, f, y, d, _, u, rfl, hFB, hyB, hul, hd1, hd8, hu60, hFl, hF60, hF24, fun H5 f5 s5 hF5 => ?_⟩
    refine ⟨_, rfl, a, dx', _, rfl, s5 _ _ h1', rfl, _, rfl, _, rfl, x, y, t, u, rfl, same_sqt s5 hxB, same_sqt s5 hyB, by rw [hul, htl], by omega, fun H6 y6 s6 hy6 => ?_⟩
    rw [zi_add] at hy6
    refine ⟨a, y6, d, L, M8.addN t u, rfl, (hAB.same s5).same s6, hy6, M8.len_add htl hul, hd1, hd8, fun e he => Nat.le_trans (add_low ht8 hu8 e he) (by decide), hl, h60, h24, fun H7 f7 s7 hF7 => ?_⟩
    have hF57 := (hF5.same s6).same s7
    obtain ⟨e1, e2, e3, e4, _⟩ := id hF57
    obtain ⟨e1', e2', e3', e4', _⟩ := id hF7
    refine ⟨f5, f7, _, _, _, _, rfl, rfl, e4, e4', f5, f7, d, d, _, _, rfl, hF57, hF7, _, rfl, _, rfl, ?_⟩
    rw [decide_eq_true rfl, decide_eq_true (M8.q_q hl htl hul)]
    refine iteF ?_
    have S7 := s5.trans (s6.trans s7)
    have hF7' := hFB.same S7
    have hA7 := hAB.same S7
    obtain ⟨dz, _, _, z1, _⟩ := id hF7'
    obtain ⟨dw, _, _, w1, _⟩ := id hA7
    refine ⟨_, rfl, f, dz, _, rfl, z1, f, d, _, rfl, hF7', hd8, fun H8 s8 => ?_⟩
    refine ⟨_, rfl, _, rfl, a, dw, _, rfl, s8 _ _ w1, a, x, d, L, t, rfl, hA7.same s8, same_sqt (S7.trans s8) hxB, htl, hd8, ht60, hl, fun H9 s9 => ⟨_, rfl, ?_⟩⟩
    refine ⟨.bool (M7.inB L t), .bool (M7.inB L t), (by rw [← M8.all_q hl htl]; exact .bl _), .bl _, shaped_bool _, shaped_bool _, _, rfl, ?_⟩
    rw [eqv_bool]
    refine iteF ?_
    have S9 := SB.trans (S7.trans (s8.trans s9))
    have hF9 := (hF7'.same s8).same s9
    -- drawn ones
    refine ⟨_, rfl, by omega, by omega, ?_⟩
    refine for_range (lo := 0) (n := (5 : Int).toNat) (fun i σ H' => ∃ (v5 v6 : Option V) (g z c : Int), σ = [some (.ref p), some (.ref a), some (.ref x), some (.ref y), some (.ref f), v5, v6, none] ∧ Bar p H9 H' ∧ H' p = some (pailO g z c)) ⟨none, none, g, z, c, rfl, Bar.same (Same.refl _), S9 _ _ hp⟩ (fun i σ H' hi h => ?_) (fun σ H' h => ?_)
    · obtain ⟨v5, v6, g1, z1', c1, rfl, b1, hp1⟩ := h
      have hp9 := S9 _ _ hp
      have hA1 := bar_lot hp9 b1 (hA.same S9)
      have hF1 := bar_lot hp9 b1 hF9
      have hx1' := bar_sqt hp9 b1 (same_sqt S9 hx)
      obtain ⟨da, _, _, a1, _⟩ := id hA1
      refine ⟨_, rfl, _, rfl, a, da, _, rfl, a1, a, d, L, rfl, hA1, p, d, 9, g1, z1', c1, rfl, hp1, hd1, hd8, by decide, by decide, fun H3 z3 r g3 z3' c3 b3 hp3 hz3 hrl hr9 => ?_⟩
      have hA3 := bar_lot hp1 b3 hA1
      have hF3 := bar_lot hp1 b3 hF1
      have hx3 := bar_sqt hp1 b3 hx1'
      obtain ⟨db, _, _, b1', _⟩ := id hF3
      refine ⟨_, rfl, _, rfl, f, db, _, rfl, b1', f, z3, d, _, r, rfl, hF3, hz3, hrl, hd8, fun e he => Nat.le_trans (hr9 e he) (by decide), hFl, fun H4' s4' => ⟨_, rfl, ?_⟩⟩
      refine ⟨_, rfl, _, rfl, z3, x, r, t, rfl, same_sqt s4' hz3, same_sqt s4' hx3, by rw [htl, hrl], by omega, fun H5' y5 s5' hy5 => ?_⟩
      rw [zi_add] at hy5
      have hA5 := (hA3.same s4').same s5'
      obtain ⟨dc, _, _, c1', _⟩ := id hA5
      refine ⟨_, rfl, a, dc, _, rfl, c1', a, y5, d, L, M8.addN r t, rfl, hA5, hy5, M8.len_add hrl htl, hd8, fun e he => Nat.le_trans (add_low hr9 ht8 e he) (by decide), hl, fun H6' s6' => ⟨_, rfl, ?_⟩⟩
      refine ⟨.bool (M7.inB L (M8.addN r t)), .bool (M7.inB L (M8.addN r t)), (by rw [← M8.in_q hl htl hrl]; exact .bl _), .bl _, shaped_bool _, shaped_bool _, _, rfl, ?_⟩
      rw [eqv_bool]
      refine iteF ⟨_, _, g3, z3', c3, rfl, (b1.trans b3).trans (Bar.same (s4'.trans (s5'.trans s6'))), (s4'.trans (s5'.trans s6')) _ _ hp3⟩
    · obtain ⟨v5, v6, g1, z1', c1, rfl, b1, hp1⟩ := h
      have hp9 := S9 _ _ hp
      have hA1 := bar_lot hp9 b1 (hA.same S9)
      have hF1 := bar_lot hp9 b1 hF9
      obtain ⟨da, ma, rsa, a1, a2, a3⟩ := id hA1
      have hla : rsa.length = L.length := a3.length
      refine ⟨_, rfl, a, ma, da, _, rfl, a1, ⟨d, da, _, a1, a2⟩, fun D2 hD2 => ?_⟩
      have sD2 := same_new hD2 (.lst [])
      refine lc_tup (K := K) (a := ma) (xs := rsa.map V.ref) (fun i H3 => Same H' H3 ∧ H3 D2 = some (.lst [])) ⟨sD2, upd_same⟩ (fun i H3 _ h => same_sqt h.1 a2) ?_ ?_
      · rintro i v H3 hv ⟨sm, eD2⟩
        obtain ⟨p1, k, rfl, _, hk, hs⟩ := tups_get (a3.same sm) hv
        have hkm := List.mem_of_getElem? hk
        have hF3 := hF1.same sm
        obtain ⟨db, _, _, b1', _⟩ := id hF3
        refine ⟨rfl, _, rfl, _, rfl, f, db, _, rfl, b1', f, p1, d, _, k, rfl, hF3, hs, hl k hkm, hd8, fun e he => h60 k hkm e he, hFl, fun H4' s4' => ⟨_, rfl, _, rfl, ?_⟩⟩
        have ei := M8.in_own hl htl hkm
        unfold M7.inB at ei
        rw [ei]
        exact iteF ⟨sm.trans s4', s4' _ _ eD2⟩
      · rintro H3 ⟨sm, eD2⟩
        refine ⟨Nat.zero_le _, fun z8 hz8 => ?_⟩
        have s8' := same_new hz8 (.lst [])
        refine ⟨.list [], .list [], .lst (SqL.of (s8' _ _ eD2)) .nil, .lst (SqL.of upd_same) .nil, by decide, by decide, ?_⟩
        rw [show PyData.eqv (.list []) (.list []) = true by decide +kernel]
        refine q _ g1 z1' c1 ((Bar.same S9).trans (b1.trans (Bar.same (sm.trans s8')))) ?_
        exact (sm.trans s8') _ _ hp1
end
end K08

namespace K08
open PySem PySem.Spec PyProof.Rows L2 RZ L5 R7 XX
/-! ### tables -/
abbrev tR : Addr := 519
abbrev tL : Addr := 524
abbrev qR : Str := "_law_right.<locals>.<lambda>"
abbrev qL : Str := "law.<locals>.<lambda>"
abbrev TB8 : List (Addr × Str) := [(tR, qR), (tL, qL)]
theorem uniqR : ∀ p ∈ TB8, p.1 = tR → p.2 = qR := fun p hp e => by
  rcases List.mem_cons.mp hp with rfl | hp
  · rfl
  rcases List.mem_cons.mp hp with rfl | hp
  · cases e
  cases hp
theorem uniqL : ∀ p ∈ TB8, p.1 = tL → p.2 = qL := fun p hp e => by
  rcases List.mem_cons.mp hp with rfl | hp
  · cases e
  rcases List.mem_cons.mp hp with rfl | hp
  · rfl
  cases hp
section
variable {K : PySem.W.Frag} {H H' : Hp} {p : Addr} {g x c : Int}
theorem ext_sqt {a : Addr} {xs : List V} (e : LamX.ExtN H H') (h : SqT K H a xs) : SqT K H' a xs := by
  rcases h with (h | ⟨o, h⟩) | h
  · exact .inl (.inl (e _ _ h fun _ z => nomatch z))
  · exact .inl (.inr ⟨o, e _ _ h fun _ z => nomatch z⟩)
  · exact .inr h
theorem ext_tups (e : LamX.ExtN H H') : ∀ {rs : List Addr} {L : List (List Nat)}, Tups K H rs L → Tups K H' rs L
  | _, _, .nil => .nil
  | _, _, .cons h t => .cons (ext_sqt e h) (ext_tups e t)
theorem ext_lot {C a : Addr} {d : Nat} {L : List (List Nat)} (e : LamX.ExtN H H') : LotAt K C H a d L → LotAt K C H' a d L := fun ⟨dx, m, rs, h1, h2, h3⟩ => ⟨dx, m, rs, e _ _ h1 (fun _ z => nomatch z), ext_sqt e h2, ext_tups e h3⟩
theorem ext_of (s : Same H H') : LamX.ExtN H H' := .of s
theorem bar_ne {b : Addr} {o : HO} (hp : H p = some (pailO g x c)) (h : H b = some o) (ho : o ≠ pailO g x c) : b ≠ p := fun z => by
  rw [z, hp] at h
  exact ho (Option.some.inj h).symm
theorem tabs_bar {T : List (Addr × Str)} (hp : H p = some (pailO g x c)) (b : Bar p H H') (t : LamX.Tabs T H) : LamX.Tabs T H' := fun q hq => by
  obtain ⟨ps, h1, h2, h3⟩ := t q hq
  refine ⟨ps, b _ _ (bar_ne hp h1 fun z => nomatch z) h1, h2, fun pos cv hc => ?_⟩
  obtain ⟨c', e1, e2⟩ := h3 pos cv hc
  exact ⟨c', e1, b _ _ (bar_ne hp e2 fun z => nomatch z) e2⟩
/-- all but the pail and the tables stays -/
def Fr (p : Addr) (H H' : Hp) : Prop := ∀ b o, b ≠ p → H b = some o → (∀ ps, o ≠ .tbl ps) → H' b = some o
theorem Fr.trans {A B C : Hp} (a : Fr p A B) (b : Fr p B C) : Fr p A C := fun d o n h k => b d o n (a d o n h k) k
theorem Fr.bar {A B : Hp} (a : Bar p A B) : Fr p A B := fun d o n h _ => a d o n h
theorem Fr.ext {A B : Hp} (a : LamX.ExtN A B) : Fr p A B := fun d o _ h k => a d o h k
theorem ext_pail (e : LamX.ExtN H H') (hp : H p = some (pailO g x c)) : H' p = some (pailO g x c) := e _ _ hp fun _ z => nomatch z
/-- a power is told -/
theorem told_pow {C CM : Addr} {d : Nat} {M : List (List Nat)} {H0 : Hp} {Q : VK} (fin : ∀ H' v, Same H0 H' → Dp K H' v (DueD M) → Q v H') :
    TellL K C CM d M H0 (fun x H1 => ∃ a dx fs, x = V.ref a ∧ H1 a = some (.ins C dx fs) ∧ sp_mem K C [.ref a] H1 Q E0) (Mix K CM Q) := by
  refine ⟨fun hb H' dd s hd => ⟨rfl, dd, _, rfl, hd, fun r hr => ?_⟩, fun hb hm H' dd s hd => ⟨rfl, dd, _, rfl, hd, fun r hr => ?_⟩, fun hb hm H' c s hC => ?_⟩
  · refine fin _ _ (s.trans (same_new hr _)) ?_
    rw [show DueD M = manyD 60 from if_pos hb]
    exact dp_many upd_same
  · refine fin _ _ (s.trans (same_new hr _)) ?_
    rw [show DueD M = manyD 24 by
      unfold DueD
      rw [hb, if_neg (by decide), if_pos hm]]
    exact dp_many upd_same
  · obtain ⟨dx, m, rs, h1, h2, h3⟩ := id hC
    refine ⟨c, dx, _, rfl, h1, c, d, _, rfl, hC, fun m' rs' hm' hT' => fin _ _ s ?_⟩
    rw [show DueD M = .tuple ((M7.leastN M).map encT) by
      unfold DueD
      rw [hb, if_neg (by decide), if_neg (by omega)]]
    exact .tup hm' (dp_tups hT')
end
section
variable {P : Program} {w : World} {K : PySem.W.Frag} {mg : Str → Option Value} {base : Heap}
/-! ### makers of lambdas -/
theorem FunC.okc {x qual : Str} {st : Stmt} {f c : Addr} {fd : FuncData} {N ps : List Str} {k : Nat} {sp : Sp} (F : FunC K x qual st f fd c) (S : FnScope N ps (defScope st)) (len : ∀ vs H Q E, sp vs H Q E → vs.length = ps.length)
    (hbody : ∀ (A : Around) (outer : List Env) (s : Shared) (H : Hp) (vs : List V) (Q : VK) (E : XK), Room k (A.deeper (envOfC qual (defScope st) s.heap.objs.size f (.ref c))) → sp vs H Q E →
      ∃ t, PSs (cxOf CX0 P w K mg base N qual (defScope st) f (.ref c) A outer s H E).nox (defBody st) t ∧ t { nx := fun _ H' => Q .non H', rt := Q } (start N vs) H) : FnOk P w K mg base CX0 (k + 1) f fd ps sp := by
  obtain ⟨oc, od, kV, doc, pm, an, ct, osl, rfl, lk, hcd⟩ := F.ex
  refine fn_of lk hcd S len fun A outer s H vs Q E hr hsp => ?_
  obtain ⟨t, h, q⟩ := hbody A outer s H vs Q E hr hsp
  exact ⟨t, h.nox, q⟩
end
theorem PT.weak' {X : Cx} {e : Expr} {t t' : TT} (h : PT X e t) (i : ∀ σ H Q, t' σ H Q → t σ H Q) : PT X e t' := ⟨fun pins s σ H Q I h' => h.run pins s σ H Q I (i σ H Q h')⟩
theorem PS.weak' {X : Cx} {st : Stmt} {t t' : TS} (h : PS X st t) (i : ∀ D σ H, t' D σ H → t D σ H) : PS X st t' := ⟨fun pins s σ H D I h' => h.run pins s σ H D I (i D σ H h')⟩
theorem PS.ex {X : Cx} {st : Stmt} {α : Type} {t : α → TS} (h : ∀ x, PS X st (t x)) : PS X st (fun D σ H => ∃ x, t x D σ H) := ⟨fun pins s σ H D I ⟨x, h'⟩ => (h x).run pins s σ H D I h'⟩
abbrev EvT := L2.St → Hp → Prop
structure Kept (Ev : EvT) : Prop where
  same : ∀ σ H H', Same H H' → Ev σ H → Ev σ H'
/-- the expression gives a lot in d letters with these least members -/
abbrev tLot (K : PySem.W.Frag) (C : Addr) (Ev : EvT) (d : Nat) (L : List (List Nat)) : TE := fun σ H Q => Ev σ H ∧ ∀ H' a, Same H H' → LotAt K C H' a d L → Q (.ref a) H'
abbrev tNo (Ev : EvT) : TT := fun σ H Q => Ev σ H ∧ ∀ H', Same H H' → Q false H'
abbrev tYesE (Ev : EvT) : TE := fun σ H Q => Ev σ H ∧ ∀ H', Same H H' → Q (.bl true) H'
section
variable {X : Cx} (G : LotsT X.K X.mg) {Ev : EvT} (kp : Kept Ev) {d : Nat} {L M : List (List Nat)} {e e1 e2 : Expr} {es : List Expr} {pos apos : Pos}
theorem pl_var {i : Nat} (h : PE X e (tVar i)) (hv : ∀ σ H, Ev σ H → ∃ a, σ[i]? = some (some (.ref a)) ∧ LotAt X.K G.O.C H a d L) : PE X e (tLot X.K G.O.C Ev d L) := PE.weak h fun σ H Q ⟨ev, q⟩ => by
  obtain ⟨a, ha, hA⟩ := hv σ H ev
  exact ⟨_, ha, q H a (Same.refl H) hA⟩
include kp in
theorem pl_add (hr : Room 8 X.A) (h1 : PE X e1 (tLot X.K G.O.C Ev d L)) (h2 : PE X e2 (tLot X.K G.O.C Ev d M)) (h8 : d ≤ 8) (hf : Few d (L ++ M)) : PE X (.BinOp e1 .Add e2 pos) (tLot X.K G.O.C Ev d (M7.leastN (L ++ M))) := by
  refine PE.weak (pe_op (W7.op_own G.W.first G.W.aA G.W.nA (ok_add G.T G.O G.R G.W) hr G.W.bA pass0) h1 h2) fun σ H Q ⟨ev, q⟩ => ⟨ev, fun H1 a s1 hA => ⟨kp.same _ _ _ s1 ev, fun H2 b s2 hB => ?_⟩⟩
  have hA2 := hA.same s2
  have ia := hA2
  have ib := hB
  obtain ⟨dx, m, rs, a1, _⟩ := ia
  obtain ⟨dy, m', rs', b1, _⟩ := ib
  exact ⟨a, b, dx, dy, _, _, rfl, rfl, a1, b1, a, b, d, L, M, rfl, hA2, hB, h8, hf, fun H3 c s3 _ hC => q H3 c (s1.trans (s2.trans s3)) hC⟩
include kp in
theorem pl_mul (hr : Room 8 X.A) (h1 : PE X e1 (tLot X.K G.O.C Ev d L)) (h2 : PE X e2 (tLot X.K G.O.C Ev d M)) (h8 : d ≤ 8) (hl1 : ∀ t ∈ L, t.length = d) (hl2 : ∀ t ∈ M, t.length = d) (hf : Few d (eachN (· + ·) L M)) : PE X (.BinOp e1 .Mult e2 pos) (tLot X.K G.O.C Ev d (M7.leastN (M7.eachF (· + ·) L M))) := by
  refine PE.weak (pe_op (W7.op_own G.W.first G.Y.aM G.Y.nM (ok_mul G.T G.O G.R G.W G.Y) hr G.Y.bM pass0) h1 h2) fun σ H Q ⟨ev, q⟩ => ⟨ev, fun H1 a s1 hA => ⟨kp.same _ _ _ s1 ev, fun H2 b s2 hB => ?_⟩⟩
  have hA2 := hA.same s2
  have ia := hA2
  have ib := hB
  obtain ⟨dx, m, rs, a1, _⟩ := ia
  obtain ⟨dy, m', rs', b1, _⟩ := ib
  exact ⟨a, b, dx, dy, _, _, rfl, rfl, a1, b1, a, b, d, L, M, rfl, hA2, hB, h8, hl1, hl2, hf, fun H3 c s3 _ hC => q H3 c (s1.trans (s2.trans s3)) hC⟩
include kp in
theorem pl_ne (hr : Room 8 X.A) (h1 : PE X e1 (tLot X.K G.O.C Ev d L)) (h2 : PE X e2 (tLot X.K G.O.C Ev d M)) (heq : L = M) : PT X (.Compare e1 [.NotEq] [e2] pos) (tNo Ev) := by
  refine PT.weak' (pt_cmpR (W7.op_neOwn G.D.hm G.D.hne G.D.aE G.D.nE (ok_eql G.T G.O G.W G.Z) (hr.mono (by decide)) G.Z.bE pass0) h1 h2 (nomark _)) fun σ H Q ⟨ev, q⟩ => ⟨ev, fun H1 a s1 hA => ⟨kp.same _ _ _ s1 ev, fun H2 b s2 hB => ?_⟩⟩
  have hA2 := hA.same s2
  have ia := hA2
  have ib := hB
  obtain ⟨dx, m, rs, a1, _⟩ := ia
  obtain ⟨dy, m', rs', b1, _⟩ := ib
  refine ⟨a, b, dx, dy, _, _, rfl, rfl, a1, b1, a, b, d, d, L, M, rfl, hA2, hB, _, rfl, _, rfl, ?_⟩
  rw [decide_eq_true rfl, decide_eq_true heq]
  exact q H2 (s1.trans s2)
include kp in
theorem pl_eq (hr : Room 8 X.A) (h1 : PE X e1 (tLot X.K G.O.C Ev d L)) (h2 : PE X e2 (tLot X.K G.O.C Ev d M)) (heq : L = M) : PE X (.Compare e1 [.Eq] [e2] pos) (tYesE Ev) := by
  refine PE.weak (pe_cmpR (W7.op_eqOwn G.D.aE G.D.nE (ok_eql G.T G.O G.W G.Z) (hr.mono (by decide)) G.Z.bE pass0) h1 h2 (nomark _)) fun σ H Q ⟨ev, q⟩ => ⟨ev, fun H1 a s1 hA => ⟨kp.same _ _ _ s1 ev, fun H2 b s2 hB => ?_⟩⟩
  have hA2 := hA.same s2
  have ia := hA2
  have ib := hB
  obtain ⟨dx, m, rs, a1, _⟩ := ia
  obtain ⟨dy, m', rs', b1, _⟩ := ib
  refine ⟨a, b, dx, dy, _, _, rfl, rfl, a1, b1, a, b, d, d, L, M, rfl, hA2, hB, ?_⟩
  rw [decide_eq_true rfl, decide_eq_true heq]
  exact q H2 (s1.trans s2)
include kp in
theorem pl_meet (h : PE X e (tMeth G.O.C "meet" (sp_mul X.K G.O.C max) [] E0 (tLot X.K G.O.C Ev d L) (tCons (tLot X.K G.O.C Ev d M) tNil))) (h8 : d ≤ 8) (hl1 : ∀ t ∈ L, t.length = d) (hl2 : ∀ t ∈ M, t.length = d) (hf : Few d (eachN max L M)) : PE X e (tLot X.K G.O.C Ev d (M7.leastN (M7.eachF max L M))) := by
  refine PE.weak h fun σ H Q ⟨ev, q⟩ => ⟨ev, fun H1 a s1 hA => ?_⟩
  have ia := hA
  obtain ⟨dx, m, rs, a1, _⟩ := ia
  refine ⟨a, dx, _, rfl, a1, rfl, kp.same _ _ _ s1 ev, fun H2 b s2 hB => ?_⟩
  exact ⟨a, b, d, L, M, rfl, hA.same s2, hB, h8, hl1, hl2, hf, fun H3 c s3 _ hC => q H3 c (s1.trans (s2.trans s3)) hC⟩
include kp in
theorem no_or (h1 : PT X e1 (tNo Ev)) (h2 : PW X (.BoolOp .Or (e2 :: es) pos) (tNo Ev)) : PW X (.BoolOp .Or (e1 :: e2 :: es) pos) (tNo Ev) := by
  have h := pw_or h1 h2
  refine ⟨fun whole pins s σ H Q I ⟨ev, q⟩ => h.run whole pins s σ H Q I ⟨ev, fun H1 s1 => ?_⟩⟩
  exact iteF ⟨kp.same _ _ _ s1 ev, fun H2 s2 => q H2 (s1.trans s2)⟩
include kp in
theorem yes_and (h1 : PE X e1 (tYesE Ev)) (h2 : PE X (.BoolOp .And (e2 :: es) pos) (tYesE Ev)) : PE X (.BoolOp .And (e1 :: e2 :: es) pos) (tYesE Ev) :=
  PE.weak (pe_and h1 h2) fun σ H Q ⟨ev, q⟩ => ⟨ev, fun H1 s1 => ⟨_, rfl, iteT ⟨kp.same _ _ _ s1 ev, fun H2 s2 => q H2 (s1.trans s2)⟩⟩⟩
include kp in
theorem ps_ifNo {body : List Stmt} {tb : TS} (h : PT X e (tNo Ev)) (hb : PSs X body tb) : PS X (.If e body [] pos) (fun D σ H => Ev σ H ∧ ∀ H', Same H H' → D.nx σ H') :=
  PS.weak' (ps_if h hb pss_nil) fun D σ H ⟨ev, q⟩ => ⟨ev, fun H1 s1 => iteF (q H1 s1)⟩
end
theorem few_lt {d n m : Nat} {L : List (List Nat)} (h1 : 1 ≤ d) (hl : ∀ t ∈ L, t.length = d) (hm : ∀ t ∈ L, ∀ e ∈ t, e ≤ m) (hn : L.length ≤ n) (hm' : m ≤ 60) (hn' : n ≤ 24) : Few d L := ⟨h1, hl, fun t ht e he => Nat.le_trans (hm t ht e he) hm', by omega, Nat.le_trans (M7.least_short L) (by omega)⟩
theorem few_addL {d n k m : Nat} {L M : List (List Nat)} (h1 : 1 ≤ d) (a : M7.Lt d n m L) (b : M7.Lt d k m M) (hm : m ≤ 60) (hn : n + k ≤ 24) : Few d (L ++ M) := few_lt h1 (M7.len_app a.len b.len) (M7.low_app a.low b.low) (by rw [List.length_append]; exact Nat.add_le_add a.few b.few) hm hn
theorem few_eachL {d n k m j : Nat} {f : Nat → Nat → Nat} {L M : List (List Nat)} (hf : M7.Op f) (h1 : 1 ≤ d) (a : M7.Lt d n m L) (b : M7.Lt d k j M) (hm : m + j ≤ 60) (hn : n * k ≤ 24) : Few d (eachN f L M) := few_lt h1 (M7.len_each a.len b.len) (M7.low_each hf a.low b.low) (by rw [M7.count_each]; exact Nat.mul_le_mul a.few b.few) hm hn
section
variable {X : Cx} (G : LotsT X.K X.mg) {Ev : EvT} (kp : Kept Ev) {d n m j : Nat} {L : List (List Nat)} {t : List Nat} {e : Expr}
include kp in
theorem pl_quot (h : PE X e (tMeth G.O.C "quotient" (sp_quot X.K G.O.C) [] E0 (tLot X.K G.O.C Ev d L) (tCons (tVar j) tNil))) (hx : ∀ σ H, Ev σ H → ∃ x, σ[j]? = some (some (.ref x)) ∧ SqT X.K H x (nv t)) (htl : t.length = d) (h60 : ∀ e ∈ t, e ≤ 60) (h1 : 1 ≤ d) (h8 : d ≤ 8) (hL : M7.Lt d n m L) (hn : n ≤ 24) (hm : m ≤ 60) : PE X e (tLot X.K G.O.C Ev d (M7.leastN (M8.qN L t))) := by
  refine PE.weak h fun σ H Q ⟨ev, q⟩ => ⟨ev, fun H1 a s1 hA => ?_⟩
  obtain ⟨dx, m', rs, a1, _⟩ := id hA
  obtain ⟨x, hs, hx1⟩ := hx σ H1 (kp.same _ _ _ s1 ev)
  refine ⟨a, dx, _, rfl, a1, rfl, _, hs, ?_⟩
  exact ⟨a, x, d, L, t, rfl, hA, hx1, htl, h1, h8, h60, hL.len, fun u hu e he => Nat.le_trans (hL.low u hu e he) hm, Nat.le_trans hL.few hn, fun H3 c s3 hC => q H3 c (s1.trans s3) hC⟩
/-- a power that is no too great one -/
theorem pl_pow {k : Int} {kk : Nat} (hk : k = ((kk : Nat) : Int)) (h : PE X e (tMeth G.O.C "power" (sp_pow X.K G.O.C G.T.C_TooMany) [] E0 (tLot X.K G.O.C Ev d L) (tCons (tC (.int k)) tNil))) (h1 : 1 ≤ d) (h8 : d ≤ 8) (hL : M7.Lt d n m L) (hn : n ≤ 4) (hm : kk * m ≤ 60) (hm2 : m ≤ 60) (hk4 : kk ≤ 4) (h24 : (M7.leastN (M8.pwN d L kk)).length ≤ 24) : PE X e (tLot X.K G.O.C Ev d (M7.leastN (M8.pwN d L kk))) := by
  subst hk
  refine PE.weak h fun σ H Q ⟨ev, q⟩ => ⟨ev, fun H1 a s1 hA => ?_⟩
  obtain ⟨dx, m', rs, a1, _⟩ := id hA
  have nb : bigB (M8.pwN d L kk) = false := big_no fun t ht e he => Nat.le_trans (M8.low_pw hL.low kk t ht e he) hm
  refine ⟨a, dx, _, rfl, a1, rfl, ?_⟩
  exact ⟨a, d, L, kk, rfl, hA, h1, h8, hL.len, fun u hu e he => Nat.le_trans (hL.low u hu e he) hm2, Nat.le_trans hL.few hn, hk4, fun hb => (by rw [nb] at hb; cases hb), fun _ h => absurd h24 (by omega), fun _ _ H3 c s3 hC => q H3 c (s1.trans s3) hC⟩
end
theorem lt_q {d n m : Nat} {L : List (List Nat)} {t : List Nat} (hL : M7.Lt d n m L) (ht : t.length = d) : M7.Lt d n m (M7.leastN (M8.qN L t)) := .of (M8.len_q hL.len ht) (q_low hL.low) (by rw [List.length_map]; exact hL.few)
end K08

namespace K08
open PySem PySem.Spec PyProof.Rows L2 RZ L5 R7 XX
section
variable {P : Program} {w : World} {K : PySem.W.Frag} {mg : Str → Option Value} {base : Heap}
/-! ### _law_right, statement by statement -/
abbrev XR (P : Program) (w : World) (base : Heap) (G : LotsT K mg) (A : Around) (outer : List Env) (s : Shared) (H : Hp) (E : XK) : Cx := (cxOf CX0 P w K mg base N_w_right "_law_right" (defScope s_w_right) G.T.a_w_right (.ref G.T.c_w_right) A outer s H E).nox
abbrev stR (i : Nat) : Stmt := (defBody s_w_right).getD i (.Pass ⟨0, 0, 0, 0⟩)
variable {G : LotsT K mg} {A : Around} {outer : List Env} {s : Shared} {H : Hp} {E : XK}
def EvR (K : PySem.W.Frag) (C : Addr) (d : Nat) (L M : List (List Nat)) (t : List Nat) : EvT := fun σ H => ∃ a b x : Addr, σ[7]? = some (some (.ref a)) ∧ σ[2]? = some (some (.ref b)) ∧ σ[3]? = some (some (.ref x)) ∧ LotAt K C H a d L ∧ LotAt K C H b d M ∧ SqT K H x (nv t)
theorem kpR {C : Addr} {d : Nat} {L M : List (List Nat)} {t : List Nat} : Kept (EvR K C d L M t) := ⟨fun σ H H' s ⟨a, b, x, h1, h2, h3, h4, h5, h6⟩ => ⟨a, b, x, h1, h2, h3, h4.same s, h5.same s, same_sqt s h6⟩⟩
variable {d : Nat} {L M : List (List Nat)} {t : List Nat}
theorem st_sum (hr : Room 10 (XR P w base G A outer s H E).A) (h1 : 1 ≤ d) (h8 : d ≤ 8) (hL : M7.Lt d 4 8 L) (hM : M7.Lt d 4 8 M) (htl : t.length = d) (ht : ∀ e ∈ t, e ≤ 8) :
    PS (XR P w base G A outer s H E) (stR 4) (fun D σ H => EvR K G.O.C d L M t σ H ∧ ∀ H', Same H H' → D.nx σ H') := by
  have hr8 : Room 8 (XR P w base G A outer s H E).A := hr.mono (by decide)
  have hx : ∀ σ H, EvR K G.O.C d L M t σ H → ∃ x, σ[3]? = some (some (.ref x)) ∧ SqT K H x (nv t) := fun σ H ⟨a, b, x, _, _, h3, _, _, h6⟩ => ⟨x, h3, h6⟩
  have v7 : ∀ σ H, EvR K G.O.C d L M t σ H → ∃ a, σ[7]? = some (some (.ref a)) ∧ LotAt K G.O.C H a d L := fun σ H ⟨a, b, x, h1, _, _, h4, _, _⟩ => ⟨a, h1, h4⟩
  have v2 : ∀ σ H, EvR K G.O.C d L M t σ H → ∃ a, σ[2]? = some (some (.ref a)) ∧ LotAt K G.O.C H a d M := fun σ H ⟨a, b, x, _, h2, _, _, h5, _⟩ => ⟨b, h2, h5⟩
  have t60 : ∀ e ∈ t, e ≤ 60 := fun e he => Nat.le_trans (ht e he) (by decide)
  exact ps_ifNo (X := XR P w base G A outer s H E) kpR (pl_ne (X := XR P w base G A outer s H E) G kpR hr8
      (pl_quot (X := XR P w base G A outer s H E) G kpR (pe_meth (pl_add (X := XR P w base G A outer s H E) G kpR hr8 (pl_var (X := XR P w base G A outer s H E) G (pv 7) v7) (pl_var (X := XR P w base G A outer s H E) G (pv 2) v2) h8 (few_addL h1 hL hM (by decide) (by decide))) G.O.cl G.B.mQ (ok_quot G.T G.O G.B) hr8 G.B.bQ .nil pass0 (pa_cons (pv 3) pa_nil)) hx htl t60 h1 h8 (hL.add hM) (by decide) (by decide))
      (pl_add (X := XR P w base G A outer s H E) G kpR hr8 (pl_quot (X := XR P w base G A outer s H E) G kpR (pe_meth (pl_var (X := XR P w base G A outer s H E) G (pv 7) v7) G.O.cl G.B.mQ (ok_quot G.T G.O G.B) hr8 G.B.bQ .nil pass0 (pa_cons (pv 3) pa_nil)) hx htl t60 h1 h8 hL (by decide) (by decide))
        (pl_quot (X := XR P w base G A outer s H E) G kpR (pe_meth (pl_var (X := XR P w base G A outer s H E) G (pv 2) v2) G.O.cl G.B.mQ (ok_quot G.T G.O G.B) hr8 G.B.bQ .nil pass0 (pa_cons (pv 3) pa_nil)) hx htl t60 h1 h8 hM (by decide) (by decide)) h8 (few_addL h1 (lt_q hL htl) (lt_q hM htl) (by decide) (by decide)))
      (M8.q_add hL.len hM.len htl)) (pss_one (ps_ret pe_bl))
theorem st_meet (hr : Room 10 (XR P w base G A outer s H E).A) (h1 : 1 ≤ d) (h8 : d ≤ 8) (hL : M7.Lt d 4 8 L) (hM : M7.Lt d 4 8 M) (htl : t.length = d) (ht : ∀ e ∈ t, e ≤ 8) :
    PS (XR P w base G A outer s H E) (stR 5) (fun D σ H => EvR K G.O.C d L M t σ H ∧ ∀ H', Same H H' → D.nx σ H') := by
  have hr8 : Room 8 (XR P w base G A outer s H E).A := hr.mono (by decide)
  have hx : ∀ σ H, EvR K G.O.C d L M t σ H → ∃ x, σ[3]? = some (some (.ref x)) ∧ SqT K H x (nv t) := fun σ H ⟨a, b, x, _, _, h3, _, _, h6⟩ => ⟨x, h3, h6⟩
  have v7 : ∀ σ H, EvR K G.O.C d L M t σ H → ∃ a, σ[7]? = some (some (.ref a)) ∧ LotAt K G.O.C H a d L := fun σ H ⟨a, b, x, h1, _, _, h4, _, _⟩ => ⟨a, h1, h4⟩
  have v2 : ∀ σ H, EvR K G.O.C d L M t σ H → ∃ a, σ[2]? = some (some (.ref a)) ∧ LotAt K G.O.C H a d M := fun σ H ⟨a, b, x, _, h2, _, _, h5, _⟩ => ⟨b, h2, h5⟩
  have t60 : ∀ e ∈ t, e ≤ 60 := fun e he => Nat.le_trans (ht e he) (by decide)
  exact ps_ifNo (X := XR P w base G A outer s H E) kpR (pl_ne (X := XR P w base G A outer s H E) G kpR hr8
      (pl_quot (X := XR P w base G A outer s H E) G kpR (pe_meth (pl_meet (X := XR P w base G A outer s H E) G kpR (pe_meth (pl_var (X := XR P w base G A outer s H E) G (pv 7) v7) G.O.cl G.V.mX (ok_meet G.T G.O G.R G.W G.V) hr8 G.V.bX .nil pass0 (pa_cons (pl_var (X := XR P w base G A outer s H E) G (pv 2) v2) pa_nil)) h8 hL.len hM.len (few_eachL M7.op_max h1 hL hM (by decide) (by decide))) G.O.cl G.B.mQ (ok_quot G.T G.O G.B) hr8 G.B.bQ .nil pass0 (pa_cons (pv 3) pa_nil)) hx htl t60 h1 h8 (M7.Lt.each M7.op_max hL hM) (by decide) (by decide))
      (pl_meet (X := XR P w base G A outer s H E) G kpR (pe_meth (pl_quot (X := XR P w base G A outer s H E) G kpR (pe_meth (pl_var (X := XR P w base G A outer s H E) G (pv 7) v7) G.O.cl G.B.mQ (ok_quot G.T G.O G.B) hr8 G.B.bQ .nil pass0 (pa_cons (pv 3) pa_nil)) hx htl t60 h1 h8 hL (by decide) (by decide)) G.O.cl G.V.mX (ok_meet G.T G.O G.R G.W G.V) hr8 G.V.bX .nil pass0
        (pa_cons (pl_quot (X := XR P w base G A outer s H E) G kpR (pe_meth (pl_var (X := XR P w base G A outer s H E) G (pv 2) v2) G.O.cl G.B.mQ (ok_quot G.T G.O G.B) hr8 G.B.bQ .nil pass0 (pa_cons (pv 3) pa_nil)) hx htl t60 h1 h8 hM (by decide) (by decide)) pa_nil)) h8 (lt_q hL htl).len (lt_q hM htl).len (few_eachL M7.op_max h1 (lt_q hL htl) (lt_q hM htl) (by decide) (by decide)))
      (M8.q_meet hL.len hM.len htl)) (pss_one (ps_ret pe_bl))
/-- what the loops go from -/
def EvP (K : PySem.W.Frag) (C : Addr) (i : Nat) (d : Nat) (L : List (List Nat)) (σ0 : L2.St) (H0 : Hp) : L2.St → Hp → Prop := fun σ H => ∃ v8 : Option V, σ = σ0.set 8 v8 ∧ LamX.ExtN H0 H ∧ LamX.Tabs TB8 H
theorem st_lot (hr : Room 10 (XR P w base G A outer s H E).A) (TB : LamX.TabB base mg G.T.c_w_right tR) (h1 : 1 ≤ d) (h8 : d ≤ 8) (hL : M7.Lt d 4 8 L) :
    PS (XR P w base G A outer s H E) (stR 6) (fun D σ H => ∃ a : Addr, σ.length = 10 ∧ σ[7]? = some (some (.ref a)) ∧ σ[1]? = some (some (.int ((d : Nat) : Int))) ∧ LotAt K G.O.C H a d L ∧ LamX.Tabs TB8 H ∧ ∀ H' v8, LamX.ExtN H H' → LamX.Tabs TB8 H' → D.nx (σ.set 8 v8) H') := by
  obtain ⟨ocT, odT, kVT, docT, pmT, anT, cdvT, ctT, oslT, dT, lkT, cdT⟩ := G.T.F_w_told.ex
  rw [dT] at lkT
  refine PS.weak' (ps_for (X := XR P w base G A outer s H E) PassesOwn.never rfl (pi_range1 rfl G.T.z_range (pa_cons pe_int pa_nil)) (pg_name (i := 8) sc_w_right.nd rfl (Or.inr rfl))
    (pss_one (ps_if (pt_cmpR (op_neD hr.units) (LamX.pe_lamcall (X := XR P w base G A outer s H E) (T := TB8) (TT := TToldM K G.O.C G.T.C_TooMany) (Ng := N_w_told) (by rfl) G.T.m_w_told G.T.F_w_told.kp lkT cdT (dT ▸ G.T.b_w_told) sc_w_told rfl (Or.inl rfl)
        (told_givesM (X := XR P w base G A outer s H E) G (hr.mono (by decide))) TB rfl (show (tR, qR) ∈ TB8 from List.mem_cons_self) uniqR hr (LamX.lamS_by (show LamX.lamSB (defScope s_w_right) _ = true by decide +kernel)) (by rfl) (fun _ _ _ _ _ => by rfl)
        (fun A' outer' s' H' E' f' c' hr' => pe_meth (E := E') (pv 7) G.O.cl G.B.mP (ok_pow G.T G.O G.B) hr' G.B.bP .nil (passes_call (takes_of rfl rfl rfl rfl) fun _ _ _ _ z => z) (pa_cons (pv 8) pa_nil)))
      (pe_call (E := E0) (ok_wpow G.T) (hr.mono (by decide)) (by rfl) G.T.m_w_power G.T.F_w_power.kp G.T.b_w_power .nil pass0 (pa_cons (pe_prop (E := E0) (pv 7) G.O.cl G.R.PM (ok_mem G.O G.R) (hr.mono (by decide)) G.R.bM .nil pass0 rfl) (pa_cons (pv 1) (pa_cons (pv 8) pa_nil)))) (nomark _)) (pss_one (ps_ret pe_bl)) pss_nil))) ?_
  rintro D σ H0 ⟨a, hl, h7, hs1, hA, tab, nx⟩
  refine ⟨_, rfl, by omega, by omega, ?_⟩
  refine for_range (lo := 0) (n := (5 : Int).toNat) (fun i σ' H' => ∃ v8 : Option V, σ' = σ.set 8 v8 ∧ LamX.ExtN H0 H' ∧ LamX.Tabs TB8 H') ⟨σ.getD 8 none, ?_, LamX.ExtN.refl _, tab⟩ (fun i σ' H' hi h => ?_) (fun σ' H' h => ?_)
  · refine List.ext_getElem? fun j => ?_
    by_cases hj : j = 8
    · subst hj
      rw [List.getElem?_set_self (by omega), List.getD_eq_getElem?_getD, List.getElem?_eq_getElem (by omega)]
      rfl
    · rw [List.getElem?_set_ne (Ne.symm hj)]
  · obtain ⟨v8, rfl, e0, t0⟩ := h
    have hi5 : i < 5 := hi
    have g7 : ((σ.set 8 v8).set 8 (some (V.int (0 + ((i : Nat) : Int)))))[7]? = some (some (.ref a)) := by
      rw [List.getElem?_set_ne (by decide), List.getElem?_set_ne (by decide)]
      exact h7
    have g1 : ((σ.set 8 v8).set 8 (some (V.int (0 + ((i : Nat) : Int)))))[1]? = some (some (.int ((d : Nat) : Int))) := by
      rw [List.getElem?_set_ne (by decide), List.getElem?_set_ne (by decide)]
      exact hs1
    have g8 : ((σ.set 8 v8).set 8 (some (V.int (0 + ((i : Nat) : Int)))))[8]? = some (some (.int ((i : Nat) : Int))) := by
      rw [List.getElem?_set_self (by rw [List.length_set]; omega), Int.zero_add]
    refine ⟨t0, fun H1 e1 t1 => ?_⟩
    have hA1 := ext_lot (e0.trans e1) hA
    obtain ⟨dx, m, rs, a1, _⟩ := id hA1
    have low : ∀ u ∈ L, ∀ e ∈ u, e ≤ 60 := fun u hu e he => Nat.le_trans (hL.low u hu e he) (by decide)
    refine ⟨_, g7, a, dx, _, rfl, a1, rfl, _, g8, a, d, L, i, rfl, hA1, h1, h8, hL.len, low, hL.few, by omega, told_pow fun H2 v s2 hv => ?_⟩
    have hA2 := hA1.same s2
    obtain ⟨dy, m2, rs2, b1, _⟩ := id hA2
    refine ⟨_, g7, a, dy, _, rfl, b1, a, d, L, rfl, hA2, fun m' rs' hm' hT' => ⟨_, g1, _, g8, m', rs', L, d, i, rfl, hm', hT', hL.len, hL.own, hL.few, low, h1, h8, by omega, fun H3 v2 s3 hv2 => ?_⟩⟩
    refine ⟨_, _, dp_same s3 hv, hv2, shaped_due _, shaped_due _, _, rfl, ?_⟩
    rw [eqv_due]
    exact iteF ⟨some (V.int (0 + ((i : Nat) : Int))), by rw [List.set_set], (e0.trans e1).trans (ext_of (s2.trans s3)), t1.ext (s2.trans s3)⟩
  · obtain ⟨v8, rfl, e0, t0⟩ := h
    exact nx H' v8 e0 t0
end
end K08

namespace K08
open PySem PySem.Spec PyProof.Rows L2 RZ L5 R7 XX
section
variable {P : Program} {w : World} {K : PySem.W.Frag} {mg : Str → Option Value} {base : Heap}
variable {G : LotsT K mg} {A : Around} {outer : List Env} {s : Shared} {H : Hp} {E : XK}
variable {d : Nat} {L M : List (List Nat)} {t : List Nat}
theorem st_great (hr : Room 10 (XR P w base G A outer s H E).A) (TB : LamX.TabB base mg G.T.c_w_right tR) (h1 : 1 ≤ d) (h8 : d ≤ 8) (hL : M7.Lt d 4 16 L) :
    PS (XR P w base G A outer s H E) (stR 9) (fun D σ H => ∃ a : Addr, σ.length = 10 ∧ σ[6]? = some (some (.ref a)) ∧ σ[1]? = some (some (.int ((d : Nat) : Int))) ∧ LotAt K G.O.C H a d L ∧ LamX.Tabs TB8 H ∧ ∀ H' v8, LamX.ExtN H H' → LamX.Tabs TB8 H' → D.nx (σ.set 8 v8) H') := by
  obtain ⟨ocT, odT, kVT, docT, pmT, anT, cdvT, ctT, oslT, dT, lkT, cdT⟩ := G.T.F_w_told.ex
  rw [dT] at lkT
  refine PS.weak' (ps_for (X := XR P w base G A outer s H E) PassesOwn.never rfl (pi_range2 rfl G.T.z_range (pa_cons pe_int (pa_cons pe_int pa_nil))) (pg_name (i := 8) sc_w_right.nd rfl (Or.inr rfl))
    (pss_one (ps_if (pt_cmpR (op_neD hr.units) (LamX.pe_lamcall (X := XR P w base G A outer s H E) (T := TB8) (TT := TToldM K G.O.C G.T.C_TooMany) (Ng := N_w_told) (by rfl) G.T.m_w_told G.T.F_w_told.kp lkT cdT (dT ▸ G.T.b_w_told) sc_w_told rfl (Or.inl rfl)
        (told_givesM (X := XR P w base G A outer s H E) G (hr.mono (by decide))) TB rfl (show (tR, qR) ∈ TB8 from List.mem_cons_self) uniqR hr (LamX.lamS_by (show LamX.lamSB (defScope s_w_right) _ = true by decide +kernel)) (by rfl) (fun _ _ _ _ _ => by rfl)
        (fun A' outer' s' H' E' f' c' hr' => pe_meth (E := E') (pv 6) G.O.cl G.B.mP (ok_pow G.T G.O G.B) hr' G.B.bP .nil (passes_call (takes_of rfl rfl rfl rfl) fun _ _ _ _ z => z) (pa_cons (pv 8) pa_nil)))
      (pe_call (E := E0) (ok_wpow G.T) (hr.mono (by decide)) (by rfl) G.T.m_w_power G.T.F_w_power.kp G.T.b_w_power .nil pass0 (pa_cons (pe_prop (E := E0) (pv 6) G.O.cl G.R.PM (ok_mem G.O G.R) (hr.mono (by decide)) G.R.bM .nil pass0 rfl) (pa_cons (pv 1) (pa_cons (pv 8) pa_nil)))) (nomark _)) (pss_one (ps_ret pe_bl)) pss_nil))) ?_
  rintro D σ H0 ⟨a, hl, h7, hs1, hA, tab, nx⟩
  refine ⟨_, _, rfl, ⟨by decide, by decide, by decide, by decide⟩, ?_⟩
  refine for_range (lo := 1) (n := ((5 : Int) - 1).toNat) (fun i σ' H' => ∃ v8 : Option V, σ' = σ.set 8 v8 ∧ LamX.ExtN H0 H' ∧ LamX.Tabs TB8 H') ⟨σ.getD 8 none, ?_, LamX.ExtN.refl _, tab⟩ (fun i σ' H' hi h => ?_) (fun σ' H' h => ?_)
  · refine List.ext_getElem? fun j => ?_
    by_cases hj : j = 8
    · subst hj
      rw [List.getElem?_set_self (by omega), List.getD_eq_getElem?_getD, List.getElem?_eq_getElem (by omega)]
      rfl
    · rw [List.getElem?_set_ne (Ne.symm hj)]
  · obtain ⟨v8, rfl, e0, t0⟩ := h
    have hi4 : i < 4 := hi
    have g7 : ((σ.set 8 v8).set 8 (some (V.int (1 + ((i : Nat) : Int)))))[6]? = some (some (.ref a)) := by
      rw [List.getElem?_set_ne (by decide), List.getElem?_set_ne (by decide)]
      exact h7
    have g1 : ((σ.set 8 v8).set 8 (some (V.int (1 + ((i : Nat) : Int)))))[1]? = some (some (.int ((d : Nat) : Int))) := by
      rw [List.getElem?_set_ne (by decide), List.getElem?_set_ne (by decide)]
      exact hs1
    have g8 : ((σ.set 8 v8).set 8 (some (V.int (1 + ((i : Nat) : Int)))))[8]? = some (some (.int (((i + 1 : Nat)) : Int))) := by
      rw [List.getElem?_set_self (by rw [List.length_set]; omega), show (1 : Int) + ((i : Nat) : Int) = (((i + 1 : Nat)) : Int) by omega]
    refine ⟨t0, fun H1 e1 t1 => ?_⟩
    have hA1 := ext_lot (e0.trans e1) hA
    obtain ⟨dx, m, rs, a1, _⟩ := id hA1
    have low : ∀ u ∈ L, ∀ e ∈ u, e ≤ 60 := fun u hu e he => Nat.le_trans (hL.low u hu e he) (by decide)
    refine ⟨_, g7, a, dx, _, rfl, a1, rfl, _, g8, a, d, L, i + 1, rfl, hA1, h1, h8, hL.len, low, hL.few, by omega, told_pow fun H2 v s2 hv => ?_⟩
    have hA2 := hA1.same s2
    obtain ⟨dy, m2, rs2, b1, _⟩ := id hA2
    refine ⟨_, g7, a, dy, _, rfl, b1, a, d, L, rfl, hA2, fun m' rs' hm' hT' => ⟨_, g1, _, g8, m', rs', L, d, i + 1, rfl, hm', hT', hL.len, hL.own, hL.few, low, h1, h8, by omega, fun H3 v2 s3 hv2 => ?_⟩⟩
    refine ⟨_, _, dp_same s3 hv, hv2, shaped_due _, shaped_due _, _, rfl, ?_⟩
    rw [eqv_due]
    exact iteF ⟨some (V.int (1 + ((i : Nat) : Int))), by rw [List.set_set], (e0.trans e1).trans (ext_of (s2.trans s3)), t1.ext (s2.trans s3)⟩
  · obtain ⟨v8, rfl, e0, t0⟩ := h
    exact nx H' v8 e0 t0
theorem pe_retE {X : Cx} {e : Expr} {te : TE} {pos : Pos} (h : PE X e te) : PS X (.Return (some e) pos) (fun D σ H => te σ H D.rt) := PS.weak' (ps_ret h) fun _ _ _ q => q
def EvF (K : PySem.W.Frag) (C : Addr) (d : Nat) (L F : List (List Nat)) : EvT := fun σ H => ∃ a f g : Addr, σ[7]? = some (some (.ref a)) ∧ σ[5]? = some (some (.ref f)) ∧ σ[6]? = some (some (.ref g)) ∧ LotAt K C H a d L ∧ LotAt K C H f d F ∧ LotAt K C H g d (M7.leastN (M7.eachF (· + ·) F F))
theorem kpF {C : Addr} {d : Nat} {L F : List (List Nat)} : Kept (EvF K C d L F) := ⟨fun σ H H' s ⟨a, f, g, h1, h2, h3, h4, h5, h6⟩ => ⟨a, f, g, h1, h2, h3, h4.same s, h5.same s, h6.same s⟩⟩
theorem st_end (hr : Room 10 (XR P w base G A outer s H E).A) (h1 : 1 ≤ d) (h8 : d ≤ 8) (hL : M7.Lt d 4 8 L) (hM : M7.Lt d 2 8 M) :
    PS (XR P w base G A outer s H E) (stR 10) (fun D σ H => EvF K G.O.C d L M σ H ∧ ∀ H', Same H H' → D.rt (.bl true) H') := by
  have hr8 : Room 8 (XR P w base G A outer s H E).A := hr.mono (by decide)
  have v7 : ∀ σ H, EvF K G.O.C d L M σ H → ∃ a, σ[7]? = some (some (.ref a)) ∧ LotAt K G.O.C H a d L := fun σ H ⟨a, b, x, h1, _, _, h4, _, _⟩ => ⟨a, h1, h4⟩
  have v5 : ∀ σ H, EvF K G.O.C d L M σ H → ∃ a, σ[5]? = some (some (.ref a)) ∧ LotAt K G.O.C H a d M := fun σ H ⟨a, b, x, _, h2, _, _, h5, _⟩ => ⟨b, h2, h5⟩
  have v6 : ∀ σ H, EvF K G.O.C d L M σ H → ∃ a, σ[6]? = some (some (.ref a)) ∧ LotAt K G.O.C H a d (M7.leastN (M7.eachF (· + ·) M M)) := fun σ H ⟨a, b, x, _, _, h3, _, _, h6⟩ => ⟨x, h3, h6⟩
  have p1 : M7.leastN (M8.pwN d L 1) = L := by rw [← M8.wl_pw hL.len hL.own, M8.wl_one hL.len hL.own]
  have p2 : M7.leastN (M8.pwN d M 2) = M7.leastN (M7.eachF (· + ·) M M) := by rw [← M8.wl_pw hM.len hM.own, M8.wl_two hM.len hM.own]
  have k2 := (M7.Lt.each M7.op_add hM hM).few
  exact PS.weak' (ps_ret (yes_and (X := XR P w base G A outer s H E) kpF
    (pl_eq (X := XR P w base G A outer s H E) G kpF hr8 (pl_pow (X := XR P w base G A outer s H E) G (kk := 1) rfl (pe_meth (E := E0) (pl_var (X := XR P w base G A outer s H E) G (pv 7) v7) G.O.cl G.B.mP (ok_pow G.T G.O G.B) hr8 G.B.bP .nil passG (pa_cons pe_int pa_nil)) h1 h8 hL (by decide) (by decide) (by decide) (by decide) (by rw [p1]; exact Nat.le_trans hL.few (by decide))) (pl_var (X := XR P w base G A outer s H E) G (pv 7) v7) p1)
    (pe_one (pl_eq (X := XR P w base G A outer s H E) G kpF hr8 (pl_pow (X := XR P w base G A outer s H E) G (kk := 2) rfl (pe_meth (E := E0) (pl_var (X := XR P w base G A outer s H E) G (pv 5) v5) G.O.cl G.B.mP (ok_pow G.T G.O G.B) hr8 G.B.bP .nil passG (pa_cons pe_int pa_nil)) h1 h8 hM (by decide) (by decide) (by decide) (by decide) (by rw [p2]; exact Nat.le_trans k2 (by decide))) (pl_var (X := XR P w base G A outer s H E) G (pv 6) v6) p2)))) fun D σ H q => q
end
end K08

namespace K08
open PySem PySem.Spec PyProof.Rows L2 RZ L5 R7 XX
structure Da (d : Nat) where
  L : List (List Nat)
  M : List (List Nat)
  t : List Nat
  h1 : 1 ≤ d
  h8 : d ≤ 8
  hL : M7.Lt d 4 8 L
  hM : M7.Lt d 4 8 M
  htl : t.length = d
  ht : ∀ e ∈ t, e ≤ 8
structure Db (d : Nat) where
  L : List (List Nat)
  F : List (List Nat)
  h1 : 1 ≤ d
  h8 : d ≤ 8
  hL : M7.Lt d 4 8 L
  hF : M7.Lt d 2 8 F
section
variable {P : Program} {w : World} {K : PySem.W.Frag} {mg : Str → Option Value} {base : Heap}
def sp_right : Sp := fun vs H Q _ => ∃ p, ∃ g x c : Int, vs = [.ref p] ∧ H p = some (pailO g x c) ∧ LamX.Tabs TB8 H ∧ ∀ H' g x c, Fr p H H' → H' p = some (pailO g x c) → LamX.Tabs TB8 H' → Q (.bl true) H'
theorem tabs_same {H H' : Hp} (s : Same H H') (t : LamX.Tabs TB8 H) : LamX.Tabs TB8 H' := t.ext s
theorem ok_right (G : LotsT K mg) (TB : LamX.TabB base mg G.T.c_w_right tR) : FnOk P w K mg base CX0 11 G.T.a_w_right G.T.d_w_right ["_law_pail_here"] sp_right := by
  refine G.T.G_w_right.okc sc_w_right (fun vs H Q E h => ?_) (fun A outer s H vs Q E hr h => ?_)
  · obtain ⟨p, g, x, c, rfl, _⟩ := h
    rfl
  · obtain ⟨p, g, x, c, rfl, hp, tab, q⟩ := h
    refine ⟨_, pss_cons (ps_set (i := 1) sc_w_right.nd rfl (Or.inr rfl) (PE.weak (t' := fun σ' H' Q' => σ' = L2.start N_w_right [.ref p] ∧ H' = H ∧ ∀ (d : Nat) (g x c : Int), 1 ≤ d → d ≤ 8 → Q' (.int ((d : Nat) : Int)) (upd H p (pailO g x c))) (pe_op op_add pe_int (pe_call (E := E0) (ok_dip G.T) (hr.mono (by decide)) (by rfl) G.T.m_w_dipped G.T.F_w_dipped.kp G.T.b_w_dipped .nil pass0 (pa_cons (pv 0) (pa_cons pe_int pa_nil)))) (fun σ' H' Q' ⟨e1, e2, k⟩ => by
        rw [e1, e2]
        refine ⟨_, rfl, p, 5, g, x, c, rfl, hp, by decide, by decide, fun g1 x1 c1 r hr0 hr1 => ?_⟩
        obtain ⟨n, rfl⟩ := nat_of hr0
        refine ⟨_, _, rfl, rfl, ?_⟩
        have := k (n + 1) g1 x1 c1 (by omega) (by omega)
        rw [show (((n + 1 : Nat)) : Int) = 1 + ((n : Nat) : Int) by omega] at this
        exact this)))
      (pss_cons (ps_asg (pe_lc (own := [("_law_turn", 9)]) (g := gName 9) (tt := tYes) rfl sc_w_right.nd (pi_range1 rfl G.T.z_range (pa_cons pe_int pa_nil)) (blkOk_by (own := [("_law_turn", 9)]) (N := N_w_right) (sc := defScope s_w_right) (by decide +kernel))
          (fun _ _ _ _ _ => pg_name (i := 9) sc_w_right.nd rfl (Or.inl rfl)) (fun _ _ _ _ _ => pts_nil)
          (fun _ _ _ _ _ => pe_make G.O.M (ok_init G.T G.O) (hr.mono (by decide)) rfl G.O.gC G.O.bI .nil pass0 (pa_cons (pv 1) (pa_cons (pe_call (E := E0) (ok_wprods G.T) (hr.mono (by decide)) (by rfl) G.T.m_w_products G.T.F_w_products.kp G.T.b_w_products .nil pass0 (pa_cons (pv 0) (pa_cons (pv 1) (pa_cons pe_int (pa_cons pe_int pa_nil))))) pa_nil))))
        (pg_lst (by rfl) (pgs_cons (pg_name (i := 7) sc_w_right.nd rfl (Or.inr rfl)) (pgs_cons (pg_name (i := 2) sc_w_right.nd rfl (Or.inl rfl)) pgs_nil))))
      (pss_cons (ps_par (i := 3) (j := 4) (by rfl) sc_w_right.nd rfl rfl (by decide) rfl rfl (pa_cons (pe_call (E := E0) (ok_wprod G.T) (hr.mono (by decide)) (by rfl) G.T.m_w_product G.T.F_w_product.kp G.T.b_w_product .nil pass0 (pa_cons (pv 0) (pa_cons (pv 1) (pa_cons pe_int pa_nil))))
          (pa_cons (pe_call (E := E0) (ok_wprod G.T) (hr.mono (by decide)) (by rfl) G.T.m_w_product G.T.F_w_product.kp G.T.b_w_product .nil pass0 (pa_cons (pv 0) (pa_cons (pv 1) (pa_cons pe_int pa_nil)))) pa_nil)) (by rfl))
      (pss_cons (ps_if (PW.pt (pw_or (pt_not (pt_val (pe_call (E := E0) (ok_qr G) (hr.mono (by decide)) (by rfl) G.T.m_w_quotients_right G.T.F_w_quotients_right.kp G.T.b_w_quotients_right .nil pass0 (pa_cons (pv 0) (pa_cons (pv 7) (pa_cons (pv 3) (pa_cons (pv 4) pa_nil)))))))
          (pw_or1 (pt_not (pt_val (pe_call (E := E0) (ok_qr G) (hr.mono (by decide)) (by rfl) G.T.m_w_quotients_right G.T.F_w_quotients_right.kp G.T.b_w_quotients_right .nil pass0 (pa_cons (pv 0) (pa_cons (pv 2) (pa_cons (pv 4) (pa_cons (pv 3) pa_nil)))))))))) (pss_one (ps_ret pe_bl)) pss_nil)
      (pss_cons (PS.ex fun n : Nat => PS.ex fun q : Da n => st_sum (P := P) (w := w) (base := base) (G := G) (A := A) (outer := outer) (s := s) (H := H) (E := E) hr q.h1 q.h8 q.hL q.hM q.htl q.ht)
      (pss_cons (PS.ex fun n : Nat => PS.ex fun q : Da n => st_meet (P := P) (w := w) (base := base) (G := G) (A := A) (outer := outer) (s := s) (H := H) (E := E) hr q.h1 q.h8 q.hL q.hM q.htl q.ht)
      (pss_cons (PS.ex fun n : Nat => PS.ex fun q : Da n => st_lot (P := P) (w := w) (base := base) (G := G) (A := A) (outer := outer) (s := s) (H := H) (E := E) hr TB q.h1 q.h8 q.hL)
      (pss_cons (ps_set (i := 5) sc_w_right.nd rfl (Or.inl rfl) (pe_make G.O.M (ok_init G.T G.O) (hr.mono (by decide)) rfl G.O.gC G.O.bI .nil pass0 (pa_cons (pv 1) (pa_cons (pe_call (E := E0) (ok_wprods G.T) (hr.mono (by decide)) (by rfl) G.T.m_w_products G.T.F_w_products.kp G.T.b_w_products .nil pass0 (pa_cons (pv 0) (pa_cons (pv 1) (pa_cons pe_int (pa_cons pe_int pa_nil))))) pa_nil))))
      (pss_cons (ps_set (i := 6) sc_w_right.nd rfl (Or.inr rfl) (pe_op (W7.op_own G.W.first G.Y.aM G.Y.nM (ok_mul G.T G.O G.R G.W G.Y) (hr.mono (by decide)) G.Y.bM pass0) (pv 5) (pv 5)))
      (pss_cons (PS.ex fun n : Nat => PS.ex fun q : Db n => st_great (P := P) (w := w) (base := base) (G := G) (A := A) (outer := outer) (s := s) (H := H) (E := E) hr TB q.h1 q.h8 ((M7.Lt.each M7.op_add q.hF q.hF).more (by decide) (by decide)))
      (pss_one (PS.ex fun n : Nat => PS.ex fun q : Db n => st_end (P := P) (w := w) (base := base) (G := G) (A := A) (outer := outer) (s := s) (H := H) (E := E) hr q.h1 q.h8 q.hL q.hF))))))))))), ?_⟩
    refine ⟨rfl, rfl, fun d g1 x1 c1 hd1 hd8 => ?_⟩
    have p0 : (upd H p (pailO g1 x1 c1)) p = some (pailO g1 x1 c1) := upd_same
    have b0 : Bar p H (upd H p (pailO g1 x1 c1)) := Bar.upd
    have t0 := tabs_bar hp b0 tab
    generalize upd H p (pailO g1 x1 c1) = H0 at p0 b0 t0 ⊢
    -- two lots
    refine ⟨_, rfl, by omega, by omega, fun D hD => ?_⟩
    have hDp : D ≠ p := fun z => by rw [z, p0] at hD; cases hD
    refine lc_range (lo := 0) (n := (2 : Int).toNat) (fun i H' => ∃ g x c : Int, Bar p H0 H' ∧ H' p = some (pailO g x c) ∧ (i = 0 → H' D = some (.lst [])) ∧ (i = 1 → ∃ a L, H' D = some (.lst [V.ref a]) ∧ LotAt K G.O.C H' a d L ∧ M7.Lt d 4 8 L) ∧
        (i = 2 → ∃ a b L M, H' D = some (.lst [V.ref a, V.ref b]) ∧ LotAt K G.O.C H' a d L ∧ M7.Lt d 4 8 L ∧ LotAt K G.O.C H' b d M ∧ M7.Lt d 4 8 M))
      ⟨g1, x1, c1, Bar.same (same_new hD _), by rw [upd_ne (Ne.symm hDp)]; exact p0, fun _ => upd_same, fun h => absurd h (by decide), fun h => absurd h (by decide)⟩ (fun i H' hi h => ?_) (fun H' h => ?_)
    · obtain ⟨g2, x2, c2, b1, p1, k0, k1, k2⟩ := h
      refine ⟨rfl, _, rfl, _, rfl, _, rfl, p, d, 4, 8, g2, x2, c2, rfl, p1, hd1, hd8, by decide, by decide, by decide, fun H1 z rs L g3 x3 c3 b2 p2 hz hT hlen hl ht => ?_⟩
      intro y dx ny nd ne
      have sy : Same H1 (upd (upd H1 dx (.own y)) y (.ins G.O.C dx [])) := (same_new nd (.own y)).trans (same_new (by rw [upd_ne (Ne.symm ne)]; exact ny) _)
      refine ⟨y, dx, z, d, rs, L, rfl, upd_same, same_sqt sy hz, hT.same sy, ⟨hd1, hl, fun t h e k => Nat.le_trans (ht t h e k) (by decide), by omega, Nat.le_trans (least_short L) (by omega)⟩, hd8, ht, fun H2 m2 rs2 st2 hx2 hm2 hT2 => ⟨rfl, ?_⟩⟩
      have S2 : Same H1 H2 := fun b o h => st2 b o (ne_of_none h ny) (sy b o h)
      have B2 : Bar p H' H2 := b2.trans (Bar.same S2)
      have P2 : H2 p = some (pailO g3 x3 c3) := S2 _ _ p2
      have new : LotAt K G.O.C H2 y d (M7.leastN L) := ⟨dx, m2, rs2, hx2, hm2, hT2⟩
      have lt : M7.Lt d 4 8 (M7.leastN L) := .of hl ht hlen
      have hi2 : i < 2 := hi
      have lotU : ∀ {b : Addr} {M : List (List Nat)} {xs ys : List V}, H2 D = some (.lst xs) → LotAt K G.O.C H2 b d M → LotAt K G.O.C (upd H2 D (.lst ys)) b d M := fun {b M xs ys} hDx ⟨dx, m, rs, h1, h2, h3⟩ => ⟨dx, m, rs, by rw [upd_ne fun e => by rw [e, hDx] at h1; cases h1]; exact h1, sqt_updL hDx h2, h3.updL hDx⟩
      rcases (show i = 0 ∨ i = 1 by omega) with rfl | rfl
      · have hD2 := B2 D _ hDp (k0 rfl)
        refine ⟨_, hD2, by show 0 < sizeLine; decide, g3, x3, c3, bar_updL (b1.trans B2) hD, by rw [upd_ne (Ne.symm hDp)]; exact P2, fun h => absurd h (by decide), fun _ => ⟨y, _, upd_same, lotU hD2 new, lt⟩, fun h => absurd h (by decide)⟩
      · obtain ⟨a, La, hDa, hA, hLa⟩ := k1 rfl
        have hD2 := B2 D _ hDp hDa
        have hA2 := bar_lot p1 B2 hA
        refine ⟨_, hD2, by show 1 < sizeLine; decide, g3, x3, c3, bar_updL (b1.trans B2) hD, by rw [upd_ne (Ne.symm hDp)]; exact P2, fun h => absurd h (by decide), fun h => absurd h (by decide), fun _ => ⟨a, y, _, _, upd_same, lotU hD2 hA2, hLa, lotU hD2 new, lt⟩⟩
    obtain ⟨g2, x2, c2, b1, p1, _, _, k2⟩ := h
    obtain ⟨a, b, L, M, hDD, hA, hL, hB, hM⟩ := k2 rfl
    refine ⟨D, _, rfl, SqL.of hDD, rfl, _, _, rfl, _, _, rfl, rfl, ?_⟩
    have bA := b0.trans b1
    have tA := tabs_bar p0 b1 t0
    -- two products
    refine ⟨_, rfl, _, rfl, p, d, 8, g2, x2, c2, rfl, p1, hd1, hd8, by decide, by decide, fun H3 y1 t g3 x3 c3 b3 p3 hy1 htl ht => ?_⟩
    refine ⟨_, rfl, _, rfl, p, d, 8, g3, x3, c3, rfl, p3, hd1, hd8, by decide, by decide, fun H4 y2 u g4 x4 c4 b4 p4 hy2 hul hu => ?_⟩
    refine ⟨_, _, rfl, ?_⟩
    have b34 := b3.trans b4
    have hA4 := bar_lot p1 b34 hA
    have hB4 := bar_lot p1 b34 hB
    have hy14 := bar_sqt p3 b4 hy1
    have bB := bA.trans b34
    have tB := tabs_bar p1 b34 tA
    -- quotients
    have low : ∀ {N : List (List Nat)}, M7.Lt d 4 8 N → ∀ v ∈ N, ∀ e ∈ v, e ≤ 60 := fun h v hv e he => Nat.le_trans (h.low v hv e he) (by decide)
    refine ⟨_, rfl, _, rfl, _, rfl, _, rfl, p, a, y1, y2, d, L, t, u, g4, x4, c4, rfl, p4, hA4, hy14, hy2, htl, hul, hd1, hd8, ht, hu, hL.len, low hL, Nat.le_trans hL.few (by decide), fun H5 g5 x5 c5 b5 p5 => ⟨true, rfl, iteF ?_⟩⟩
    have hB5 := bar_lot p4 b5 hB4
    have hy15 := bar_sqt p4 b5 hy14
    have hy25 := bar_sqt p4 b5 hy2
    refine ⟨_, rfl, _, rfl, _, rfl, _, rfl, p, b, y2, y1, d, M, u, t, g5, x5, c5, rfl, p5, hB5, hy25, hy15, hul, htl, hd1, hd8, hu, ht, hM.len, low hM, Nat.le_trans hM.few (by decide), fun H6 g6 x6 c6 b6 p6 => ⟨true, rfl, iteF ?_⟩⟩
    have b56 := b5.trans b6
    have hA6 := bar_lot p4 b56 hA4
    have hB6 := bar_lot p5 b6 hB5
    have hy16 := bar_sqt p5 b6 hy15
    have bC := bB.trans b56
    have tC := tabs_bar p4 b56 tB
    let da : Da d := ⟨L, M, t, hd1, hd8, hL, hM, htl, ht⟩
    refine ⟨d, da, ⟨a, b, y1, rfl, rfl, rfl, hA6, hB6, hy16⟩, fun H7 s7 => ?_⟩
    refine ⟨d, da, ⟨a, b, y1, rfl, rfl, rfl, hA6.same s7, hB6.same s7, same_sqt s7 hy16⟩, fun H8 s8 => ?_⟩
    have s78 := s7.trans s8
    refine ⟨d, da, a, rfl, rfl, rfl, hA6.same s78, tC.ext s78, fun H9 v8 e9 t9 => ?_⟩
    have e6 := (ext_of s78).trans e9
    have p9 := ext_pail e6 p6
    have hA9 := ext_lot e6 hA6
    have f9 : Fr p H H9 := (Fr.bar bC).trans (Fr.ext e6)
    -- few, great
    refine ⟨_, rfl, _, rfl, _, rfl, p, d, 2, 8, g6, x6, c6, rfl, p9, hd1, hd8, by decide, by decide, by decide, fun Ha z rs N ga xa ca ba pa hz hT hlen hl hN => ?_⟩
    intro y dx ny nd ne
    have sy : Same Ha (upd (upd Ha dx (.own y)) y (.ins G.O.C dx [])) := (same_new nd (.own y)).trans (same_new (by rw [upd_ne (Ne.symm ne)]; exact ny) _)
    refine ⟨y, dx, z, d, rs, N, rfl, upd_same, same_sqt sy hz, hT.same sy, ⟨hd1, hl, fun t h e k => Nat.le_trans (hN t h e k) (by decide), by omega, Nat.le_trans (least_short N) (by omega)⟩, hd8, hN, fun Hb m2 rs2 st2 hx2 hm2 hT2 => ⟨rfl, ?_⟩⟩
    have Sb : Same Ha Hb := fun b o h => st2 b o (ne_of_none h ny) (sy b o h)
    have Bb : Bar p H9 Hb := ba.trans (Bar.same Sb)
    have hF : LotAt K G.O.C Hb y d (M7.leastN N) := ⟨dx, m2, rs2, hx2, hm2, hT2⟩
    have ltF : M7.Lt d 2 8 (M7.leastN N) := .of hl hN hlen
    have hAb := bar_lot p9 Bb hA9
    have tb := tabs_bar p9 Bb t9
    have pb : Hb p = some (pailO ga xa ca) := Sb _ _ pa
    refine ⟨_, rfl, _, rfl, y, y, dx, dx, _, _, rfl, rfl, hx2, hx2, y, y, d, _, _, rfl, hF, hF, hd8, ltF.len, ltF.len, few_eachL M7.op_add hd1 ltF ltF (by decide) (by decide), fun Hc gr sc _ hG => ?_⟩
    let db : Db d := ⟨L, M7.leastN N, hd1, hd8, hL, ltF⟩
    refine ⟨d, db, gr, rfl, rfl, rfl, hG, tb.ext sc, fun Hd v8' ed td => ?_⟩
    have ecd := (ext_of sc).trans ed
    refine ⟨d, db, ⟨a, y, gr, rfl, rfl, rfl, ext_lot ecd hAb, ext_lot ecd hF, ext_lot ed hG⟩, fun He se => ?_⟩
    exact q He ga xa ca (f9.trans ((Fr.bar Bb).trans ((Fr.ext ecd).trans (Fr.ext (ext_of se))))) (se _ _ (ext_pail ecd pb)) (td.ext se)
end
end K08

namespace K08
open PySem PySem.Spec PyProof.Rows L2 RZ L5 R7 XX
theorem f_sq : M7.leastN (M8.pwN 2 [[0, 3], [1, 1], [2, 0]] 2) = [[0, 6], [1, 4], [2, 2], [3, 1], [4, 0]] := by decide +kernel
theorem f_sq0 : M7.leastN (M8.pwN 2 [[0, 3], [1, 1], [2, 0]] 0) = [[0, 0]] := by decide +kernel
abbrev L4 : List (List Nat) := [[0, 0, 0, 1], [0, 0, 1, 0], [0, 1, 0, 0], [1, 0, 0, 0]]
theorem f_l4 : DueD (M8.pwN 4 L4 4) = manyD 24 := by
  unfold DueD
  rw [show bigB (M8.pwN 4 L4 4) = false by decide +kernel, if_neg (by decide), if_pos (by decide +kernel)]
theorem f_l3 : (M7.leastN (M8.pwN 4 L4 3)).length = 20 := by decide +kernel
theorem f_far : M7.leastN (M8.pwN 1 [[8]] 4) = [[32]] := by decide +kernel
theorem f_far2 : DueD (M8.pwN 1 [[32]] 2) = manyD 60 := by
  unfold DueD
  rw [if_pos (by decide +kernel)]
theorem f_mul : DueD (eachN (· + ·) [[32]] [[32]]) = manyD 60 := by
  unfold DueD
  rw [if_pos (by decide +kernel)]
theorem f_quo : M7.leastN (M8.qN [[32]] [31]) = [[1]] := by decide +kernel
end K08

namespace W8
open PySem PySem.Spec PyProof.Rows L2 W7
section
variable {X : Cx} {CX : CXT} {C f : Addr} {fd : FuncData} {ps : List Str} {sp : Sp} {k : Nat} {op : Operator} {E : XK}
/-- a op b, both of the own class at C, with its errors -/
def rOwnE (C : Addr) (sp : Sp) (E : XK) : R2 := fun x y H Q => ∃ (a b dx dy : Addr) (fs gs : List (Str × V)), x = .ref a ∧ y = .ref b ∧ H a = some (.ins C dx fs) ∧ H b = some (.ins C dy gs) ∧ sp [.ref a, .ref b] H Q E
theorem op_ownE (first : PySem.W.selfFirst X.K C = true) (at_ : PySem.W.findIn X.K (.ref C) (PySem.dunder op.info.2) = some (some (.ref f))) (fn : PySem.W.isFn X.K (.ref f) = true) (F : FnOk X.prog X.w X.K X.mg X.base CX k f fd ps sp) (hr : Room k X.A) (hb : Binds X.K fd ps []) (hx : Passes CX X E) : OpR X (binaryOp op) (rOwnE C sp E) := by
  intro pins s σ H x y v u Q I rx ry h
  obtain ⟨a, b, dx, dy, fs, gs, rfl, rfl, ha, hb2, q⟩ := h
  obtain rfl : v = Value.ref a := rx
  obtain rfl : u = Value.ref b := ry
  obtain ⟨_, Oa, _⟩ := ins_get I.hok ha
  obtain ⟨_, Ja, _⟩ := Oa.look
  obtain ⟨_, Ob, _⟩ := ins_get I.hok hb2
  obtain ⟨_, Jb, _⟩ := Ob.look
  refine bin_same I.kIn Ja Jb first at_ fn (wpAny_mono (run_fn (dvs := []) (ds := []) (vs := [.ref a, .ref b]) (us := [.ref a, .ref b]) (Q := Q) F hr hb .nil hx I (.cons rfl (.cons rfl .nil)) q) (fun r s' z => ?_) fun _ _ z => z)
  cases r with
  | notImplemented =>
    obtain ⟨_, _, _, rel, _⟩ := z
    exact no_notimpl rel
  | _ => exact z
end
end W8

namespace K08
open PySem PySem.Spec PyProof.Rows L2 RZ L5 R7 XX
theorem ext_sql {K : PySem.W.Frag} {H H' : Hp} {a : Addr} {xs : List V} (e : LamX.ExtN H H') (h : SqL K H a xs) : SqL K H' a xs := by
  rcases h with (h | ⟨o, h⟩) | h
  · exact .inl (.inl (e _ _ h fun _ z => nomatch z))
  · exact .inl (.inr ⟨o, e _ _ h fun _ z => nomatch z⟩)
  · exact .inr h
theorem fr_ext {z : Addr} {H A B : Hp} (s : Same H A) (hz : H z = none) (f : Fr z A B) : LamX.ExtN H B := fun b o h k => f b o (ne_of_none h hz) (s b o h) k
theorem make_at {K : PySem.W.Frag} {C : Addr} {H : Hp} {QQ : Hp → Prop} {z : Addr} {d : Nat} {rs : List Addr} {L M : List (List Nat)} {y dx : Addr} (hz : SqT K H z (rs.map V.ref)) (hT : Tups K H rs L) (hf : Few d L) (h8 : d ≤ 8) (low : ∀ t ∈ L, ∀ e ∈ t, e ≤ 8) (he : M7.leastN L = M) (ny : H y = none) (nd : H dx = none) (ne : dx ≠ y)
    (q : ∀ H', Same H H' → LotAt K C H' y d M → QQ H') :
    sp_init K C [.ref y, .int ((d : Nat) : Int), .ref z] (upd (upd H dx (.own y)) y (.ins C dx [])) (fun v H' => v = .non ∧ QQ H') E0 := by
  have sy : Same H (upd (upd H dx (.own y)) y (.ins C dx [])) := (same_new nd (.own y)).trans (same_new (by rw [upd_ne (Ne.symm ne)]; exact ny) _)
  refine ⟨y, dx, z, d, rs, L, rfl, upd_same, same_sqt sy hz, hT.same sy, hf, h8, low, fun H2 m2 rs2 st2 hx2 hm2 hT2 => ⟨rfl, ?_⟩⟩
  have S2 : Same H H2 := fun b o h => st2 b o (ne_of_none h ny) (sy b o h)
  rw [he] at hT2
  exact q H2 S2 ⟨dx, m2, rs2, hx2, hm2, hT2⟩
abbrev dA : List PyData := [.tuple (([[0, 6], [1, 4], [2, 2], [3, 1], [4, 0]] : List (List Nat)).map encT), .tuple (([[0, 0]] : List (List Nat)).map encT), manyD 24, .int 20]
abbrev dB : List PyData := [.tuple (([[32]] : List (List Nat)).map encT), manyD 60, manyD 60, .tuple (([[1]] : List (List Nat)).map encT)]
theorem dp_manyS {K : PySem.W.Frag} {H : Hp} {r : Addr} {n : Int} (h : SqT K H r [.str "refused", .str "many", .int n]) : Dp K H (.ref r) (manyD n) := .tup h (.cons (.str _) (.cons (.str _) (.cons (.int _) .nil)))
theorem dp_many_inv {K : PySem.W.Frag} {H : Hp} {v : V} {n : Int} (h : Dp K H v (manyD n)) : ∃ r, v = .ref r ∧ SqT K H r [.str "refused", .str "many", .int n] := by
  cases h with
  | tup h a =>
    cases a with
    | cons b a =>
      cases b
      cases a with
      | cons b a =>
        cases b
        cases a with
        | cons b a =>
          cases b
          cases a
          exact ⟨_, rfl, h⟩
theorem lotU {K : PySem.W.Frag} {C : Addr} {H : Hp} {D b : Addr} {d : Nat} {M : List (List Nat)} {xs ys : List V} (hDx : H D = some (.lst xs)) : LotAt K C H b d M → LotAt K C (upd H D (.lst ys)) b d M := fun ⟨dx, m, rs, h1, h2, h3⟩ => ⟨dx, m, rs, by rw [upd_ne fun e => by rw [e, hDx] at h1; cases h1]; exact h1, sqt_updL hDx h2, h3.updL hDx⟩
theorem tab_new {H : Hp} {P : Addr} {q : Str} (h : H P = some (.tbl #[])) : LamX.TabS H P q := ⟨#[], h, True.intro, fun pos cv e => by simp [codeAmong] at e⟩
theorem tabs0 {H : Hp} (h1 : H tR = some (.tbl #[])) (h2 : H tL = some (.tbl #[])) : LamX.Tabs TB8 H := fun p hp => by
  rcases List.mem_cons.mp hp with rfl | hp
  · exact tab_new h1
  rcases List.mem_cons.mp hp with rfl | hp
  · exact tab_new h2
  cases hp
section
variable {P : Program} {w : World} {K : PySem.W.Frag} {mg : Str → Option Value} {base : Heap}
abbrev XL (P : Program) (w : World) (base : Heap) (G : LotsT K mg) (A : Around) (outer : List Env) (s : Shared) (H : Hp) (E : XK) : Cx := (cxOf CX0 P w K mg base N_law "law" (defScope s_law) G.T.a_law (.ref G.T.c_law) A outer s H E).nox
def sp_law (K : PySem.W.Frag) : Sp := fun vs H Q _ => ∃ (a : Addr) (ns : List Int), vs = [.ref a] ∧ SqL K H a (ns.map V.int) ∧ ns.length ≤ 63 ∧ LamX.Tabs TB8 H ∧ ∀ H', Q (.bl true) H'
theorem ok_law (G : LotsT K mg) (TB1 : LamX.TabB base mg G.T.c_w_right tR) (TB : LamX.TabB base mg G.T.c_law tL) : FnOk P w K mg base CX0 12 G.T.a_law G.T.d_law ["_law_script"] (sp_law K) := by
  obtain ⟨ocT, odT, kVT, docT, pmT, anT, cdvT, ctT, oslT, dT, lkT, cdT⟩ := G.T.F_w_told.ex
  rw [dT] at lkT
  refine G.T.G_law.okc sc_law (fun vs H Q E h => ?_) (fun A outer s H vs Q E hr h => ?_)
  · obtain ⟨a, ns, rfl, _⟩ := h
    rfl
  · obtain ⟨a, ns, rfl, hS, hn, hTab, q⟩ := h
    refine ⟨_, pss_cons (ps_for PassesOwn.never rfl (pi_range1 rfl G.T.z_range (pa_cons (pe_callB (call_max2 rfl) (by rfl) G.T.z_max boot_max (pa_cons pe_int (pa_cons (pe_callB (call_min2 rfl) (by rfl) G.T.z_min (by decide +kernel) (pa_cons pe_int (pa_cons (pe_callB call_len_seq (by rfl) G.T.z_len boot_len (pa_cons (pv 0) pa_nil)) pa_nil))) pa_nil))) pa_nil)) (pg_name (i := 1) sc_law.nd rfl (Or.inl rfl))
        (pss_cons (ps_set (i := 2) sc_law.nd rfl (Or.inl rfl) (pe_call (E := E0) (ok_pail G.T) (hr.mono (by decide)) (by rfl) G.T.m_w_pail G.T.F_w_pail.kp G.T.b_w_pail .nil pass0 (pa_cons (pv 0) (pa_cons (pv 1) pa_nil))))
        (pss_one (ps_if (PW.pt (pw_or (pt_not (pt_val (pe_call (E := E0) (ok_right G TB1) hr (by rfl) G.T.m_w_right G.T.F_w_right.kp G.T.b_w_right .nil pass0 (pa_cons (pv 2) pa_nil))))
          (pw_or1 (pt_not (pt_val (pe_call (E := E0) (ok_right G TB1) hr (by rfl) G.T.m_w_right G.T.F_w_right.kp G.T.b_w_right .nil pass0 (pa_cons (pv 2) pa_nil))))))) (pss_one (ps_ret pe_bl)) pss_nil))))
      (pss_cons (ps_asg (pe_tup (pa_cons (pe_make G.O.M (ok_init G.T G.O) (hr.mono (by decide)) rfl G.O.gC G.O.bI .nil pass0 (pa_cons pe_int (pa_cons (pe_tup (pa_cons (pe_tup (pa_cons pe_int (pa_cons pe_int pa_nil))) (pa_cons (pe_tup (pa_cons pe_int (pa_cons pe_int pa_nil))) (pa_cons (pe_tup (pa_cons pe_int (pa_cons pe_int pa_nil))) pa_nil)))) pa_nil))) (pa_cons (pe_make G.O.M (ok_init G.T G.O) (hr.mono (by decide)) rfl G.O.gC G.O.bI .nil pass0 (pa_cons pe_int (pa_cons (pe_tup (pa_cons (pe_tup (pa_cons pe_int (pa_cons pe_int (pa_cons pe_int (pa_cons pe_int pa_nil))))) (pa_cons (pe_tup (pa_cons pe_int (pa_cons pe_int (pa_cons pe_int (pa_cons pe_int pa_nil))))) (pa_cons (pe_tup (pa_cons pe_int (pa_cons pe_int (pa_cons pe_int (pa_cons pe_int pa_nil))))) (pa_cons (pe_tup (pa_cons pe_int (pa_cons pe_int (pa_cons pe_int (pa_cons pe_int pa_nil))))) pa_nil))))) pa_nil))) pa_nil))) (pg_tup (by rfl) (pgs_cons (pg_name (i := 3) sc_law.nd rfl (Or.inl rfl)) (pgs_cons (pg_name (i := 6) sc_law.nd rfl (Or.inr rfl)) pgs_nil))))
      (pss_cons (ps_set (i := 4) sc_law.nd rfl (Or.inl rfl) (pe_lst (pa_cons (pe_prop (E := E0) (pe_meth (E := E0) (pv 3) G.O.cl G.B.mP (ok_pow G.T G.O G.B) (hr.mono (by decide)) G.B.bP .nil passG (pa_cons pe_int pa_nil)) G.O.cl G.R.PM (ok_mem G.O G.R) (hr.mono (by decide)) G.R.bM .nil pass0 rfl) (pa_cons (pe_prop (E := E0) (pe_meth (E := E0) (pv 3) G.O.cl G.B.mP (ok_pow G.T G.O G.B) (hr.mono (by decide)) G.B.bP .nil passG (pa_cons pe_int pa_nil)) G.O.cl G.R.PM (ok_mem G.O G.R) (hr.mono (by decide)) G.R.bM .nil pass0 rfl) (pa_cons (LamX.pe_lamcall (X := XL P w base G A outer s H E) (T := TB8) (TT := TToldM K G.O.C G.T.C_TooMany) (Ng := N_w_told) (by rfl) G.T.m_w_told G.T.F_w_told.kp lkT cdT (dT ▸ G.T.b_w_told) sc_w_told rfl (Or.inl rfl)
        (told_givesM (X := XL P w base G A outer s H E) G (hr.mono (by decide))) TB rfl (show (tL, qL) ∈ TB8 from List.mem_cons_of_mem _ List.mem_cons_self) uniqL (hr.mono (show 10 ≤ 11 by decide)) (LamX.lamS_by (show LamX.lamSB (defScope s_law) _ = true by decide +kernel)) (by rfl) (fun _ _ _ _ _ => by rfl)
        (fun A' outer' s' H' E' f' c' hr' => pe_meth (E := E') (pv 6) G.O.cl G.B.mP (ok_pow G.T G.O G.B) hr' G.B.bP .nil (passes_call (takes_of rfl rfl rfl rfl) fun _ _ _ _ z => z) (pa_cons pe_int pa_nil))) (pa_cons (pe_callB (W7.call_lenOwn1 G.D.aN G.D.nN (ok_len G.T G.O G.Z) (hr.mono (by decide)) G.Z.bN pass0) (by rfl) G.T.z_len boot_len (pa_cons (pe_meth (E := E0) (pv 6) G.O.cl G.B.mP (ok_pow G.T G.O G.B) (hr.mono (by decide)) G.B.bP .nil passG (pa_cons pe_int pa_nil)) pa_nil)) pa_nil))))))
      (pss_cons (ps_if (pt_cmpR (show OpR _ _ (rNeD K) from op_neD hr.units) (pv 4) (pe_lst (pa_cons (pe_tup (pa_cons (pe_tup (pa_cons pe_int (pa_cons pe_int pa_nil))) (pa_cons (pe_tup (pa_cons pe_int (pa_cons pe_int pa_nil))) (pa_cons (pe_tup (pa_cons pe_int (pa_cons pe_int pa_nil))) (pa_cons (pe_tup (pa_cons pe_int (pa_cons pe_int pa_nil))) (pa_cons (pe_tup (pa_cons pe_int (pa_cons pe_int pa_nil))) pa_nil)))))) (pa_cons (pe_tup (pa_cons (pe_tup (pa_cons pe_int (pa_cons pe_int pa_nil))) pa_nil)) (pa_cons (pe_tup (pa_cons pe_str (pa_cons pe_str (pa_cons pe_int pa_nil)))) (pa_cons pe_int pa_nil))))) (nomark _)) (pss_one (ps_ret pe_bl)) pss_nil)
      (pss_cons (ps_set (i := 5) sc_law.nd rfl (Or.inr rfl) (pe_meth (E := E0) (pe_make G.O.M (ok_init G.T G.O) (hr.mono (by decide)) rfl G.O.gC G.O.bI .nil pass0 (pa_cons pe_int (pa_cons (pe_tup (pa_cons (pe_tup (pa_cons pe_int pa_nil)) pa_nil)) pa_nil))) G.O.cl G.B.mP (ok_pow G.T G.O G.B) (hr.mono (by decide)) G.B.bP .nil passG (pa_cons pe_int pa_nil)))
      (pss_cons (ps_set (i := 4) sc_law.nd rfl (Or.inl rfl) (pe_lst (pa_cons (pe_prop (E := E0) (pv 5) G.O.cl G.R.PM (ok_mem G.O G.R) (hr.mono (by decide)) G.R.bM .nil pass0 rfl) (pa_cons (LamX.pe_lamcall (X := XL P w base G A outer s H E) (T := TB8) (TT := TToldM K G.O.C G.T.C_TooMany) (Ng := N_w_told) (by rfl) G.T.m_w_told G.T.F_w_told.kp lkT cdT (dT ▸ G.T.b_w_told) sc_w_told rfl (Or.inl rfl)
        (told_givesM (X := XL P w base G A outer s H E) G (hr.mono (by decide))) TB rfl (show (tL, qL) ∈ TB8 from List.mem_cons_of_mem _ List.mem_cons_self) uniqL (hr.mono (show 10 ≤ 11 by decide)) (LamX.lamS_by (show LamX.lamSB (defScope s_law) _ = true by decide +kernel)) (by rfl) (fun _ _ _ _ _ => by rfl)
        (fun A' outer' s' H' E' f' c' hr' => pe_op (W8.op_ownE (E := E') G.W.first G.Y.aM G.Y.nM (ok_mulX G.T G.O G.R G.W G.Y) hr' G.Y.bM (passes_call (takes_of rfl rfl rfl rfl) fun _ _ _ _ z => z)) (pv 5) (pv 5))) pa_nil))))
      (pss_cons (ps_expr (pe_bm PySem.F.plainAttrs_list PySem.F.slot_list_append PySem.F.type_list_append mt_append (pv 4) (pa_cons (LamX.pe_lamcall (X := XL P w base G A outer s H E) (T := TB8) (TT := TToldM K G.O.C G.T.C_TooMany) (Ng := N_w_told) (by rfl) G.T.m_w_told G.T.F_w_told.kp lkT cdT (dT ▸ G.T.b_w_told) sc_w_told rfl (Or.inl rfl)
        (told_givesM (X := XL P w base G A outer s H E) G (hr.mono (by decide))) TB rfl (show (tL, qL) ∈ TB8 from List.mem_cons_of_mem _ List.mem_cons_self) uniqL (hr.mono (show 10 ≤ 11 by decide)) (LamX.lamS_by (show LamX.lamSB (defScope s_law) _ = true by decide +kernel)) (by rfl) (fun _ _ _ _ _ => by rfl)
        (fun A' outer' s' H' E' f' c' hr' => pe_meth (E := E') (pv 5) G.O.cl G.B.mP (ok_pow G.T G.O G.B) hr' G.B.bP .nil (passes_call (takes_of rfl rfl rfl rfl) fun _ _ _ _ z => z) (pa_cons pe_int pa_nil))) pa_nil)))
      (pss_one (ps_ret (pe_cmpR (show OpR _ _ (rEqD K) from op_eqD hr.units) (pe_op op_cat (pv 4) (pe_lst (pa_cons (pe_prop (E := E0) (pe_meth (E := E0) (pv 5) G.O.cl G.B.mQ (ok_quot G.T G.O G.B) (hr.mono (by decide)) G.B.bQ .nil pass0 (pa_cons (pe_tup (pa_cons pe_int pa_nil)) pa_nil)) G.O.cl G.R.PM (ok_mem G.O G.R) (hr.mono (by decide)) G.R.bM .nil pass0 rfl) pa_nil))) (pe_lst (pa_cons (pe_tup (pa_cons (pe_tup (pa_cons pe_int pa_nil)) pa_nil)) (pa_cons (pe_tup (pa_cons pe_str (pa_cons pe_str (pa_cons pe_int pa_nil)))) (pa_cons (pe_tup (pa_cons pe_str (pa_cons pe_str (pa_cons pe_int pa_nil)))) (pa_cons (pe_tup (pa_cons (pe_tup (pa_cons pe_int pa_nil)) pa_nil)) pa_nil))))) (nomark _)))))))))), ?_⟩
    have hm1 : ∀ m : Int, (if (if ((ns.map V.int).length : Int) < 3 then ((ns.map V.int).length : Int) else 3) > 1 then (if ((ns.map V.int).length : Int) < 3 then ((ns.map V.int).length : Int) else 3) else 1) = m → 1 ≤ m ∧ m ≤ 3 := fun m e => by
      rw [← e]
      split <;> split <;> omega
    refine ⟨_, rfl, a, _, rfl, .inl hS, _, _, rfl, _, _, rfl, _, rfl, ?_⟩
    have hb := hm1 _ rfl
    refine ⟨Int.le_trans (by decide) hb.1, Int.lt_of_le_of_lt hb.2 (by decide), ?_⟩
    refine for_range (lo := 0) (n := _) (fun i σ H' => ∃ v1 v2 : Option V, σ = [some (.ref a), v1, v2, none, none, none, none] ∧ LamX.ExtN H H' ∧ LamX.Tabs TB8 H') ⟨none, none, rfl, LamX.ExtN.refl H, hTab⟩ ?_ ?_
    · rintro i σ H1 hi ⟨v1, v2, rfl, e1, t1⟩
      have hi3 : i < 1000 := by
        have := hb.2
        omega
      refine ⟨_, rfl, _, rfl, a, ns, i, by rw [Int.zero_add]; rfl, ext_sql e1 hS, hi3, fun H2 z g x c s2 hz hz2 => ?_⟩
      refine ⟨_, rfl, z, g, x, c, rfl, hz2, t1.ext s2, fun H3 g x c f3 hz3 t3 => ⟨true, rfl, iteF ?_⟩⟩
      refine ⟨_, rfl, z, g, x, c, rfl, hz3, t3, fun H4 g x c f4 hz4 t4 => ⟨true, rfl, iteF ?_⟩⟩
      exact ⟨_, _, rfl, e1.trans (fr_ext s2 hz (f3.trans f4)), t4⟩
    rintro σ H1 ⟨v1, v2, rfl, e1, t1⟩
    refine ⟨by show 2 ≤ sizeLine; decide, fun q0 kq0 => ⟨by show 2 ≤ sizeLine; decide, fun q1 kq1 => ⟨by show 2 ≤ sizeLine; decide, fun q2 kq2 => ⟨by show 3 ≤ sizeLine; decide, fun qz kqz => ?_⟩⟩⟩⟩
    have sq0 := same_new kq0 (.tup [V.int 2, V.int 0])
    have sq1 := same_new kq1 (.tup [V.int 1, V.int 1])
    have sq2 := same_new kq2 (.tup [V.int 0, V.int 3])
    have sqz := same_new kqz (.tup [V.ref q0, V.ref q1, V.ref q2])
    intro qy qdx nqy nqd nqe
    have Sq := (sq0.trans (sq1.trans (sq2.trans sqz)))
    refine make_at (K := K) (C := G.O.C) (d := 2) (rs := [q0, q1, q2]) (L := [[2, 0], [1, 1], [0, 3]]) (M := [[0, 3], [1, 1], [2, 0]]) (SqT.of upd_same) (.cons (same_sqt (sq1.trans (sq2.trans sqz)) (SqT.of upd_same)) (.cons (same_sqt (sq2.trans sqz) (SqT.of upd_same)) (.cons (same_sqt sqz (SqT.of upd_same)) .nil))) ⟨by decide, by decide, by decide, by decide, by decide +kernel⟩ (by decide) (by decide) (by decide +kernel) nqy nqd nqe (fun Hq mq hq => ?_)
    refine ⟨by show 4 ≤ sizeLine; decide, fun r0 kr0 => ⟨by show 4 ≤ sizeLine; decide, fun r1 kr1 => ⟨by show 4 ≤ sizeLine; decide, fun r2 kr2 => ⟨by show 4 ≤ sizeLine; decide, fun r3 kr3 => ⟨by show 4 ≤ sizeLine; decide, fun rz krz => ?_⟩⟩⟩⟩⟩
    have sr0 := same_new kr0 (.tup [V.int 1, V.int 0, V.int 0, V.int 0])
    have sr1 := same_new kr1 (.tup [V.int 0, V.int 1, V.int 0, V.int 0])
    have sr2 := same_new kr2 (.tup [V.int 0, V.int 0, V.int 1, V.int 0])
    have sr3 := same_new kr3 (.tup [V.int 0, V.int 0, V.int 0, V.int 1])
    have srz := same_new krz (.tup [V.ref r0, V.ref r1, V.ref r2, V.ref r3])
    intro ry rdx nry nrd nre
    have Sr := (sr0.trans (sr1.trans (sr2.trans (sr3.trans srz))))
    refine make_at (K := K) (C := G.O.C) (d := 4) (rs := [r0, r1, r2, r3]) (L := [[1, 0, 0, 0], [0, 1, 0, 0], [0, 0, 1, 0], [0, 0, 0, 1]]) (M := L4) (SqT.of upd_same) (.cons (same_sqt (sr1.trans (sr2.trans (sr3.trans srz))) (SqT.of upd_same)) (.cons (same_sqt (sr2.trans (sr3.trans srz)) (SqT.of upd_same)) (.cons (same_sqt (sr3.trans srz) (SqT.of upd_same)) (.cons (same_sqt srz (SqT.of upd_same)) .nil)))) ⟨by decide, by decide, by decide, by decide, by decide +kernel⟩ (by decide) (by decide) (by decide +kernel) nry nrd nre (fun Hr mr hr' => ?_)
    refine ⟨by show 2 ≤ sizeLine; decide, fun zz kzz => ⟨zz, _, rfl, SqT.of upd_same, rfl, _, _, rfl, _, _, rfl, rfl, ?_⟩⟩
    have szz := same_new kzz (.tup [V.ref qy, V.ref ry])
    have hq1 := hq.same (Sr.trans (mr.trans szz))
    have hr1 := hr'.same szz
    have T0 := t1.ext (Sq.trans (mq.trans (Sr.trans (mr.trans szz))))
    have E0' := e1.trans (ext_of (Sq.trans (mq.trans (Sr.trans (mr.trans szz)))))
    generalize (upd Hr zz (.tup [V.ref qy, V.ref ry])) = J0 at hq1 hr1 T0 E0' ⊢
    obtain ⟨d0, _, _, o0, _⟩ := id hq1
    refine ⟨_, rfl, qy, d0, _, rfl, o0, rfl, qy, 2, _, 2, rfl, hq1, by decide, by decide, by decide, by decide, by decide, by decide, fun hb => absurd hb (by decide +kernel), fun _ hb => absurd hb (by decide +kernel), fun _ _ J1 c1 j1 hc1 => ?_⟩
    obtain ⟨d1, _, _, o1, _⟩ := id hc1
    refine ⟨c1, d1, _, rfl, o1, c1, 2, _, rfl, hc1, fun x1 xs1 hx1 hX1 => ?_⟩
    have hq2 := hq1.same j1
    obtain ⟨d2, _, _, o2, _⟩ := id hq2
    refine ⟨_, rfl, qy, d2, _, rfl, o2, rfl, qy, 2, _, 0, rfl, hq2, by decide, by decide, by decide, by decide, by decide, by decide, fun hb => absurd hb (by decide +kernel), fun _ hb => absurd hb (by decide +kernel), fun _ _ J2 c2 j2 hc2 => ?_⟩
    obtain ⟨d3, _, _, o3, _⟩ := id hc2
    refine ⟨c2, d3, _, rfl, o3, c2, 2, _, rfl, hc2, fun x2 xs2 hx2 hX2 => ?_⟩
    rw [f_sq] at hX1
    rw [f_sq0] at hX2
    have hr2 := hr1.same (j1.trans j2)
    refine ⟨T0.ext (j1.trans j2), fun J3 j3 t3 => ?_⟩
    have hr3 := ext_lot j3 hr2
    obtain ⟨d4, _, _, o4, _⟩ := id hr3
    refine ⟨_, rfl, ry, d4, _, rfl, o4, rfl, ry, 4, L4, 4, rfl, hr3, by decide, by decide, by decide, by decide, by decide, by decide, told_pow fun J4 v j4 hv => ?_⟩
    rw [f_l4] at hv
    obtain ⟨rv, rfl, hw⟩ := dp_many_inv hv
    have hr4 := hr3.same j4
    obtain ⟨d5, _, _, o5, _⟩ := id hr4
    refine ⟨_, rfl, ry, d5, _, rfl, o5, rfl, ry, 4, L4, 3, rfl, hr4, by decide, by decide, by decide, by decide, by decide, by decide, fun hb => absurd hb (by decide +kernel), fun _ hb => absurd hb (by decide +kernel), fun _ _ J5 c5 j5 hc5 => ?_⟩
    obtain ⟨d6, _, _, o6, _⟩ := id hc5
    refine ⟨c5, d6, _, rfl, o6, c5, 4, _, rfl, hc5, 20, congrArg V.int (by rw [f_l3]), by decide, ?_⟩
    refine ⟨by show 4 ≤ sizeLine; decide, fun l kl => ?_⟩
    have sl := same_new kl (.lst [V.ref x1, V.ref x2, V.ref rv, V.int 20])
    have jl := j4.trans (j5.trans sl)
    have y1 := same_sqt jl (ext_sqt j3 (same_sqt j2 hx1))
    have Y1 := (ext_tups j3 (hX1.same j2)).same jl
    have y2 := same_sqt jl (ext_sqt j3 hx2)
    have Y2 := (ext_tups j3 hX2).same jl
    have y3 := same_sqt (j5.trans sl) hw
    have yl : (upd J5 l (.lst [V.ref x1, V.ref x2, V.ref rv, V.int 20])) l = some (.lst [V.ref x1, V.ref x2, V.ref rv, V.int 20]) := upd_same
    have T1 := t3.ext jl
    generalize (upd J5 l (.lst [V.ref x1, V.ref x2, V.ref rv, V.int 20])) = K0 at y1 Y1 y2 Y2 y3 yl T1 ⊢
    refine ⟨_, rfl, ?_⟩
    refine ⟨by show 2 ≤ sizeLine; decide, fun b0 kb0 => ⟨by show 2 ≤ sizeLine; decide, fun b1 kb1 => ⟨by show 2 ≤ sizeLine; decide, fun b2 kb2 => ⟨by show 2 ≤ sizeLine; decide, fun b3 kb3 => ⟨by show 2 ≤ sizeLine; decide, fun b4 kb4 => ⟨by show 5 ≤ sizeLine; decide, fun bz kbz => ⟨by show 2 ≤ sizeLine; decide, fun e0 ke0 => ⟨by show 1 ≤ sizeLine; decide, fun ez kez => ⟨by show 3 ≤ sizeLine; decide, fun f0 kf0 => ⟨by show 4 ≤ sizeLine; decide, fun g0 kg0 => ?_⟩⟩⟩⟩⟩⟩⟩⟩⟩⟩
    have sb0 := same_new kb0 (.tup [V.int 0, V.int 6])
    have sb1 := same_new kb1 (.tup [V.int 1, V.int 4])
    have sb2 := same_new kb2 (.tup [V.int 2, V.int 2])
    have sb3 := same_new kb3 (.tup [V.int 3, V.int 1])
    have sb4 := same_new kb4 (.tup [V.int 4, V.int 0])
    have sbz := same_new kbz (.tup [V.ref b0, V.ref b1, V.ref b2, V.ref b3, V.ref b4])
    have se0 := same_new ke0 (.tup [V.int 0, V.int 0])
    have sez := same_new kez (.tup [V.ref e0])
    have sf0 := same_new kf0 (.tup [V.str "refused", V.str "many", V.int 24])
    have sg0 := same_new kg0 (.lst [V.ref bz, V.ref ez, V.ref f0, V.int 20])
    have SSg0 := (sb0.trans (sb1.trans (sb2.trans (sb3.trans (sb4.trans (sbz.trans (se0.trans (sez.trans (sf0.trans sg0)))))))))
    refine ⟨.list dA, .list dA, .lst (SqL.of (SSg0 _ _ yl)) (.cons (.tup (same_sqt SSg0 y1) (dp_tups (Y1.same SSg0))) (.cons (.tup (same_sqt SSg0 y2) (dp_tups (Y2.same SSg0))) (.cons (dp_manyS (same_sqt SSg0 y3)) (.cons (.int _) .nil)))), .lst (SqL.of upd_same) (.cons (.tup (same_sqt (se0.trans (sez.trans (sf0.trans sg0))) (SqT.of upd_same)) (dp_tups (rs := [b0, b1, b2, b3, b4]) (L := [[0, 6], [1, 4], [2, 2], [3, 1], [4, 0]]) (.cons (same_sqt (sb1.trans (sb2.trans (sb3.trans (sb4.trans (sbz.trans (se0.trans (sez.trans (sf0.trans sg0)))))))) (SqT.of upd_same)) (.cons (same_sqt (sb2.trans (sb3.trans (sb4.trans (sbz.trans (se0.trans (sez.trans (sf0.trans sg0))))))) (SqT.of upd_same)) (.cons (same_sqt (sb3.trans (sb4.trans (sbz.trans (se0.trans (sez.trans (sf0.trans sg0)))))) (SqT.of upd_same)) (.cons (same_sqt (sb4.trans (sbz.trans (se0.trans (sez.trans (sf0.trans sg0))))) (SqT.of upd_same)) (.cons (same_sqt (sbz.trans (se0.trans (sez.trans (sf0.trans sg0)))) (SqT.of upd_same)) .nil))))))) (.cons (.tup (same_sqt (sf0.trans sg0) (SqT.of upd_same)) (dp_tups (rs := [e0]) (L := [[0, 0]]) (.cons (same_sqt (sez.trans (sf0.trans sg0)) (SqT.of upd_same)) .nil))) (.cons (dp_manyS (same_sqt sg0 (SqT.of upd_same))) (.cons (.int _) .nil)))), by decide +kernel, by decide +kernel, _, rfl, ?_⟩
    rw [show PyData.eqv (.list dA) (.list dA) = true by decide +kernel]
    refine iteF ?_
    have T2 := T1.ext SSg0
    refine ⟨by show 1 ≤ sizeLine; decide, fun h0 kh0 => ⟨by show 1 ≤ sizeLine; decide, fun hz khz => ?_⟩⟩
    have sh0 := same_new kh0 (.tup [V.int 8])
    have shz := same_new khz (.tup [V.ref h0])
    intro hy hdx nhy nhd nhe
    have Sh := (sh0.trans shz)
    refine make_at (K := K) (C := G.O.C) (d := 1) (rs := [h0]) (L := [[8]]) (M := [[8]]) (SqT.of upd_same) (.cons (same_sqt shz (SqT.of upd_same)) .nil) ⟨by decide, by decide, by decide, by decide, by decide +kernel⟩ (by decide) (by decide) (by decide +kernel) nhy nhd nhe (fun Hh mh hh => ?_)
    obtain ⟨d7, _, _, o7, _⟩ := id hh
    refine ⟨hy, d7, _, rfl, o7, rfl, hy, 1, _, 4, rfl, hh, by decide, by decide, by decide, by decide, by decide, by decide, fun hb => absurd hb (by decide +kernel), fun _ hb => absurd hb (by decide +kernel), fun _ _ J6 c6 j6 hc6 => ?_⟩
    rw [f_far] at hc6
    have T3 := T2.ext (Sh.trans (mh.trans j6))
    obtain ⟨d8, _, _, o8, _⟩ := id hc6
    refine ⟨_, rfl, c6, d8, _, rfl, o8, c6, 1, _, rfl, hc6, fun x3 xs3 hx3 hX3 => ?_⟩
    refine ⟨T3, fun J7 j7 t7 => ?_⟩
    have hc7 := ext_lot j7 hc6
    have x37 := ext_sqt j7 hx3
    have X37 := ext_tups j7 hX3
    obtain ⟨d9, _, _, o9, _⟩ := id hc7
    refine ⟨_, rfl, _, rfl, c6, c6, d9, d9, _, _, rfl, rfl, o9, o9, c6, c6, 1, _, _, rfl, hc7, hc7, by decide, by decide, by decide, by decide, by decide, by decide, told_pow fun J8 v8 j8 hv8 => ?_⟩
    rw [f_mul] at hv8
    obtain ⟨r8, rfl, hw8⟩ := dp_many_inv hv8
    refine ⟨by show 2 ≤ sizeLine; decide, fun l2 kl2 => ?_⟩
    have sl2 := same_new kl2 (.lst [V.ref x3, V.ref r8])
    have x38 := same_sqt (j8.trans sl2) x37
    have X38 := X37.same (j8.trans sl2)
    have v88 := same_sqt sl2 hw8
    have hc8 := hc7.same (j8.trans sl2)
    have yl2 : (upd J8 l2 (.lst [V.ref x3, V.ref r8])) l2 = some (.lst [V.ref x3, V.ref r8]) := upd_same
    have T4 := t7.ext (j8.trans sl2)
    generalize (upd J8 l2 (.lst [V.ref x3, V.ref r8])) = K1 at x38 X38 v88 hc8 yl2 T4 ⊢
    refine ⟨_, rfl, .inl ⟨rfl, _, SqL.of yl2⟩, T4, fun J9 j9 t9 => ?_⟩
    have hc9 := ext_lot j9 hc8
    obtain ⟨d10, _, _, o10, _⟩ := id hc9
    refine ⟨_, rfl, c6, d10, _, rfl, o10, rfl, c6, 1, _, 2, rfl, hc9, by decide, by decide, by decide, by decide, by decide, by decide, told_pow fun J10 v10 j10 hv10 => ?_⟩
    rw [f_far2] at hv10
    obtain ⟨r10, rfl, hw10⟩ := dp_many_inv hv10
    have yl3 : J10 l2 = some (.lst [V.ref x3, V.ref r8]) := j10 _ _ (j9 _ _ yl2 fun _ z => nomatch z)
    refine ⟨l2, _, _, rfl, rfl, yl3, by show 2 < sizeLine; decide, ?_⟩
    have x39 : SqT K (upd J10 l2 (.lst ([V.ref x3, V.ref r8] ++ [V.ref r10]))) x3 _ := sqt_updL yl3 (same_sqt j10 (ext_sqt j9 x38))
    have X39 : Tups K (upd J10 l2 (.lst ([V.ref x3, V.ref r8] ++ [V.ref r10]))) _ _ := ((ext_tups j9 X38).same j10).updL yl3
    have v89 : SqT K (upd J10 l2 (.lst ([V.ref x3, V.ref r8] ++ [V.ref r10]))) r8 _ := sqt_updL yl3 (same_sqt j10 (ext_sqt j9 v88))
    have v19 : SqT K (upd J10 l2 (.lst ([V.ref x3, V.ref r8] ++ [V.ref r10]))) r10 _ := sqt_updL yl3 hw10
    have hcA := lotU (ys := [V.ref x3, V.ref r8] ++ [V.ref r10]) yl3 (hc9.same j10)
    have yl4 : (upd J10 l2 (.lst ([V.ref x3, V.ref r8] ++ [V.ref r10]))) l2 = some (.lst ([V.ref x3, V.ref r8] ++ [V.ref r10])) := upd_same
    generalize (upd J10 l2 (.lst ([V.ref x3, V.ref r8] ++ [V.ref r10]))) = K2 at x39 X39 v89 v19 hcA yl4 ⊢
    obtain ⟨d11, _, _, o11, _⟩ := id hcA
    refine ⟨_, rfl, _, rfl, c6, d11, _, rfl, o11, rfl, by show 1 ≤ sizeLine; decide, fun t31 kt31 => ?_⟩
    have st31 := same_new kt31 (.tup [V.int 31])
    refine ⟨c6, t31, 1, _, [31], rfl, hcA.same st31, SqT.of upd_same, rfl, by decide, by decide, by decide, by decide, by decide, by decide, fun J11 c11 j11 hc11 => ?_⟩
    rw [f_quo] at hc11
    obtain ⟨d12, _, _, o12, _⟩ := id hc11
    refine ⟨c11, d12, _, rfl, o12, c11, 1, _, rfl, hc11, fun x4 xs4 hx4 hX4 => ⟨by show 1 ≤ sizeLine; decide, fun l5 kl5 => ?_⟩⟩
    have sl5 := same_new kl5 (.lst [V.ref x4])
    have S5 := st31.trans (j11.trans sl5)
    refine ⟨l2, l5, _, _, rfl, rfl, S5 _ _ yl4, upd_same, by show 4 ≤ sizeLine; decide, fun l6 kl6 => ?_⟩
    have sl6 := same_new kl6 (.lst (([V.ref x3, V.ref r8] ++ [V.ref r10]) ++ [V.ref x4]))
    have S6 := S5.trans sl6
    have z1 := same_sqt S6 x39
    have Z1 := X39.same S6
    have z2 := same_sqt S6 v89
    have z3 := same_sqt S6 v19
    have z4 := same_sqt (sl5.trans sl6) hx4
    have Z4 := hX4.same (sl5.trans sl6)
    have yl6 := (upd_same : (upd (upd J11 l5 (.lst [V.ref x4])) l6 (.lst (([V.ref x3, V.ref r8] ++ [V.ref r10]) ++ [V.ref x4]))) l6 = _)
    generalize (upd (upd J11 l5 (.lst [V.ref x4])) l6 (.lst (([V.ref x3, V.ref r8] ++ [V.ref r10]) ++ [V.ref x4]))) = K3 at z1 Z1 z2 z3 z4 Z4 yl6 ⊢
    refine ⟨by show 1 ≤ sizeLine; decide, fun m0 km0 => ⟨by show 1 ≤ sizeLine; decide, fun mz kmz => ⟨by show 3 ≤ sizeLine; decide, fun n0 kn0 => ⟨by show 3 ≤ sizeLine; decide, fun n1 kn1 => ⟨by show 1 ≤ sizeLine; decide, fun p0 kp0 => ⟨by show 1 ≤ sizeLine; decide, fun pz kpz => ⟨by show 4 ≤ sizeLine; decide, fun u0 ku0 => ?_⟩⟩⟩⟩⟩⟩⟩
    have sm0 := same_new km0 (.tup [V.int 32])
    have smz := same_new kmz (.tup [V.ref m0])
    have sn0 := same_new kn0 (.tup [V.str "refused", V.str "many", V.int 60])
    have sn1 := same_new kn1 (.tup [V.str "refused", V.str "many", V.int 60])
    have sp0 := same_new kp0 (.tup [V.int 1])
    have spz := same_new kpz (.tup [V.ref p0])
    have su0 := same_new ku0 (.lst [V.ref mz, V.ref n0, V.ref n1, V.ref pz])
    have SSu0 := (sm0.trans (smz.trans (sn0.trans (sn1.trans (sp0.trans (spz.trans su0))))))
    refine ⟨.list dB, .list dB, .lst (SqL.of (SSu0 _ _ yl6)) (.cons (.tup (same_sqt SSu0 z1) (dp_tups (Z1.same SSu0))) (.cons (dp_manyS (same_sqt SSu0 z2)) (.cons (dp_manyS (same_sqt SSu0 z3)) (.cons (.tup (same_sqt SSu0 z4) (dp_tups (Z4.same SSu0))) .nil)))), .lst (SqL.of upd_same) (.cons (.tup (same_sqt (sn0.trans (sn1.trans (sp0.trans (spz.trans su0)))) (SqT.of upd_same)) (dp_tups (rs := [m0]) (L := [[32]]) (.cons (same_sqt (smz.trans (sn0.trans (sn1.trans (sp0.trans (spz.trans su0))))) (SqT.of upd_same)) .nil))) (.cons (dp_manyS (same_sqt (sn1.trans (sp0.trans (spz.trans su0))) (SqT.of upd_same))) (.cons (dp_manyS (same_sqt (sp0.trans (spz.trans su0)) (SqT.of upd_same))) (.cons (.tup (same_sqt su0 (SqT.of upd_same)) (dp_tups (rs := [p0]) (L := [[1]]) (.cons (same_sqt (spz.trans su0) (SqT.of upd_same)) .nil))) .nil)))), by decide +kernel, by decide +kernel, ?_⟩
    rw [show PyData.eqv (.list dB) (.list dB) = true by decide +kernel]
    exact q _
end
end K08

namespace K08
open PySem PySem.Spec PyProof.Rows L2 RZ L5 R7 XX
/-! ### the end -/
theorem exm_b {K : PySem.W.Frag} {S C : Addr} {b : Bool} (h1 : PySem.W.subIn K (.ref C) (.type "BaseException") = some true) (h2 : PySem.W.isClsIn K C = true) (h3 : PySem.W.typeIn K (.ref C) = some (.type "type")) (h4 : PySem.W.subIn K (.ref S) (.ref C) = some b) : PySem.W.exmOne K (.ref S) (.ref C) = some b := by
  have e1 : (PySem.W.subIn K (.ref C) (.type "BaseException") == some true) = true := by rw [h1] <;> rfl
  have h5 : PySem.W.kitCls K (.ref S) (.ref C) = some b := by
    have h2' : (PySem.W.clsIn K C).isSome = true := h2
    have e2 : ((PySem.W.clsIn K C).isSome && PySem.W.typeIn K (.ref C) == some (.type "type")) = true := by rw [h2', h3] <;> rfl
    exact (if_pos e2).trans h4
  exact (if_pos e1).trans h5
theorem all_mk {l : PySem.W.OpenLaw} {w : World} {K : PySem.W.Frag} {h : Heap} {mg : Str → Option Value} {fa C : Addr} (X : K.In h) (G : h.Ns mainGlobals mg) (hfa : mg "law" = some (.ref fa))
    {od_is_number an_is_number : Option Addr} {sl_is_number : Array (Option Value)} {oc_is_number kV_is_number dc_is_number pm_is_number cd_is_number ct_is_number : Value} {f_is_number : Addr}
    (a_is_number : PySem.W.nsIn K mainGlobals "is_number" = some (some (.ref f_is_number))) (l_is_number : K.lookup f_is_number = some ⟨oc_is_number, od_is_number, .func (PySem.W.fnOf "is_number" "is_number" (defArgs s_is_number) (defBody s_is_number) (defScope s_is_number) .none kV_is_number dc_is_number pm_is_number an_is_number cd_is_number ct_is_number), sl_is_number⟩) (cc_is_number : PySem.W.codeIn K cd_is_number "is_number" = true) (k_is_number : PySem.W.keepIn K (.ref f_is_number) = true)
    {od_is_within an_is_within : Option Addr} {sl_is_within : Array (Option Value)} {oc_is_within kV_is_within dc_is_within pm_is_within cd_is_within ct_is_within : Value} {f_is_within : Addr}
    (a_is_within : PySem.W.nsIn K mainGlobals "is_within" = some (some (.ref f_is_within))) (l_is_within : K.lookup f_is_within = some ⟨oc_is_within, od_is_within, .func (PySem.W.fnOf "is_within" "is_within" (defArgs s_is_within) (defBody s_is_within) (defScope s_is_within) .none kV_is_within dc_is_within pm_is_within an_is_within cd_is_within ct_is_within), sl_is_within⟩) (cc_is_within : PySem.W.codeIn K cd_is_within "is_within" = true) (k_is_within : PySem.W.keepIn K (.ref f_is_within) = true)
    {od_check_within an_check_within : Option Addr} {sl_check_within : Array (Option Value)} {oc_check_within kV_check_within dc_check_within pm_check_within cd_check_within ct_check_within : Value} {f_check_within : Addr}
    (a_check_within : PySem.W.nsIn K mainGlobals "check_within" = some (some (.ref f_check_within))) (l_check_within : K.lookup f_check_within = some ⟨oc_check_within, od_check_within, .func (PySem.W.fnOf "check_within" "check_within" (defArgs s_check_within) (defBody s_check_within) (defScope s_check_within) .none kV_check_within dc_check_within pm_check_within an_check_within cd_check_within ct_check_within), sl_check_within⟩) (cc_check_within : PySem.W.codeIn K cd_check_within "check_within" = true) (k_check_within : PySem.W.keepIn K (.ref f_check_within) = true)
    {od_are_exponents an_are_exponents : Option Addr} {sl_are_exponents : Array (Option Value)} {oc_are_exponents kV_are_exponents dc_are_exponents pm_are_exponents cd_are_exponents ct_are_exponents : Value} {f_are_exponents : Addr}
    (a_are_exponents : PySem.W.nsIn K mainGlobals "are_exponents" = some (some (.ref f_are_exponents))) (l_are_exponents : K.lookup f_are_exponents = some ⟨oc_are_exponents, od_are_exponents, .func (PySem.W.fnOf "are_exponents" "are_exponents" (defArgs s_are_exponents) (defBody s_are_exponents) (defScope s_are_exponents) .none kV_are_exponents dc_are_exponents pm_are_exponents an_are_exponents cd_are_exponents ct_are_exponents), sl_are_exponents⟩) (cc_are_exponents : PySem.W.codeIn K cd_are_exponents "are_exponents" = true) (k_are_exponents : PySem.W.keepIn K (.ref f_are_exponents) = true)
    {od_nothing an_nothing : Option Addr} {sl_nothing : Array (Option Value)} {oc_nothing kV_nothing dc_nothing pm_nothing cd_nothing ct_nothing : Value} {f_nothing : Addr}
    (a_nothing : PySem.W.nsIn K mainGlobals "nothing" = some (some (.ref f_nothing))) (l_nothing : K.lookup f_nothing = some ⟨oc_nothing, od_nothing, .func (PySem.W.fnOf "nothing" "nothing" (defArgs s_nothing) (defBody s_nothing) (defScope s_nothing) .none kV_nothing dc_nothing pm_nothing an_nothing cd_nothing ct_nothing), sl_nothing⟩) (cc_nothing : PySem.W.codeIn K cd_nothing "nothing" = true) (k_nothing : PySem.W.keepIn K (.ref f_nothing) = true)
    {od_fits an_fits : Option Addr} {sl_fits : Array (Option Value)} {oc_fits kV_fits dc_fits pm_fits cd_fits ct_fits : Value} {f_fits : Addr}
    (a_fits : PySem.W.nsIn K mainGlobals "fits" = some (some (.ref f_fits))) (l_fits : K.lookup f_fits = some ⟨oc_fits, od_fits, .func (PySem.W.fnOf "fits" "fits" (defArgs s_fits) (defBody s_fits) (defScope s_fits) .none kV_fits dc_fits pm_fits an_fits cd_fits ct_fits), sl_fits⟩) (cc_fits : PySem.W.codeIn K cd_fits "fits" = true) (k_fits : PySem.W.keepIn K (.ref f_fits) = true)
    {od_greater an_greater : Option Addr} {sl_greater : Array (Option Value)} {oc_greater kV_greater dc_greater pm_greater cd_greater ct_greater : Value} {f_greater : Addr}
    (a_greater : PySem.W.nsIn K mainGlobals "greater" = some (some (.ref f_greater))) (l_greater : K.lookup f_greater = some ⟨oc_greater, od_greater, .func (PySem.W.fnOf "greater" "greater" (defArgs s_greater) (defBody s_greater) (defScope s_greater) .none kV_greater dc_greater pm_greater an_greater cd_greater ct_greater), sl_greater⟩) (cc_greater : PySem.W.codeIn K cd_greater "greater" = true) (k_greater : PySem.W.keepIn K (.ref f_greater) = true)
    {od_added an_added : Option Addr} {sl_added : Array (Option Value)} {oc_added kV_added dc_added pm_added cd_added ct_added : Value} {f_added : Addr}
    (a_added : PySem.W.nsIn K mainGlobals "added" = some (some (.ref f_added))) (l_added : K.lookup f_added = some ⟨oc_added, od_added, .func (PySem.W.fnOf "added" "added" (defArgs s_added) (defBody s_added) (defScope s_added) .none kV_added dc_added pm_added an_added cd_added ct_added), sl_added⟩) (cc_added : PySem.W.codeIn K cd_added "added" = true) (k_added : PySem.W.keepIn K (.ref f_added) = true)
    {od_taken_off an_taken_off : Option Addr} {sl_taken_off : Array (Option Value)} {oc_taken_off kV_taken_off dc_taken_off pm_taken_off cd_taken_off ct_taken_off : Value} {f_taken_off : Addr}
    (a_taken_off : PySem.W.nsIn K mainGlobals "taken_off" = some (some (.ref f_taken_off))) (l_taken_off : K.lookup f_taken_off = some ⟨oc_taken_off, od_taken_off, .func (PySem.W.fnOf "taken_off" "taken_off" (defArgs s_taken_off) (defBody s_taken_off) (defScope s_taken_off) .none kV_taken_off dc_taken_off pm_taken_off an_taken_off cd_taken_off ct_taken_off), sl_taken_off⟩) (cc_taken_off : PySem.W.codeIn K cd_taken_off "taken_off" = true) (k_taken_off : PySem.W.keepIn K (.ref f_taken_off) = true)
    {od_is_divided an_is_divided : Option Addr} {sl_is_divided : Array (Option Value)} {oc_is_divided kV_is_divided dc_is_divided pm_is_divided cd_is_divided ct_is_divided : Value} {f_is_divided : Addr}
    (a_is_divided : PySem.W.nsIn K mainGlobals "is_divided" = some (some (.ref f_is_divided))) (l_is_divided : K.lookup f_is_divided = some ⟨oc_is_divided, od_is_divided, .func (PySem.W.fnOf "is_divided" "is_divided" (defArgs s_is_divided) (defBody s_is_divided) (defScope s_is_divided) .none kV_is_divided dc_is_divided pm_is_divided an_is_divided cd_is_divided ct_is_divided), sl_is_divided⟩) (cc_is_divided : PySem.W.codeIn K cd_is_divided "is_divided" = true) (k_is_divided : PySem.W.keepIn K (.ref f_is_divided) = true)
    {od_is_least_of an_is_least_of : Option Addr} {sl_is_least_of : Array (Option Value)} {oc_is_least_of kV_is_least_of dc_is_least_of pm_is_least_of cd_is_least_of ct_is_least_of : Value} {f_is_least_of : Addr}
    (a_is_least_of : PySem.W.nsIn K mainGlobals "is_least_of" = some (some (.ref f_is_least_of))) (l_is_least_of : K.lookup f_is_least_of = some ⟨oc_is_least_of, od_is_least_of, .func (PySem.W.fnOf "is_least_of" "is_least_of" (defArgs s_is_least_of) (defBody s_is_least_of) (defScope s_is_least_of) .none kV_is_least_of dc_is_least_of pm_is_least_of an_is_least_of cd_is_least_of ct_is_least_of), sl_is_least_of⟩) (cc_is_least_of : PySem.W.codeIn K cd_is_least_of "is_least_of" = true) (k_is_least_of : PySem.W.keepIn K (.ref f_is_least_of) = true)
    {tt_least_of : Addr} {tc_least_of : Value} {td_least_of : Option Addr} {tn_least_of : Nat} {ts_least_of : Array (Option Value)}
    {od_least_of an_least_of : Option Addr} {sl_least_of : Array (Option Value)} {oc_least_of kV_least_of dc_least_of pm_least_of cd_least_of ct_least_of : Value} {f_least_of : Addr}
    (a_least_of : PySem.W.nsIn K mainGlobals "least_of" = some (some (.ref f_least_of))) (l_least_of : K.lookup f_least_of = some ⟨oc_least_of, od_least_of, .func (PySem.W.fnOf "least_of" "least_of" (defArgs s_least_of) (defBody s_least_of) (defScope s_least_of) (.ref tt_least_of) kV_least_of dc_least_of pm_least_of an_least_of cd_least_of ct_least_of), sl_least_of⟩) (cc_least_of : PySem.W.codeIn K cd_least_of "least_of" = true) (k_least_of : PySem.W.keepIn K (.ref f_least_of) = true) (t_least_of : K.lookup tt_least_of = some ⟨tc_least_of, td_least_of, .seq #[.none] tn_least_of, ts_least_of⟩)
    {od_check_product an_check_product : Option Addr} {sl_check_product : Array (Option Value)} {oc_check_product kV_check_product dc_check_product pm_check_product cd_check_product ct_check_product : Value} {f_check_product : Addr}
    (a_check_product : PySem.W.nsIn K mainGlobals "check_product" = some (some (.ref f_check_product))) (l_check_product : K.lookup f_check_product = some ⟨oc_check_product, od_check_product, .func (PySem.W.fnOf "check_product" "check_product" (defArgs s_check_product) (defBody s_check_product) (defScope s_check_product) .none kV_check_product dc_check_product pm_check_product an_check_product cd_check_product ct_check_product), sl_check_product⟩) (cc_check_product : PySem.W.codeIn K cd_check_product "check_product" = true) (k_check_product : PySem.W.keepIn K (.ref f_check_product) = true)
    {od_are_products an_are_products : Option Addr} {sl_are_products : Array (Option Value)} {oc_are_products kV_are_products dc_are_products pm_are_products cd_are_products ct_are_products : Value} {f_are_products : Addr}
    (a_are_products : PySem.W.nsIn K mainGlobals "are_products" = some (some (.ref f_are_products))) (l_are_products : K.lookup f_are_products = some ⟨oc_are_products, od_are_products, .func (PySem.W.fnOf "are_products" "are_products" (defArgs s_are_products) (defBody s_are_products) (defScope s_are_products) .none kV_are_products dc_are_products pm_are_products an_are_products cd_are_products ct_are_products), sl_are_products⟩) (cc_are_products : PySem.W.codeIn K cd_are_products "are_products" = true) (k_are_products : PySem.W.keepIn K (.ref f_are_products) = true)
    {od_made_lot an_made_lot : Option Addr} {sl_made_lot : Array (Option Value)} {oc_made_lot kV_made_lot dc_made_lot pm_made_lot cd_made_lot ct_made_lot : Value} {f_made_lot : Addr}
    (a_made_lot : PySem.W.nsIn K mainGlobals "made_lot" = some (some (.ref f_made_lot))) (l_made_lot : K.lookup f_made_lot = some ⟨oc_made_lot, od_made_lot, .func (PySem.W.fnOf "made_lot" "made_lot" (defArgs s_made_lot) (defBody s_made_lot) (defScope s_made_lot) .none kV_made_lot dc_made_lot pm_made_lot an_made_lot cd_made_lot ct_made_lot), sl_made_lot⟩) (cc_made_lot : PySem.W.codeIn K cd_made_lot "made_lot" = true) (k_made_lot : PySem.W.keepIn K (.ref f_made_lot) = true)
    {od_check_letters an_check_letters : Option Addr} {sl_check_letters : Array (Option Value)} {oc_check_letters kV_check_letters dc_check_letters pm_check_letters cd_check_letters ct_check_letters : Value} {f_check_letters : Addr}
    (a_check_letters : PySem.W.nsIn K mainGlobals "check_letters" = some (some (.ref f_check_letters))) (l_check_letters : K.lookup f_check_letters = some ⟨oc_check_letters, od_check_letters, .func (PySem.W.fnOf "check_letters" "check_letters" (defArgs s_check_letters) (defBody s_check_letters) (defScope s_check_letters) .none kV_check_letters dc_check_letters pm_check_letters an_check_letters cd_check_letters ct_check_letters), sl_check_letters⟩) (cc_check_letters : PySem.W.codeIn K cd_check_letters "check_letters" = true) (k_check_letters : PySem.W.keepIn K (.ref f_check_letters) = true)
    {od_limited_members an_limited_members : Option Addr} {sl_limited_members : Array (Option Value)} {oc_limited_members kV_limited_members dc_limited_members pm_limited_members cd_limited_members ct_limited_members : Value} {f_limited_members : Addr}
    (a_limited_members : PySem.W.nsIn K mainGlobals "limited_members" = some (some (.ref f_limited_members))) (l_limited_members : K.lookup f_limited_members = some ⟨oc_limited_members, od_limited_members, .func (PySem.W.fnOf "limited_members" "limited_members" (defArgs s_limited_members) (defBody s_limited_members) (defScope s_limited_members) .none kV_limited_members dc_limited_members pm_limited_members an_limited_members cd_limited_members ct_limited_members), sl_limited_members⟩) (cc_limited_members : PySem.W.codeIn K cd_limited_members "limited_members" = true) (k_limited_members : PySem.W.keepIn K (.ref f_limited_members) = true)
    {od_has_great_exponent an_has_great_exponent : Option Addr} {sl_has_great_exponent : Array (Option Value)} {oc_has_great_exponent kV_has_great_exponent dc_has_great_exponent pm_has_great_exponent cd_has_great_exponent ct_has_great_exponent : Value} {f_has_great_exponent : Addr}
    (a_has_great_exponent : PySem.W.nsIn K mainGlobals "has_great_exponent" = some (some (.ref f_has_great_exponent))) (l_has_great_exponent : K.lookup f_has_great_exponent = some ⟨oc_has_great_exponent, od_has_great_exponent, .func (PySem.W.fnOf "has_great_exponent" "has_great_exponent" (defArgs s_has_great_exponent) (defBody s_has_great_exponent) (defScope s_has_great_exponent) .none kV_has_great_exponent dc_has_great_exponent pm_has_great_exponent an_has_great_exponent cd_has_great_exponent ct_has_great_exponent), sl_has_great_exponent⟩) (cc_has_great_exponent : PySem.W.codeIn K cd_has_great_exponent "has_great_exponent" = true) (k_has_great_exponent : PySem.W.keepIn K (.ref f_has_great_exponent) = true)
    {od_w_pail an_w_pail : Option Addr} {sl_w_pail : Array (Option Value)} {oc_w_pail kV_w_pail dc_w_pail pm_w_pail cd_w_pail ct_w_pail : Value} {f_w_pail : Addr}
    (a_w_pail : PySem.W.nsIn K mainGlobals "_law_pail" = some (some (.ref f_w_pail))) (l_w_pail : K.lookup f_w_pail = some ⟨oc_w_pail, od_w_pail, .func (PySem.W.fnOf "_law_pail" "_law_pail" (defArgs s_w_pail) (defBody s_w_pail) (defScope s_w_pail) .none kV_w_pail dc_w_pail pm_w_pail an_w_pail cd_w_pail ct_w_pail), sl_w_pail⟩) (cc_w_pail : PySem.W.codeIn K cd_w_pail "_law_pail" = true) (k_w_pail : PySem.W.keepIn K (.ref f_w_pail) = true)
    {od_w_dipped an_w_dipped : Option Addr} {sl_w_dipped : Array (Option Value)} {oc_w_dipped kV_w_dipped dc_w_dipped pm_w_dipped cd_w_dipped ct_w_dipped : Value} {f_w_dipped : Addr}
    (a_w_dipped : PySem.W.nsIn K mainGlobals "_law_dipped" = some (some (.ref f_w_dipped))) (l_w_dipped : K.lookup f_w_dipped = some ⟨oc_w_dipped, od_w_dipped, .func (PySem.W.fnOf "_law_dipped" "_law_dipped" (defArgs s_w_dipped) (defBody s_w_dipped) (defScope s_w_dipped) .none kV_w_dipped dc_w_dipped pm_w_dipped an_w_dipped cd_w_dipped ct_w_dipped), sl_w_dipped⟩) (cc_w_dipped : PySem.W.codeIn K cd_w_dipped "_law_dipped" = true) (k_w_dipped : PySem.W.keepIn K (.ref f_w_dipped) = true)
    {od_w_some an_w_some : Option Addr} {sl_w_some : Array (Option Value)} {oc_w_some kV_w_some dc_w_some pm_w_some cd_w_some ct_w_some : Value} {f_w_some : Addr}
    (a_w_some : PySem.W.nsIn K mainGlobals "_law_some" = some (some (.ref f_w_some))) (l_w_some : K.lookup f_w_some = some ⟨oc_w_some, od_w_some, .func (PySem.W.fnOf "_law_some" "_law_some" (defArgs s_w_some) (defBody s_w_some) (defScope s_w_some) .none kV_w_some dc_w_some pm_w_some an_w_some cd_w_some ct_w_some), sl_w_some⟩) (cc_w_some : PySem.W.codeIn K cd_w_some "_law_some" = true) (k_w_some : PySem.W.keepIn K (.ref f_w_some) = true)
    {od_w_product an_w_product : Option Addr} {sl_w_product : Array (Option Value)} {oc_w_product kV_w_product dc_w_product pm_w_product cd_w_product ct_w_product : Value} {f_w_product : Addr}
    (a_w_product : PySem.W.nsIn K mainGlobals "_law_product" = some (some (.ref f_w_product))) (l_w_product : K.lookup f_w_product = some ⟨oc_w_product, od_w_product, .func (PySem.W.fnOf "_law_product" "_law_product" (defArgs s_w_product) (defBody s_w_product) (defScope s_w_product) .none kV_w_product dc_w_product pm_w_product an_w_product cd_w_product ct_w_product), sl_w_product⟩) (cc_w_product : PySem.W.codeIn K cd_w_product "_law_product" = true) (k_w_product : PySem.W.keepIn K (.ref f_w_product) = true)
    {od_w_products an_w_products : Option Addr} {sl_w_products : Array (Option Value)} {oc_w_products kV_w_products dc_w_products pm_w_products cd_w_products ct_w_products : Value} {f_w_products : Addr}
    (a_w_products : PySem.W.nsIn K mainGlobals "_law_products" = some (some (.ref f_w_products))) (l_w_products : K.lookup f_w_products = some ⟨oc_w_products, od_w_products, .func (PySem.W.fnOf "_law_products" "_law_products" (defArgs s_w_products) (defBody s_w_products) (defScope s_w_products) .none kV_w_products dc_w_products pm_w_products an_w_products cd_w_products ct_w_products), sl_w_products⟩) (cc_w_products : PySem.W.codeIn K cd_w_products "_law_products" = true) (k_w_products : PySem.W.keepIn K (.ref f_w_products) = true)
    {od_w_divides an_w_divides : Option Addr} {sl_w_divides : Array (Option Value)} {oc_w_divides kV_w_divides dc_w_divides pm_w_divides cd_w_divides ct_w_divides : Value} {f_w_divides : Addr}
    (a_w_divides : PySem.W.nsIn K mainGlobals "_law_divides" = some (some (.ref f_w_divides))) (l_w_divides : K.lookup f_w_divides = some ⟨oc_w_divides, od_w_divides, .func (PySem.W.fnOf "_law_divides" "_law_divides" (defArgs s_w_divides) (defBody s_w_divides) (defScope s_w_divides) .none kV_w_divides dc_w_divides pm_w_divides an_w_divides cd_w_divides ct_w_divides), sl_w_divides⟩) (cc_w_divides : PySem.W.codeIn K cd_w_divides "_law_divides" = true) (k_w_divides : PySem.W.keepIn K (.ref f_w_divides) = true)
    {od_w_least an_w_least : Option Addr} {sl_w_least : Array (Option Value)} {oc_w_least kV_w_least dc_w_least pm_w_least cd_w_least ct_w_least : Value} {f_w_least : Addr}
    (a_w_least : PySem.W.nsIn K mainGlobals "_law_least" = some (some (.ref f_w_least))) (l_w_least : K.lookup f_w_least = some ⟨oc_w_least, od_w_least, .func (PySem.W.fnOf "_law_least" "_law_least" (defArgs s_w_least) (defBody s_w_least) (defScope s_w_least) .none kV_w_least dc_w_least pm_w_least an_w_least cd_w_least ct_w_least), sl_w_least⟩) (cc_w_least : PySem.W.codeIn K cd_w_least "_law_least" = true) (k_w_least : PySem.W.keepIn K (.ref f_w_least) = true)
    {od_w_joined an_w_joined : Option Addr} {sl_w_joined : Array (Option Value)} {oc_w_joined kV_w_joined dc_w_joined pm_w_joined cd_w_joined ct_w_joined : Value} {f_w_joined : Addr}
    (a_w_joined : PySem.W.nsIn K mainGlobals "_law_joined" = some (some (.ref f_w_joined))) (l_w_joined : K.lookup f_w_joined = some ⟨oc_w_joined, od_w_joined, .func (PySem.W.fnOf "_law_joined" "_law_joined" (defArgs s_w_joined) (defBody s_w_joined) (defScope s_w_joined) .none kV_w_joined dc_w_joined pm_w_joined an_w_joined cd_w_joined ct_w_joined), sl_w_joined⟩) (cc_w_joined : PySem.W.codeIn K cd_w_joined "_law_joined" = true) (k_w_joined : PySem.W.keepIn K (.ref f_w_joined) = true)
    {od_w_added an_w_added : Option Addr} {sl_w_added : Array (Option Value)} {oc_w_added kV_w_added dc_w_added pm_w_added cd_w_added ct_w_added : Value} {f_w_added : Addr}
    (a_w_added : PySem.W.nsIn K mainGlobals "_law_added" = some (some (.ref f_w_added))) (l_w_added : K.lookup f_w_added = some ⟨oc_w_added, od_w_added, .func (PySem.W.fnOf "_law_added" "_law_added" (defArgs s_w_added) (defBody s_w_added) (defScope s_w_added) .none kV_w_added dc_w_added pm_w_added an_w_added cd_w_added ct_w_added), sl_w_added⟩) (cc_w_added : PySem.W.codeIn K cd_w_added "_law_added" = true) (k_w_added : PySem.W.keepIn K (.ref f_w_added) = true)
    {od_w_lessened an_w_lessened : Option Addr} {sl_w_lessened : Array (Option Value)} {oc_w_lessened kV_w_lessened dc_w_lessened pm_w_lessened cd_w_lessened ct_w_lessened : Value} {f_w_lessened : Addr}
    (a_w_lessened : PySem.W.nsIn K mainGlobals "_law_lessened" = some (some (.ref f_w_lessened))) (l_w_lessened : K.lookup f_w_lessened = some ⟨oc_w_lessened, od_w_lessened, .func (PySem.W.fnOf "_law_lessened" "_law_lessened" (defArgs s_w_lessened) (defBody s_w_lessened) (defScope s_w_lessened) .none kV_w_lessened dc_w_lessened pm_w_lessened an_w_lessened cd_w_lessened ct_w_lessened), sl_w_lessened⟩) (cc_w_lessened : PySem.W.codeIn K cd_w_lessened "_law_lessened" = true) (k_w_lessened : PySem.W.keepIn K (.ref f_w_lessened) = true)
    {od_w_pairwise an_w_pairwise : Option Addr} {sl_w_pairwise : Array (Option Value)} {oc_w_pairwise kV_w_pairwise dc_w_pairwise pm_w_pairwise cd_w_pairwise ct_w_pairwise : Value} {f_w_pairwise : Addr}
    (a_w_pairwise : PySem.W.nsIn K mainGlobals "_law_pairwise" = some (some (.ref f_w_pairwise))) (l_w_pairwise : K.lookup f_w_pairwise = some ⟨oc_w_pairwise, od_w_pairwise, .func (PySem.W.fnOf "_law_pairwise" "_law_pairwise" (defArgs s_w_pairwise) (defBody s_w_pairwise) (defScope s_w_pairwise) .none kV_w_pairwise dc_w_pairwise pm_w_pairwise an_w_pairwise cd_w_pairwise ct_w_pairwise), sl_w_pairwise⟩) (cc_w_pairwise : PySem.W.codeIn K cd_w_pairwise "_law_pairwise" = true) (k_w_pairwise : PySem.W.keepIn K (.ref f_w_pairwise) = true)
    {od_w_due an_w_due : Option Addr} {sl_w_due : Array (Option Value)} {oc_w_due kV_w_due dc_w_due pm_w_due cd_w_due ct_w_due : Value} {f_w_due : Addr}
    (a_w_due : PySem.W.nsIn K mainGlobals "_law_due" = some (some (.ref f_w_due))) (l_w_due : K.lookup f_w_due = some ⟨oc_w_due, od_w_due, .func (PySem.W.fnOf "_law_due" "_law_due" (defArgs s_w_due) (defBody s_w_due) (defScope s_w_due) .none kV_w_due dc_w_due pm_w_due an_w_due cd_w_due ct_w_due), sl_w_due⟩) (cc_w_due : PySem.W.codeIn K cd_w_due "_law_due" = true) (k_w_due : PySem.W.keepIn K (.ref f_w_due) = true)
    {od_w_told an_w_told : Option Addr} {sl_w_told : Array (Option Value)} {oc_w_told kV_w_told dc_w_told pm_w_told cd_w_told ct_w_told : Value} {f_w_told : Addr}
    (a_w_told : PySem.W.nsIn K mainGlobals "_law_told" = some (some (.ref f_w_told))) (l_w_told : K.lookup f_w_told = some ⟨oc_w_told, od_w_told, .func (PySem.W.fnOf "_law_told" "_law_told" (defArgs s_w_told) (defBody s_w_told) (defScope s_w_told) .none kV_w_told dc_w_told pm_w_told an_w_told cd_w_told ct_w_told), sl_w_told⟩) (cc_w_told : PySem.W.codeIn K cd_w_told "_law_told" = true) (k_w_told : PySem.W.keepIn K (.ref f_w_told) = true)
    {od_w_power an_w_power : Option Addr} {sl_w_power : Array (Option Value)} {oc_w_power kV_w_power dc_w_power pm_w_power cd_w_power ct_w_power : Value} {f_w_power : Addr}
    (a_w_power : PySem.W.nsIn K mainGlobals "_law_power" = some (some (.ref f_w_power))) (l_w_power : K.lookup f_w_power = some ⟨oc_w_power, od_w_power, .func (PySem.W.fnOf "_law_power" "_law_power" (defArgs s_w_power) (defBody s_w_power) (defScope s_w_power) .none kV_w_power dc_w_power pm_w_power an_w_power cd_w_power ct_w_power), sl_w_power⟩) (cc_w_power : PySem.W.codeIn K cd_w_power "_law_power" = true) (k_w_power : PySem.W.keepIn K (.ref f_w_power) = true)
    {od_w_quotients_right an_w_quotients_right : Option Addr} {sl_w_quotients_right : Array (Option Value)} {oc_w_quotients_right kV_w_quotients_right dc_w_quotients_right pm_w_quotients_right cd_w_quotients_right ct_w_quotients_right : Value} {f_w_quotients_right : Addr}
    (a_w_quotients_right : PySem.W.nsIn K mainGlobals "_law_quotients_right" = some (some (.ref f_w_quotients_right))) (l_w_quotients_right : K.lookup f_w_quotients_right = some ⟨oc_w_quotients_right, od_w_quotients_right, .func (PySem.W.fnOf "_law_quotients_right" "_law_quotients_right" (defArgs s_w_quotients_right) (defBody s_w_quotients_right) (defScope s_w_quotients_right) .none kV_w_quotients_right dc_w_quotients_right pm_w_quotients_right an_w_quotients_right cd_w_quotients_right ct_w_quotients_right), sl_w_quotients_right⟩) (cc_w_quotients_right : PySem.W.codeIn K cd_w_quotients_right "_law_quotients_right" = true) (k_w_quotients_right : PySem.W.keepIn K (.ref f_w_quotients_right) = true)
    {od_w_right an_w_right : Option Addr} {sl_w_right : Array (Option Value)} {oc_w_right kV_w_right dc_w_right pm_w_right ct_w_right : Value} {f_w_right c_w_right : Addr}
    (a_w_right : PySem.W.nsIn K mainGlobals "_law_right" = some (some (.ref f_w_right))) (l_w_right : K.lookup f_w_right = some ⟨oc_w_right, od_w_right, .func (PySem.W.fnOf "_law_right" "_law_right" (defArgs s_w_right) (defBody s_w_right) (defScope s_w_right) .none kV_w_right dc_w_right pm_w_right an_w_right (.ref c_w_right) ct_w_right), sl_w_right⟩) (cc_w_right : PySem.W.codeIn K (.ref c_w_right) "_law_right" = true) (k_w_right : PySem.W.keepIn K (.ref f_w_right) = true)
    (hd_w_right : PySem.W.codeHdIn K c_w_right tR = true) (nl_w_right : K.lookup tR = none) (hT_w_right : h.get? tR = some { cls := .none, data := .fields #[] })
    {od_law an_law : Option Addr} {sl_law : Array (Option Value)} {oc_law kV_law dc_law pm_law ct_law : Value} {f_law c_law : Addr}
    (a_law : PySem.W.nsIn K mainGlobals "law" = some (some (.ref f_law))) (l_law : K.lookup f_law = some ⟨oc_law, od_law, .func (PySem.W.fnOf "law" "law" (defArgs s_law) (defBody s_law) (defScope s_law) .none kV_law dc_law pm_law an_law (.ref c_law) ct_law), sl_law⟩) (cc_law : PySem.W.codeIn K (.ref c_law) "law" = true) (k_law : PySem.W.keepIn K (.ref f_law) = true)
    (hd_law : PySem.W.codeHdIn K c_law tL = true) (nl_law : K.lookup tL = none) (hT_law : h.get? tL = some { cls := .none, data := .fields #[] })
    (aC : PySem.W.nsIn K mainGlobals "Lot" = some (some (.ref C)))
    {od_init an_init : Option Addr} {sl_init : Array (Option Value)} {oc_init kV_init dc_init pm_init cd_init ct_init : Value} {f_init : Addr}
    (a_init : PySem.W.findIn K (.ref C) "__init__" = some (some (.ref f_init))) (i_init : PySem.W.isFn K (.ref f_init) = true) (l_init : K.lookup f_init = some ⟨oc_init, od_init, .func (PySem.W.fnOf "__init__" "Lot.__init__" (defArgs s_init) (defBody s_init) (defScope s_init) .none kV_init dc_init pm_init an_init cd_init ct_init), sl_init⟩) (cc_init : PySem.W.codeIn K cd_init "Lot.__init__" = true) (k_init : PySem.W.keepIn K (.ref f_init) = true)
    {od_add an_add : Option Addr} {sl_add : Array (Option Value)} {oc_add kV_add dc_add pm_add cd_add ct_add : Value} {f_add : Addr}
    (a_add : PySem.W.findIn K (.ref C) (PySem.dunder Operator.Add.info.2) = some (some (.ref f_add))) (i_add : PySem.W.isFn K (.ref f_add) = true) (l_add : K.lookup f_add = some ⟨oc_add, od_add, .func (PySem.W.fnOf "__add__" "Lot.__add__" (defArgs s_add) (defBody s_add) (defScope s_add) .none kV_add dc_add pm_add an_add cd_add ct_add), sl_add⟩) (cc_add : PySem.W.codeIn K cd_add "Lot.__add__" = true) (k_add : PySem.W.keepIn K (.ref f_add) = true)
    {od_mul an_mul : Option Addr} {sl_mul : Array (Option Value)} {oc_mul kV_mul dc_mul pm_mul cd_mul ct_mul : Value} {f_mul : Addr}
    (a_mul : PySem.W.findIn K (.ref C) (PySem.dunder Operator.Mult.info.2) = some (some (.ref f_mul))) (i_mul : PySem.W.isFn K (.ref f_mul) = true) (l_mul : K.lookup f_mul = some ⟨oc_mul, od_mul, .func (PySem.W.fnOf "__mul__" "Lot.__mul__" (defArgs s_mul) (defBody s_mul) (defScope s_mul) .none kV_mul dc_mul pm_mul an_mul cd_mul ct_mul), sl_mul⟩) (cc_mul : PySem.W.codeIn K cd_mul "Lot.__mul__" = true) (k_mul : PySem.W.keepIn K (.ref f_mul) = true)
    {od_meet an_meet : Option Addr} {sl_meet : Array (Option Value)} {oc_meet kV_meet dc_meet pm_meet cd_meet ct_meet : Value} {f_meet : Addr}
    (a_meet : PySem.W.findIn K (.ref C) "meet" = some (some (.ref f_meet))) (i_meet : PySem.W.isFn K (.ref f_meet) = true) (l_meet : K.lookup f_meet = some ⟨oc_meet, od_meet, .func (PySem.W.fnOf "meet" "Lot.meet" (defArgs s_meet) (defBody s_meet) (defScope s_meet) .none kV_meet dc_meet pm_meet an_meet cd_meet ct_meet), sl_meet⟩) (cc_meet : PySem.W.codeIn K cd_meet "Lot.meet" = true) (k_meet : PySem.W.keepIn K (.ref f_meet) = true)
    {od_quot an_quot : Option Addr} {sl_quot : Array (Option Value)} {oc_quot kV_quot dc_quot pm_quot cd_quot ct_quot : Value} {f_quot : Addr}
    (a_quot : PySem.W.findIn K (.ref C) "quotient" = some (some (.ref f_quot))) (i_quot : PySem.W.isFn K (.ref f_quot) = true) (l_quot : K.lookup f_quot = some ⟨oc_quot, od_quot, .func (PySem.W.fnOf "quotient" "Lot.quotient" (defArgs s_quot) (defBody s_quot) (defScope s_quot) .none kV_quot dc_quot pm_quot an_quot cd_quot ct_quot), sl_quot⟩) (cc_quot : PySem.W.codeIn K cd_quot "Lot.quotient" = true) (k_quot : PySem.W.keepIn K (.ref f_quot) = true)
    {od_pow an_pow : Option Addr} {sl_pow : Array (Option Value)} {oc_pow kV_pow dc_pow pm_pow cd_pow ct_pow : Value} {f_pow : Addr}
    (a_pow : PySem.W.findIn K (.ref C) "power" = some (some (.ref f_pow))) (i_pow : PySem.W.isFn K (.ref f_pow) = true) (l_pow : K.lookup f_pow = some ⟨oc_pow, od_pow, .func (PySem.W.fnOf "power" "Lot.power" (defArgs s_pow) (defBody s_pow) (defScope s_pow) .none kV_pow dc_pow pm_pow an_pow cd_pow ct_pow), sl_pow⟩) (cc_pow : PySem.W.codeIn K cd_pow "Lot.power" = true) (k_pow : PySem.W.keepIn K (.ref f_pow) = true)
    {od_has an_has : Option Addr} {sl_has : Array (Option Value)} {oc_has kV_has dc_has pm_has cd_has ct_has : Value} {f_has : Addr}
    (a_has : PySem.W.findIn K (.ref C) "__contains__" = some (some (.ref f_has))) (i_has : PySem.W.isFn K (.ref f_has) = true) (l_has : K.lookup f_has = some ⟨oc_has, od_has, .func (PySem.W.fnOf "__contains__" "Lot.__contains__" (defArgs s_has) (defBody s_has) (defScope s_has) .none kV_has dc_has pm_has an_has cd_has ct_has), sl_has⟩) (cc_has : PySem.W.codeIn K cd_has "Lot.__contains__" = true) (k_has : PySem.W.keepIn K (.ref f_has) = true)
    {od_eq an_eq : Option Addr} {sl_eq : Array (Option Value)} {oc_eq kV_eq dc_eq pm_eq cd_eq ct_eq : Value} {f_eq : Addr}
    (a_eq : PySem.W.findIn K (.ref C) "__eq__" = some (some (.ref f_eq))) (i_eq : PySem.W.isFn K (.ref f_eq) = true) (l_eq : K.lookup f_eq = some ⟨oc_eq, od_eq, .func (PySem.W.fnOf "__eq__" "Lot.__eq__" (defArgs s_eq) (defBody s_eq) (defScope s_eq) .none kV_eq dc_eq pm_eq an_eq cd_eq ct_eq), sl_eq⟩) (cc_eq : PySem.W.codeIn K cd_eq "Lot.__eq__" = true) (k_eq : PySem.W.keepIn K (.ref f_eq) = true)
    {od_len an_len : Option Addr} {sl_len : Array (Option Value)} {oc_len kV_len dc_len pm_len cd_len ct_len : Value} {f_len : Addr}
    (a_len : PySem.W.findIn K (.ref C) "__len__" = some (some (.ref f_len))) (i_len : PySem.W.isFn K (.ref f_len) = true) (l_len : K.lookup f_len = some ⟨oc_len, od_len, .func (PySem.W.fnOf "__len__" "Lot.__len__" (defArgs s_len) (defBody s_len) (defScope s_len) .none kV_len dc_len pm_len an_len cd_len ct_len), sl_len⟩) (cc_len : PySem.W.codeIn K cd_len "Lot.__len__" = true) (k_len : PySem.W.keepIn K (.ref f_len) = true)
    {od_iter an_iter : Option Addr} {sl_iter : Array (Option Value)} {oc_iter kV_iter dc_iter pm_iter cd_iter ct_iter : Value} {f_iter : Addr}
    (a_iter : PySem.W.findIn K (.ref C) "__iter__" = some (some (.ref f_iter))) (i_iter : PySem.W.isFn K (.ref f_iter) = true) (l_iter : K.lookup f_iter = some ⟨oc_iter, od_iter, .func (PySem.W.fnOf "__iter__" "Lot.__iter__" (defArgs s_iter) (defBody s_iter) (defScope s_iter) .none kV_iter dc_iter pm_iter an_iter cd_iter ct_iter), sl_iter⟩) (cc_iter : PySem.W.codeIn K cd_iter "Lot.__iter__" = true) (k_iter : PySem.W.keepIn K (.ref f_iter) = true)
    {pp_letters : Addr} {re_letters : List Value}
    {od_letters an_letters : Option Addr} {sl_letters : Array (Option Value)} {oc_letters kV_letters dc_letters pm_letters cd_letters ct_letters : Value} {f_letters : Addr}
    (a_letters : PySem.W.findIn K (.ref C) "letters" = some (some (.ref pp_letters))) (g_letters : PySem.W.specialIn K (.ref pp_letters) "__get__" = some (some (.builtin "property.__get__"))) (tk_letters : PySem.W.takesIn K (.ref pp_letters) = some true) (r_letters : PySem.W.recIn K pp_letters "property" = some (.ref f_letters :: re_letters)) (l_letters : K.lookup f_letters = some ⟨oc_letters, od_letters, .func (PySem.W.fnOf "letters" "Lot.letters" (defArgs s_letters) (defBody s_letters) (defScope s_letters) .none kV_letters dc_letters pm_letters an_letters cd_letters ct_letters), sl_letters⟩) (cc_letters : PySem.W.codeIn K cd_letters "Lot.letters" = true) (k_letters : PySem.W.keepIn K (.ref f_letters) = true)
    {pp_members : Addr} {re_members : List Value}
    {od_members an_members : Option Addr} {sl_members : Array (Option Value)} {oc_members kV_members dc_members pm_members cd_members ct_members : Value} {f_members : Addr}
    (a_members : PySem.W.findIn K (.ref C) "members" = some (some (.ref pp_members))) (g_members : PySem.W.specialIn K (.ref pp_members) "__get__" = some (some (.builtin "property.__get__"))) (tk_members : PySem.W.takesIn K (.ref pp_members) = some true) (r_members : PySem.W.recIn K pp_members "property" = some (.ref f_members :: re_members)) (l_members : K.lookup f_members = some ⟨oc_members, od_members, .func (PySem.W.fnOf "members" "Lot.members" (defArgs s_members) (defBody s_members) (defScope s_members) .none kV_members dc_members pm_members an_members cd_members ct_members), sl_members⟩) (cc_members : PySem.W.codeIn K cd_members "Lot.members" = true) (k_members : PySem.W.keepIn K (.ref f_members) = true)
    {pp_is_all : Addr} {re_is_all : List Value}
    {od_is_all an_is_all : Option Addr} {sl_is_all : Array (Option Value)} {oc_is_all kV_is_all dc_is_all pm_is_all cd_is_all ct_is_all : Value} {f_is_all : Addr}
    (a_is_all : PySem.W.findIn K (.ref C) "is_all" = some (some (.ref pp_is_all))) (g_is_all : PySem.W.specialIn K (.ref pp_is_all) "__get__" = some (some (.builtin "property.__get__"))) (tk_is_all : PySem.W.takesIn K (.ref pp_is_all) = some true) (r_is_all : PySem.W.recIn K pp_is_all "property" = some (.ref f_is_all :: re_is_all)) (l_is_all : K.lookup f_is_all = some ⟨oc_is_all, od_is_all, .func (PySem.W.fnOf "is_all" "Lot.is_all" (defArgs s_is_all) (defBody s_is_all) (defScope s_is_all) .none kV_is_all dc_is_all pm_is_all an_is_all cd_is_all ct_is_all), sl_is_all⟩) (cc_is_all : PySem.W.codeIn K cd_is_all "Lot.is_all" = true) (k_is_all : PySem.W.keepIn K (.ref f_is_all) = true)
    (pgC : PySem.W.plainGet K C Str.empty = true)
    (hdC : PySem.W.hasDictIn K C = true)
    (poC : PySem.W.plainOver K C = true)
    (saC : PySem.W.findIn K (.ref C) "__setattr__" = some (some (.builtin "object.__setattr__")))
    (mkC : PySem.W.makesIn K C = true)
    (kcC : PySem.W.keepIn K (.ref C) = true)
    (nL : PySem.W.findIn K (.ref C) "_letters" = some none)
    (nM : PySem.W.findIn K (.ref C) "_members" = some none)
    (c1 : PySem.W.findIn K (.ref C) "__class__" = some (some (.builtin "object.__class__")))
    (c2 : PySem.W.specialIn K (.builtin "object.__class__") "__get__" = some (some (.builtin "getset_descriptor.__get__")))
    (c3 : PySem.W.takesIn K (.builtin "object.__class__") = some true)
    (hm : PySem.W.mroIn K C (.type "object") = some true)
    (kit : PySem.W.kitOne K (.ref C) (.ref C) = some true)
    (first : PySem.W.selfFirst K C = true)
    (hne : PySem.W.findIn K (.ref C) "__ne__" = some (some (.builtin "object.__ne__")))
    (zz_iter : PySem.W.nsIn K mainGlobals "iter" = some none)
    (z_isinstance : PySem.W.nsIn K mainGlobals "isinstance" = some none)
    (z_int : PySem.W.nsIn K mainGlobals "int" = some none)
    (z_bool : PySem.W.nsIn K mainGlobals "bool" = some none)
    (z_tuple : PySem.W.nsIn K mainGlobals "tuple" = some none)
    (z_len : PySem.W.nsIn K mainGlobals "len" = some none)
    (z_all : PySem.W.nsIn K mainGlobals "all" = some none)
    (z_zip : PySem.W.nsIn K mainGlobals "zip" = some none)
    (z_max : PySem.W.nsIn K mainGlobals "max" = some none)
    (z_sorted : PySem.W.nsIn K mainGlobals "sorted" = some none)
    (z_set : PySem.W.nsIn K mainGlobals "set" = some none)
    (z_enumerate : PySem.W.nsIn K mainGlobals "enumerate" = some none)
    (z_range : PySem.W.nsIn K mainGlobals "range" = some none)
    (z_sum : PySem.W.nsIn K mainGlobals "sum" = some none)
    (z_abs : PySem.W.nsIn K mainGlobals "abs" = some none)
    (z_min : PySem.W.nsIn K mainGlobals "min" = some none)
    {t_MAX_LETTERS : Nat} (g_MAX_LETTERS : PySem.W.nsIn K mainGlobals "MAX_LETTERS" = some (some (.int 8 t_MAX_LETTERS)))
    {t_MAX_EXPONENT : Nat} (g_MAX_EXPONENT : PySem.W.nsIn K mainGlobals "MAX_EXPONENT" = some (some (.int 60 t_MAX_EXPONENT)))
    {t_LONGEST_EXPONENT : Nat} (g_LONGEST_EXPONENT : PySem.W.nsIn K mainGlobals "LONGEST_EXPONENT" = some (some (.int 2 t_LONGEST_EXPONENT)))
    {t_MAX_MEMBER_EXPONENT : Nat} (g_MAX_MEMBER_EXPONENT : PySem.W.nsIn K mainGlobals "MAX_MEMBER_EXPONENT" = some (some (.int 8 t_MAX_MEMBER_EXPONENT)))
    {t_MAX_MEMBERS : Nat} (g_MAX_MEMBERS : PySem.W.nsIn K mainGlobals "MAX_MEMBERS" = some (some (.int 24 t_MAX_MEMBERS)))
    {t_MAX_PASSED : Nat} (g_MAX_PASSED : PySem.W.nsIn K mainGlobals "MAX_PASSED" = some (some (.int 200 t_MAX_PASSED)))
    {t_MAX_POWER : Nat} (g_MAX_POWER : PySem.W.nsIn K mainGlobals "MAX_POWER" = some (some (.int 4 t_MAX_POWER)))
    {C_TooMany : Addr}
    (aC_TooMany : PySem.W.nsIn K mainGlobals "TooMany" = some (some (.ref C_TooMany)))
    {nm_TooMany q_TooMany : Str} {N_TooMany : Addr} {bs_TooMany : List Value} {sn_TooMany : List Str} {sub_TooMany : List Value} {ab_TooMany : Bool} {col_TooMany : Option Bool} {dd_TooMany : Option Addr} {m0_TooMany m1_TooMany m2_TooMany m3_TooMany m5_TooMany : Option Value}
    (xL_TooMany : K.lookup C_TooMany = some (excClassObj nm_TooMany q_TooMany C_TooMany N_TooMany bs_TooMany [.type "OverflowError", .type "ArithmeticError", .type "Exception", .type "BaseException", .type "object"] true sn_TooMany sub_TooMany ab_TooMany col_TooMany dd_TooMany m0_TooMany m1_TooMany m2_TooMany m3_TooMany m5_TooMany "OverflowError.__new__"))
    (sa_TooMany : PySem.W.findIn K (.ref C_TooMany) "__setattr__" = some (some (.builtin "object.__setattr__"))) (ga_TooMany : PySem.W.findIn K (.ref C_TooMany) "__getattribute__" = some (some (.builtin "BaseException.__getattribute__"))) (gg_TooMany : PySem.W.findIn K (.ref C_TooMany) "__getattr__" = some none) (nf_TooMany : PySem.W.findIn K (.ref C_TooMany) "most" = some none)
    {fi_TooMany : Addr} {odi_TooMany ani_TooMany : Option Addr} {sli_TooMany : Array (Option Value)} {oci_TooMany kVi_TooMany dci_TooMany pmi_TooMany cdi_TooMany cti_TooMany : Value}
    (ai_TooMany : PySem.W.findIn K (.ref C_TooMany) "__init__" = some (some (.ref fi_TooMany))) (ti_TooMany : PySem.W.typeIn K (.ref fi_TooMany) = some (.type "function"))
    (li_TooMany : K.lookup fi_TooMany = some ⟨oci_TooMany, odi_TooMany, .func (PySem.W.fnOf "__init__" "TooMany.__init__" (defArgs si_TooMany) (defBody si_TooMany) (defScope si_TooMany) .none kVi_TooMany dci_TooMany pmi_TooMany ani_TooMany cdi_TooMany cti_TooMany), sli_TooMany⟩) (ci_TooMany : PySem.W.codeIn K cdi_TooMany "TooMany.__init__" = true) (ki_TooMany : PySem.W.keepIn K (.ref fi_TooMany) = true)
    (hC_TooMany : PySem.W.hasDictIn K C_TooMany = true)
    (bE_TooMany : PySem.W.subIn K (.ref C_TooMany) (.type "BaseException") = some true) (tE_TooMany : PySem.W.typeIn K (.ref C_TooMany) = some (.type "type")) (kC_TooMany : PySem.W.keepIn K (.ref C_TooMany) = true) (iC_TooMany : PySem.W.isClsIn K C_TooMany = true)
    (s_TooMany_TooMany : PySem.W.subIn K (.ref C_TooMany) (.ref C_TooMany) = some true)
    : LamX.LawAtS l w K CX0 12 63 "_law_script" mg fa h := by
  have e := hfa.symm.trans (PySem.W.mg_of X G a_law)
  cases e
  have F_is_number := fun_mk (st := s_is_number) l_is_number cc_is_number k_is_number
  have b_is_number := F_is_number.binds (ps := ["value"]) fun _ _ _ _ _ _ us hl => match us, hl with | [_], _ => rfl
  have F_is_within := fun_mk (st := s_is_within) l_is_within cc_is_within k_is_within
  have b_is_within := F_is_within.binds (ps := ["value", "least", "most"]) fun _ _ _ _ _ _ us hl => match us, hl with | [_, _, _], _ => rfl
  have F_check_within := fun_mk (st := s_check_within) l_check_within cc_check_within k_check_within
  have b_check_within := F_check_within.binds (ps := ["value", "least", "most"]) fun _ _ _ _ _ _ us hl => match us, hl with | [_, _, _], _ => rfl
  have F_are_exponents := fun_mk (st := s_are_exponents) l_are_exponents cc_are_exponents k_are_exponents
  have b_are_exponents := F_are_exponents.binds (ps := ["value", "letters", "most"]) fun _ _ _ _ _ _ us hl => match us, hl with | [_, _, _], _ => rfl
  have F_nothing := fun_mk (st := s_nothing) l_nothing cc_nothing k_nothing
  have b_nothing := F_nothing.binds (ps := ["letters"]) fun _ _ _ _ _ _ us hl => match us, hl with | [_], _ => rfl
  have F_fits := fun_mk (st := s_fits) l_fits cc_fits k_fits
  have b_fits := F_fits.binds (ps := ["one", "other"]) fun _ _ _ _ _ _ us hl => match us, hl with | [_, _], _ => rfl
  have F_greater := fun_mk (st := s_greater) l_greater cc_greater k_greater
  have b_greater := F_greater.binds (ps := ["one", "other"]) fun _ _ _ _ _ _ us hl => match us, hl with | [_, _], _ => rfl
  have F_added := fun_mk (st := s_added) l_added cc_added k_added
  have b_added := F_added.binds (ps := ["one", "other"]) fun _ _ _ _ _ _ us hl => match us, hl with | [_, _], _ => rfl
  have F_taken_off := fun_mk (st := s_taken_off) l_taken_off cc_taken_off k_taken_off
  have b_taken_off := F_taken_off.binds (ps := ["one", "other"]) fun _ _ _ _ _ _ us hl => match us, hl with | [_, _], _ => rfl
  have F_is_divided := fun_mk (st := s_is_divided) l_is_divided cc_is_divided k_is_divided
  have b_is_divided := F_is_divided.binds (ps := ["product", "products"]) fun _ _ _ _ _ _ us hl => match us, hl with | [_, _], _ => rfl
  have F_is_least_of := fun_mk (st := s_is_least_of) l_is_least_of cc_is_least_of k_is_least_of
  have b_is_least_of := F_is_least_of.binds (ps := ["product", "products"]) fun _ _ _ _ _ _ us hl => match us, hl with | [_, _], _ => rfl
  have F_least_of : FunD K "least_of" "least_of" (defArgs s_least_of) (defBody s_least_of) (defScope s_least_of) [.non] [] f_least_of _ := ⟨⟨_, _, _, _, _, _, _, _, _, _, rfl, l_least_of, cc_least_of, .inr ⟨by simp, _, _, [.none], _, rfl, t_least_of, rfl, .cons rfl .nil⟩, .inl rfl⟩, k_least_of⟩
  obtain ⟨ds_least_of, hv_least_of, b_least_of⟩ := F_least_of.binds1 (ps := ["products", "most"]) 2 1 (by simp) rfl (fun T kV doc pm an cdv ct us its h1 h2 => match us, its, h1, h2 with | [_, _], [_], _, _ => ⟨_, rfl, rfl⟩)
  cases hv_least_of
  have F_check_product := fun_mk (st := s_check_product) l_check_product cc_check_product k_check_product
  have b_check_product := F_check_product.binds (ps := ["value", "letters"]) fun _ _ _ _ _ _ us hl => match us, hl with | [_, _], _ => rfl
  have F_are_products := fun_mk (st := s_are_products) l_are_products cc_are_products k_are_products
  have b_are_products := F_are_products.binds (ps := ["value", "letters"]) fun _ _ _ _ _ _ us hl => match us, hl with | [_, _], _ => rfl
  have F_made_lot := fun_mk (st := s_made_lot) l_made_lot cc_made_lot k_made_lot
  have b_made_lot := F_made_lot.binds (ps := ["letters", "members"]) fun _ _ _ _ _ _ us hl => match us, hl with | [_, _], _ => rfl
  have F_check_letters := fun_mk (st := s_check_letters) l_check_letters cc_check_letters k_check_letters
  have b_check_letters := F_check_letters.binds (ps := ["one", "other"]) fun _ _ _ _ _ _ us hl => match us, hl with | [_, _], _ => rfl
  have F_limited_members := fun_mk (st := s_limited_members) l_limited_members cc_limited_members k_limited_members
  have b_limited_members := F_limited_members.binds (ps := ["products"]) fun _ _ _ _ _ _ us hl => match us, hl with | [_], _ => rfl
  have F_has_great_exponent := fun_mk (st := s_has_great_exponent) l_has_great_exponent cc_has_great_exponent k_has_great_exponent
  have b_has_great_exponent := F_has_great_exponent.binds (ps := ["products"]) fun _ _ _ _ _ _ us hl => match us, hl with | [_], _ => rfl
  have F_w_pail := fun_mk (st := s_w_pail) l_w_pail cc_w_pail k_w_pail
  have b_w_pail := F_w_pail.binds (ps := ["_law_script", "_law_spot"]) fun _ _ _ _ _ _ us hl => match us, hl with | [_, _], _ => rfl
  have F_w_dipped := fun_mk (st := s_w_dipped) l_w_dipped cc_w_dipped k_w_dipped
  have b_w_dipped := F_w_dipped.binds (ps := ["_law_pail_here", "_law_many"]) fun _ _ _ _ _ _ us hl => match us, hl with | [_, _], _ => rfl
  have F_w_some := fun_mk (st := s_w_some) l_w_some cc_w_some k_w_some
  have b_w_some := F_w_some.binds (ps := ["_law_pail_here", "_law_items"]) fun _ _ _ _ _ _ us hl => match us, hl with | [_, _], _ => rfl
  have F_w_product := fun_mk (st := s_w_product) l_w_product cc_w_product k_w_product
  have b_w_product := F_w_product.binds (ps := ["_law_pail_here", "_law_letters", "_law_most"]) fun _ _ _ _ _ _ us hl => match us, hl with | [_, _, _], _ => rfl
  have F_w_products := fun_mk (st := s_w_products) l_w_products cc_w_products k_w_products
  have b_w_products := F_w_products.binds (ps := ["_law_pail_here", "_law_letters", "_law_many", "_law_most"]) fun _ _ _ _ _ _ us hl => match us, hl with | [_, _, _, _], _ => rfl
  have F_w_divides := fun_mk (st := s_w_divides) l_w_divides cc_w_divides k_w_divides
  have b_w_divides := F_w_divides.binds (ps := ["_law_one", "_law_other"]) fun _ _ _ _ _ _ us hl => match us, hl with | [_, _], _ => rfl
  have F_w_least := fun_mk (st := s_w_least) l_w_least cc_w_least k_w_least
  have b_w_least := F_w_least.binds (ps := ["_law_products_here"]) fun _ _ _ _ _ _ us hl => match us, hl with | [_], _ => rfl
  have F_w_joined := fun_mk (st := s_w_joined) l_w_joined cc_w_joined k_w_joined
  have b_w_joined := F_w_joined.binds (ps := ["_law_one", "_law_other"]) fun _ _ _ _ _ _ us hl => match us, hl with | [_, _], _ => rfl
  have F_w_added := fun_mk (st := s_w_added) l_w_added cc_w_added k_w_added
  have b_w_added := F_w_added.binds (ps := ["_law_one", "_law_other"]) fun _ _ _ _ _ _ us hl => match us, hl with | [_, _], _ => rfl
  have F_w_lessened := fun_mk (st := s_w_lessened) l_w_lessened cc_w_lessened k_w_lessened
  have b_w_lessened := F_w_lessened.binds (ps := ["_law_one", "_law_other"]) fun _ _ _ _ _ _ us hl => match us, hl with | [_, _], _ => rfl
  have F_w_pairwise := fun_mk (st := s_w_pairwise) l_w_pairwise cc_w_pairwise k_w_pairwise
  have b_w_pairwise := F_w_pairwise.binds (ps := ["_law_word", "_law_one", "_law_other"]) fun _ _ _ _ _ _ us hl => match us, hl with | [_, _, _], _ => rfl
  have F_w_due := fun_mk (st := s_w_due) l_w_due cc_w_due k_w_due
  have b_w_due := F_w_due.binds (ps := ["_law_products_here"]) fun _ _ _ _ _ _ us hl => match us, hl with | [_], _ => rfl
  have F_w_told := fun_mk (st := s_w_told) l_w_told cc_w_told k_w_told
  have b_w_told := F_w_told.binds (ps := ["_law_call"]) fun _ _ _ _ _ _ us hl => match us, hl with | [_], _ => rfl
  have F_w_power := fun_mk (st := s_w_power) l_w_power cc_w_power k_w_power
  have b_w_power := F_w_power.binds (ps := ["_law_members", "_law_letters", "_law_many"]) fun _ _ _ _ _ _ us hl => match us, hl with | [_, _, _], _ => rfl
  have F_w_quotients_right := fun_mk (st := s_w_quotients_right) l_w_quotients_right cc_w_quotients_right k_w_quotients_right
  have b_w_quotients_right := F_w_quotients_right.binds (ps := ["_law_pail_here", "_law_lot", "_law_one", "_law_other"]) fun _ _ _ _ _ _ us hl => match us, hl with | [_, _, _, _], _ => rfl
  have F_w_right := fun_mk (st := s_w_right) l_w_right cc_w_right k_w_right
  have b_w_right := F_w_right.binds (ps := ["_law_pail_here"]) fun _ _ _ _ _ _ us hl => match us, hl with | [_], _ => rfl
  have F_law := fun_mk (st := s_law) l_law cc_law k_law
  have b_law := F_law.binds (ps := ["_law_script"]) fun _ _ _ _ _ _ us hl => match us, hl with | [_], _ => rfl
  have F_init := fun_mk (st := s_init) l_init cc_init k_init
  have b_init := F_init.binds (ps := ["self", "letters", "members"]) fun _ _ _ _ _ _ us hl => match us, hl with | [_, _, _], _ => rfl
  have F_add := fun_mk (st := s_add) l_add cc_add k_add
  have b_add := F_add.binds (ps := ["self", "other"]) fun _ _ _ _ _ _ us hl => match us, hl with | [_, _], _ => rfl
  have F_mul := fun_mk (st := s_mul) l_mul cc_mul k_mul
  have b_mul := F_mul.binds (ps := ["self", "other"]) fun _ _ _ _ _ _ us hl => match us, hl with | [_, _], _ => rfl
  have F_meet := fun_mk (st := s_meet) l_meet cc_meet k_meet
  have b_meet := F_meet.binds (ps := ["self", "other"]) fun _ _ _ _ _ _ us hl => match us, hl with | [_, _], _ => rfl
  have F_quot := fun_mk (st := s_quot) l_quot cc_quot k_quot
  have b_quot := F_quot.binds (ps := ["self", "product"]) fun _ _ _ _ _ _ us hl => match us, hl with | [_, _], _ => rfl
  have F_pow := fun_mk (st := s_pow) l_pow cc_pow k_pow
  have b_pow := F_pow.binds (ps := ["self", "many"]) fun _ _ _ _ _ _ us hl => match us, hl with | [_, _], _ => rfl
  have F_has := fun_mk (st := s_has) l_has cc_has k_has
  have b_has := F_has.binds (ps := ["self", "value"]) fun _ _ _ _ _ _ us hl => match us, hl with | [_, _], _ => rfl
  have F_eq := fun_mk (st := s_eq) l_eq cc_eq k_eq
  have b_eq := F_eq.binds (ps := ["self", "other"]) fun _ _ _ _ _ _ us hl => match us, hl with | [_, _], _ => rfl
  have F_len := fun_mk (st := s_len) l_len cc_len k_len
  have b_len := F_len.binds (ps := ["self"]) fun _ _ _ _ _ _ us hl => match us, hl with | [_], _ => rfl
  have F_iter := fun_mk (st := s_iter) l_iter cc_iter k_iter
  have b_iter := F_iter.binds (ps := ["self"]) fun _ _ _ _ _ _ us hl => match us, hl with | [_], _ => rfl
  have F_letters := fun_mk (st := s_letters) l_letters cc_letters k_letters
  have b_letters := F_letters.binds (ps := ["self"]) fun _ _ _ _ _ _ us hl => match us, hl with | [_], _ => rfl
  have F_members := fun_mk (st := s_members) l_members cc_members k_members
  have b_members := F_members.binds (ps := ["self"]) fun _ _ _ _ _ _ us hl => match us, hl with | [_], _ => rfl
  have F_is_all := fun_mk (st := s_is_all) l_is_all cc_is_all k_is_all
  have b_is_all := F_is_all.binds (ps := ["self"]) fun _ _ _ _ _ _ us hl => match us, hl with | [_], _ => rfl
  have F_TooMany := fun_mk (st := si_TooMany) li_TooMany ci_TooMany ki_TooMany
  have b_TooMany := F_TooMany.binds (ps := ["self", "most"]) fun _ _ _ _ _ _ us hl => match us, hl with | [_, _], _ => rfl
  let T : Txt K mg := ⟨_, _, F_is_number, b_is_number, PySem.W.mg_of X G a_is_number, _, _, F_is_within, b_is_within, PySem.W.mg_of X G a_is_within, _, _, F_check_within, b_check_within, PySem.W.mg_of X G a_check_within, _, _, F_are_exponents, b_are_exponents, PySem.W.mg_of X G a_are_exponents, _, _, F_nothing, b_nothing, PySem.W.mg_of X G a_nothing, _, _, F_fits, b_fits, PySem.W.mg_of X G a_fits, _, _, F_greater, b_greater, PySem.W.mg_of X G a_greater, _, _, F_added, b_added, PySem.W.mg_of X G a_added, _, _, F_taken_off, b_taken_off, PySem.W.mg_of X G a_taken_off, _, _, F_is_divided, b_is_divided, PySem.W.mg_of X G a_is_divided, _, _, F_is_least_of, b_is_least_of, PySem.W.mg_of X G a_is_least_of, _, _, F_least_of, k_least_of, b_least_of, PySem.W.mg_of X G a_least_of, _, _, F_check_product, b_check_product, PySem.W.mg_of X G a_check_product, _, _, F_are_products, b_are_products, PySem.W.mg_of X G a_are_products, _, _, F_made_lot, b_made_lot, PySem.W.mg_of X G a_made_lot, _, _, F_check_letters, b_check_letters, PySem.W.mg_of X G a_check_letters, _, _, F_limited_members, b_limited_members, PySem.W.mg_of X G a_limited_members, _, _, F_has_great_exponent, b_has_great_exponent, PySem.W.mg_of X G a_has_great_exponent, _, _, F_w_pail, b_w_pail, PySem.W.mg_of X G a_w_pail, _, _, F_w_dipped, b_w_dipped, PySem.W.mg_of X G a_w_dipped, _, _, F_w_some, b_w_some, PySem.W.mg_of X G a_w_some, _, _, F_w_product, b_w_product, PySem.W.mg_of X G a_w_product, _, _, F_w_products, b_w_products, PySem.W.mg_of X G a_w_products, _, _, F_w_divides, b_w_divides, PySem.W.mg_of X G a_w_divides, _, _, F_w_least, b_w_least, PySem.W.mg_of X G a_w_least, _, _, F_w_joined, b_w_joined, PySem.W.mg_of X G a_w_joined, _, _, F_w_added, b_w_added, PySem.W.mg_of X G a_w_added, _, _, F_w_lessened, b_w_lessened, PySem.W.mg_of X G a_w_lessened, _, _, F_w_pairwise, b_w_pairwise, PySem.W.mg_of X G a_w_pairwise, _, _, F_w_due, b_w_due, PySem.W.mg_of X G a_w_due, _, _, F_w_told, b_w_told, PySem.W.mg_of X G a_w_told, _, _, F_w_power, b_w_power, PySem.W.mg_of X G a_w_power, _, _, F_w_quotients_right, b_w_quotients_right, PySem.W.mg_of X G a_w_quotients_right, _, _, F_w_right, _, ⟨_, _, _, _, _, _, _, _, rfl, l_w_right, cc_w_right⟩, b_w_right, PySem.W.mg_of X G a_w_right, _, _, F_law, _, ⟨_, _, _, _, _, _, _, _, rfl, l_law, cc_law⟩, b_law, PySem.W.mg_of X G a_law, PySem.W.mg_none_of X G z_isinstance, PySem.W.mg_none_of X G z_int, PySem.W.mg_none_of X G z_bool, PySem.W.mg_none_of X G z_tuple, PySem.W.mg_none_of X G z_len, PySem.W.mg_none_of X G z_all, PySem.W.mg_none_of X G z_zip, PySem.W.mg_none_of X G z_max, PySem.W.mg_none_of X G z_sorted, PySem.W.mg_none_of X G z_set, PySem.W.mg_none_of X G z_enumerate, PySem.W.mg_none_of X G z_range, PySem.W.mg_none_of X G z_sum, PySem.W.mg_none_of X G z_abs, PySem.W.mg_none_of X G z_min, _, PySem.W.mg_of X G g_MAX_LETTERS, _, PySem.W.mg_of X G g_MAX_EXPONENT, _, PySem.W.mg_of X G g_LONGEST_EXPONENT, _, PySem.W.mg_of X G g_MAX_MEMBER_EXPONENT, _, PySem.W.mg_of X G g_MAX_MEMBERS, _, PySem.W.mg_of X G g_MAX_PASSED, _, PySem.W.mg_of X G g_MAX_POWER, _, PySem.W.mg_of X G aC_TooMany, bE_TooMany, tE_TooMany, kC_TooMany, ⟨⟨_, _, _, _, _, _, _, _, _, _, _, _, _, _, _, xL_TooMany, by decide +kernel⟩, sa_TooMany, bE_TooMany, tE_TooMany, kC_TooMany⟩, _, _, ai_TooMany, ti_TooMany, F_TooMany, b_TooMany, nf_TooMany, ⟨ga_TooMany, gg_TooMany, bE_TooMany, hC_TooMany⟩, exm_b bE_TooMany iC_TooMany tE_TooMany s_TooMany_TooMany⟩
  have clC : Cls K C := ⟨pgC, hdC, poC, saC⟩
  let O : LotT K mg := ⟨C, clC, nL, nM, PySem.W.mg_of X G aC, _, _, F_init, b_init, ⟨mkC, a_init, i_init, kcC⟩⟩
  let R : LotP K C := ⟨_, _, _, ⟨a_letters, g_letters, tk_letters, ⟨_, r_letters⟩⟩, F_letters, b_letters, _, _, _, ⟨a_members, g_members, tk_members, ⟨_, r_members⟩⟩, F_members, b_members⟩
  let W : LotO K mg C := ⟨first, fun H a dx fs h => .base (.ins h clC c1 c2 c3 hm), kit, _, _, F_add, b_add, a_add, i_add⟩
  let Y : LotM K C := ⟨_, _, F_mul, b_mul, a_mul, i_mul⟩
  let V' : LotX K C := ⟨_, _, F_meet, b_meet, ⟨a_meet, i_meet, k_meet⟩⟩
  let Z : LotC K := ⟨_, _, F_has, b_has, _, _, F_eq, b_eq, _, _, F_len, b_len⟩
  let D : LotD K C Z := ⟨hm, hne, a_has, i_has, a_eq, i_eq, a_len, i_len, _, _, F_iter, b_iter, a_iter, i_iter⟩
  let B : LotB K C := ⟨_, _, _, ⟨a_is_all, g_is_all, tk_is_all, ⟨_, r_is_all⟩⟩, F_is_all, b_is_all, _, _, F_quot, b_quot, ⟨a_quot, i_quot, k_quot⟩, _, _, F_pow, b_pow, ⟨a_pow, i_pow, k_pow⟩⟩
  let GG : LotsT K mg := ⟨T, O, R, W, Y, V', Z, D, B, PySem.W.mg_none_of X G zz_iter⟩
  refine ⟨_, [(c_w_right, tR), (c_law, tL)], sp_law K, ?_, ?_, ?_, fun s v => .of_eq rfl, fun H a ns hl _ hT hS => ?_, fun base _ _ TB => ok_law GG ?_ ?_⟩
  · intro p hp
    rcases List.mem_cons.mp hp with rfl | hp
    · exact hT_w_right
    rcases List.mem_cons.mp hp with rfl | hp
    · exact hT_law
    cases hp
  · intro p hp
    rcases List.mem_cons.mp hp with rfl | hp
    · exact nl_w_right
    rcases List.mem_cons.mp hp with rfl | hp
    · exact nl_law
    cases hp
  · intro p hp
    rcases List.mem_cons.mp hp with rfl | hp
    · exact PySem.W.codeHd_of_K X hd_w_right
    rcases List.mem_cons.mp hp with rfl | hp
    · exact PySem.W.codeHd_of_K X hd_law
    cases hp
  · exact ⟨a, ns, rfl, hS, hl, tabs0 (hT _ List.mem_cons_self) (hT _ (List.mem_cons_of_mem _ List.mem_cons_self)), fun _ => rfl⟩
  · exact TB _ List.mem_cons_self
  · exact TB _ (List.mem_cons_of_mem _ List.mem_cons_self)
end K08

open PySem PySem.W PyProof.Rows
set_option maxRecDepth 100000 in
set_option maxHeartbeats 0 in
theorem PySem.Challenge.cw_pureladders_k08_whole_quotients_and_powe_holds : PySem.Challenge.rw_pureladders_k08_whole_quotients_and_powe.Holds := by
  w_on; o_law; k_head; (case hw => w_witness2)
  k_fill
  refine LamX.walk_ofTs (l := PySem.Challenge.rw_pureladders_k08_whole_quotients_and_powe) (n := 63) (k := 12) (x := "_law_script") (CX := fun _ => L2.CX0) rfl (by decide) rfl ⟨rfl, by decide, by decide⟩ (fun w h Y => PySem.W.km_in_of Y) ?F (fun _ _ _ _ _ h => h)
  case F =>
    intro w mg fa h Y KX G hmg
    have Z := PySem.W.km_tabs_of Y
    refine' K08.all_mk KX G hmg ?a_is_number ?l_is_number ?cc_is_number ?k_is_number ?a_is_within ?l_is_within ?cc_is_within ?k_is_within ?a_check_within ?l_check_within ?cc_check_within ?k_check_within ?a_are_exponents ?l_are_exponents ?cc_are_exponents ?k_are_exponents ?a_nothing ?l_nothing ?cc_nothing ?k_nothing ?a_fits ?l_fits ?cc_fits ?k_fits ?a_greater ?l_greater ?cc_greater ?k_greater ?a_added ?l_added ?cc_added ?k_added ?a_taken_off ?l_taken_off ?cc_taken_off ?k_taken_off ?a_is_divided ?l_is_divided ?cc_is_divided ?k_is_divided ?a_is_least_of ?l_is_least_of ?cc_is_least_of ?k_is_least_of ?a_least_of ?l_least_of ?cc_least_of ?k_least_of ?t_least_of ?a_check_product ?l_check_product ?cc_check_product ?k_check_product ?a_are_products ?l_are_products ?cc_are_products ?k_are_products ?a_made_lot ?l_made_lot ?cc_made_lot ?k_made_lot ?a_check_letters ?l_check_letters ?cc_check_letters ?k_check_letters ?a_limited_members ?l_limited_members ?cc_limited_members ?k_limited_members ?a_has_great_exponent ?l_has_great_exponent ?cc_has_great_exponent ?k_has_great_exponent ?a_w_pail ?l_w_pail ?cc_w_pail ?k_w_pail ?a_w_dipped ?l_w_dipped ?cc_w_dipped ?k_w_dipped ?a_w_some ?l_w_some ?cc_w_some ?k_w_some ?a_w_product ?l_w_product ?cc_w_product ?k_w_product ?a_w_products ?l_w_products ?cc_w_products ?k_w_products ?a_w_divides ?l_w_divides ?cc_w_divides ?k_w_divides ?a_w_least ?l_w_least ?cc_w_least ?k_w_least ?a_w_joined ?l_w_joined ?cc_w_joined ?k_w_joined ?a_w_added ?l_w_added ?cc_w_added ?k_w_added ?a_w_lessened ?l_w_lessened ?cc_w_lessened ?k_w_lessened ?a_w_pairwise ?l_w_pairwise ?cc_w_pairwise ?k_w_pairwise ?a_w_due ?l_w_due ?cc_w_due ?k_w_due ?a_w_told ?l_w_told ?cc_w_told ?k_w_told ?a_w_power ?l_w_power ?cc_w_power ?k_w_power ?a_w_quotients_right ?l_w_quotients_right ?cc_w_quotients_right ?k_w_quotients_right ?a_w_right ?l_w_right ?cc_w_right ?k_w_right ?hd_w_right ?nl_w_right ?hT_w_right ?a_law ?l_law ?cc_law ?k_law ?hd_law ?nl_law ?hT_law ?aC ?a_init ?i_init ?l_init ?cc_init ?k_init ?a_add ?i_add ?l_add ?cc_add ?k_add ?a_mul ?i_mul ?l_mul ?cc_mul ?k_mul ?a_meet ?i_meet ?l_meet ?cc_meet ?k_meet ?a_quot ?i_quot ?l_quot ?cc_quot ?k_quot ?a_pow ?i_pow ?l_pow ?cc_pow ?k_pow ?a_has ?i_has ?l_has ?cc_has ?k_has ?a_eq ?i_eq ?l_eq ?cc_eq ?k_eq ?a_len ?i_len ?l_len ?cc_len ?k_len ?a_iter ?i_iter ?l_iter ?cc_iter ?k_iter ?a_letters ?g_letters ?tk_letters ?r_letters ?l_letters ?cc_letters ?k_letters ?a_members ?g_members ?tk_members ?r_members ?l_members ?cc_members ?k_members ?a_is_all ?g_is_all ?tk_is_all ?r_is_all ?l_is_all ?cc_is_all ?k_is_all ?pgC ?hdC ?poC ?saC ?mkC ?kcC ?nL ?nM ?c1 ?c2 ?c3 ?hm ?kit ?first ?hne ?zz_iter ?z_isinstance ?z_int ?z_bool ?z_tuple ?z_len ?z_all ?z_zip ?z_max ?z_sorted ?z_set ?z_enumerate ?z_range ?z_sum ?z_abs ?z_min ?g_MAX_LETTERS ?g_MAX_EXPONENT ?g_LONGEST_EXPONENT ?g_MAX_MEMBER_EXPONENT ?g_MAX_MEMBERS ?g_MAX_PASSED ?g_MAX_POWER ?aC_TooMany ?xL_TooMany ?sa_TooMany ?ga_TooMany ?gg_TooMany ?nf_TooMany ?ai_TooMany ?ti_TooMany ?li_TooMany ?ci_TooMany ?ki_TooMany ?hC_TooMany ?bE_TooMany ?tE_TooMany ?kC_TooMany ?iC_TooMany ?s_TooMany_TooMany
    (case a_is_number => first | k_is | kernel_rfl | rfl)
    (case l_is_number => first | k_is | kernel_rfl | rfl)
    (case cc_is_number => first | k_is | kernel_rfl | rfl)
    (case k_is_number => first | k_is | kernel_rfl | rfl)
    (case a_is_within => first | k_is | kernel_rfl | rfl)
    (case l_is_within => first | k_is | kernel_rfl | rfl)
    (case cc_is_within => first | k_is | kernel_rfl | rfl)
    (case k_is_within => first | k_is | kernel_rfl | rfl)
    (case a_check_within => first | k_is | kernel_rfl | rfl)
    (case l_check_within => first | k_is | kernel_rfl | rfl)
    (case cc_check_within => first | k_is | kernel_rfl | rfl)
    (case k_check_within => first | k_is | kernel_rfl | rfl)
    (case a_are_exponents => first | k_is | kernel_rfl | rfl)
    (case l_are_exponents => first | k_is | kernel_rfl | rfl)
    (case cc_are_exponents => first | k_is | kernel_rfl | rfl)
    (case k_are_exponents => first | k_is | kernel_rfl | rfl)
    (case a_nothing => first | k_is | kernel_rfl | rfl)
    (case l_nothing => first | k_is | kernel_rfl | rfl)
    (case cc_nothing => first | k_is | kernel_rfl | rfl)
    (case k_nothing => first | k_is | kernel_rfl | rfl)
    (case a_fits => first | k_is | kernel_rfl | rfl)
    (case l_fits => first | k_is | kernel_rfl | rfl)
    (case cc_fits => first | k_is | kernel_rfl | rfl)
    (case k_fits => first | k_is | kernel_rfl | rfl)
    (case a_greater => first | k_is | kernel_rfl | rfl)
    (case l_greater => first | k_is | kernel_rfl | rfl)
    (case cc_greater => first | k_is | kernel_rfl | rfl)
    (case k_greater => first | k_is | kernel_rfl | rfl)
    (case a_added => first | k_is | kernel_rfl | rfl)
    (case l_added => first | k_is | kernel_rfl | rfl)
    (case cc_added => first | k_is | kernel_rfl | rfl)
    (case k_added => first | k_is | kernel_rfl | rfl)
    (case a_taken_off => first | k_is | kernel_rfl | rfl)
    (case l_taken_off => first | k_is | kernel_rfl | rfl)
    (case cc_taken_off => first | k_is | kernel_rfl | rfl)
    (case k_taken_off => first | k_is | kernel_rfl | rfl)
    (case a_is_divided => first | k_is | kernel_rfl | rfl)
    (case l_is_divided => first | k_is | kernel_rfl | rfl)
    (case cc_is_divided => first | k_is | kernel_rfl | rfl)
    (case k_is_divided => first | k_is | kernel_rfl | rfl)
    (case a_is_least_of => first | k_is | kernel_rfl | rfl)
    (case l_is_least_of => first | k_is | kernel_rfl | rfl)
    (case cc_is_least_of => first | k_is | kernel_rfl | rfl)
    (case k_is_least_of => first | k_is | kernel_rfl | rfl)
    (case a_least_of => first | k_is | kernel_rfl | rfl)
    (case l_least_of => first | k_is | kernel_rfl | rfl)
    (case cc_least_of => first | k_is | kernel_rfl | rfl)
    (case k_least_of => first | k_is | kernel_rfl | rfl)
    (case t_least_of => first | k_is | kernel_rfl | rfl)
    (case a_check_product => first | k_is | kernel_rfl | rfl)
    (case l_check_product => first | k_is | kernel_rfl | rfl)
    (case cc_check_product => first | k_is | kernel_rfl | rfl)
    (case k_check_product => first | k_is | kernel_rfl | rfl)
    (case a_are_products => first | k_is | kernel_rfl | rfl)
    (case l_are_products => first | k_is | kernel_rfl | rfl)
    (case cc_are_products => first | k_is | kernel_rfl | rfl)
    (case k_are_products => first | k_is | kernel_rfl | rfl)
    (case a_made_lot => first | k_is | kernel_rfl | rfl)
    (case l_made_lot => first | k_is | kernel_rfl | rfl)
    (case cc_made_lot => first | k_is | kernel_rfl | rfl)
    (case k_made_lot => first | k_is | kernel_rfl | rfl)
    (case a_check_letters => first | k_is | kernel_rfl | rfl)
    (case l_check_letters => first | k_is | kernel_rfl | rfl)
    (case cc_check_letters => first | k_is | kernel_rfl | rfl)
    (case k_check_letters => first | k_is | kernel_rfl | rfl)
    (case a_limited_members => first | k_is | kernel_rfl | rfl)
    (case l_limited_members => first | k_is | kernel_rfl | rfl)
    (case cc_limited_members => first | k_is | kernel_rfl | rfl)
    (case k_limited_members => first | k_is | kernel_rfl | rfl)
    (case a_has_great_exponent => first | k_is | kernel_rfl | rfl)
    (case l_has_great_exponent => first | k_is | kernel_rfl | rfl)
    (case cc_has_great_exponent => first | k_is | kernel_rfl | rfl)
    (case k_has_great_exponent => first | k_is | kernel_rfl | rfl)
    (case a_w_pail => first | k_is | kernel_rfl | rfl)
    (case l_w_pail => first | k_is | kernel_rfl | rfl)
    (case cc_w_pail => first | k_is | kernel_rfl | rfl)
    (case k_w_pail => first | k_is | kernel_rfl | rfl)
    (case a_w_dipped => first | k_is | kernel_rfl | rfl)
    (case l_w_dipped => first | k_is | kernel_rfl | rfl)
    (case cc_w_dipped => first | k_is | kernel_rfl | rfl)
    (case k_w_dipped => first | k_is | kernel_rfl | rfl)
    (case a_w_some => first | k_is | kernel_rfl | rfl)
    (case l_w_some => first | k_is | kernel_rfl | rfl)
    (case cc_w_some => first | k_is | kernel_rfl | rfl)
    (case k_w_some => first | k_is | kernel_rfl | rfl)
    (case a_w_product => first | k_is | kernel_rfl | rfl)
    (case l_w_product => first | k_is | kernel_rfl | rfl)
    (case cc_w_product => first | k_is | kernel_rfl | rfl)
    (case k_w_product => first | k_is | kernel_rfl | rfl)
    (case a_w_products => first | k_is | kernel_rfl | rfl)
    (case l_w_products => first | k_is | kernel_rfl | rfl)
    (case cc_w_products => first | k_is | kernel_rfl | rfl)
    (case k_w_products => first | k_is | kernel_rfl | rfl)
    (case a_w_divides => first | k_is | kernel_rfl | rfl)
    (case l_w_divides => first | k_is | kernel_rfl | rfl)
    (case cc_w_divides => first | k_is | kernel_rfl | rfl)
    (case k_w_divides => first | k_is | kernel_rfl | rfl)
    (case a_w_least => first | k_is | kernel_rfl | rfl)
    (case l_w_least => first | k_is | kernel_rfl | rfl)
    (case cc_w_least => first | k_is | kernel_rfl | rfl)
    (case k_w_least => first | k_is | kernel_rfl | rfl)
    (case a_w_joined => first | k_is | kernel_rfl | rfl)
    (case l_w_joined => first | k_is | kernel_rfl | rfl)
    (case cc_w_joined => first | k_is | kernel_rfl | rfl)
    (case k_w_joined => first | k_is | kernel_rfl | rfl)
    (case a_w_added => first | k_is | kernel_rfl | rfl)
    (case l_w_added => first | k_is | kernel_rfl | rfl)
    (case cc_w_added => first | k_is | kernel_rfl | rfl)
    (case k_w_added => first | k_is | kernel_rfl | rfl)
    (case a_w_lessened => first | k_is | kernel_rfl | rfl)
    (case l_w_lessened => first | k_is | kernel_rfl | rfl)
    (case cc_w_lessened => first | k_is | kernel_rfl | rfl)
    (case k_w_lessened => first | k_is | kernel_rfl | rfl)
    (case a_w_pairwise => first | k_is | kernel_rfl | rfl)
    (case l_w_pairwise => first | k_is | kernel_rfl | rfl)
    (case cc_w_pairwise => first | k_is | kernel_rfl | rfl)
    (case k_w_pairwise => first | k_is | kernel_rfl | rfl)
    (case a_w_due => first | k_is | kernel_rfl | rfl)
    (case l_w_due => first | k_is | kernel_rfl | rfl)
    (case cc_w_due => first | k_is | kernel_rfl | rfl)
    (case k_w_due => first | k_is | kernel_rfl | rfl)
    (case a_w_told => first | k_is | kernel_rfl | rfl)
    (case l_w_told => first | k_is | kernel_rfl | rfl)
    (case cc_w_told => first | k_is | kernel_rfl | rfl)
    (case k_w_told => first | k_is | kernel_rfl | rfl)
    (case a_w_power => first | k_is | kernel_rfl | rfl)
    (case l_w_power => first | k_is | kernel_rfl | rfl)
    (case cc_w_power => first | k_is | kernel_rfl | rfl)
    (case k_w_power => first | k_is | kernel_rfl | rfl)
    (case a_w_quotients_right => first | k_is | kernel_rfl | rfl)
    (case l_w_quotients_right => first | k_is | kernel_rfl | rfl)
    (case cc_w_quotients_right => first | k_is | kernel_rfl | rfl)
    (case k_w_quotients_right => first | k_is | kernel_rfl | rfl)
    (case a_w_right => first | k_is | kernel_rfl | rfl)
    (case l_w_right => first | k_is | kernel_rfl | rfl)
    (case cc_w_right => first | k_is | kernel_rfl | rfl)
    (case k_w_right => first | k_is | kernel_rfl | rfl)
    (case hd_w_right => first | rfl | decide | kernel_rfl | k_is)
    (case nl_w_right => first | rfl | decide | kernel_rfl | k_is)
    (case hT_w_right => exact Z _ (by first | exact List.mem_cons_self | exact List.mem_cons_of_mem _ List.mem_cons_self))
    (case a_law => first | k_is | kernel_rfl | rfl)
    (case l_law => first | k_is | kernel_rfl | rfl)
    (case cc_law => first | k_is | kernel_rfl | rfl)
    (case k_law => first | k_is | kernel_rfl | rfl)
    (case hd_law => first | rfl | decide | kernel_rfl | k_is)
    (case nl_law => first | rfl | decide | kernel_rfl | k_is)
    (case hT_law => exact Z _ (by first | exact List.mem_cons_self | exact List.mem_cons_of_mem _ List.mem_cons_self))
    (case aC => first | k_is | kernel_rfl | rfl)
    (case a_init => first | k_is | kernel_rfl | rfl)
    (case i_init => first | k_is | kernel_rfl | rfl)
    (case l_init => first | k_is | kernel_rfl | rfl)
    (case cc_init => first | k_is | kernel_rfl | rfl)
    (case k_init => first | k_is | kernel_rfl | rfl)
    (case a_add => first | k_is | kernel_rfl | rfl)
    (case i_add => first | k_is | kernel_rfl | rfl)
    (case l_add => first | k_is | kernel_rfl | rfl)
    (case cc_add => first | k_is | kernel_rfl | rfl)
    (case k_add => first | k_is | kernel_rfl | rfl)
    (case a_mul => first | k_is | kernel_rfl | rfl)
    (case i_mul => first | k_is | kernel_rfl | rfl)
    (case l_mul => first | k_is | kernel_rfl | rfl)
    (case cc_mul => first | k_is | kernel_rfl | rfl)
    (case k_mul => first | k_is | kernel_rfl | rfl)
    (case a_meet => first | k_is | kernel_rfl | rfl)
    (case i_meet => first | k_is | kernel_rfl | rfl)
    (case l_meet => first | k_is | kernel_rfl | rfl)
    (case cc_meet => first | k_is | kernel_rfl | rfl)
    (case k_meet => first | k_is | kernel_rfl | rfl)
    (case a_quot => first | k_is | kernel_rfl | rfl)
    (case i_quot => first | k_is | kernel_rfl | rfl)
    (case l_quot => first | k_is | kernel_rfl | rfl)
    (case cc_quot => first | k_is | kernel_rfl | rfl)
    (case k_quot => first | k_is | kernel_rfl | rfl)
    (case a_pow => first | k_is | kernel_rfl | rfl)
    (case i_pow => first | k_is | kernel_rfl | rfl)
    (case l_pow => first | k_is | kernel_rfl | rfl)
    (case cc_pow => first | k_is | kernel_rfl | rfl)
    (case k_pow => first | k_is | kernel_rfl | rfl)
    (case a_has => first | k_is | kernel_rfl | rfl)
    (case i_has => first | k_is | kernel_rfl | rfl)
    (case l_has => first | k_is | kernel_rfl | rfl)
    (case cc_has => first | k_is | kernel_rfl | rfl)
    (case k_has => first | k_is | kernel_rfl | rfl)
    (case a_eq => first | k_is | kernel_rfl | rfl)
    (case i_eq => first | k_is | kernel_rfl | rfl)
    (case l_eq => first | k_is | kernel_rfl | rfl)
    (case cc_eq => first | k_is | kernel_rfl | rfl)
    (case k_eq => first | k_is | kernel_rfl | rfl)
    (case a_len => first | k_is | kernel_rfl | rfl)
    (case i_len => first | k_is | kernel_rfl | rfl)
    (case l_len => first | k_is | kernel_rfl | rfl)
    (case cc_len => first | k_is | kernel_rfl | rfl)
    (case k_len => first | k_is | kernel_rfl | rfl)
    (case a_iter => first | k_is | kernel_rfl | rfl)
    (case i_iter => first | k_is | kernel_rfl | rfl)
    (case l_iter => first | k_is | kernel_rfl | rfl)
    (case cc_iter => first | k_is | kernel_rfl | rfl)
    (case k_iter => first | k_is | kernel_rfl | rfl)
    (case a_letters => first | k_is | kernel_rfl | rfl)
    (case g_letters => first | k_is | kernel_rfl | rfl)
    (case tk_letters => first | k_is | kernel_rfl | rfl)
    (case r_letters => first | k_is | kernel_rfl | rfl)
    (case l_letters => first | k_is | kernel_rfl | rfl)
    (case cc_letters => first | k_is | kernel_rfl | rfl)
    (case k_letters => first | k_is | kernel_rfl | rfl)
    (case a_members => first | k_is | kernel_rfl | rfl)
    (case g_members => first | k_is | kernel_rfl | rfl)
    (case tk_members => first | k_is | kernel_rfl | rfl)
    (case r_members => first | k_is | kernel_rfl | rfl)
    (case l_members => first | k_is | kernel_rfl | rfl)
    (case cc_members => first | k_is | kernel_rfl | rfl)
    (case k_members => first | k_is | kernel_rfl | rfl)
    (case a_is_all => first | k_is | kernel_rfl | rfl)
    (case g_is_all => first | k_is | kernel_rfl | rfl)
    (case tk_is_all => first | k_is | kernel_rfl | rfl)
    (case r_is_all => first | k_is | kernel_rfl | rfl)
    (case l_is_all => first | k_is | kernel_rfl | rfl)
    (case cc_is_all => first | k_is | kernel_rfl | rfl)
    (case k_is_all => first | k_is | kernel_rfl | rfl)
    (case pgC => first | k_is | kernel_rfl | rfl)
    (case hdC => first | k_is | kernel_rfl | rfl)
    (case poC => first | k_is | kernel_rfl | rfl)
    (case saC => first | k_is | kernel_rfl | rfl)
    (case mkC => first | k_is | kernel_rfl | rfl)
    (case kcC => first | k_is | kernel_rfl | rfl)
    (case nL => first | k_is | kernel_rfl | rfl)
    (case nM => first | k_is | kernel_rfl | rfl)
    (case c1 => first | k_is | kernel_rfl | rfl)
    (case c2 => first | k_is | kernel_rfl | rfl)
    (case c3 => first | k_is | kernel_rfl | rfl)
    (case hm => first | k_is | kernel_rfl | rfl)
    (case kit => first | k_is | kernel_rfl | rfl)
    (case first => first | k_is | kernel_rfl | rfl)
    (case hne => first | k_is | kernel_rfl | rfl)
    (case zz_iter => first | k_is | kernel_rfl | rfl)
    (case z_isinstance => first | k_is | kernel_rfl | rfl)
    (case z_int => first | k_is | kernel_rfl | rfl)
    (case z_bool => first | k_is | kernel_rfl | rfl)
    (case z_tuple => first | k_is | kernel_rfl | rfl)
    (case z_len => first | k_is | kernel_rfl | rfl)
    (case z_all => first | k_is | kernel_rfl | rfl)
    (case z_zip => first | k_is | kernel_rfl | rfl)
    (case z_max => first | k_is | kernel_rfl | rfl)
    (case z_sorted => first | k_is | kernel_rfl | rfl)
    (case z_set => first | k_is | kernel_rfl | rfl)
    (case z_enumerate => first | k_is | kernel_rfl | rfl)
    (case z_range => first | k_is | kernel_rfl | rfl)
    (case z_sum => first | k_is | kernel_rfl | rfl)
    (case z_abs => first | k_is | kernel_rfl | rfl)
    (case z_min => first | k_is | kernel_rfl | rfl)
    (case g_MAX_LETTERS => first | k_is | kernel_rfl | rfl)
    (case g_MAX_EXPONENT => first | k_is | kernel_rfl | rfl)
    (case g_LONGEST_EXPONENT => first | k_is | kernel_rfl | rfl)
    (case g_MAX_MEMBER_EXPONENT => first | k_is | kernel_rfl | rfl)
    (case g_MAX_MEMBERS => first | k_is | kernel_rfl | rfl)
    (case g_MAX_PASSED => first | k_is | kernel_rfl | rfl)
    (case g_MAX_POWER => first | k_is | kernel_rfl | rfl)
    (case aC_TooMany => first | k_is | kernel_rfl | rfl)
    (case xL_TooMany => first | k_is | kernel_rfl | rfl)
    (case sa_TooMany => first | k_is | kernel_rfl | rfl)
    (case ga_TooMany => first | k_is | kernel_rfl | rfl)
    (case gg_TooMany => first | k_is | kernel_rfl | rfl)
    (case nf_TooMany => first | k_is | kernel_rfl | rfl)
    (case ai_TooMany => first | k_is | kernel_rfl | rfl)
    (case ti_TooMany => first | k_is | kernel_rfl | rfl)
    (case li_TooMany => first | k_is | kernel_rfl | rfl)
    (case ci_TooMany => first | k_is | kernel_rfl | rfl)
    (case ki_TooMany => first | k_is | kernel_rfl | rfl)
    (case hC_TooMany => first | k_is | kernel_rfl | rfl)
    (case bE_TooMany => first | k_is | kernel_rfl | rfl)
    (case tE_TooMany => first | k_is | kernel_rfl | rfl)
    (case kC_TooMany => first | k_is | kernel_rfl | rfl)
    (case iC_TooMany => first | k_is | kernel_rfl | rfl)
    (case s_TooMany_TooMany => first | k_is | kernel_rfl | rfl)
