import PyProof.Rows.All
import Wide.All
import OpenK.AllK
import Wide.FinOn
import HandS.Base
import HandS.Call
import HandS.List
import HandS.Comp
import HandS.Ends
import HandS.Iter
import HandS.Words
import HandS.WordsList
import HandS.TupMul
import HandS.TupAny
import HandS.IsInst
import HandS.Zip
import HandS.Style
import HandS.Wide
import HandS.GenList
import KE.KTupSum
import KE.KEqSeq
import HandS.TupSets
import HandS.Dict
import HandS.More
import HandS.SetFor
import HandS.Strs
import HandS.Flow
import PySem.Challenge.RW_pureladders_k78_whole_lower_and_upper_de
set_option Elab.async false
set_option linter.all false
set_option maxRecDepth 100000
set_option maxHeartbeats 4000000
/-! rules that the layer lacks -/
namespace L5
open PySem PySem.Spec PyProof.Rows L2
/-! ### powers of great numbers -/
def CPowW (i j : Int) : Prop := 0 ≤ j ∧ (Builtin.Int.intBits i : Int) * j ≤ 2 ^ 27
theorem op_powW {X : Cx} : OpR X (binaryOp .Pow) (rI CPowW fun i j => .int (i ^ j.toNat)) := opI fun _ _ _ _ _ _ _ hc q => pow_int hc.1 hc.2 q
/-! ### sum and max of a tuple of ints -/
section
variable {pr : Program} {wd : World} {A : Around} {E : Value → Shared → Prop} {s : Shared} {tp : Addr} {us : List Value} {ms : List Int} {G : Value → Shared → Prop}
/-- a row of ints, as the library's walks want it -/
theorem items_of (hi : IntsAre us ms) : ∃ ws : Array (Int × Tok), us.toArray = intItems ws ∧ ws.toList.map (·.1) = ms := by
  obtain ⟨ws, ew⟩ := hi.allInts.items
  refine ⟨ws, ew, ?_⟩
  rw [← nums_intItems, ← ew]
  exact hi.numsOf
abbrev Stays (s : Shared) (h : Heap) : Prop := ∀ b o, s.heap.get? b = some o → h.get? b = some o
theorem sum_of_tuple (hh : A.handled = none) (ht : s.heap.IsTuple tp us.toArray) (hi : IntsAre us ms) (q : ∀ h n t, Stays s h → G (.int ms.sum t) { s with heap := h, toks := n }) :
    wpAny (model pr wd) A (call (.builtin "sum") [.ref tp]) G E s := by
  obtain ⟨ws, ew, en⟩ := items_of hi
  rw [ew] at ht
  refine PySem.W.ktm_sumG hh ht fun h n t kept => ?_
  have g := q h n t kept
  rw [← en] at g
  rw [preSum_eq, List.take_of_length_le (by rw [List.length_map, Array.length_toList]; exact Nat.le_refl _)]
  exact g
theorem max_of_tuple (hh : A.handled = none) (ht : s.heap.IsTuple tp us.toArray) (hi : IntsAre us ms) (some1 : 0 < ms.length) (q : ∀ h n M t, Stays s h → M ∈ ms → (∀ a, a ∈ ms → a ≤ M) → G (.int M t) { s with heap := h, toks := n }) :
    wpAny (model pr wd) A (call (.builtin "max") [.ref tp]) G E s := by
  obtain ⟨ws, ew, en⟩ := items_of hi
  subst en
  rw [ew] at ht
  have pos : 0 < ws.size := by simpa using some1
  have esz : (intItems ws).size = ws.size := by simp [intItems]
  obtain ⟨ob, hob, _⟩ := id ht
  have apart : tp ≠ s.heap.objs.size := Nat.ne_of_lt (Heap.lt_size hob)
  refine call_max_walk (wpAny_pyIter_tuple ht ?_)
  refine ⟨_, _, _, _, _, _, _, rfl, Walks.tuple (A := A.in1) hh s.heap.objs.size tp apart (intItems ws), ⟨⟨_, Heap.get?_push_size _ rfl, rfl, rfl⟩, ht.at fun o e => Heap.get?_push_of_some _ e⟩, fun b hb => ?_, by rw [esz]; exact pos, CmpOf.ints_gt (numAt ws) (fun _ _ => intItems_at), fun v h n hv kept => ?_⟩
  · have two : b = s.heap.objs.size ∨ b = tp := by simpa using hb
    rcases two with rfl | rfl
    · exact Heap.lt_size (o := _) (Heap.get?_push_size _ rfl)
    · exact Heap.lt_size (o := ob) (Heap.get?_push_of_some _ hob)
  · obtain ⟨t, rfl⟩ := intItems_at hv
    rw [esz] at *
    obtain ⟨top1, top2⟩ := argBest_gt (numAt ws) (ws.size - 1)
    have at_of : ∀ i, numAt ws i = (ws.toList.map (·.1)).getD i 0 := fun i => numAt_eq ..
    refine q h n _ t (fun b o e => kept b o (fun hb => ?_) (Heap.get?_push_of_some _ e)) ?_ fun a ha => ?_
    · rw [List.mem_singleton.mp hb] at e
      exact Nat.lt_irrefl _ (Heap.lt_size e)
    · rw [at_of]
      refine PySem.getD_mem ?_
      rw [List.length_map, Array.length_toList]
      omega
    · obtain ⟨i, less, rfl⟩ := mem_getD ha
      rw [List.length_map, Array.length_toList] at less
      rw [← at_of]
      exact top2 i (by omega)
end
section
variable {X : Cx}
def rSumT (K : PySem.W.Frag) : List V → Hp → VK → Prop := fun vs H Q => ∃ (a : Addr) (ns : List Int), vs = [V.ref a] ∧ SqT K H a (ns.map V.int) ∧ Q (.int ns.sum) H
theorem cr_sumT (calm : X.calm = true) : CallR X (.builtin "sum") (rSumT X.K) := fun _ _ _ _ _ _ _ I r h => by
  obtain ⟨_, _, rfl, ht, q⟩ := h
  obtain ⟨_, rv, plain, _⟩ := I.tuple ht
  rw [Vals.ref1 r]
  exact sum_of_tuple (I.ok.hd calm) plain rv.ints fun _ _ _ kept => ⟨.int _, _, I.kept kept, ⟨_, rfl⟩, q⟩
def rMaxT (K : PySem.W.Frag) : List V → Hp → VK → Prop := fun vs H Q => ∃ (a : Addr) (ns : List Int), vs = [V.ref a] ∧ SqT K H a (ns.map V.int) ∧ 0 < ns.length ∧ ∀ m, m ∈ ns → (∀ y, y ∈ ns → y ≤ m) → Q (.int m) H
theorem cr_maxT (calm : X.calm = true) : CallR X (.builtin "max") (rMaxT X.K) := fun _ _ _ _ _ _ _ I r h => by
  obtain ⟨_, _, rfl, ht, some1, q⟩ := h
  obtain ⟨_, rv, plain, _⟩ := I.tuple ht
  rw [Vals.ref1 r]
  exact max_of_tuple (I.ok.hd calm) plain rv.ints some1 fun _ _ m _ kept g1 g2 => ⟨.int m, _, I.kept kept, ⟨_, rfl⟩, q m g1 g2⟩
end
/-! ### tuple * int, any int: the tuple itself, the empty one, or a longer one -/
abbrev tupObj (items : Array Value) (n : Nat) (dd : Option Addr) (sl : Array (Option Value)) : Obj := { cls := .type "tuple", dict := dd, data := .seq items n, slots := sl }
theorem off_of {b : Bool} (h : b = false) : decide (b = true) = false := decide_eq_false (Bool.eq_false_iff.mp h)
theorem mul_same (tp : Addr) (items : Array Value) (n : Nat) (dd : Option Addr) (sl : Array (Option Value)) (x : Int) (u : Tok) (fits : (decide (x < -(2 ^ 63)) || decide (x ≥ 2 ^ 63)) = false) (same : (items.isEmpty || x == 1) = true) :
    Meets (Builtin.«tuple.__mul__» ⟨[.ref tp, .int x u], []⟩) (fun _ R s => s.heap.get? tp = some (tupObj items n dd sl) ∧ R (.ok (.ret (Value.ref tp))) { s with heap := s.heap, toks := s.toks }) :=
  .of_wp fun _ _ _ _ st both => by
    obtain ⟨_, _, _, _, _⟩ := st
    obtain ⟨at1, q⟩ := both
    have ix := AutoSeq1.idx_int
    wp_walk using wpAny_loadPart' at1
    repeat (first
      | (refine wpAny_ite_false (off_of fits) ?_; wp_walk using wpAny_loadPart' at1)
      | (refine wpAny_ite_true (decide_eq_true same) ?_; wp_walk using wpAny_loadPart' at1))
    exact ⟨_, rfl, q⟩
theorem mul_none (tp : Addr) (items : Array Value) (n : Nat) (dd : Option Addr) (sl : Array (Option Value)) (x : Int) (u : Tok) (fits : (decide (x < -(2 ^ 63)) || decide (x ≥ 2 ^ 63)) = false) (other : (items.isEmpty || x == 1) = false) (less : (decide (x ≤ 0) || items.isEmpty) = true) :
    Meets (Builtin.«tuple.__mul__» ⟨[.ref tp, .int x u], []⟩) (fun _ R s => s.heap.get? tp = some (tupObj items n dd sl) ∧
      R (.ok (.ret (Value.ref s.heap.objs.size))) { s with heap := s.heap.push { cls := Value.type "tuple", data := Data.seq #[] }, toks := s.toks }) :=
  .of_wp fun _ _ _ _ st both => by
    obtain ⟨_, _, _, _, _⟩ := st
    obtain ⟨at1, q⟩ := both
    have ix := AutoSeq1.idx_int
    wp_walk using wpAny_loadPart' at1
    repeat (first
      | (refine wpAny_ite_false (off_of fits) ?_; wp_walk using wpAny_loadPart' at1)
      | (refine wpAny_ite_false (off_of other) ?_; wp_walk using wpAny_loadPart' at1)
      | (refine wpAny_ite_true (decide_eq_true less) ?_; wp_walk using wpAny_loadPart' at1))
    exact ⟨_, rfl, q⟩
def rRepA (K : PySem.W.Frag) : R2 := fun x y H Q => ∃ l k xs, x = .ref l ∧ y = .int k ∧ SqT K H l xs ∧ xs ≠ [] ∧ -1000 ≤ k ∧ k ≤ 1000 ∧ xs.length ≤ 1000 ∧
  (k = 1 → Q (.ref l) H) ∧ (k ≠ 1 → ∀ p, H p = none → Q (.ref p) (upd H p (.tup (List.replicate k.toNat xs).flatten)))
section
variable {X : Cx}
theorem op_repA : OpR X (binaryOp .Mult) (rRepA X.K) := fun pins s σ H x y v u Q I rx ry h => by
  obtain ⟨tp, k, xs, rfl, rfl, isT, full, lo, hi, short, qa, qb⟩ := h
  by_cases two : 2 ≤ k
  · exact op_repT pins s σ H _ _ v u Q I rx ry ⟨tp, k, xs, rfl, rfl, isT, full, two, hi, short, qb (by omega)⟩
  cases rx
  obtain ⟨tk, rfl⟩ := ry
  obtain ⟨its, r, ⟨⟨c, dd, dt, sl⟩, ho, hc, n, hd⟩, _⟩ := I.tuple isT
  simp only at hc hd
  subst hc hd
  have filled : its.toArray.isEmpty = false := by
    cases its with
    | nil =>
      cases r
      exact absurd rfl full
    | cons _ _ => rfl
  have fits : (decide (k < -(2 ^ 63)) || decide (k ≥ 2 ^ 63)) = false := Bool.or_eq_false_iff.mpr ⟨decide_eq_false (by omega), decide_eq_false (by omega)⟩
  by_cases one : k = 1
  · subst one
    refine wpAny_binaryOp_repeat_ref (T := "tuple") (U := "int") (by decide) ⟨_, ho, rfl⟩ (fun z => typeIs_int z _ tk) noFill_tuple_mul F.fills_int_mul F.slot_int_rmul repeat_tuple F.slot_int_index.lookup
      (call_meets F.slot_int_rmul (typeIs_int s _ tk) F.entry_int_rmul (F.args_int_rmul_2 _ _) (int_rmul_tuple _ tk tp its.toArray n dd sl)
        ⟨ho, rfl, ⟨_, ho, rfl⟩, call_meets F.slot_tuple_mul ⟨_, ho, rfl⟩ F.entry_tuple_mul (F.args_tuple_mul_2 _ _) (mul_same tp its.toArray n dd sl 1 tk fits (by rw [filled]; rfl)) ⟨ho, ?_⟩⟩)
    exact ⟨.ref tp, H, I, rfl, qa rfl⟩
  · have other : (its.toArray.isEmpty || k == 1) = false := Bool.or_eq_false_iff.mpr ⟨filled, beq_eq_false_iff_ne.mpr one⟩
    have less : (decide (k ≤ 0) || its.toArray.isEmpty) = true := Bool.or_eq_true_iff.mpr (.inl (decide_eq_true (by omega)))
    refine wpAny_binaryOp_repeat_ref (T := "tuple") (U := "int") (by decide) ⟨_, ho, rfl⟩ (fun z => typeIs_int z k tk) noFill_tuple_mul F.fills_int_mul F.slot_int_rmul repeat_tuple F.slot_int_index.lookup
      (call_meets F.slot_int_rmul (typeIs_int s k tk) F.entry_int_rmul (F.args_int_rmul_2 _ _) (int_rmul_tuple k tk tp its.toArray n dd sl)
        ⟨ho, rfl, ⟨_, ho, rfl⟩, call_meets F.slot_tuple_mul ⟨_, ho, rfl⟩ F.entry_tuple_mul (F.args_tuple_mul_2 _ _) (mul_none tp its.toArray n dd sl k tk fits other less) ⟨ho, ?_⟩⟩)
    have e0 : (List.replicate k.toNat xs).flatten = [] := by
      rw [show k.toNat = 0 by omega]
      rfl
    have q := qb one s.heap.objs.size (I.hok.fresh (Nat.le_refl _))
    rw [e0] at q
    exact ⟨.ref s.heap.objs.size, _, I.laid (t' := s.toks) (o := .tup []) (fun _ _ e => Heap.get?_push_of_some _ e) (Nat.le_refl _) ⟨Nat.zero_le _, [], .nil, IsTup.new _ _⟩, rfl, q⟩
end
/-! ### words for what stands in the heap -/
section
variable {K : PySem.W.Frag} {H H' : Hp}
abbrev nv (t : List Nat) : List V := t.map fun n => V.int ((n : Nat) : Int)
theorem nv_ints (t : List Nat) : nv t = (t.map fun n => ((n : Nat) : Int)).map V.int := by
  rw [List.map_map]
  rfl
theorem nv_len (t : List Nat) : (nv t).length = t.length := List.length_map _
theorem nv_app (t u : List Nat) : nv (t ++ u) = nv t ++ nv u := List.map_append
theorem nv_get {t : List Nat} {i : Nat} {x : V} (h : (nv t)[i]? = some x) : ∃ n, t[i]? = some n ∧ x = .int ((n : Nat) : Int) := by
  rw [List.getElem?_map] at h
  cases e : t[i]? with
  | none =>
    rw [e] at h
    cases h
  | some n =>
    rw [e] at h
    exact ⟨n, rfl, (Option.some.inj h).symm⟩
theorem nv_at {t : List Nat} {i n : Nat} (h : t[i]? = some n) : atI (nv t) (i : Int) = some (.int ((n : Nat) : Int)) := atI_nat (by rw [List.getElem?_map, h] <;> rfl)
theorem sizeK {n : Nat} (h : n ≤ 1000000) : n < sizeLine := Nat.lt_of_le_of_lt h (by decide)
theorem same_updL {p : Addr} {o : HO} (s : Same H H') (hp : H p = none) : Same H (upd H' p o) := fun b u q => by
  rw [upd_ne (ne_of_none q hp)]
  exact s b u q
theorem sqt_updL {a p : Addr} {xs ys : List V} {o : HO} (hp : H p = some (.lst ys)) (h : SqT K H a xs) : SqT K (upd H p o) a xs := by
  have ne : ∀ u, H a = some u → u ≠ .lst ys → a ≠ p := fun u e n z => by
    rw [z, hp] at e
    exact n (Option.some.inj e).symm
  rcases h with (h | ⟨o, h⟩) | h
  · exact .inl (.inl (by rw [upd_ne (ne _ h (by intro z; cases z))]; exact h))
  · exact .inl (.inr ⟨o, by rw [upd_ne (ne _ h (by intro z; cases z))]; exact h⟩)
  · exact .inr h
theorem sql_updL {a p : Addr} {xs : List V} {o : HO} (hne : a ≠ p) (h : SqL K H a xs) : SqL K (upd H p o) a xs := by
  rcases h with (h | ⟨o, h⟩) | h
  · exact .inl (.inl (by rw [upd_ne hne]; exact h))
  · exact .inl (.inr ⟨o, by rw [upd_ne hne]; exact h⟩)
  · exact .inr h
theorem sum_cast (t : List Nat) : (t.map fun n => ((n : Nat) : Int)).sum = ((t.sum : Nat) : Int) := by
  induction t with
  | nil => rfl
  | cons x r ih => rw [List.map_cons, List.sum_cons, List.sum_cons, ih]; omega
theorem same_sqt {a : Addr} {xs : List V} (e : Same H H') (h : SqT K H a xs) : SqT K H' a xs := by
  rcases h with (h | ⟨o, h⟩) | h
  · exact .inl (.inl (e _ _ h))
  · exact .inl (.inr ⟨o, e _ _ h⟩)
  · exact .inr h
theorem same_new {p : Addr} (h : H p = none) (o : HO) : Same H (upd H p o) := fun b u q => by rw [upd_ne (ne_of_none q h)]; exact q
def Tups (K : PySem.W.Frag) (H : Hp) : List Addr → List (List Nat) → Prop := Paired fun a t => SqT K H a (nv t)
theorem Tups.same (e : Same H H') : ∀ {rs : List Addr} {L : List (List Nat)}, Tups K H rs L → Tups K H' rs L
  | _, _, .nil => .nil
  | _, _, .cons h t => .cons (same_sqt e h) (Tups.same e t)
theorem Tups.updL {p : Addr} {ys : List V} {o : HO} (hp : H p = some (.lst ys)) : ∀ {rs : List Addr} {L : List (List Nat)}, Tups K H rs L → Tups K (upd H p o) rs L
  | _, _, .nil => .nil
  | _, _, .cons h t => .cons (sqt_updL hp h) (Tups.updL hp t)
theorem Tups.length : ∀ {rs : List Addr} {L : List (List Nat)}, Tups K H rs L → rs.length = L.length
  | _, _, .nil => rfl
  | _, _, .cons _ t => congrArg (· + 1) (Tups.length t)
theorem Tups.app : ∀ {rs qs : List Addr} {L M : List (List Nat)}, Tups K H rs L → Tups K H qs M → Tups K H (rs ++ qs) (L ++ M)
  | _, _, _, _, .nil, s => s
  | _, _, _, _, .cons r t, s => .cons r (Tups.app t s)
theorem Tups.rev {rs : List Addr} {L : List (List Nat)} (h : Tups K H rs L) : Tups K H rs.reverse L.reverse := by
  induction h with
  | nil => exact .nil
  | cons r t ih =>
    rw [List.reverse_cons, List.reverse_cons]
    exact ih.app (.cons r .nil)
theorem Tups.get : ∀ {rs : List Addr} {L : List (List Nat)} {i : Nat} {a : Addr}, Tups K H rs L → rs[i]? = some a → ∃ t, L[i]? = some t ∧ SqT K H a (nv t)
  | _, _, _, _, .nil, e => by simp at e
  | _, _, 0, _, .cons r _, e => by simp at e; subst e; exact ⟨_, rfl, r⟩
  | _, _, i + 1, a, .cons _ t, e => by
    obtain ⟨u, h1, h2⟩ := Tups.get (i := i) (a := a) t (by simpa using e)
    exact ⟨u, by simpa using h1, h2⟩
theorem sqt_ty {a : Addr} {xs : List V} (h : SqT K H a xs) : TyX K H (.ref a) (.type "tuple") := by
  rcases h with (h | ⟨o, h⟩) | ⟨o, its, n, e, c, _⟩
  · exact .base (.tup h)
  · exact .fTuple h
  · exact .kTuple e c
/-- as data -/
abbrev encT (t : List Nat) : PyData := .tuple (t.map fun n => PyData.int ((n : Nat) : Int))
theorem dp_nats : ∀ (t : List Nat), DpAll K H (nv t) (t.map fun n => PyData.int ((n : Nat) : Int))
  | [] => .nil
  | n :: t => .cons (.int _) (dp_nats t)
theorem dp_tup {a : Addr} {t : List Nat} (h : SqT K H a (nv t)) : Dp K H (.ref a) (encT t) := .tup h (dp_nats t)
theorem dp_tups : ∀ {rs : List Addr} {L : List (List Nat)}, Tups K H rs L → DpAll K H (rs.map V.ref) (L.map encT)
  | _, _, .nil => .nil
  | _, _, .cons h t => .cons (dp_tup h) (dp_tups t)
theorem can_nats : ∀ t : List Nat, PyData.canLayAll0 (t.map fun n => PyData.int ((n : Nat) : Int)) = true ∧ PyData.depthAll (t.map fun n => PyData.int ((n : Nat) : Int)) = 0
  | [] => by simp [PyData.canLayAll0, PyData.depthAll]
  | n :: t => by
    have h := can_nats t
    simp only [List.map_cons, PyData.canLayAll0, PyData.depthAll, h.1, h.2, PyData.canLay0, PyData.depth]
    simp
theorem can_tups : ∀ L : List (List Nat), PyData.canLayAll0 (L.map encT) = true ∧ PyData.depthAll (L.map encT) ≤ 1
  | [] => by simp [PyData.canLayAll0, PyData.depthAll]
  | t :: L => by
    have h := can_tups L
    have g := can_nats t
    simp only [List.map_cons, PyData.canLayAll0, PyData.depthAll, h.1, PyData.canLay0, PyData.depth, g.1, g.2]
    exact ⟨by simp, by omega⟩
theorem shaped_tups (L : List (List Nat)) : SeqAt.shaped (.list (L.map encT)) = true := by
  have h := can_tups L
  unfold SeqAt.shaped
  simp only [PyData.canLay0, PyData.depth, h.1, Bool.true_and]
  exact decide_eq_true (by omega)
theorem eqv_tups (L : List (List Nat)) : PyData.eqv (.list (L.map encT)) (.list (L.map encT)) = true := SeqAt.eqv_refl _ (by
  simp only [PyData.canLay0]
  exact (can_tups L).1)
theorem shaped_tup (t : List Nat) : SeqAt.shaped (encT t) = true := by
  have g := can_nats t
  unfold SeqAt.shaped
  simp only [encT, PyData.canLay0, PyData.depth, g.1, g.2, Bool.true_and]
  exact decide_eq_true (by omega)
theorem eqv_tup (t : List Nat) : PyData.eqv (encT t) (encT t) = true := SeqAt.eqv_refl _ (by
  simp only [encT, PyData.canLay0]
  exact (can_nats t).1)
end
end L5

/-! sorted of a list of tuples of ints, of unlike lengths, none of them empty -/
namespace TM
open PySem PyProof.Rows TS
/-- the place of a tuple of up to m ints in [0, B) in the order of tuples -/
def cod (B : Int) : Nat → List Int → Int
  | 0, _ => 0
  | _ + 1, [] => 0
  | m + 1, d :: r => (d + 1) * (B + 1) ^ m + cod B m r
theorem cod_bd {B : Int} (hB : 0 ≤ B) : ∀ (m : Nat) (ns : List Int), Bd B ns → 0 ≤ cod B m ns ∧ cod B m ns < (B + 1) ^ m
  | 0, ns, _ => by
    constructor
    · show (0 : Int) ≤ 0; exact Int.le_refl _
    · show (0 : Int) < (B + 1) ^ 0
      rw [Int.pow_zero]; decide
  | m + 1, [], _ => by
    constructor
    · show (0 : Int) ≤ 0; exact Int.le_refl _
    · show (0 : Int) < (B + 1) ^ (m + 1)
      exact Int.pow_pos (by omega)
  | m + 1, d :: r, h => by
    obtain ⟨c0, c1⟩ := cod_bd hB m r h.tail
    obtain ⟨d0, d1⟩ := h.head
    show 0 ≤ (d + 1) * (B + 1) ^ m + cod B m r ∧ (d + 1) * (B + 1) ^ m + cod B m r < (B + 1) ^ (m + 1)
    rw [Int.pow_succ]
    exact num1 c0 c1 (by omega) (by omega)
theorem cod_nil {B : Int} (hB : 0 ≤ B) (m : Nat) {d : Int} {r : List Int} (h : Bd B (d :: r)) : cod B (m + 1) [] < cod B (m + 1) (d :: r) := by
  obtain ⟨c0, _⟩ := cod_bd hB m r h.tail
  obtain ⟨d0, d1⟩ := h.head
  show (0 : Int) < (d + 1) * (B + 1) ^ m + cod B m r
  have p : 0 < (d + 1) * (B + 1) ^ m := Int.mul_pos (by omega) (Int.pow_pos (by omega))
  omega
theorem cod_lt {B : Int} (hB : 0 ≤ B) (m : Nat) {d e : Int} {r q : List Int} (hr : Bd B r) (hq : Bd B q) (h : d < e) : cod B (m + 1) (d :: r) < cod B (m + 1) (e :: q) := by
  obtain ⟨c0, c1⟩ := cod_bd hB m r hr
  obtain ⟨g0, g1⟩ := cod_bd hB m q hq
  show (d + 1) * (B + 1) ^ m + cod B m r < (e + 1) * (B + 1) ^ m + cod B m q
  exact num2 c0 c1 g0 (by omega)
theorem cod_same {B : Int} (m : Nat) {d : Int} {r q : List Int} : cod B (m + 1) (d :: r) < cod B (m + 1) (d :: q) ↔ cod B m r < cod B m q := by
  show (d + 1) * (B + 1) ^ m + cod B m r < (d + 1) * (B + 1) ^ m + cod B m q ↔ _
  generalize (d + 1) * (B + 1) ^ m = X
  constructor <;> intro z <;> omega
/-- unlike tuples have unlike places -/
theorem cod_inj {B : Int} (hB : 0 ≤ B) : ∀ (m : Nat) {ns ms : List Int}, Bd B ns → Bd B ms → ns.length ≤ m → ms.length ≤ m → cod B m ns = cod B m ms → ns = ms
  | 0, [], [], _, _, _, _, _ => rfl
  | 0, _ :: _, _, _, _, h, _, _ => by simp at h
  | 0, [], _ :: _, _, _, _, h, _ => by simp at h
  | m + 1, [], [], _, _, _, _, _ => rfl
  | m + 1, [], e :: q, _, h2, _, _, h => by
    have := cod_nil hB m h2
    omega
  | m + 1, d :: r, [], h1, _, _, _, h => by
    have := cod_nil hB m h1
    omega
  | m + 1, d :: r, e :: q, h1, h2, l1, l2, h => by
    rcases Int.lt_trichotomy d e with z | z | z
    · have := cod_lt hB m h1.tail h2.tail z
      omega
    · subst z
      have hc : cod B m r = cod B m q := by
        have h' : (d + 1) * (B + 1) ^ m + cod B m r = (d + 1) * (B + 1) ^ m + cod B m q := h
        omega
      rw [cod_inj hB m h1.tail h2.tail (by simpa using l1) (by simpa using l2) hc]
    · have := cod_lt hB m h2.tail h1.tail z
      omega
section
variable {prog : Program} {w : World} {A : Around} {E : Value → Shared → Prop} {s : Shared} {Q : Bool → Shared → Prop}
theorem lex_mixed {B : Int} (hB : 0 ≤ B) {b fin : Bool} {xs ys : List Value} {ns ms : List Int} (m i : Nat) (hx : IntsAre xs ns) (hy : IntsAre ys ms) (h1 : Bd B ns) (h2 : Bd B ms) (l1 : ns.length ≤ m) (l2 : ms.length ≤ m)
    (hf : fin = decide (ns.length < ms.length)) (h : Q (decide (cod B m ns < cod B m ms)) s) : PySem.W.KatLex prog w A b fin Q (xs.zip ys) i s := by
  induction hx generalizing ys ms i m with
  | nil =>
    cases hy with
    | nil =>
      have e : decide (cod B m [] < cod B m []) = fin := by rw [hf, decide_eq_false (Int.lt_irrefl _)]; rfl
      rw [e] at h
      exact PySem.W.kat_nil h
    | @cons q u ys ms hy =>
      obtain ⟨k, rfl⟩ : ∃ k, m = k + 1 := ⟨m - 1, by simp at l2; omega⟩
      have e : decide (cod B (k + 1) [] < cod B (k + 1) (q :: ms)) = fin := by
        rw [hf, decide_eq_true (cod_nil hB k h2)]
        exact (decide_eq_true (by simp)).symm
      rw [e] at h
      exact PySem.W.kat_nil h
  | @cons p t xs ns hx ih =>
    obtain ⟨k, rfl⟩ : ∃ k, m = k + 1 := ⟨m - 1, by simp at l1; omega⟩
    cases hy with
    | nil =>
      have e : decide (cod B (k + 1) (p :: ns) < cod B (k + 1) []) = fin := by
        have := cod_nil hB k h1
        rw [hf, decide_eq_false (by omega)]
        exact (decide_eq_false (by simp)).symm
      rw [e] at h
      exact PySem.W.kat_nil h
    | @cons q u ys ms hy =>
      show PySem.W.KatLex prog w A b fin Q ((Value.int p t, Value.int q u) :: xs.zip ys) i s
      refine PySem.W.kat_cons (wpAny_eqBool_int ?_)
      by_cases e : p = q
      · subst e
        rw [beq_self_eq_true]
        have d : decide (cod B (k + 1) (p :: ns) < cod B (k + 1) (p :: ms)) = decide (cod B k ns < cod B k ms) := decide_eq_decide.mpr (cod_same k)
        rw [d] at h
        refine PySem.W.kat_yes ?_
        exact ih k (i + 1) hy h1.tail h2.tail (by simpa using l1) (by simpa using l2) (by rw [hf]; exact decide_eq_decide.mpr (by simp)) h
      · rw [show (p == q) = false from beq_eq_false_iff_ne.mpr e]
        refine PySem.W.kat_no (oneLt_ints _ ?_)
        have d : decide (cod B (k + 1) (p :: ns) < cod B (k + 1) (q :: ms)) = decide (p < q) := by
          refine decide_eq_decide.mpr ⟨fun x => ?_, fun x => cod_lt hB k h1.tail h2.tail x⟩
          rcases Int.lt_trichotomy p q with y | y | y
          · exact y
          · exact absurd y e
          · have := cod_lt hB k h2.tail h1.tail y
            omega
        rw [d] at h
        exact h
end
/-- what is sorted: tuples of 1 to m ints each in [0, B) -/
def TupsM (h : Heap) (m : Nat) (B : Int) (vs : List Value) : Prop := ∀ v, v ∈ vs → ∃ ns, TupInts h v ns ∧ 1 ≤ ns.length ∧ ns.length ≤ m ∧ Bd B ns
theorem TupsM.keeps {h h' : Heap} {m : Nat} {B : Int} {vs : List Value} (x : TupsM h m B vs) (k : ∀ b o, h.get? b = some o → o.cls = .type "tuple" → h'.get? b = some o) : TupsM h' m B vs := fun v hv =>
  let ⟨ns, t, r⟩ := x v hv; ⟨ns, t.keeps k, r⟩
theorem firsts_mixed {h : Heap} {m : Nat} {B : Int} : ∀ vs : List Value, TupsM h m B vs → ∃ fs, PySem.W.KatTups h vs fs ∧ fs.length = vs.length ∧ ∀ f, f ∈ fs → ∃ n t, f = Value.int n t
  | [], _ => ⟨[], PySem.W.KatTups.nil, rfl, fun f hf => by simp at hf⟩
  | v :: vs, x => by
    obtain ⟨fs, k, hl, hi⟩ := firsts_mixed vs fun u hu => x u (List.mem_cons_of_mem _ hu)
    obtain ⟨ns, ⟨a, xs, rfl, ⟨o, ho, hc, n, hdt⟩, i⟩, hn, _⟩ := x v (List.mem_cons_self ..)
    obtain ⟨y, ys, e⟩ : ∃ y ys, xs.toList = y :: ys := by
      cases q : xs.toList with
      | nil =>
        rw [q] at i
        have l := i.length
        rw [List.length_nil] at l
        omega
      | cons y ys => exact ⟨y, ys, rfl⟩
    obtain ⟨m, t, hy⟩ := i.all y (by rw [e]; exact List.mem_cons_self ..)
    refine ⟨y :: fs, PySem.W.KatTups.cons ho hc hdt ?_ k, by simp [hl], ?_⟩
    · have z := congrArg (fun l : List Value => l[0]?) e
      simpa using z
    · intro f hf
      rcases List.mem_cons.mp hf with rfl | hf
      · exact ⟨m, t, hy⟩
      · exact hi f hf
section
variable {prog : Program} {w : World} {A : Around} {E : Value → Shared → Prop} {s : Shared}
theorem kind_mixed {m : Nat} {B : Int} {vs : List Value} (hB : 0 ≤ B) (h2 : 2 ≤ vs.length) (x : TupsM s.heap m B vs) (r : Value → Int) (hr : ∀ v, v ∈ vs → ∀ ns, TupInts s.heap v ns → r v = cod B m ns) (Q : SortKind → Shared → Prop)
    (h : ∀ κ, Cmp prog w A s κ (pairsOf vs) r → Q κ s) : wpAny (model prog w) A (keyKind' vs.toArray) Q E s := by
  obtain ⟨fs, k, hl, hi⟩ := firsts_mixed vs x
  refine PySem.W.kat_kind (T := Value.type "int") k (by omega) (fun f hf => ?_) rfl (h _ ?_)
  · obtain ⟨n, t, rfl⟩ := hi f hf
    exact PySem.W.Looks.of_pure rfl
  · intro p q hp hq Q' E' hQ
    rw [pairsOf_toList] at hp hq
    obtain ⟨ns, tp, _, lp, bp⟩ := x _ (mem_zip_self hp).2
    obtain ⟨ms, tq, _, lq, bq⟩ := x _ (mem_zip_self hq).2
    have ep := hr _ (mem_zip_self hp).2 _ tp
    have eq2 := hr _ (mem_zip_self hq).2 _ tq
    have hQ' : Q' (decide (cod B m ns < cod B m ms)) s := by
      have z : decide (r p.1 < r q.1) = decide (cod B m ns < cod B m ms) := by rw [ep, eq2]
      rw [← z]; exact hQ
    obtain ⟨a, xs, e1, ⟨o, ho, hc, n, hdt⟩, i⟩ := tp
    obtain ⟨a', ys, e2, ⟨o', ho', hc', n', hdt'⟩, i'⟩ := tq
    rw [e1, e2]
    refine PySem.W.kat_lt ho hdt ho' hdt' ?_
    have l1 := i.length
    have l2 := i'.length
    rw [Array.length_toList] at l1 l2
    exact lex_mixed hB m 0 i i' bp bq lp lq (by rw [l1, l2]) hQ'
theorem sort_mixed {a : Addr} {vs : List Value} {n m : Nat} {B : Int} {P : PySem.Fin → Shared → Prop} (ho : s.heap.get? a = some (seqObj "list" vs.toArray n)) (h64 : vs.length < 64) (hB : 0 ≤ B) (x : TupsM s.heap m B vs)
    (r : Value → Int) (hr : ∀ v, v ∈ vs → ∀ ns, TupInts s.heap v ns → r v = cod B m ns)
    (h : ∀ out : Array Value, out.toList.Perm vs → out.toList.Pairwise (fun u v => r u ≤ r v) → P (.done (.ret .none)) { s with heap := sortedHeap s.heap a vs out }) :
    wpAny (model prog w) A (Builtin.«list.sort» ⟨[.ref a], []⟩) P E s := by
  have keep : ∀ b o, s.heap.get? b = some o → o.cls = .type "tuple" → (midHeap s.heap a vs).get? b = some o := fun b o e hc => by
    refine midHeap_old ?_ e
    rintro rfl
    rw [ho] at e
    have e' : seqObj "list" vs.toArray n = o := Option.some.inj e
    rw [← e'] at hc
    have c' : Value.type "list" = Value.type "tuple" := hc
    injection c' with c''
    exact absurd c'' (by decide)
  refine SK.plain_sort (r := r) ho h64 (fun h2 Q hQ => ?_) fun ps out h1 h2 h3 => ?_
  · refine kind_mixed (s := { s with heap := midHeap s.heap a vs }) hB h2 (x.keeps keep) r (fun v hv ns t => ?_) Q hQ
    obtain ⟨ns0, t0, _⟩ := x v hv
    have e : ns = ns0 := t.ints.symm.trans (t0.keeps keep).ints
    rw [e]
    exact hr v hv ns0 t0
  · obtain ⟨p, o⟩ := out_rank h1 h2 h3
    exact h out p o
theorem sorted_mixed {l : Addr} {vs : List Value} {m : Nat} {B : Int} {Q : Value → Shared → Prop} (hl : s.heap.IsList l vs.toArray) (h64 : vs.length < 64) (hB : 0 ≤ B) (x : TupsM s.heap m B vs)
    (h : ∀ out : Array Value, out.toList.Perm vs → out.toList.Pairwise (fun u v => cod B m (intsOf s.heap u) ≤ cod B m (intsOf s.heap v)) → Q (.ref (s.heap.objs.size + 1)) { s with heap := sortedAll s.heap vs out }) :
    wpAny (model prog w) A (call (.builtin "sorted") [.ref l]) Q E s := by
  refine Calls.call_function_entry kind_sorted plain_sorted entry_sorted (args_sorted1 _) ?_
  unfold Builtin.«sorted»
  refine wpAny_bind (m := checkCount "sorted" 1 1 _) (wpAny_pure ?_)
  refine wpAny_bind (collect_list hl ?_ (by rw [sizeLine_eq]; omega))
  refine wpAny_bind (wpAny_newList ?_ (by rw [sizeLine_eq]; omega))
  have hsz : ((s.heap.push (seqObj "list" #[] 0)).update s.heap.objs.size (Obj.mapSeq (· ++ vs.toArray))).objs.size = s.heap.objs.size + 1 := by
    rw [Heap.size_update, size_push']
  have hoL : (((s.heap.push (seqObj "list" #[] 0)).update s.heap.objs.size (Obj.mapSeq (· ++ vs.toArray))).push (seqObj "list" vs.toArray 0)).get? (s.heap.objs.size + 1) = some (seqObj "list" vs.toArray 0) := by
    rw [← hsz]; exact Heap.get?_push_size _ rfl
  have keep : ∀ b o, s.heap.get? b = some o → o.cls = .type "tuple" → (((s.heap.push (seqObj "list" #[] 0)).update s.heap.objs.size (Obj.mapSeq (· ++ vs.toArray))).push (seqObj "list" vs.toArray 0)).get? b = some o := fun b o q _ => by
    have hlt : b < s.heap.objs.size := Heap.lt_size q
    rw [Heap.get?_push_ne _ _ _ (by rw [hsz]; exact Nat.ne_of_lt (Nat.lt_succ_of_lt hlt)), Heap.get?_update_ne _ _ _ _ (Nat.ne_of_lt hlt), Heap.get?_push_ne _ _ _ (Nat.ne_of_lt hlt)]
    exact q
  show wpAny _ _ _ _ _ { s with heap := ((s.heap.push (seqObj "list" #[] 0)).update s.heap.objs.size (Obj.mapSeq (· ++ vs.toArray))).push (seqObj "list" vs.toArray 0) }
  rw [hsz]
  refine wpAny_bind (wpAny_holding (wpAny_call_entry slot_list_sort ⟨_, hoL, rfl⟩ entry_list_sort (sort_mixed hoL h64 hB (x.keeps keep) (fun v => cod B m (intsOf s.heap v)) (fun v hv ns t => ?_) fun out a1 a2 => ⟨_, rfl, ?_⟩) (args_list_sort _)))
  · obtain ⟨ns0, t0, _⟩ := x v hv
    have e : ns = ns0 := t.ints.symm.trans (t0.keeps keep).ints
    rw [e]
    show cod B m (intsOf s.heap v) = cod B m ns0
    rw [t0.ints]
  · exact wpAny_pure ⟨_, rfl, h out a1 a2⟩
end
end TM
namespace L2
open PySem PySem.Spec PyProof.Rows
section
variable {X : Cx}
def rSortM (K : PySem.W.Frag) (m : Nat) (B : Int) : List V → Hp → VK → Prop := fun vs H Q => ∃ (a : Addr) (xs : List V), vs = [V.ref a] ∧ SqL K H a xs ∧ xs.length < 64 ∧ (∀ x ∈ xs, ∃ ns, TupI K H x ns ∧ 1 ≤ ns.length ∧ ns.length ≤ m ∧ TS.Bd B ns) ∧
  ∀ (ys : List V) (p : Addr), ys.Perm xs → ys.Pairwise (fun x y => ∀ n k, TupI K H x n → TupI K H y k → TM.cod B m n ≤ TM.cod B m k) → H p = none → Q (.ref p) (upd H p (.lst ys))
theorem cr_sortM {m : Nat} {B : Int} (hB : 0 ≤ B) : CallR X (.builtin "sorted") (rSortM X.K m B) := by
  intro pins s σ H vs us Q I r h
  obtain ⟨a, xs, rfl, hs, h64, hx, q⟩ := h
  obtain ⟨its, rv, hl, hz⟩ := I.list hs
  rw [Vals.ref1 r]
  obtain ⟨e1, e2⟩ := bkV_refs rv fun x m => by
    obtain ⟨ns, ⟨t, e, _⟩, _⟩ := hx x m
    exact ⟨t, e⟩
  refine TM.sorted_mixed (m := m) (B := B) hl.isList (by rw [← rv.length]; exact h64) hB (fun v hv => ?_) fun out h1 h2 => ?_
  · obtain ⟨t, rfl⟩ := e2 v hv
    have hm : V.ref t ∈ xs := by
      rw [e1]
      exact List.mem_map.mpr ⟨_, hv, rfl⟩
    obtain ⟨ns, ⟨t', e, ht⟩, hn, hb⟩ := hx _ hm
    cases e
    exact ⟨ns, tupI_raw I ht, hn, hb⟩
  · obtain ⟨ep, he'⟩ := PyProof.Rows.sortedAll_at s.heap its out
    have h3 : ∀ u ∈ out.toList, ∃ a, u = Value.ref a := fun u hu => e2 u (h1.mem_iff.mp hu)
    have hp : (out.toList.map bkV).Perm xs := by
      rw [e1]
      exact h1.map bkV
    have hlen : (out.toList.map bkV).length ≤ sizeLine := by
      rw [hp.length_eq]
      exact hz
    refine ⟨.ref _, upd H (s.heap.objs.size + 1) (.lst (out.toList.map bkV)), I.laid (t' := s.toks) (fun _ _ => PyProof.Rows.sortedAll_old) (Nat.le_succ _) ⟨hlen, out.toList, ep, bkV_vals h3, he'⟩, rfl, q _ _ hp ?_ (I.hok.fresh (Nat.le_succ _))⟩
    rw [List.pairwise_map]
    refine List.Pairwise.imp (fun {u v} huv n m hn hm => ?_) h2
    obtain ⟨t, et, ht⟩ := hn
    obtain ⟨t', et', ht'⟩ := hm
    have eu := bkV_ref et
    have ev := bkV_ref et'
    have i1 : TS.intsOf s.heap u = n := by
      rw [eu]
      exact (tupI_raw I ht).ints
    have i2 : TS.intsOf s.heap v = m := by
      rw [ev]
      exact (tupI_raw I ht').ints
    rw [← i1, ← i2]
    exact huv
end
end L2

/-! general words: values of any kind, zips, bars, comparisons -/
namespace Gv
open PySem PySem.Spec PyProof.Rows L2 RZ L5
section
variable {K : PySem.W.Frag} {H H' : Hp}
inductive El (K : PySem.W.Frag) (H : Hp) : V → Option Int → Prop
  | int (i : Int) : El K H (.int i) (some i)
  | bl (b : Bool) : El K H (.bl b) none
  | non : El K H .non none
  | str (x : Str) (h : PyData.strOk x = true) : El K H (.str x) none
  | tup {a : Addr} {t : List Int} (h : SqT K H a (t.map V.int)) : El K H (.ref a) none
theorem El.same (s : Same H H') {v : V} {o : Option Int} (h : El K H v o) : El K H' v o := by
  cases h with
  | int i => exact .int i
  | bl b => exact .bl b
  | non => exact .non
  | str x h => exact .str x h
  | tup h => exact .tup (same_sqt s h)
theorem El.isi {v : V} {o : Option Int} (h : El K H v o) : ∃ t bi bb, TyX K H v t ∧ PySem.W.kitOne K t (.type "int") = some bi ∧ PySem.W.kitOne K t (.type "bool") = some bb ∧ o.isSome = (bi && !bb) ∧ ∀ i, o = some i → v = .int i := by
  cases h with
  | int i => exact ⟨_, true, false, .base (.int i), kit_ty (by decide +kernel), kit_ty (by decide +kernel), rfl, fun j e => by cases e; rfl⟩
  | bl b => exact ⟨_, true, true, .base (.bl b), kit_ty (by decide +kernel), kit_ty (by decide +kernel), rfl, fun j e => by cases e⟩
  | non => exact ⟨_, false, false, .base .non, kit_ty (by decide +kernel), kit_ty (by decide +kernel), rfl, fun j e => by cases e⟩
  | str x _ => exact ⟨_, false, false, .base (.str x), kit_ty (by decide +kernel), kit_ty (by decide +kernel), rfl, fun j e => by cases e⟩
  | tup h => exact ⟨_, false, false, sqt_ty h, kit_ty (by decide +kernel), kit_ty (by decide +kernel), rfl, fun j e => by cases e⟩
abbrev Els (K : PySem.W.Frag) (H : Hp) : List V → List (Option Int) → Prop := Paired (El K H)
theorem Els.same (s : Same H H') : ∀ {vs : List V} {os : List (Option Int)}, Els K H vs os → Els K H' vs os
  | _, _, .nil => .nil
  | _, _, .cons h t => .cons (h.same s) (Els.same s t)
theorem Els.length : ∀ {vs : List V} {os : List (Option Int)}, Els K H vs os → vs.length = os.length
  | _, _, .nil => rfl
  | _, _, .cons _ t => congrArg (· + 1) (Els.length t)
theorem Els.get : ∀ {vs : List V} {os : List (Option Int)} {i : Nat} {v : V}, Els K H vs os → vs[i]? = some v → ∃ o, os[i]? = some o ∧ El K H v o
  | _, _, _, _, .nil, e => by simp at e
  | _, _, 0, _, .cons h _, e => by simp at e; subst e; exact ⟨_, rfl, h⟩
  | _, _, i + 1, v, .cons _ t, e => by
    obtain ⟨u, h1, h2⟩ := Els.get (i := i) (v := v) t (by simpa using e)
    exact ⟨u, by simpa using h1, h2⟩
theorem Els.app : ∀ {vs us : List V} {os ps : List (Option Int)}, Els K H vs os → Els K H us ps → Els K H (vs ++ us) (os ++ ps)
  | _, _, _, _, .nil, s => s
  | _, _, _, _, .cons r t, s => .cons r (Els.app t s)
theorem els_nv : ∀ t : List Nat, Els K H (nv t) (t.map fun n => some ((n : Nat) : Int))
  | [] => .nil
  | n :: t => .cons (.int _) (els_nv t)
inductive Va (K : PySem.W.Frag) (H : Hp) : V → Option (List (Option Int)) → Prop
  | tup {a : Addr} {vs : List V} {os : List (Option Int)} (h : SqT K H a vs) (e : Els K H vs os) (hl : vs.length ≤ 1000) : Va K H (.ref a) (some os)
  | lst {a : Addr} {xs : List V} (h : SqL K H a xs) : Va K H (.ref a) none
  | dic {a : Addr} (h : H a = some (.dK [])) : Va K H (.ref a) none
  | non : Va K H .non none
  | int (i : Int) : Va K H (.int i) none
  | str (x : Str) : Va K H (.str x) none
  | own {a C dx : Addr} {fs : List (Str × V)} (h : H a = some (.ins C dx fs)) (t : ∀ H' : Hp, H' a = some (.ins C dx fs) → TyX K H' (.ref a) (.ref C)) (k : PySem.W.kitOne K (.ref C) (.type "tuple") = some false) : Va K H (.ref a) none
theorem same_sql {a : Addr} {xs : List V} (e : Same H H') (h : SqL K H a xs) : SqL K H' a xs := by
  rcases h with (h | ⟨o, h⟩) | h
  · exact .inl (.inl (e _ _ h))
  · exact .inl (.inr ⟨o, e _ _ h⟩)
  · exact .inr h
theorem sql_ty {a : Addr} {xs : List V} (h : SqL K H a xs) : TyX K H (.ref a) (.type "list") := by
  rcases h with (h | ⟨o, h⟩) | ⟨o, its, n, e, c, _⟩
  · exact .base (.lst h)
  · exact .base (.frz h)
  · exact .kList e c
theorem Va.same (s : Same H H') {v : V} {d : Option (List (Option Int))} (h : Va K H v d) : Va K H' v d := by
  cases h with
  | tup h e hl => exact .tup (same_sqt s h) (e.same s) hl
  | lst h => exact .lst (same_sql s h)
  | dic h => exact .dic (s _ _ h)
  | non => exact .non
  | int i => exact .int i
  | str x => exact .str x
  | own h t k => exact .own (s _ _ h) t k
theorem Va.isi {v : V} {d : Option (List (Option Int))} (h : Va K H v d) : ∃ t, TyX K H v t ∧ PySem.W.kitOne K t (.type "tuple") = some d.isSome := by
  cases h with
  | tup h e hl => exact ⟨_, sqt_ty h, kit_ty (show kitB "tuple" "tuple" = some true by decide +kernel)⟩
  | lst h => exact ⟨_, sql_ty h, kit_ty (by decide +kernel)⟩
  | dic h => exact ⟨_, .base (.dK h), kit_ty (by decide +kernel)⟩
  | non => exact ⟨_, .base .non, kit_ty (by decide +kernel)⟩
  | int i => exact ⟨_, .base (.int i), kit_ty (by decide +kernel)⟩
  | str x => exact ⟨_, .base (.str x), kit_ty (by decide +kernel)⟩
  | own h t k => exact ⟨_, t _ h, k⟩
theorem Va.get {v : V} {os : List (Option Int)} (h : Va K H v (some os)) : ∃ a vs, v = .ref a ∧ SqT K H a vs ∧ Els K H vs os ∧ vs.length ≤ 1000 := by
  cases h with
  | tup h e hl => exact ⟨_, _, rfl, h, e, hl⟩
def inB (o : Option Int) (a b : Int) : Bool := match o with
  | some i => decide (a ≤ i) && decide (i ≤ b)
  | none => false
theorem va_prod {a : Addr} {t : List Nat} (h : SqT K H a (nv t)) (hl : t.length ≤ 1000) : Va K H (.ref a) (some (t.map fun n => some ((n : Nat) : Int))) := .tup h (els_nv t) (by rw [nv_len]; exact hl)
theorem take_more {α : Type} {l : List α} {i : Nat} {x : α} (h : l[i]? = some x) : l.take (i + 1) = l.take i ++ [x] := by
  rw [List.take_add_one, h]
  rfl
abbrev lcTurn (D : Addr) (g : TG) (tt : TT) (te : TE) (vs : List Nat) (σ : L2.St) (Nx : Hp → Prop) (v : V) (H : Hp) : Prop := g v (wipe σ vs) H fun σ2 H2 => wipe σ2 vs = wipe σ vs ∧ tt σ2 H2 fun b H3 =>
  if b = true then te σ2 H3 fun y H4 => ∃ acc, H4 D = some (.lst acc) ∧ acc.length < sizeLine ∧ Nx (upd H4 D (.lst (acc ++ [y]))) else Nx H3
theorem lc_zipT {a b : Addr} {xs ys : List V} {g : TG} {tt : TT} {te : TE} {vs : List Nat} {σ : L2.St} {H1 : Hp} {D : Addr} {Qd : Hp → Prop} (hl : xs.length = ys.length) (Pv : Nat → Hp → Prop) (h0 : Pv 0 (upd H1 D (.lst []))) (hq : ∀ i H, Pv i H → SqT K H a xs ∧ SqT K H b ys)
    (hs : ∀ (i : Nat) (x y : V) (T : Addr) (H : Hp), xs[i]? = some x → ys[i]? = some y → Pv i H → H T = none → lcTurn D g tt te vs σ (Pv (i + 1)) (.ref T) (upd H T (.tup [x, y]))) (hd : ∀ H, Pv xs.length H → Qd H) :
    ∃ W : Nat → Nat → Hp → Prop, (∃ m, W 0 m (upd H1 D (.lst []))) ∧ ∀ i m H0, W i m H0 →
      ((ItzT K a b).stop i H0 ∧ Qd H0) ∨ ((ItzT K a b).go i H0 ∧ ∃ Nx : Hp → Prop, (∀ H', Nx H' → ∃ m', m' < m ∧ W (i + 1) m' H') ∧ ∀ v H', (ItzT K a b).yld i H0 v H' → lcTurn D g tt te vs σ Nx v H') := by
  refine ⟨fun i m H => i + m = xs.length ∧ Pv i H, ⟨xs.length, Nat.zero_add _, h0⟩, fun i m H0 hw => ?_⟩
  obtain ⟨em, pi⟩ := hw
  obtain ⟨ta, tb⟩ := hq i H0 pi
  cases m with
  | zero =>
    have ei : i = xs.length := em
    subst ei
    exact .inl ⟨⟨xs, ys, ta, tb, Or.inl (Nat.le_refl _)⟩, hd H0 pi⟩
  | succ m =>
    have i1 : i < xs.length := by omega
    have i2 : i < ys.length := hl ▸ i1
    refine .inr ⟨⟨xs, ys, _, _, ta, tb, List.getElem?_eq_getElem i1, List.getElem?_eq_getElem i2⟩, Pv (i + 1), fun H' p => ⟨m, Nat.lt_succ_self m, by omega, p⟩, fun v H' out => ?_⟩
    obtain ⟨T, _, _, rfl, free, rfl, fx, fy⟩ := out
    exact hs i _ _ T H0 (fx xs ta) (fy ys tb) pi free
theorem getD_at {t : List Nat} {i : Nat} (h : i < t.length) : t[i]? = some (t.getD i 0) := by
  rw [List.getD_eq_getElem?_getD, List.getElem?_eq_getElem h]
  rfl
theorem nv_take (t : List Nat) (k : Nat) : nv (t.take k) = (nv t).take k := List.map_take
theorem cut_to (xs : List V) (k : Nat) (h : k ≤ xs.length) : cutV xs none (some (k : Int)) = xs.take k := by
  unfold cutV
  rw [show HT.sIx xs.length xs.length (some (k : Int)) = min k xs.length from HT.sIx_nat xs.length xs.length k, HT.sIx_none, Nat.min_eq_left h]
  rfl
def rCatB (K : PySem.W.Frag) : R2 := fun x y H Q => ∃ a b xs ys, x = .ref a ∧ y = .ref b ∧ SqT K H a xs ∧ SqT K H b ys ∧ xs.length + ys.length ≤ sizeLine ∧ ∀ H' z, Same H H' → SqT K H' z (xs ++ ys) → Q (.ref z) H'
theorem op_catB {X : Cx} : OpR X (binaryOp .Add) (rCatB X.K) := by
  intro pins s σ H x y v u Q I rx ry h
  obtain ⟨a, b, xs, ys, rfl, rfl, hx, hy, hz, q⟩ := h
  refine op_catA pins s σ H _ _ v u Q I rx ry ⟨a, b, xs, ys, rfl, rfl, hx, hy, hz, fun e => ?_, fun _ e => ?_, fun _ _ p hp => q _ p (same_new hp _) (SqT.of upd_same)⟩
  · subst e
    exact q H b (Same.refl H) hy
  · subst e
    rw [List.append_nil] at q
    exact q H a (Same.refl H) hx
def rSlB (K : PySem.W.Frag) : V → Option Int → Option Int → Hp → VK → Prop := fun x lo hi H Q => ∃ a xs, x = .ref a ∧ SqT K H a xs ∧ ∀ H' z, Same H H' → SqT K H' z (cutV xs lo hi) → Q (.ref z) H'
theorem sl_tupB {X : Cx} : SlR X (rSlB X.K) := by
  intro pins s σ H x v vl vu lo hi sl Q I rx hs pl pu h
  obtain ⟨a, xs, rfl, hx, q⟩ := h
  refine sl_tupA pins s σ H _ v vl vu lo hi sl Q I rx hs pl pu ⟨a, xs, rfl, hx, fun e => ?_, fun _ p hp => q _ p (same_new hp _) (SqT.of upd_same)⟩
  have e2 : cutV xs lo hi = xs := by
    unfold cutV
    rw [e.1, e.2]
    exact List.take_length
  rw [e2] at q
  exact q H a (Same.refl H) hx
def Bar (p : Addr) (H H' : Hp) : Prop := ∀ b o, b ≠ p → H b = some o → H' b = some o
theorem Bar.trans {p : Addr} {A B C : Hp} (a : Bar p A B) (b : Bar p B C) : Bar p A C := fun c o n h => b c o n (a c o n h)
theorem Bar.same {p : Addr} {A B : Hp} (a : Same A B) : Bar p A B := fun c o _ h => a c o h
theorem Bar.upd {p : Addr} {A : Hp} {o : HO} : Bar p A (upd A p o) := fun c u n h => by
  rw [upd_ne n]
  exact h
theorem passG {X : Cx} : Passes (CX X.prog X.w) X E0 := fun _ _ _ _ _ _ _ c => by
  obtain ⟨_, _, _, _, _, _, _, _, _, _, _, _, no⟩ := c
  exact no.elim
theorem nostop : NoStop K E0 := fun _ _ _ no => no.elim
theorem ref_get {rs : List Addr} {i : Nat} {x : V} (h : (rs.map V.ref)[i]? = some x) : ∃ a, rs[i]? = some a ∧ x = .ref a := by
  rw [List.getElem?_map] at h
  cases e : rs[i]? with
  | none =>
    rw [e] at h
    cases h
  | some n =>
    rw [e] at h
    exact ⟨n, rfl, (Option.some.inj h).symm⟩
theorem mpos {j : Int} (h : (0 : Int) < j) : (0 : Int) < j := h
theorem same_back {H H' : Hp} (s : Same H H') {r : Addr} (h : H' r = none) : H r = none := s.free h
theorem PE.weak {X : Cx} {e : Expr} {t t' : TE} (h : PE X e t) (i : ∀ σ H Q, t' σ H Q → t σ H Q) : PE X e t' := ⟨fun pins s σ H Q I h' => h.run pins s σ H Q I (i σ H Q h')⟩
theorem PT.weak' {X : Cx} {e : Expr} {t t' : TT} (h : PT X e t) (i : ∀ σ H Q, t' σ H Q → t σ H Q) : PT X e t' := ⟨fun pins s σ H Q I h' => h.run pins s σ H Q I (i σ H Q h')⟩
theorem PS.weak' {X : Cx} {st : Stmt} {t t' : TS} (h : PS X st t) (i : ∀ D σ H, t' D σ H → t D σ H) : PS X st t' := ⟨fun pins s σ H D I h' => h.run pins s σ H D I (i D σ H h')⟩
theorem PS.ex {X : Cx} {st : Stmt} {α : Type} {t : α → TS} (h : ∀ x, PS X st (t x)) : PS X st (fun D σ H => ∃ x, t x D σ H) := ⟨fun pins s σ H D I ⟨x, h'⟩ => (h x).run pins s σ H D I h'⟩
theorem shaped_bool (b : Bool) : SeqAt.shaped (.bool b) = true := by cases b <;> decide +kernel
theorem eqv_bool (b : Bool) : PyData.eqv (.bool b) (.bool b) = true := by cases b <;> decide +kernel
theorem dp_ints {K : PySem.W.Frag} {H : Hp} : ∀ l : List Int, DpAll K H (l.map V.int) (l.map PyData.int)
  | [] => .nil
  | i :: l => .cons (.int i) (dp_ints l)
theorem can_ints : ∀ l : List Int, PyData.canLayAll0 (l.map PyData.int) = true ∧ PyData.depthAll (l.map PyData.int) = 0
  | [] => by simp [PyData.canLayAll0, PyData.depthAll]
  | i :: l => by
    obtain ⟨h1, h2⟩ := can_ints l
    constructor
    · rw [List.map_cons, PyData.canLayAll0, h1]
      simp [PyData.canLay0]
    · rw [List.map_cons, PyData.depthAll, h2]
      simp [PyData.depth]
theorem shaped_intsT (l : List Int) : SeqAt.shaped (.tuple (l.map PyData.int)) = true := by
  obtain ⟨h1, h2⟩ := can_ints l
  simp [SeqAt.shaped, PyData.canLay0, PyData.depth, h1, h2]
theorem eqv_intsT (l : List Int) : PyData.eqv (.tuple (l.map PyData.int)) (.tuple (l.map PyData.int)) = true := SeqAt.eqv_refl _ (by
  simp only [PyData.canLay0]
  exact (can_ints l).1)
theorem eqvAll_nats : ∀ t u : List Nat, PyData.eqvAll (t.map fun n => PyData.int ((n : Nat) : Int)) (u.map fun n => PyData.int ((n : Nat) : Int)) = decide (t = u)
  | [], [] => by simp [PyData.eqvAll]
  | [], _ :: _ => by simp [PyData.eqvAll]
  | _ :: _, [] => by simp [PyData.eqvAll]
  | a :: t, b :: u => by
    simp only [List.map_cons, PyData.eqvAll, PyData.eqv, eqvAll_nats t u]
    rw [show (((a : Nat) : Int) == ((b : Nat) : Int)) = decide (a = b) by
      rw [Bool.eq_iff_iff, beq_iff_eq, decide_eq_true_iff]
      omega, ← Bool.decide_and]
    exact decide_eq_decide.mpr (by simp)
theorem eqv_tupE (t u : List Nat) : PyData.eqv (encT t) (encT u) = decide (t = u) := by
  simp only [encT, PyData.eqv]
  exact eqvAll_nats t u
theorem tups_get {H : Hp} {rs : List Addr} {L : List (List Nat)} {i : Nat} {x : V} (hT : Tups K H rs L) (h : (rs.map V.ref)[i]? = some x) : ∃ a t, x = .ref a ∧ rs[i]? = some a ∧ L[i]? = some t ∧ SqT K H a (nv t) := by
  obtain ⟨a, ha, rfl⟩ := ref_get h
  obtain ⟨t, ht, hs⟩ := hT.get ha
  exact ⟨a, t, rfl, ha, ht, hs⟩
theorem any_take_step {l : List Bool} {i : Nat} {b : Bool} (h : l[i]? = some b) : (l.take (i + 1)).any id = ((l.take i).any id || b) := by
  rw [take_more h, List.any_append]
  simp
theorem any_drop {l : List Bool} {i : Nat} (h : (l.take i).any id = true) : l.any id = true := by
  rw [← List.take_append_drop i l, List.any_append, h, Bool.true_or]
theorem eqvAll_tups : ∀ L M : List (List Nat), PyData.eqvAll (L.map encT) (M.map encT) = decide (L = M)
  | [], [] => by simp [PyData.eqvAll]
  | [], _ :: _ => by simp [PyData.eqvAll]
  | _ :: _, [] => by simp [PyData.eqvAll]
  | t :: L, u :: M => by
    rw [List.map_cons, List.map_cons, PyData.eqvAll, eqv_tupE, eqvAll_tups L M, ← Bool.decide_and]
    exact decide_eq_decide.mpr (by simp)
theorem shaped_tupsT (L : List (List Nat)) : SeqAt.shaped (.tuple (L.map encT)) = true := by
  have h := can_tups L
  unfold SeqAt.shaped
  simp only [PyData.canLay0, PyData.depth, h.1, Bool.true_and]
  exact decide_eq_true (by omega)
theorem eqv_tupsSame (L : List (List Nat)) : PyData.eqv (.tuple (L.map encT)) (.tuple (L.map encT)) = true := SeqAt.eqv_refl _ (by
  simp only [PyData.canLay0]
  exact (can_tups L).1)
theorem shaped_natsL (t : List Nat) : SeqAt.shaped (.list (t.map fun n => PyData.int ((n : Nat) : Int))) = true := by
  have g := can_nats t
  unfold SeqAt.shaped
  simp only [PyData.canLay0, PyData.depth, g.1, g.2, Bool.true_and]
  exact decide_eq_true (by omega)
theorem eqv_nilL (l : List PyData) : PyData.eqv (.list l) (.list []) = decide (l = []) := by
  cases l with
  | nil => decide +kernel
  | cons a b =>
    rw [decide_eq_false (List.cons_ne_nil a b)]
    rfl
theorem sorted_one : ∀ {a b : List Int}, a.Perm b → a.Pairwise (· ≤ ·) → b.Pairwise (· ≤ ·) → a = b
  | [], b, p, _, _ => (List.nil_perm.mp p).symm
  | x :: a, [], p, _, _ => absurd p.length_eq (by simp)
  | x :: a, y :: b, p, ha, hb => by
    obtain ⟨a1, a2⟩ := List.pairwise_cons.mp ha
    obtain ⟨b1, b2⟩ := List.pairwise_cons.mp hb
    have e : x = y := by
      have h1 : x ∈ y :: b := p.mem_iff.mp List.mem_cons_self
      have h2 : y ∈ x :: a := p.mem_iff.mpr List.mem_cons_self
      rcases List.mem_cons.mp h1 with h1 | h1
      · exact h1
      · rcases List.mem_cons.mp h2 with h2 | h2
        · exact h2.symm
        · have := b1 x h1
          have := a1 y h2
          omega
    subst e
    rw [sorted_one (List.perm_cons x |>.mp p) a2 b2]
theorem bar_updL {p D : Addr} {o : HO} {H H' : Hp} (b : Bar p H H') (hD : H D = none) : Bar p H (upd H' D o) := fun c u n h => by
  rw [upd_ne (ne_of_none h hD)]
  exact b c u n h
theorem nat_of {i : Int} (h0 : 0 ≤ i) : ∃ n : Nat, i = ((n : Nat) : Int) := ⟨i.toNat, by omega⟩
theorem sqt_but {H H' : Hp} {z a : Addr} {xs ys : List V} (hz : H z = some (.lst ys)) (st : ∀ b o, b ≠ z → H b = some o → H' b = some o) (h : SqT K H a xs) : SqT K H' a xs := by
  have ne : ∀ {o : HO}, H a = some o → o ≠ .lst ys → a ≠ z := fun {o} e n k => by
    rw [k, hz] at e
    exact n (Option.some.inj e).symm
  rcases h with (h | ⟨o, h⟩) | h
  · exact .inl (.inl (st _ _ (ne h fun k => nomatch k) h))
  · exact .inl (.inr ⟨o, st _ _ (ne h fun k => nomatch k) h⟩)
  · exact .inr h
theorem tups_but {H H' : Hp} {z : Addr} {ys : List V} (hz : H z = some (.lst ys)) (st : ∀ b o, b ≠ z → H b = some o → H' b = some o) : ∀ {rs : List Addr} {L : List (List Nat)}, Tups K H rs L → Tups K H' rs L
  | _, _, .nil => .nil
  | _, _, .cons h t => .cons (sqt_but hz st h) (tups_but hz st t)
theorem all_take_step {l : List Bool} {i : Nat} {b : Bool} (h : l[i]? = some b) : (l.take (i + 1)).all id = ((l.take i).all id && b) := by
  rw [take_more h, List.all_append]
  show _ = _
  simp
end
end Gv

/-! tuples of ints, zips of unlike lengths -/
namespace Gv
open PySem PySem.Spec PyProof.Rows L2 RZ L5
section
variable {K : PySem.W.Frag} {H H' : Hp}
abbrev iv (t : List Int) : List V := t.map V.int
theorem iv_len (t : List Int) : (iv t).length = t.length := List.length_map _
theorem iv_app (t u : List Int) : iv (t ++ u) = iv t ++ iv u := List.map_append
theorem iv_get {t : List Int} {i : Nat} {x : V} (h : (iv t)[i]? = some x) : ∃ n, t[i]? = some n ∧ x = .int n := by
  rw [List.getElem?_map] at h
  cases e : t[i]? with
  | none => rw [e] at h; cases h
  | some n => rw [e] at h; exact ⟨n, rfl, (Option.some.inj h).symm⟩
theorem iv_at {t : List Int} {i : Nat} {n : Int} (h : t[i]? = some n) : atI (iv t) (i : Int) = some (.int n) := atI_nat (by rw [List.getElem?_map, h] <;> rfl)
theorem els_iv : ∀ t : List Int, Els K H (iv t) (t.map some)
  | [] => .nil
  | n :: t => .cons (.int n) (els_iv t)
theorem va_iv {a : Addr} {t : List Int} (h : SqT K H a (iv t)) (hl : t.length ≤ 1000) : Va K H (.ref a) (some (t.map some)) := .tup h (els_iv t) (by rw [iv_len]; exact hl)
def intsO (os : List (Option Int)) : List Int := os.map fun o => o.getD 0
theorem ints_back (t : List Int) : intsO (t.map some) = t := by
  unfold intsO
  rw [List.map_map]
  exact (List.map_congr_left fun n _ => rfl).trans (List.map_id _)
theorem els_all {f : Option Int → Bool} (hf : f none = false) : ∀ {vs : List V} {os : List (Option Int)}, Els K H vs os → os.all f = true → vs = iv (intsO os) ∧ os = (intsO os).map some
  | _, _, .nil, _ => ⟨rfl, rfl⟩
  | _, _, .cons (b := o) h t, ha => by
    rw [List.all_cons, Bool.and_eq_true] at ha
    obtain ⟨e1, e2⟩ := els_all hf t ha.2
    cases o with
    | none => rw [hf] at ha; exact absurd ha.1 Bool.false_ne_true
    | some i =>
      obtain ⟨_, _, _, _, _, _, _, e⟩ := h.isi
      obtain rfl := e i rfl
      refine ⟨?_, ?_⟩
      · show _ = V.int i :: iv (intsO _)
        rw [← e1]
      · show _ = some i :: (intsO _).map some
        rw [← e2]
/-! ### many tuples -/
def TupsI (K : PySem.W.Frag) (H : Hp) : List Addr → List (List Int) → Prop := Paired fun a t => SqT K H a (iv t)
theorem TupsI.same (e : Same H H') : ∀ {rs : List Addr} {L : List (List Int)}, TupsI K H rs L → TupsI K H' rs L
  | _, _, .nil => .nil
  | _, _, .cons h t => .cons (same_sqt e h) (TupsI.same e t)
theorem TupsI.updL {p : Addr} {ys : List V} {o : HO} (hp : H p = some (.lst ys)) : ∀ {rs : List Addr} {L : List (List Int)}, TupsI K H rs L → TupsI K (upd H p o) rs L
  | _, _, .nil => .nil
  | _, _, .cons h t => .cons (sqt_updL hp h) (TupsI.updL hp t)
theorem TupsI.length : ∀ {rs : List Addr} {L : List (List Int)}, TupsI K H rs L → rs.length = L.length
  | _, _, .nil => rfl
  | _, _, .cons _ t => congrArg (· + 1) (TupsI.length t)
theorem TupsI.app : ∀ {rs qs : List Addr} {L M : List (List Int)}, TupsI K H rs L → TupsI K H qs M → TupsI K H (rs ++ qs) (L ++ M)
  | _, _, _, _, .nil, s => s
  | _, _, _, _, .cons r t, s => .cons r (TupsI.app t s)
theorem tupsI_get {rs : List Addr} {L : List (List Int)} {i : Nat} {x : V} (hT : TupsI K H rs L) (h : (rs.map V.ref)[i]? = some x) : ∃ a t, x = .ref a ∧ rs[i]? = some a ∧ L[i]? = some t ∧ SqT K H a (iv t) := by
  obtain ⟨a, ha, rfl⟩ := ref_get h
  refine ⟨a, ?_⟩
  have key : ∀ {rs : List Addr} {L : List (List Int)} {i : Nat}, TupsI K H rs L → rs[i]? = some a → ∃ t, L[i]? = some t ∧ SqT K H a (iv t) := fun {rs L} => by
    induction rs generalizing L with
    | nil => intro i _ e; simp at e
    | cons r rs ih =>
      intro i hT e
      cases hT with
      | cons hh tt =>
        cases i with
        | zero =>
          have e2 : r = a := by simpa using e
          subst e2
          exact ⟨_, rfl, hh⟩
        | succ i =>
          obtain ⟨u, h1, h2⟩ := ih (i := i) tt (by simpa using e)
          exact ⟨u, by simpa using h1, h2⟩
  obtain ⟨t, h1, h2⟩ := key hT ha
  exact ⟨t, rfl, ha, h1, h2⟩
abbrev encI (t : List Int) : PyData := .tuple (t.map PyData.int)
theorem dp_tupI {a : Addr} {t : List Int} (h : SqT K H a (iv t)) : Dp K H (.ref a) (encI t) := .tup h (dp_ints t)
theorem dp_tupsI : ∀ {rs : List Addr} {L : List (List Int)}, TupsI K H rs L → DpAll K H (rs.map V.ref) (L.map encI)
  | _, _, .nil => .nil
  | _, _, .cons h t => .cons (dp_tupI h) (dp_tupsI t)
end
theorem can_tupsI : ∀ L : List (List Int), PyData.canLayAll0 (L.map encI) = true ∧ PyData.depthAll (L.map encI) ≤ 1
  | [] => by simp [PyData.canLayAll0, PyData.depthAll]
  | t :: L => by
    obtain ⟨h1, h2⟩ := can_tupsI L
    obtain ⟨h3, h4⟩ := can_ints t
    constructor
    · rw [List.map_cons, PyData.canLayAll0, h1, PyData.canLay0, h3]
      rfl
    · rw [List.map_cons, PyData.depthAll, PyData.depth, h4]
      omega
theorem shaped_tupsIT (L : List (List Int)) : SeqAt.shaped (.tuple (L.map encI)) = true := by
  obtain ⟨h1, h2⟩ := can_tupsI L
  simp [SeqAt.shaped, PyData.canLay0, PyData.depth, h1]
  omega
theorem shaped_tupsIL (L : List (List Int)) : SeqAt.shaped (.list (L.map encI)) = true := by
  obtain ⟨h1, h2⟩ := can_tupsI L
  simp [SeqAt.shaped, PyData.canLay0, PyData.depth, h1]
  omega
theorem eqvAll_ints : ∀ t u : List Int, PyData.eqvAll (t.map PyData.int) (u.map PyData.int) = decide (t = u)
  | [], [] => by simp [PyData.eqvAll]
  | [], _ :: _ => by simp [PyData.eqvAll]
  | _ :: _, [] => by simp [PyData.eqvAll]
  | a :: t, b :: u => by
    rw [List.map_cons, List.map_cons, PyData.eqvAll, eqvAll_ints t u]
    have e : PyData.eqv (.int a) (.int b) = decide (a = b) := by
      simp only [PyData.eqv]
      rfl
    rw [e, ← Bool.decide_and]
    exact decide_eq_decide.mpr ⟨fun h => by rw [h.1, h.2], fun h => by cases h; exact ⟨rfl, rfl⟩⟩
theorem eqv_tupIE (t u : List Int) : PyData.eqv (encI t) (encI u) = decide (t = u) := by
  simp only [PyData.eqv]
  exact eqvAll_ints t u
theorem eqv_tupsIT (L : List (List Int)) : PyData.eqv (.tuple (L.map encI)) (.tuple (L.map encI)) = true := SeqAt.eqv_refl _ (by
  simp only [PyData.canLay0]
  exact (can_tupsI L).1)
section
variable {K : PySem.W.Frag} {H H' : Hp}
/-! ### a comprehension over zip of two tuples -/
theorem lc_zipM {a b : Addr} {xs ys : List V} {g : TG} {tt : TT} {te : TE} {vs : List Nat} {σ : L2.St} {H1 : Hp} {D : Addr} {Qd : Hp → Prop} (n : Nat) (hn : n = min xs.length ys.length) (Pv : Nat → Hp → Prop) (h0 : Pv 0 (upd H1 D (.lst []))) (hq : ∀ i H, Pv i H → SqT K H a xs ∧ SqT K H b ys)
    (hs : ∀ (i : Nat) (x y : V) (T : Addr) (H : Hp), xs[i]? = some x → ys[i]? = some y → Pv i H → H T = none → lcTurn D g tt te vs σ (Pv (i + 1)) (.ref T) (upd H T (.tup [x, y]))) (hd : ∀ H, Pv n H → Qd H) :
    ∃ W : Nat → Nat → Hp → Prop, (∃ m, W 0 m (upd H1 D (.lst []))) ∧ ∀ i m H0, W i m H0 →
      ((ItzT K a b).stop i H0 ∧ Qd H0) ∨ ((ItzT K a b).go i H0 ∧ ∃ Nx : Hp → Prop, (∀ H', Nx H' → ∃ m', m' < m ∧ W (i + 1) m' H') ∧ ∀ v H', (ItzT K a b).yld i H0 v H' → lcTurn D g tt te vs σ Nx v H') := by
  refine ⟨fun i m H => i + m = n ∧ Pv i H, ⟨n, Nat.zero_add _, h0⟩, fun i m H0 hw => ?_⟩
  obtain ⟨em, pi⟩ := hw
  obtain ⟨ta, tb⟩ := hq i H0 pi
  cases m with
  | zero =>
    have ei : i = n := em
    subst ei
    exact .inl ⟨⟨xs, ys, ta, tb, by omega⟩, hd H0 pi⟩
  | succ m =>
    have i1 : i < xs.length := by omega
    have i2 : i < ys.length := by omega
    refine .inr ⟨⟨xs, ys, _, _, ta, tb, List.getElem?_eq_getElem i1, List.getElem?_eq_getElem i2⟩, Pv (i + 1), fun H' p => ⟨m, Nat.lt_succ_self m, by omega, p⟩, fun v H' out => ?_⟩
    obtain ⟨T, _, _, rfl, free, rfl, fx, fy⟩ := out
    exact hs i _ _ T H0 (fx xs ta) (fy ys tb) pi free
/-! ### pairs of ints -/
abbrev zbI (f : Int → Int → Bool) (t u : List Int) : List Bool := List.zipWith f t u
theorem zbI_get {f : Int → Int → Bool} {t u : List Int} {i : Nat} {n m : Int} (h1 : t[i]? = some n) (h2 : u[i]? = some m) : (zbI f t u)[i]? = some (f n m) := by
  rw [List.getElem?_zipWith, h1, h2]
theorem zbI_len {f : Int → Int → Bool} {t u : List Int} : (zbI f t u).length = min t.length u.length := List.length_zipWith
theorem cut_tailI (u : List Int) : cutV (iv u) (some 1) none = iv (u.drop 1) := by
  unfold cutV
  rw [show HT.sIx (iv u).length 0 (some 1) = min 1 (iv u).length from HT.sIx_nat _ _ 1, HT.sIx_none]
  cases u with
  | nil => rfl
  | cons a r =>
    show List.take _ (List.drop (min 1 (r.length.succ)) _) = _
    rw [iv_len]
    show List.take (r.length + 1 - min 1 (r.length + 1)) (List.drop (min 1 (r.length + 1)) (V.int _ :: iv r)) = iv r
    rw [show min 1 (r.length + 1) = 1 by omega]
    show List.take r.length (iv r) = iv r
    exact List.take_of_length_le (by rw [iv_len]; exact Nat.le_refl _)
theorem cut_toI (u : List Int) (k : Nat) (h : k ≤ u.length) : cutV (iv u) none (some (k : Int)) = iv (u.take k) := by
  rw [cut_to _ _ (by rw [iv_len]; exact h)]
  exact List.map_take.symm
theorem cut_fromI (u : List Int) (k : Nat) : cutV (iv u) (some (k : Int)) none = iv (u.drop k) := by
  unfold cutV
  rw [show HT.sIx (iv u).length 0 (some (k : Int)) = min k (iv u).length from HT.sIx_nat _ _ k, HT.sIx_none]
  by_cases h : k ≤ u.length
  · rw [iv_len, Nat.min_eq_left h, List.take_of_length_le (by rw [List.length_drop, iv_len]; exact Nat.le_refl _)]
    exact List.map_drop.symm
  · rw [iv_len, Nat.min_eq_right (by omega), Nat.sub_self, List.take_zero, List.drop_of_length_le (show u.length ≤ k by omega)]
    rfl
theorem cut_initI (u : List Int) : cutV (iv u) none (some (-1)) = iv (u.take (u.length - 1)) := by
  unfold cutV
  rw [HT.sIx_none, List.drop_zero, iv_len]
  show List.take _ _ = List.map _ _
  rw [List.map_take]
  congr 1
  show (if (-1 : Int) < 0 then ((-1 : Int) + ((u.length : Nat) : Int)).toNat else min (-1 : Int).toNat u.length) - 0 = _
  rw [if_pos (by decide)]
  omega
end
end Gv

/-! [e for a in list for b in range], perms of lists of tuples -/
namespace Gv
open PySem PySem.Spec PyProof.Rows L2 RZ L5
section
variable {K : PySem.W.Frag} {g g1 : TG} {tt tt1 : TT} {te : TE} {vs vs1 : List Nat} {D : Addr}
abbrev In2 (J1 : It) (g1 : TG) (tt1 : TT) (te : TE) (vs1 : List Nat) (D : Addr) (σ2 : L2.St) (H4 : Hp) (Nx : Hp → Prop) : Prop := ∃ W1 : Nat → Nat → Hp → Prop, (∃ m, W1 0 m H4) ∧ ∀ j k H, W1 j k H →
  (J1.stop j H ∧ Nx H) ∨ (J1.go j H ∧ ∃ Nx1 : Hp → Prop, (∀ H', Nx1 H' → ∃ k', k' < k ∧ W1 (j + 1) k' H') ∧ ∀ x H', J1.yld j H x H' → g1 x (wipe σ2 vs1) H' fun σ3 H5 => wipe σ3 vs1 = wipe σ2 vs1 ∧ tt1 σ3 H5 fun b H6 =>
    if b = true then te σ3 H6 fun y H7 => ∃ acc, H7 D = some (.lst acc) ∧ acc.length < sizeLine ∧ Nx1 (upd H7 D (.lst (acc ++ [y]))) else Nx1 H6)
theorem in2_range {lo : Int} {n : Nat} {σ2 : L2.St} {H4 : Hp} {Nx : Hp → Prop} (Pj : Nat → Hp → Prop) (h0 : Pj 0 H4)
    (step : ∀ j H, j < n → Pj j H → g1 (.int (lo + j)) (wipe σ2 vs1) H fun σ3 H5 => wipe σ3 vs1 = wipe σ2 vs1 ∧ tt1 σ3 H5 fun c H6 => if c = true then te σ3 H6 fun z H7 => ∃ acc, H7 D = some (.lst acc) ∧ acc.length < sizeLine ∧ Pj (j + 1) (upd H7 D (.lst (acc ++ [z]))) else Pj (j + 1) H6)
    (done : ∀ H, Pj n H → Nx H) : In2 (Itr lo n) g1 tt1 te vs1 D σ2 H4 Nx := by
  refine ⟨fun j k H => j + k = n ∧ Pj j H, ⟨n, Nat.zero_add _, h0⟩, fun j k H0 hw => ?_⟩
  obtain ⟨e, pj⟩ := hw
  cases k with
  | zero =>
    obtain rfl : j = n := e
    exact .inl ⟨Nat.le_refl _, done H0 pj⟩
  | succ k =>
    have lt : j < n := by omega
    refine .inr ⟨lt, Pj (j + 1), fun H' p' => ⟨k, Nat.lt_succ_self k, by omega, p'⟩, fun x H' out => ?_⟩
    obtain ⟨same, val⟩ := out
    subst same
    subst val
    exact step j _ lt pj
theorem out2_list {a : Addr} {xs : List V} {wi1 : TI} {σ : L2.St} {H1 : Hp} {Qd : Hp → Prop} (Pi : Nat → Hp → Prop) (h0 : Pi 0 (upd H1 D (.lst []))) (at_ : ∀ i H, Pi i H → SqL K H a xs)
    (step : ∀ i x H, xs[i]? = some x → Pi i H → g x (wipe σ vs) H fun σ2 H2 => wipe σ2 vs = wipe σ vs ∧ tt σ2 H2 fun c H3 => if c = true then wi1 σ2 H3 fun J1 H4 => In2 J1 g1 tt1 te vs1 D σ2 H4 (Pi (i + 1)) else Pi (i + 1) H3)
    (done : ∀ H, Pi xs.length H → Qd H) :
    ∃ W : Nat → Nat → Hp → Prop, (∃ m, W 0 m (upd H1 D (.lst []))) ∧ ∀ i m H, W i m H →
      ((Itl K a).stop i H ∧ Qd H) ∨ ((Itl K a).go i H ∧ ∃ Nx : Hp → Prop, (∀ H', Nx H' → ∃ m', m' < m ∧ W (i + 1) m' H') ∧ ∀ x H', (Itl K a).yld i H x H' → g x (wipe σ vs) H' fun σ2 H2 => wipe σ2 vs = wipe σ vs ∧ tt σ2 H2 fun c H3 =>
        if c = true then wi1 σ2 H3 fun J1 H4 => In2 J1 g1 tt1 te vs1 D σ2 H4 Nx else Nx H3) := by
  refine ⟨fun i m H => i + m = xs.length ∧ Pi i H, ⟨xs.length, Nat.zero_add _, h0⟩, fun i m H0 hw => ?_⟩
  obtain ⟨e, pi⟩ := hw
  have here := at_ i H0 pi
  cases m with
  | zero =>
    obtain rfl : i = xs.length := e
    exact .inl ⟨⟨xs, here, Nat.le_refl _⟩, done H0 pi⟩
  | succ m =>
    have lt : i < xs.length := by omega
    refine .inr ⟨⟨xs, xs[i], here, List.getElem?_eq_getElem lt⟩, Pi (i + 1), fun H' p' => ⟨m, Nat.lt_succ_self m, by omega, p'⟩, fun x H' out => ?_⟩
    obtain ⟨same, val⟩ := out
    subst same
    exact step i x _ (val xs here) pi
end
section
variable {K : PySem.W.Frag} {H : Hp}
/-! ### tuples that were sorted -/
theorem perm_back {α β : Type} {f : α → β} : ∀ {ys : List β} {l : List α}, ys.Perm (l.map f) → ∃ l' : List α, l'.Perm l ∧ ys = l'.map f := fun {ys l} p => by
  have key : ∀ {xs ys : List β}, xs.Perm ys → ∀ l : List α, xs = l.map f → ∃ l' : List α, l.Perm l' ∧ ys = l'.map f := fun {xs ys} p => by
    induction p with
    | nil => exact fun l e => ⟨l, List.Perm.refl _, e⟩
    | cons x p ih =>
      intro l e
      cases l with
      | nil => cases e
      | cons a l =>
        obtain ⟨e1, e2⟩ := List.cons.inj e
        obtain ⟨l', p', e'⟩ := ih l e2
        exact ⟨a :: l', p'.cons a, by rw [List.map_cons, ← e1, e']⟩
    | swap x y r =>
      intro l e
      match l, e with
      | [], e => cases e
      | [_], e => cases e
      | a :: b :: l, e =>
        obtain ⟨e1, e2⟩ := List.cons.inj e
        obtain ⟨e3, e4⟩ := List.cons.inj e2
        exact ⟨b :: a :: l, List.Perm.swap b a l, by rw [List.map_cons, List.map_cons, ← e1, ← e3, e4]⟩
    | trans p q ihp ihq =>
      intro l e
      obtain ⟨l1, p1, e1⟩ := ihp l e
      obtain ⟨l2, p2, e2⟩ := ihq l1 e1
      exact ⟨l2, p1.trans p2, e2⟩
  obtain ⟨l', p', e⟩ := key p.symm l rfl
  exact ⟨l', p'.symm, e⟩
theorem tupsI_pairs : ∀ {rs : List Addr} {L : List (List Int)}, TupsI K H rs L → ∃ ks : List (Addr × List Int), rs = ks.map Prod.fst ∧ L = ks.map Prod.snd ∧ ∀ p ∈ ks, SqT K H p.1 (iv p.2)
  | _, _, .nil => ⟨[], rfl, rfl, fun _ h => nomatch h⟩
  | _, _, .cons (a := a) (b := t) h hT => by
    obtain ⟨ks, e1, e2, e3⟩ := tupsI_pairs hT
    refine ⟨(a, t) :: ks, by rw [e1]; rfl, by rw [e2]; rfl, fun p hp => ?_⟩
    rcases List.mem_cons.mp hp with rfl | hp
    · exact h
    · exact e3 p hp
theorem pairs_tupsI : ∀ {ks : List (Addr × List Int)}, (∀ p ∈ ks, SqT K H p.1 (iv p.2)) → TupsI K H (ks.map Prod.fst) (ks.map Prod.snd)
  | [], _ => .nil
  | p :: ks, h => .cons (h p List.mem_cons_self) (pairs_tupsI fun q hq => h q (List.mem_cons_of_mem _ hq))
/-- a list of tuples that is a sequence of known ones -/
theorem tupsI_perm {rs : List Addr} {L : List (List Int)} {ys : List V} (hT : TupsI K H rs L) (p : ys.Perm (rs.map V.ref)) (r : List Int → List Int → Prop) (hr : ys.Pairwise fun x y => ∀ n k, TupI K H x n → TupI K H y k → r n k) :
    ∃ rs' L', ys = rs'.map V.ref ∧ TupsI K H rs' L' ∧ L'.Perm L ∧ L'.Pairwise r := by
  obtain ⟨ks, rfl, rfl, e3⟩ := tupsI_pairs hT
  rw [List.map_map] at p
  obtain ⟨ks', p', rfl⟩ := perm_back p
  have e4 : ∀ p ∈ ks', SqT K H p.1 (iv p.2) := fun q hq => e3 q (p'.mem_iff.mp hq)
  refine ⟨ks'.map Prod.fst, ks'.map Prod.snd, by rw [List.map_map], pairs_tupsI e4, p'.map _, ?_⟩
  rw [List.pairwise_map] at hr ⊢
  exact List.Pairwise.imp_of_mem (fun {a b} ha hb h => h _ _ ⟨_, rfl, e4 a ha⟩ ⟨_, rfl, e4 b hb⟩) hr
end
/-- two sorted lists of the same tuples are one -/
theorem cod_one {m : Nat} {B : Int} (hB : 0 ≤ B) : ∀ {L M : List (List Int)}, L.Perm M → (∀ t ∈ L, TS.Bd B t ∧ t.length ≤ m) → L.Pairwise (fun a b => TM.cod B m a ≤ TM.cod B m b) → M.Pairwise (fun a b => TM.cod B m a ≤ TM.cod B m b) → L = M
  | [], M, p, _, _, _ => (List.nil_perm.mp p).symm
  | x :: a, [], p, _, _, _ => absurd p.length_eq (by simp)
  | x :: a, y :: b, p, hb, ha, hbb => by
    obtain ⟨a1, a2⟩ := List.pairwise_cons.mp ha
    obtain ⟨b1, b2⟩ := List.pairwise_cons.mp hbb
    have hx := hb x List.mem_cons_self
    have hy := hb y (p.mem_iff.mpr List.mem_cons_self)
    have e : x = y := by
      have h1 : x ∈ y :: b := p.mem_iff.mp List.mem_cons_self
      have h2 : y ∈ x :: a := p.mem_iff.mpr List.mem_cons_self
      rcases List.mem_cons.mp h1 with h1 | h1
      · exact h1
      · rcases List.mem_cons.mp h2 with h2 | h2
        · exact h2.symm
        · have e1 := b1 x h1
          have e2 := a1 y h2
          exact TM.cod_inj hB m hx.1 hy.1 hx.2 hy.2 (by omega)
    subst e
    rw [cod_one hB (List.perm_cons x |>.mp p) (fun t ht => hb t (List.mem_cons_of_mem _ ht)) a2 b2]
end Gv

namespace Gs
open PySem PySem.Spec PyProof.Rows L2
/-! ### set(xs) of a list of are, repeats allowed, so that sorted can walk it -/
abbrev bareSet (w : World) : Obj := { cls := .type "set", dict := none, data := .set #[] 0 (.fresh 0 0 (!w.params.followText "set-order")) }
abbrev hp1 (w : World) (s : Shared) : Heap := s.heap.push (bareSet w)
abbrev LI (l : Addr) : Obj := { cls := .type "list_iterator", data := .fields #[.ref l, .int 0 0] }
section
variable {P : Program} {w : World} {A : Around} {E : Value → Shared → Prop} {s : Shared}
theorem set_of_listI {l : Addr} {xs : Array Value} (ns : List Int) {Q : Value → Shared → Prop} (calm : A.handled = none) (isl : s.heap.IsList l xs) (are : IntsAre xs.toList ns) (few : ns.length + 1 < scanBound)
    (goal : ∀ (h2 : Heap) (tk n : Nat), SetR w h2 s.heap.objs.size (fun j => decide (j ∈ ns)) n → n ≤ ns.length → (∀ b o, s.heap.get? b = some o → h2.get? b = some o) → Q (.ref s.heap.objs.size) { s with heap := h2, toks := tk }) :
    wpAny (model P w) A (call (.type "set") [.ref l]) Q E s := by
  have xsz : xs.size = ns.length := by
    rw [← Array.length_toList]
    exact IntsAre.length are
  obtain ⟨c0, tl0, mro0⟩ := F.called_set.mro
  have made0 := F.called_set.made
  have sub0 := F.called_set.sub
  refine wpAny_call (codeAny_of_tree ?_)
  show wpAny _ _ (callAny (.type "set") _) _ _ _
  refine wpAny_pure ⟨Code.quiet_builtin _ (by decide +kernel), codeAny_builtin F.entry_type_call ?_⟩
  rw [Around.under_plain (weight_type_call_type "set" [.ref l] []) rfl]
  have k1 := F.called_set.notType
  have k2 := F.called_set.canCreate
  have k3 := F.typeCall_set_1 (.ref l)
  repeat (any_goals (first | assumption | wp_step))
  refine codeAny_mono (code_set_led1 (.ref l) (E := E) (Q₁ := fun ob t => ob = .ref s.heap.objs.size ∧ t = { s with heap := hp1 w s }) ⟨rfl, rfl⟩) fun r t hr => ?_
  cases r with
  | error e => exact hr
  | ok fl =>
    cases fl with
    | ret ob =>
      obtain ⟨rfl, rfl⟩ := hr
      have atS : (hp1 w s).get? s.heap.objs.size = some (bareSet w) := Heap.get?_push_size _ rfl
      have tyS : Shared.TypeIs { s with heap := hp1 w s } (.ref s.heap.objs.size) "set" := ⟨_, atS, rfl⟩
      have i1 := F.called_set.init.lookup
      have i2 := F.called_set.init.bind (.ref s.heap.objs.size)
      repeat (any_goals (first | assumption | wp_step))
      refine codeAny_mono (codeAny_call_builtin (R := wants (fun r t => r = .none ∧ ∃ h2 tk n, t = { s with heap := h2, toks := tk } ∧ SetR w h2 s.heap.objs.size (fun j => decide (j ∈ ns)) n ∧ n ≤ ns.length ∧
          (∀ b o, s.heap.get? b = some o → h2.get? b = some o)) E) F.called_set.init.plain F.entry_set_init (check_set_init_1 tyS ?_)) fun r3 t3 hr3 => ?_
      · obtain ⟨⟨lc, ld, ldt, lsl⟩, atl, lcls, ln, lda⟩ := isl
        simp only at lcls lda
        subst lcls; subst lda
        have atl1 : (hp1 w s).get? l = some { cls := .type "list", dict := ld, data := .seq xs ln, slots := lsl } := Heap.get?_push_of_some _ atl
        have no1 := F.sub_list_set
        have no2 := F.sub_list_frozenset
        have no3 : (Value.type "list" == Value.type "dict") = false := by decide
        have isl1 : (hp1 w s).IsList l xs := ⟨_, atl1, rfl, ln, rfl⟩
        unfold Builtin.«set.__init__» noKeywords Builtin.Frozenset.updateFrom
        generalize hIt : pyIter = It0
        wp_walk
        subst hIt
        refine wpAny_pyIter_list isl1 ?_
        refine wpAny_bind (wpAny_runValue ?_)
        have lS : l < s.heap.objs.size := Heap.lt_size atl
        have calm3 : A.in1.in1.in1.handled = none := by simp [calm]
        have neI : l ≠ (hp1 w s).objs.size := by
          rw [Heap.size_push]
          exact Nat.ne_of_lt (Nat.lt_trans lS (Nat.lt_succ_self _))
        have neS : s.heap.objs.size ∉ [(hp1 w s).objs.size, l] := by
          rw [Heap.size_push]
          intro z
          simp only [List.mem_cons, List.not_mem_nil, or_false] at z
          rcases z with z | z
          · exact Nat.ne_of_lt (Nat.lt_succ_self _) z
          · exact Nat.ne_of_gt lS z
        have each : ∀ (i : Nat) (v : Value), xs[i]? = some v → ∃ k t, ns[i]? = some k ∧ v = .int k t := fun i v hv => by
          have hi : i < ns.length := by
            rw [← xsz]
            exact (Array.getElem?_eq_some_iff.mp hv).1
          have hv2 : xs.toList[i]? = some v := by rw [Array.getElem?_toList]; exact hv
          obtain ⟨t, e⟩ := PyProof.Rows.IntsAre.int_at are i v hv2
          have e2 : ns.getD i 0 = ns[i] := by rw [List.getD_eq_getElem?_getD, List.getElem?_eq_getElem hi] <;> rfl
          exact ⟨ns[i], t, List.getElem?_eq_getElem hi, by rw [e, e2]⟩
        refine set_update_ints ((Walks.list calm3 _ l neI xs).toS) s.heap.objs.size neS ns xsz few each (xs.size - 0) 0 _ (by omega) (Nat.zero_le _) ⟨⟨_, Heap.get?_push_size _ rfl, rfl, rfl⟩, (isl1.push _)⟩ ?first ?last
        case first =>
          have g0 : ((hp1 w s).push (LI l)).get? s.heap.objs.size = some (bareSet w) := Heap.get?_push_of_some _ atS
          exact ⟨0, Nat.le_refl 0, setR_new_at g0⟩
        case last =>
          intro t n mv hn hS
          obtain ⟨h2, g2, d2, tk2, o2⟩ := t
          obtain rfl : g2 = s.gens := mv.gens
          obtain rfl : d2 = s.drawn := mv.drawn
          obtain rfl : o2 = s.os := mv.os
          show wpAny _ _ _ _ _ _
          refine wpAny_pure ?_
          show wpAny _ _ (ret Value.none) _ _ _
          rw [xsz] at hn
          refine wpAny_pure ⟨rfl, h2, tk2, n, rfl, hS, hn, fun b o e => ?_⟩
          have b0 : b < s.heap.objs.size := Heap.lt_size e
          have b2 : b ∉ [s.heap.objs.size, (hp1 w s).objs.size] := by
            rw [Heap.size_push]
            intro z
            simp only [List.mem_cons, List.not_mem_nil, or_false] at z
            rcases z with z | z
            · exact Nat.ne_of_lt b0 z
            · exact Nat.ne_of_lt (Nat.lt_trans b0 (Nat.lt_succ_self _)) z
          exact mv.heap b o b2 (Heap.get?_push_of_some _ (Heap.get?_push_of_some _ e))
      · cases r3 with
        | error e => exact hr3
        | ok fl3 =>
          cases fl3 with
          | ret r =>
            obtain ⟨rfl, h2, tk, n, rfl, a1, a2, a3⟩ := hr3
            repeat (any_goals (first | assumption | wp_step))
            exact goal _ _ _ a1 a2 a3
          | _ => exact hr3.elim
    | _ => exact hr.elim
end
def rSetLI (K : PySem.W.Frag) (w : World) : List V → Hp → VK → Prop := fun xs H Q => ∃ (l : Addr) (ns : List Int), xs = [V.ref l] ∧ SqL K H l (ns.map V.int) ∧ ns.length ≤ 1000 ∧ ∀ p n, H p = none → n ≤ ns.length → Q (.ref p) (upd H p (SetO w p (fun j => decide (j ∈ ns)) n))
theorem cr_setLI {X : Cx} (hc : X.calm = true) : CallR X (.type "set") (rSetLI X.K X.w) := by
  intro pins s σ H xs us Q I r h
  obtain ⟨l, ns, rfl, hl, hn, q⟩ := h
  rw [Vals.ref1 r]
  obtain ⟨its, rv, pl, hz⟩ := I.list hl
  refine set_of_listI (P := X.prog) (w := X.w) ns (I.ok.hd hc) pl.isList (ints_of_vals rv) (by unfold scanBound; omega) fun h2 tk n R hn2 k => ?_
  exact ⟨.ref s.heap.objs.size, _, I.laid (t' := tk) k (Nat.le_refl _) (setO_new R), rfl, q _ n (I.hok.fresh (Nat.le_refl _)) hn2⟩
end Gs

namespace K78
open PySem PySem.Spec PyProof.Rows L2 RZ L5 Gv
/-! ### the text by places -/
def topS (i : Nat) : Stmt := PySem.Challenge.pw_pureladders_k78_whole_lower_and_upper_de.main.body.getD i (.Pass ⟨0, 0, 0, 0⟩)
abbrev s_is_number : Stmt := topS 5
abbrev N_is_number : List Str := ["value"]
theorem sc_is_number : FnScope N_is_number ["value"] (defScope s_is_number) := ⟨rfl, rfl, rfl, by decide +kernel, rfl, by decide +kernel, by decide +kernel⟩
abbrev s_is_within : Stmt := topS 6
abbrev N_is_within : List Str := ["value", "least", "most"]
theorem sc_is_within : FnScope N_is_within ["value", "least", "most"] (defScope s_is_within) := ⟨rfl, rfl, rfl, by decide +kernel, rfl, by decide +kernel, by decide +kernel⟩
abbrev s_check_within : Stmt := topS 7
abbrev N_check_within : List Str := ["value", "least", "most"]
theorem sc_check_within : FnScope N_check_within ["value", "least", "most"] (defScope s_check_within) := ⟨rfl, rfl, rfl, by decide +kernel, rfl, by decide +kernel, by decide +kernel⟩
abbrev s_is_set : Stmt := topS 9
abbrev N_is_set : List Str := ["value", "many", "corner", "low", "high"]
theorem sc_is_set : FnScope N_is_set ["value", "many"] (defScope s_is_set) := ⟨rfl, rfl, rfl, by decide +kernel, rfl, by decide +kernel, by decide +kernel⟩
abbrev s_is_pure : Stmt := topS 15
abbrev N_is_pure : List Str := ["value"]
theorem sc_is_pure : FnScope N_is_pure ["value"] (defScope s_is_pure) := ⟨rfl, rfl, rfl, by decide +kernel, rfl, by decide +kernel, by decide +kernel⟩
abbrev s_check_degrees : Stmt := topS 16
abbrev N_check_degrees : List Str := ["value"]
theorem sc_check_degrees : FnScope N_check_degrees ["value"] (defScope s_check_degrees) := ⟨rfl, rfl, rfl, by decide +kernel, rfl, by decide +kernel, by decide +kernel⟩
abbrev s_is_below : Stmt := topS 17
abbrev N_is_below : List Str := ["value", "other"]
theorem sc_is_below : FnScope N_is_below ["value", "other"] (defScope s_is_below) := ⟨rfl, rfl, rfl, by decide +kernel, rfl, by decide +kernel, by decide +kernel⟩
abbrev s_stands_below : Stmt := topS 18
abbrev N_stands_below : List Str := ["one", "other", "low", "high"]
theorem sc_stands_below : FnScope N_stands_below ["one", "other"] (defScope s_stands_below) := ⟨rfl, rfl, rfl, by decide +kernel, rfl, by decide +kernel, by decide +kernel⟩
abbrev s_check_window : Stmt := topS 19
abbrev N_check_window : List Str := ["last", "most"]
theorem sc_check_window : FnScope N_check_window ["last", "most"] (defScope s_check_window) := ⟨rfl, rfl, rfl, by decide +kernel, rfl, by decide +kernel, by decide +kernel⟩
abbrev s_pure_degrees : Stmt := topS 20
abbrev N_pure_degrees : List Str := ["last", "most", "found", "longest", "_", "chosen", "degree"]
theorem sc_pure_degrees : FnScope N_pure_degrees ["last", "most"] (defScope s_pure_degrees) := ⟨rfl, rfl, rfl, by decide +kernel, rfl, by decide +kernel, by decide +kernel⟩
abbrev s_is_behind : Stmt := topS 21
abbrev N_is_behind : List Str := ["degree", "chosen"]
theorem sc_is_behind : FnScope N_is_behind ["degree", "chosen"] (defScope s_is_behind) := ⟨rfl, rfl, rfl, by decide +kernel, rfl, by decide +kernel, by decide +kernel⟩
abbrev s_check_two_degrees : Stmt := topS 23
abbrev N_check_two_degrees : List Str := ["one", "other"]
theorem sc_check_two_degrees : FnScope N_check_two_degrees ["one", "other"] (defScope s_check_two_degrees) := ⟨rfl, rfl, rfl, by decide +kernel, rfl, by decide +kernel, by decide +kernel⟩
abbrev s_lower_of : Stmt := topS 24
abbrev N_lower_of : List Str := ["one", "other", "both", "a", "b"]
theorem sc_lower_of : FnScope N_lower_of ["one", "other"] (defScope s_lower_of) := ⟨rfl, rfl, rfl, by decide +kernel, rfl, by decide +kernel, by decide +kernel⟩
abbrev s_upper_of : Stmt := topS 25
abbrev N_upper_of : List Str := ["one", "other", "a", "b"]
theorem sc_upper_of : FnScope N_upper_of ["one", "other"] (defScope s_upper_of) := ⟨rfl, rfl, rfl, by decide +kernel, rfl, by decide +kernel, by decide +kernel⟩
abbrev s_w_pot : Stmt := topS 27
abbrev N_w_pot : List Str := ["_law_script", "_law_at", "_law_cell", "_law_great", "_law_mixed"]
theorem sc_w_pot : FnScope N_w_pot ["_law_script", "_law_at"] (defScope s_w_pot) := ⟨rfl, rfl, rfl, by decide +kernel, rfl, by decide +kernel, by decide +kernel⟩
abbrev s_w_dip : Stmt := topS 28
abbrev N_w_dip : List Str := ["_law_pot_here", "_law_total", "_law_found", "_law_one", "_law_two"]
theorem sc_w_dip : FnScope N_w_dip ["_law_pot_here", "_law_total"] (defScope s_w_dip) := ⟨rfl, rfl, rfl, by decide +kernel, rfl, by decide +kernel, by decide +kernel⟩
abbrev s_w_pick : Stmt := topS 29
abbrev N_w_pick : List Str := ["_law_pot_here", "_law_items"]
theorem sc_w_pick : FnScope N_w_pick ["_law_pot_here", "_law_items"] (defScope s_w_pick) := ⟨rfl, rfl, rfl, by decide +kernel, rfl, by decide +kernel, by decide +kernel⟩
abbrev s_w_degrees : Stmt := topS 30
abbrev N_w_degrees : List Str := ["_law_pot_here", "_law_most", "_law_size", "_law_found", "_law_turn"]
theorem sc_w_degrees : FnScope N_w_degrees ["_law_pot_here", "_law_most"] (defScope s_w_degrees) := ⟨rfl, rfl, rfl, by decide +kernel, rfl, by decide +kernel, by decide +kernel⟩
abbrev s_w_is_below : Stmt := topS 31
abbrev N_w_is_below : List Str := ["_law_one", "_law_other", "_law_first", "_law_second"]
theorem sc_w_is_below : FnScope N_w_is_below ["_law_one", "_law_other"] (defScope s_w_is_below) := ⟨rfl, rfl, rfl, by decide +kernel, rfl, by decide +kernel, by decide +kernel⟩
abbrev s_w_right : Stmt := topS 32
abbrev N_w_right : List Str := ["_law_pot_here", "_law_most", "_law_one", "_law_other", "_law_third", "_law_lower", "_law_upper", "_law_some"]
theorem sc_w_right : FnScope N_w_right ["_law_pot_here"] (defScope s_w_right) := ⟨rfl, rfl, rfl, by decide +kernel, rfl, by decide +kernel, by decide +kernel⟩
abbrev s_law : Stmt := topS 33
abbrev N_law : List Str := ["_law_script", "_law_spot", "_law_pot_here", "_law_told"]
theorem sc_law : FnScope N_law ["_law_script"] (defScope s_law) := ⟨rfl, rfl, rfl, by decide +kernel, rfl, by decide +kernel, by decide +kernel⟩
/-! ### what the top has written -/
structure Txt (K : PySem.W.Frag) (mg : Str → Option Value) where
  a_is_number : Addr
  d_is_number : FuncData
  F_is_number : Fun K "is_number" "is_number" s_is_number a_is_number d_is_number
  b_is_number : Binds K d_is_number ["value"] []
  m_is_number : mg "is_number" = some (.ref a_is_number)
  a_is_within : Addr
  d_is_within : FuncData
  F_is_within : Fun K "is_within" "is_within" s_is_within a_is_within d_is_within
  b_is_within : Binds K d_is_within ["value", "least", "most"] []
  m_is_within : mg "is_within" = some (.ref a_is_within)
  a_check_within : Addr
  d_check_within : FuncData
  F_check_within : Fun K "check_within" "check_within" s_check_within a_check_within d_check_within
  b_check_within : Binds K d_check_within ["value", "least", "most"] []
  m_check_within : mg "check_within" = some (.ref a_check_within)
  a_is_set : Addr
  d_is_set : FuncData
  F_is_set : Fun K "is_set" "is_set" s_is_set a_is_set d_is_set
  b_is_set : Binds K d_is_set ["value", "many"] []
  m_is_set : mg "is_set" = some (.ref a_is_set)
  a_is_pure : Addr
  d_is_pure : FuncData
  F_is_pure : Fun K "is_pure" "is_pure" s_is_pure a_is_pure d_is_pure
  b_is_pure : Binds K d_is_pure ["value"] []
  m_is_pure : mg "is_pure" = some (.ref a_is_pure)
  a_check_degrees : Addr
  d_check_degrees : FuncData
  F_check_degrees : Fun K "check_degrees" "check_degrees" s_check_degrees a_check_degrees d_check_degrees
  b_check_degrees : Binds K d_check_degrees ["value"] []
  m_check_degrees : mg "check_degrees" = some (.ref a_check_degrees)
  a_is_below : Addr
  d_is_below : FuncData
  F_is_below : Fun K "is_below" "is_below" s_is_below a_is_below d_is_below
  b_is_below : Binds K d_is_below ["value", "other"] []
  m_is_below : mg "is_below" = some (.ref a_is_below)
  a_stands_below : Addr
  d_stands_below : FuncData
  F_stands_below : Fun K "stands_below" "stands_below" s_stands_below a_stands_below d_stands_below
  b_stands_below : Binds K d_stands_below ["one", "other"] []
  m_stands_below : mg "stands_below" = some (.ref a_stands_below)
  a_check_window : Addr
  d_check_window : FuncData
  F_check_window : Fun K "check_window" "check_window" s_check_window a_check_window d_check_window
  b_check_window : Binds K d_check_window ["last", "most"] []
  m_check_window : mg "check_window" = some (.ref a_check_window)
  a_pure_degrees : Addr
  d_pure_degrees : FuncData
  F_pure_degrees : Fun K "pure_degrees" "pure_degrees" s_pure_degrees a_pure_degrees d_pure_degrees
  b_pure_degrees : Binds K d_pure_degrees ["last", "most"] []
  m_pure_degrees : mg "pure_degrees" = some (.ref a_pure_degrees)
  a_is_behind : Addr
  d_is_behind : FuncData
  F_is_behind : Fun K "is_behind" "is_behind" s_is_behind a_is_behind d_is_behind
  b_is_behind : Binds K d_is_behind ["degree", "chosen"] []
  m_is_behind : mg "is_behind" = some (.ref a_is_behind)
  a_check_two_degrees : Addr
  d_check_two_degrees : FuncData
  F_check_two_degrees : Fun K "check_two_degrees" "check_two_degrees" s_check_two_degrees a_check_two_degrees d_check_two_degrees
  b_check_two_degrees : Binds K d_check_two_degrees ["one", "other"] []
  m_check_two_degrees : mg "check_two_degrees" = some (.ref a_check_two_degrees)
  a_lower_of : Addr
  d_lower_of : FuncData
  F_lower_of : Fun K "lower_of" "lower_of" s_lower_of a_lower_of d_lower_of
  b_lower_of : Binds K d_lower_of ["one", "other"] []
  m_lower_of : mg "lower_of" = some (.ref a_lower_of)
  a_upper_of : Addr
  d_upper_of : FuncData
  F_upper_of : Fun K "upper_of" "upper_of" s_upper_of a_upper_of d_upper_of
  b_upper_of : Binds K d_upper_of ["one", "other"] []
  m_upper_of : mg "upper_of" = some (.ref a_upper_of)
  a_w_pot : Addr
  d_w_pot : FuncData
  F_w_pot : Fun K "_law_pot" "_law_pot" s_w_pot a_w_pot d_w_pot
  b_w_pot : Binds K d_w_pot ["_law_script", "_law_at"] []
  m_w_pot : mg "_law_pot" = some (.ref a_w_pot)
  a_w_dip : Addr
  d_w_dip : FuncData
  F_w_dip : Fun K "_law_dip" "_law_dip" s_w_dip a_w_dip d_w_dip
  b_w_dip : Binds K d_w_dip ["_law_pot_here", "_law_total"] []
  m_w_dip : mg "_law_dip" = some (.ref a_w_dip)
  a_w_pick : Addr
  d_w_pick : FuncData
  F_w_pick : Fun K "_law_pick" "_law_pick" s_w_pick a_w_pick d_w_pick
  b_w_pick : Binds K d_w_pick ["_law_pot_here", "_law_items"] []
  m_w_pick : mg "_law_pick" = some (.ref a_w_pick)
  a_w_degrees : Addr
  d_w_degrees : FuncData
  F_w_degrees : Fun K "_law_degrees" "_law_degrees" s_w_degrees a_w_degrees d_w_degrees
  b_w_degrees : Binds K d_w_degrees ["_law_pot_here", "_law_most"] []
  m_w_degrees : mg "_law_degrees" = some (.ref a_w_degrees)
  a_w_is_below : Addr
  d_w_is_below : FuncData
  F_w_is_below : Fun K "_law_is_below" "_law_is_below" s_w_is_below a_w_is_below d_w_is_below
  b_w_is_below : Binds K d_w_is_below ["_law_one", "_law_other"] []
  m_w_is_below : mg "_law_is_below" = some (.ref a_w_is_below)
  a_w_right : Addr
  d_w_right : FuncData
  F_w_right : Fun K "_law_right" "_law_right" s_w_right a_w_right d_w_right
  b_w_right : Binds K d_w_right ["_law_pot_here"] []
  m_w_right : mg "_law_right" = some (.ref a_w_right)
  a_law : Addr
  d_law : FuncData
  F_law : Fun K "law" "law" s_law a_law d_law
  b_law : Binds K d_law ["_law_script"] []
  m_law : mg "law" = some (.ref a_law)
  z_isinstance : mg "isinstance" = none
  z_int : mg "int" = none
  z_bool : mg "bool" = none
  z_tuple : mg "tuple" = none
  z_all : mg "all" = none
  z_zip : mg "zip" = none
  z_len : mg "len" = none
  z_range : mg "range" = none
  z_sorted : mg "sorted" = none
  z_min : mg "min" = none
  z_max : mg "max" = none
  z_abs : mg "abs" = none
  z_set : mg "set" = none
  t_MAX_STEP : Nat
  c_MAX_STEP : mg "MAX_STEP" = some (.int 8 t_MAX_STEP)
  t_MAX_PLACE : Nat
  c_MAX_PLACE : mg "MAX_PLACE" = some (.int 480 t_MAX_PLACE)
  t_MOST_LAST : Nat
  c_MOST_LAST : mg "MOST_LAST" = some (.int 3 t_MOST_LAST)
  t_MOST_DEGREE : Nat
  c_MOST_DEGREE : mg "MOST_DEGREE" = some (.int 5 t_MOST_DEGREE)
end K78

namespace K78
open PySem PySem.Spec PyProof.Rows L2 RZ L5 Gv
def ascI : List Int → Bool
  | a :: b :: r => decide (a < b) && ascI (b :: r)
  | _ => true
theorem zb_asc : ∀ u : List Int, (zbI (fun a b => decide (a < b)) u (u.drop 1)).all id = ascI u
  | [] => rfl
  | [_] => rfl
  | a :: b :: r => by
    have := zb_asc (b :: r)
    show (decide (a < b) && (zbI (fun a b => decide (a < b)) (b :: r) ((b :: r).drop 1)).all id) = (decide (a < b) && ascI (b :: r))
    rw [this]
def setB (o : Option (List (Option Int))) (m : Int) : Bool := match o with
  | some os => (os.all fun e => inB e 0 m) && ascI (intsO os)
  | none => false
section
variable {P : Program} {w : World} {K : PySem.W.Frag} {mg : Str → Option Value} {base : Heap}
def sp_num (K : PySem.W.Frag) : Sp := fun vs H Q _ => ∃ v o, vs = [v] ∧ El K H v o ∧ Q (.bl o.isSome) H
theorem ok_num (T : Txt K mg) : FnOk P w K mg base CX0 1 T.a_is_number T.d_is_number ["value"] (sp_num K) := by
  refine T.F_is_number.ok sc_is_number (fun vs H Q E h => ?_) (fun cdv A outer s H vs Q E hr h => ?_)
  · obtain ⟨v, o, rfl, _⟩ := h
    rfl
  · obtain ⟨v, o, rfl, he, q⟩ := h
    refine ⟨_, pss_one (ps_ret (pe_and (pe_callB call_isi (by rfl) T.z_isinstance boot_isinstance (pa_cons (pv 0) (pa_cons (pe_bltn (v := .ty "int") (by rfl) T.z_int boot_int rfl) pa_nil)))
      (pe_one (pe_not (pe_callB call_isi (by rfl) T.z_isinstance boot_isinstance (pa_cons (pv 0) (pa_cons (pe_bltn (v := .ty "bool") (by rfl) T.z_bool boot_bool rfl) pa_nil))))))), ?_⟩
    obtain ⟨t, bi, bb, ty, e1, e2, e3, _⟩ := he.isi
    refine ⟨_, rfl, _, _, _, _, bi, rfl, .ty _, ty, e1, bi, rfl, ?_⟩
    cases bi with
    | true =>
      refine iteT ⟨_, rfl, _, _, _, _, bb, rfl, .ty _, ty, e2, bb, rfl, ?_⟩
      rw [e3] at q
      exact q
    | false =>
      refine iteF ?_
      rw [e3] at q
      exact q
def sp_within (K : PySem.W.Frag) : Sp := fun vs H Q _ => ∃ v o, ∃ a b : Int, vs = [v, .int a, .int b] ∧ El K H v o ∧ Q (.bl (inB o a b)) H
theorem ok_within (T : Txt K mg) : FnOk P w K mg base CX0 2 T.a_is_within T.d_is_within ["value", "least", "most"] (sp_within K) := by
  refine T.F_is_within.ok sc_is_within (fun vs H Q E h => ?_) (fun cdv A outer s H vs Q E hr h => ?_)
  · obtain ⟨v, o, a, b, rfl, _⟩ := h
    rfl
  · obtain ⟨v, o, a, b, rfl, he, q⟩ := h
    refine ⟨_, pss_one (ps_ret (pe_and (pe_call (ok_num T) hr (by rfl) T.m_is_number T.F_is_number.kp T.b_is_number .nil pass0 (pa_cons (pv 0) pa_nil)) (pe_one (pe_chain op_le op_le (pv 1) (pv 0) (pv 2))))), ?_⟩
    refine ⟨_, rfl, v, o, rfl, he, o.isSome, rfl, ?_⟩
    cases o with
    | none => exact iteF q
    | some i =>
      obtain ⟨_, _, _, _, _, _, _, e⟩ := he.isi
      obtain rfl := e i rfl
      refine iteT ?_
      refine ⟨_, rfl, _, rfl, _, _, rfl, rfl, _, rfl, ite2 (fun c => ?_) (fun c => ?_)⟩
      · refine ⟨_, rfl, _, _, rfl, rfl, ?_⟩
        have q' : Q (.bl (decide (a ≤ i) && decide (i ≤ b))) H := q
        rw [c] at q'
        exact q'
      · have q' : Q (.bl (decide (a ≤ i) && decide (i ≤ b))) H := q
        rw [Bool.eq_false_iff.mpr c] at q'
        exact q'
def sp_checkw : Sp := fun vs H Q _ => ∃ i a b : Int, vs = [.int i, .int a, .int b] ∧ a ≤ i ∧ i ≤ b ∧ Q .non H
theorem ok_checkw (T : Txt K mg) : FnOk P w K mg base CX0 3 T.a_check_within T.d_check_within ["value", "least", "most"] sp_checkw := by
  refine T.F_check_within.ok sc_check_within (fun vs H Q E h => ?_) (fun cdv A outer s H vs Q E hr h => ?_)
  · obtain ⟨i, a, b, rfl, _⟩ := h
    rfl
  · obtain ⟨i, a, b, rfl, h1, h2, q⟩ := h
    refine ⟨_, pss_one (ps_if (pt_not (pt_val (pe_call (ok_within T) hr (by rfl) T.m_is_within T.F_is_within.kp T.b_is_within .nil pass0 (pa_cons (pv 0) (pa_cons (pv 1) (pa_cons (pv 2) pa_nil)))))) (pss_one ps_never) pss_nil), ?_⟩
    refine ⟨_, rfl, _, rfl, _, rfl, _, some i, a, b, rfl, .int i, true, ?_, iteF q⟩
    refine congrArg V.bl ?_
    show (decide (a ≤ i) && decide (i ≤ b)) = true
    rw [decide_eq_true h1, decide_eq_true h2]
    rfl

/-! ### is_set -/
def sp_set (K : PySem.W.Frag) : Sp := fun vs H Q _ => ∃ v o, ∃ m : Int, vs = [v, .int m] ∧ Va K H v o ∧ ∀ H', Same H H' → Q (.bl (setB o (m - 1))) H'
theorem ok_set (T : Txt K mg) : FnOk P w K mg base CX0 3 T.a_is_set T.d_is_set ["value", "many"] (sp_set K) := by
  refine T.F_is_set.ok sc_is_set (fun vs H Q E h => ?_) (fun cdv A outer s H vs Q E hr h => ?_)
  · obtain ⟨v, o, m, rfl, _⟩ := h
    rfl
  · obtain ⟨v, o, m, rfl, hv, q⟩ := h
    refine ⟨_, pss_cons (ps_if (PW.pt (pw_or (pt_not (pt_val (pe_callB call_isi (by rfl) T.z_isinstance boot_isinstance (pa_cons (pv 0) (pa_cons (pe_bltn (v := .ty "tuple") (by rfl) T.z_tuple boot_tuple rfl) pa_nil)))))
        (pw_or1 (pt_not (pt_val (pe_callB (cr_all rfl) (by rfl) T.z_all (by decide +kernel) (pa_cons
          (pe_lc (own := [("corner", 2)]) (g := gName 2) (tt := tYes) rfl sc_is_set.nd (pi_tup (pv 0)) (blkOk_by (own := [("corner", 2)]) (N := N_is_set) (sc := defScope s_is_set) (by decide +kernel))
            (fun _ _ _ _ _ => pg_name (i := 2) sc_is_set.nd rfl (Or.inl rfl)) (fun _ _ _ _ _ => pts_nil)
            (fun _ _ _ _ _ => pe_call (ok_within T) hr (by rfl) T.m_is_within T.F_is_within.kp T.b_is_within .nil pass0 (pa_cons (pv 2) (pa_cons pe_int (pa_cons (pe_op op_sub (pv 1) pe_int) pa_nil))))) pa_nil))))))) (pss_one (ps_ret pe_bl)) pss_nil)
      (pss_one (ps_ret (pe_callB (cr_all rfl) (by rfl) T.z_all (by decide +kernel) (pa_cons
        (pe_lc (own := [("low", 3), ("high", 4)]) (g := gTup K 2 (gCons (gName 3) (gCons (gName 4) gNil))) (tt := tYes) rfl sc_is_set.nd (pi_zipA (by rfl) T.z_zip (pa_cons (pv 0) (pa_cons (pe_slice sl_tupB (pv 0) (po_some pe_int) po_none) pa_nil)))
          (blkOk_by (own := [("low", 3), ("high", 4)]) (N := N_is_set) (sc := defScope s_is_set) (by decide +kernel))
          (fun _ _ _ _ _ => pg_tup (by rfl) (pgs_cons (pg_name (i := 3) sc_is_set.nd rfl (Or.inl rfl)) (pgs_cons (pg_name (i := 4) sc_is_set.nd rfl (Or.inl rfl)) pgs_nil))) (fun _ _ _ _ _ => pts_nil)
          (fun _ _ _ _ _ => pe_cmpR op_lt (pv 3) (pv 4) (nomark _))) pa_nil)))), ?_⟩
    obtain ⟨t, ty, et⟩ := hv.isi
    refine ⟨_, rfl, _, _, _, _, _, rfl, .ty _, ty, et, _, rfl, ?_⟩
    cases o with
    | none => exact iteT (q H (Same.refl H))
    | some os =>
      obtain ⟨p, xs, rfl, hT, hE, hz⟩ := hv.get
      have hlen := hE.length
      refine iteF ⟨_, rfl, p, rfl, ⟨_, hT⟩, fun D hD => ?_⟩
      have s1 : Same H (upd H D (.lst [])) := same_new hD _
      refine lc_tup (K := K) (a := p) (xs := xs) (fun i H' => Same H H' ∧ H' D = some (.lst (((os.take i).map fun o => inB o 0 (m - 1)).map V.bl))) ⟨s1, upd_same⟩ (fun i H' _ h => same_sqt h.1 hT) (fun i x H' hi h => ?_) (fun H' h => ?_)
      · obtain ⟨sm, eD⟩ := h
        obtain ⟨o, ho, hx⟩ := hE.get hi
        have hlt : i < xs.length := (List.getElem?_eq_some_iff.mp hi).1
        refine ⟨rfl, _, rfl, _, rfl, _, _, rfl, rfl, x, o, _, _, rfl, hx.same sm, ?_⟩
        refine ⟨_, eD, by rw [List.length_map, List.length_map, List.length_take]; exact sizeK (by omega), same_updL sm hD, ?_⟩
        rw [upd_same, take_more ho, List.map_append, List.map_append]
        rfl
      · obtain ⟨sm, eD⟩ := h
        rw [hlen, List.take_length] at eD
        refine ⟨D, _, rfl, SqL.of eD, _, rfl, ?_⟩
        rw [List.all_map]
        show (if (!(os.all fun o => inB o 0 (m - 1))) = true then _ else _)
        cases ha : os.all fun o => inB o 0 (m - 1) with
        | false =>
          have e1 : setB (some os) (m - 1) = false := by
            show (_ && _) = false
            rw [ha, Bool.false_and]
          have := q H' sm
          rw [e1] at this
          exact iteT this
        | true =>
          refine iteF ?_
          obtain ⟨e1, e2⟩ := els_all (f := fun o => inB o 0 (m - 1)) rfl hE ha
          have eq : setB (some os) (m - 1) = ascI (intsO os) := by
            show (_ && _) = _
            rw [ha, Bool.true_and]
          rw [eq] at q
          generalize intsO os = u at e1 q
          subst e1
          rw [iv_len] at hz
          have hT' := same_sqt sm hT
          refine ⟨_, rfl, _, rfl, _, rfl, p, _, rfl, hT', fun H1 z s2 hz2 => ?_⟩
          rw [cut_tailI] at hz2
          refine ⟨p, z, _, _, rfl, .inr ⟨same_sqt s2 hT', hz2, fun D2 hD2 => ?_⟩⟩
          have S2 := sm.trans s2
          have s3 := same_new hD2 (.lst [])
          refine lc_zipM _ rfl (fun i H3 => Same H1 H3 ∧ H3 D2 = some (.lst (((zbI (fun a b => decide (a < b)) u (u.drop 1)).take i).map V.bl))) ⟨s3, upd_same⟩ (fun i H3 hh => ⟨same_sqt (s2.trans hh.1) hT', same_sqt hh.1 hz2⟩) (fun i x y T' H3 hx hy hh hT3 => ?_) (fun H3 hh => ?_)
          · obtain ⟨s4, eD4⟩ := hh
            obtain ⟨n1, hn1, rfl⟩ := iv_get hx
            obtain ⟨n2, hn2, rfl⟩ := iv_get hy
            have hlt : i < u.length := (List.getElem?_eq_some_iff.mp hn1).1
            have sT : Same H3 (upd H3 T' (.tup [.int n1, .int n2])) := same_new hT3 _
            refine ⟨T', _, rfl, SqT.of upd_same, rfl, _, _, rfl, _, _, rfl, rfl, ?_⟩
            refine ⟨rfl, _, rfl, _, rfl, _, _, rfl, rfl, ?_⟩
            refine ⟨_, sT _ _ eD4, by rw [List.length_map, List.length_take]; exact sizeK (by omega), same_updL (s4.trans sT) hD2, ?_⟩
            rw [upd_same, take_more (zbI_get hn1 hn2), List.map_append]
            rfl
          · obtain ⟨s4, eD4⟩ := hh
            rw [List.take_of_length_le (by rw [zbI_len, iv_len, iv_len]; exact Nat.le_refl _)] at eD4
            refine ⟨D2, _, rfl, SqL.of eD4, ?_⟩
            have := q H3 (S2.trans s4)
            rw [← zb_asc u] at this
            exact this
end
end K78

namespace K78
open PySem PySem.Spec PyProof.Rows L2 RZ L5 Gv
def pureB (o : Option (List (Option Int))) : Bool := match o with
  | some os => setB (some os) 480 && (decide (1 ≤ os.length) && decide (os.length ≤ 9))
  | none => false
def belB (t u : List Int) : Bool := decide (u.length ≤ t.length) && (zbI (fun a b => decide (a ≤ b)) t u).all id
def belO (o : Option (List (Option Int))) (u : List Int) : Bool := match o with
  | some os => belB (intsO os) u
  | none => false
abbrev Pure (t : List Int) : Prop := pureB (some (t.map some)) = true
theorem Pure.len {t : List Int} (h : Pure t) : 1 ≤ t.length ∧ t.length ≤ 9 := by
  have h' : (_ && (decide (1 ≤ (t.map some).length) && decide ((t.map some).length ≤ 9))) = true := h
  rw [List.length_map, Bool.and_eq_true, Bool.and_eq_true] at h'
  exact ⟨of_decide_eq_true h'.2.1, of_decide_eq_true h'.2.2⟩
theorem pure_get {K : PySem.W.Frag} {H : Hp} {v : V} {o : Option (List (Option Int))} (hv : Va K H v o) (h : pureB o = true) : ∃ p t, v = .ref p ∧ SqT K H p (iv t) ∧ o = some (t.map some) := by
  cases o with
  | none => cases h
  | some os =>
    obtain ⟨p, xs, rfl, hT, hE, hz⟩ := hv.get
    have h' : (((os.all fun e => inB e 0 480) && ascI (intsO os)) && _) = true := h
    rw [Bool.and_eq_true, Bool.and_eq_true] at h'
    obtain ⟨e1, e2⟩ := els_all (f := fun o => inB o 0 480) rfl hE h'.1.1
    exact ⟨p, intsO os, rfl, by rw [← e1]; exact hT, by rw [← e2]⟩
def behB (d : Int) (t : List Int) : Bool := match t.getLast? with
  | none => true
  | some x => decide (x < d)
section
variable {P : Program} {w : World} {K : PySem.W.Frag} {mg : Str → Option Value} {base : Heap}
def sp_pure (K : PySem.W.Frag) : Sp := fun vs H Q _ => ∃ v o, vs = [v] ∧ Va K H v o ∧ ∀ H', Same H H' → Q (.bl (pureB o)) H'
theorem ok_pure (T : Txt K mg) : FnOk P w K mg base CX0 4 T.a_is_pure T.d_is_pure ["value"] (sp_pure K) := by
  refine T.F_is_pure.ok sc_is_pure (fun vs H Q E h => ?_) (fun cdv A outer s H vs Q E hr h => ?_)
  · obtain ⟨v, o, rfl, _⟩ := h
    rfl
  · obtain ⟨v, o, rfl, hv, q⟩ := h
    refine ⟨_, pss_one (ps_ret (pe_and (pe_call (ok_set T) hr (by rfl) T.m_is_set T.F_is_set.kp T.b_is_set .nil pass0 (pa_cons (pv 0) (pa_cons (pe_op op_add (pe_glob (v := .int 480) rfl T.c_MAX_PLACE ⟨_, rfl⟩) pe_int) pa_nil)))
      (pe_one (pe_chain op_le op_le pe_int (pe_callB call_len_seq (by rfl) T.z_len boot_len (pa_cons (pv 0) pa_nil)) (pe_op op_add (pe_glob (v := .int 8) rfl T.c_MAX_STEP ⟨_, rfl⟩) pe_int))))), ?_⟩
    refine ⟨_, rfl, _, _, rfl, rfl, v, o, 481, rfl, hv, fun H1 s1 => ⟨_, rfl, ?_⟩⟩
    show if setB o 480 = true then _ else _
    cases e : setB o 480 with
    | false =>
      have e1 : pureB o = false := by
        cases o with
        | none => rfl
        | some os => show (_ && _) = false; rw [e, Bool.false_and]
      rw [e1] at q
      exact iteF (q H1 s1)
    | true =>
      cases o with
      | none => cases e
      | some os =>
        obtain ⟨p, xs, rfl, hT, hE, hz⟩ := hv.get
        have hlen := hE.length
        have e1 : pureB (some os) = (decide (1 ≤ os.length) && decide (os.length ≤ 9)) := by
          show (_ && _) = _
          rw [e, Bool.true_and]
        rw [e1] at q
        refine iteT ⟨_, rfl, p, _, rfl, .inr (same_sqt s1 hT), _, _, rfl, rfl, _, rfl, ?_⟩
        rw [hlen]
        refine ite2 (fun c => ?_) (fun c => ?_)
        · have c' : 1 ≤ os.length := by have := of_decide_eq_true c; omega
          rw [decide_eq_true c', Bool.true_and] at q
          refine ⟨_, _, rfl, rfl, _, _, rfl, rfl, ?_⟩
          have e2 : decide ((((os.length : Nat) : Int)) ≤ 8 + 1) = decide (os.length ≤ 9) := decide_eq_decide.mpr ⟨fun h => by omega, fun h => by omega⟩
          show Q (.bl (decide ((((os.length : Nat) : Int)) ≤ 8 + 1))) H1
          rw [e2]
          exact q H1 s1
        · have c' : ¬ 1 ≤ os.length := fun z => c (decide_eq_true (by omega))
          rw [decide_eq_false c', Bool.false_and] at q
          exact q H1 s1
def sp_chd (K : PySem.W.Frag) : Sp := fun vs H Q _ => ∃ v o, vs = [v] ∧ Va K H v o ∧ pureB o = true ∧ ∀ H', Same H H' → Q .non H'
theorem ok_chd (T : Txt K mg) : FnOk P w K mg base CX0 5 T.a_check_degrees T.d_check_degrees ["value"] (sp_chd K) := by
  refine T.F_check_degrees.ok sc_check_degrees (fun vs H Q E h => ?_) (fun cdv A outer s H vs Q E hr h => ?_)
  · obtain ⟨v, o, rfl, _⟩ := h
    rfl
  · obtain ⟨v, o, rfl, hv, hp, q⟩ := h
    refine ⟨_, pss_one (ps_if (pt_not (pt_val (pe_call (ok_pure T) hr (by rfl) T.m_is_pure T.F_is_pure.kp T.b_is_pure .nil pass0 (pa_cons (pv 0) pa_nil)))) (pss_one ps_never) pss_nil), ?_⟩
    refine ⟨_, rfl, v, o, rfl, hv, fun H1 s1 => ⟨_, rfl, ?_⟩⟩
    rw [hp]
    exact iteF (q H1 s1)
def sp_stb (K : PySem.W.Frag) : Sp := fun vs H Q _ => ∃ p r t u, vs = [.ref p, .ref r] ∧ SqT K H p (iv t) ∧ SqT K H r (iv u) ∧ t.length ≤ 1000 ∧ ∀ H', Same H H' → Q (.bl (belB t u)) H'
theorem ok_stb (T : Txt K mg) : FnOk P w K mg base CX0 1 T.a_stands_below T.d_stands_below ["one", "other"] (sp_stb K) := by
  refine T.F_stands_below.ok sc_stands_below (fun vs H Q E h => ?_) (fun cdv A outer s H vs Q E hr h => ?_)
  · obtain ⟨p, r, t, u, rfl, _⟩ := h
    rfl
  · obtain ⟨p, r, t, u, rfl, hT, hU, hz, q⟩ := h
    refine ⟨_, pss_one (ps_ret (pe_and (pe_cmpR op_ge (pe_callB call_len_seq (by rfl) T.z_len boot_len (pa_cons (pv 0) pa_nil)) (pe_callB call_len_seq (by rfl) T.z_len boot_len (pa_cons (pv 1) pa_nil)) (nomark _))
      (pe_one (pe_callB (cr_all rfl) (by rfl) T.z_all (by decide +kernel) (pa_cons
        (pe_lc (own := [("low", 2), ("high", 3)]) (g := gTup K 2 (gCons (gName 2) (gCons (gName 3) gNil))) (tt := tYes) rfl sc_stands_below.nd (pi_zipA (by rfl) T.z_zip (pa_cons (pv 0) (pa_cons (pv 1) pa_nil)))
          (blkOk_by (own := [("low", 2), ("high", 3)]) (N := N_stands_below) (sc := defScope s_stands_below) (by decide +kernel))
          (fun _ _ _ _ _ => pg_tup (by rfl) (pgs_cons (pg_name (i := 2) sc_stands_below.nd rfl (Or.inl rfl)) (pgs_cons (pg_name (i := 3) sc_stands_below.nd rfl (Or.inl rfl)) pgs_nil))) (fun _ _ _ _ _ => pts_nil)
          (fun _ _ _ _ _ => pe_cmpR op_le (pv 2) (pv 3) (nomark _))) pa_nil))))), ?_⟩
    refine ⟨_, rfl, p, _, rfl, .inr hT, _, rfl, r, _, rfl, .inr hU, _, _, rfl, rfl, _, rfl, ?_⟩
    rw [iv_len, iv_len]
    have e0 : decide (((t.length : Nat) : Int) ≥ ((u.length : Nat) : Int)) = decide (u.length ≤ t.length) := decide_eq_decide.mpr ⟨fun h => by omega, fun h => by omega⟩
    rw [e0]
    refine ite2 (fun c => ?_) (fun c => ?_)
    · have e1 : belB t u = (zbI (fun a b => decide (a ≤ b)) t u).all id := by
        show (_ && _) = _
        rw [c, Bool.true_and]
      rw [e1] at q
      refine ⟨_, rfl, _, rfl, p, r, iv t, iv u, rfl, .inr ⟨hT, hU, fun D hD => ?_⟩⟩
      have s3 := same_new hD (.lst [])
      refine lc_zipM _ rfl (fun i H3 => Same H H3 ∧ H3 D = some (.lst (((zbI (fun a b => decide (a ≤ b)) t u).take i).map V.bl))) ⟨s3, upd_same⟩ (fun i H3 hh => ⟨same_sqt hh.1 hT, same_sqt hh.1 hU⟩) (fun i x y T' H3 hx hy hh hT3 => ?_) (fun H3 hh => ?_)
      · obtain ⟨s4, eD4⟩ := hh
        obtain ⟨n1, hn1, rfl⟩ := iv_get hx
        obtain ⟨n2, hn2, rfl⟩ := iv_get hy
        have hlt : i < t.length := (List.getElem?_eq_some_iff.mp hn1).1
        have sT : Same H3 (upd H3 T' (.tup [.int n1, .int n2])) := same_new hT3 _
        refine ⟨T', _, rfl, SqT.of upd_same, rfl, _, _, rfl, _, _, rfl, rfl, ?_⟩
        refine ⟨rfl, _, rfl, _, rfl, _, _, rfl, rfl, ?_⟩
        refine ⟨_, sT _ _ eD4, by rw [List.length_map, List.length_take]; exact sizeK (by omega), same_updL (s4.trans sT) hD, ?_⟩
        rw [upd_same, take_more (zbI_get hn1 hn2), List.map_append]
        rfl
      · obtain ⟨s4, eD4⟩ := hh
        rw [List.take_of_length_le (by rw [zbI_len, iv_len, iv_len]; exact Nat.le_refl _)] at eD4
        exact ⟨D, _, rfl, SqL.of eD4, q H3 s4⟩
    · have e1 : belB t u = false := by
        show (_ && _) = _
        rw [Bool.eq_false_iff.mpr c, Bool.false_and]
      rw [e1] at q
      exact q H (Same.refl H)
def sp_isb (K : PySem.W.Frag) : Sp := fun vs H Q _ => ∃ v o r u, vs = [v, .ref r] ∧ Va K H v o ∧ SqT K H r (iv u) ∧ Pure u ∧ ∀ H', Same H H' → Q (.bl (pureB o && belO o u)) H'
theorem ok_isb (T : Txt K mg) : FnOk P w K mg base CX0 6 T.a_is_below T.d_is_below ["value", "other"] (sp_isb K) := by
  refine T.F_is_below.ok sc_is_below (fun vs H Q E h => ?_) (fun cdv A outer s H vs Q E hr h => ?_)
  · obtain ⟨v, o, r, u, rfl, _⟩ := h
    rfl
  · obtain ⟨v, o, r, u, rfl, hv, hU, hp, q⟩ := h
    refine ⟨_, pss_cons (ps_expr (pe_call (ok_chd T) hr (by rfl) T.m_check_degrees T.F_check_degrees.kp T.b_check_degrees .nil pass0 (pa_cons (pv 1) pa_nil)))
      (pss_one (ps_ret (pe_and (pe_call (ok_pure T) (hr.mono (by decide)) (by rfl) T.m_is_pure T.F_is_pure.kp T.b_is_pure .nil pass0 (pa_cons (pv 0) pa_nil))
        (pe_one (pe_call (ok_stb T) (hr.mono (by decide)) (by rfl) T.m_stands_below T.F_stands_below.kp T.b_stands_below .nil pass0 (pa_cons (pv 0) (pa_cons (pv 1) pa_nil))))))), ?_⟩
    have hl := hp.len
    refine ⟨_, rfl, .ref r, _, rfl, va_iv hU (by omega), hp, fun H1 s1 => ?_⟩
    refine ⟨_, rfl, v, o, rfl, hv.same s1, fun H2 s2 => ⟨_, rfl, ?_⟩⟩
    have S := s1.trans s2
    cases e : pureB o with
    | false =>
      rw [e, Bool.false_and] at q
      exact iteF (q H2 S)
    | true =>
      obtain ⟨p, t, rfl, hT, rfl⟩ := pure_get hv e
      rw [e, Bool.true_and] at q
      have eb : belO (some (t.map some)) u = belB t u := by
        show belB (intsO _) u = _
        rw [ints_back]
      rw [eb] at q
      have ht := Pure.len (t := t) e
      refine iteT ⟨_, rfl, _, rfl, p, r, t, u, rfl, same_sqt S hT, same_sqt S hU, by omega, fun H3 s3 => q H3 (S.trans s3)⟩
def sp_chw : Sp := fun vs H Q _ => ∃ l m : Int, vs = [.int l, .int m] ∧ 0 ≤ l ∧ l ≤ 3 ∧ 0 ≤ m ∧ m ≤ 5 ∧ Q .non H
theorem ok_chw (T : Txt K mg) : FnOk P w K mg base CX0 4 T.a_check_window T.d_check_window ["last", "most"] sp_chw := by
  refine T.F_check_window.ok sc_check_window (fun vs H Q E h => ?_) (fun cdv A outer s H vs Q E hr h => ?_)
  · obtain ⟨l, m, rfl, _⟩ := h
    rfl
  · obtain ⟨l, m, rfl, h1, h2, h3, h4, q⟩ := h
    refine ⟨_, pss_cons (ps_expr (pe_call (ok_checkw T) hr (by rfl) T.m_check_within T.F_check_within.kp T.b_check_within .nil pass0 (pa_cons (pv 0) (pa_cons pe_int (pa_cons (pe_glob (v := .int 3) rfl T.c_MOST_LAST ⟨_, rfl⟩) pa_nil)))))
      (pss_one (ps_expr (pe_call (ok_checkw T) hr (by rfl) T.m_check_within T.F_check_within.kp T.b_check_within .nil pass0 (pa_cons (pv 1) (pa_cons pe_int (pa_cons (pe_glob (v := .int 5) rfl T.c_MOST_DEGREE ⟨_, rfl⟩) pa_nil)))))), ?_⟩
    exact ⟨_, rfl, _, _, _, rfl, h1, h2, _, rfl, _, _, _, rfl, h3, h4, q⟩
def sp_beh (K : PySem.W.Frag) : Sp := fun vs H Q _ => ∃ d c t, vs = [.int d, .ref c] ∧ SqT K H c (iv t) ∧ Q (.bl (behB d t)) H
theorem ok_beh (T : Txt K mg) : FnOk P w K mg base CX0 1 T.a_is_behind T.d_is_behind ["degree", "chosen"] (sp_beh K) := by
  refine T.F_is_behind.ok sc_is_behind (fun vs H Q E h => ?_) (fun cdv A outer s H vs Q E hr h => ?_)
  · obtain ⟨d, c, t, rfl, _⟩ := h
    rfl
  · obtain ⟨d, c, t, rfl, hT, q⟩ := h
    refine ⟨_, pss_one (ps_ret (pe_or (pe_notT (pv 1)) (pe_one (pe_cmpR op_lt (pe_ix ix_tup (pv 1) (pe_un un_neg pe_int) (fun _ _ => rfl)) (pv 0) (nomark _))))), ?_⟩
    refine ⟨_, rfl, !(iv t).isEmpty, .inr (.inl ⟨_, hT, rfl⟩), ?_⟩
    rcases List.eq_nil_or_concat t with rfl | ⟨r, x, rfl⟩
    · exact ⟨_, rfl, iteT q⟩
    · rw [show behB d (r.concat x) = decide (x < d) by simp [behB]] at q
      have e : (iv (r.concat x)).isEmpty = false := by simp
      rw [e]
      refine ⟨_, rfl, iteF ⟨_, rfl, _, rfl, c, _, _, .int x, rfl, rfl, (by rw [List.concat_eq_append, iv_app] at hT; exact hT), atI_last (iv r) (.int x), _, rfl, _, _, rfl, rfl, ?_⟩⟩
      exact q
end
end K78

namespace K78
open PySem PySem.Spec PyProof.Rows L2 RZ L5 Gv
def nextP (c : List Int) (d : Nat) : Option (List Int) := if behB ((d : Nat) : Int) c = true then some (c ++ [((d : Nat) : Int)]) else none
def stepP (m : Nat) (L : List (List Int)) : List (List Int) := L.flatMap fun c => (List.range m).filterMap (nextP c)
def longP (m : Nat) : Nat → List (List Int)
  | 0 => [[]]
  | k + 1 => stepP m (longP m k)
def foundP (m : Nat) : Nat → List (List Int)
  | 0 => []
  | k + 1 => foundP m k ++ longP m (k + 1)
theorem step_take {m : Nat} {L : List (List Int)} {i : Nat} {c : List Int} (h : L[i]? = some c) : stepP m (L.take (i + 1)) = stepP m (L.take i) ++ (List.range m).filterMap (nextP c) := by
  unfold stepP
  rw [take_more h, List.flatMap_append]
  simp
theorem step_len (m : Nat) : ∀ L : List (List Int), (stepP m L).length ≤ L.length * m
  | [] => by simp [stepP]
  | c :: L => by
    have := step_len m L
    have h2 : ((List.range m).filterMap (nextP c)).length ≤ m := Nat.le_trans (List.length_filterMap_le _ _) (by rw [List.length_range]; exact Nat.le_refl _)
    show (((List.range m).filterMap (nextP c)) ++ stepP m L).length ≤ _
    rw [List.length_append, List.length_cons, Nat.succ_mul]
    omega
theorem pd_facts : ∀ m, m < 7 → ∀ k, k < 5 → (foundP m k).length < 60 ∧ (longP m k).length < 60 ∧ ∀ t ∈ foundP m k, 1 ≤ t.length ∧ t.length ≤ 4 ∧ ∀ e ∈ t, 0 ≤ e ∧ e < 6 := by decide +kernel
theorem pd_long : ∀ m, m < 7 → ∀ k, k < 5 → ∀ t ∈ longP m k, t.length ≤ 4 ∧ t.length ≤ 4 ∧ t.length ≤ 4 := by decide +kernel
section
variable {P : Program} {w : World} {K : PySem.W.Frag} {mg : Str → Option Value} {base : Heap}
/-- what sorted gives of the found ones -/
def SortedP (K : PySem.W.Frag) (H : Hp) (rs : List Addr) (L M : List (List Int)) : Prop := TupsI K H rs M ∧ M.Perm L ∧ M.Pairwise fun a b => TM.cod 6 4 a ≤ TM.cod 6 4 b
def sp_pds (K : PySem.W.Frag) : Sp := fun vs H Q _ => ∃ l m : Nat, vs = [.int ((l : Nat) : Int), .int ((m : Nat) : Int)] ∧ l ≤ 3 ∧ m ≤ 5 ∧ ∀ H' z rs M, Same H H' → SqT K H' z (rs.map V.ref) → SortedP K H' rs (foundP (m + 1) (l + 1)) M → Q (.ref z) H'
theorem ok_pds (T : Txt K mg) : FnOk P w K mg base CX0 5 T.a_pure_degrees T.d_pure_degrees ["last", "most"] (sp_pds K) := by
  refine T.F_pure_degrees.ok sc_pure_degrees (fun vs H Q E h => ?_) (fun cdv A outer s H vs Q E hr h => ?_)
  · obtain ⟨l, m, rfl, _⟩ := h
    rfl
  · obtain ⟨l, m, rfl, hl, hm, q⟩ := h
    refine ⟨_, pss_cons (ps_expr (pe_call (ok_chw T) hr (by rfl) T.m_check_window T.F_check_window.kp T.b_check_window .nil pass0 (pa_cons (pv 0) (pa_cons (pv 1) pa_nil))))
      (pss_cons (ps_set (i := 2) sc_pure_degrees.nd rfl (Or.inl rfl) (pe_lst pa_nil))
      (pss_cons (ps_set (i := 3) sc_pure_degrees.nd rfl (Or.inl rfl) (pe_lst (pa_cons (pe_tup pa_nil) pa_nil)))
      (pss_cons (ps_for PassesOwn.never rfl (pi_range1 rfl T.z_range (pa_cons (pe_op op_add (pv 0) pe_int) pa_nil)) (pg_name (i := 4) sc_pure_degrees.nd rfl (Or.inl rfl))
        (pss_cons (ps_setLc2 (i := 3) (own := [("chosen", 5), ("degree", 6)]) (vs1 := [6]) (g := gName 5) (tt := tYes) (g1 := gName 6) rfl sc_pure_degrees.nd rfl rfl (sw_true rfl rfl rfl (by decide +kernel)) (pi_list (pv 3))
            (blkOk_by (own := [("chosen", 5), ("degree", 6)]) (N := N_pure_degrees) (sc := defScope s_pure_degrees) (by decide +kernel)) (by decide)
            (fun _ _ _ _ _ => pg_name (i := 5) sc_pure_degrees.nd rfl (Or.inl rfl)) (fun _ _ _ _ _ => pts_nil)
            (fun _ _ _ _ _ => pi_range1 rfl T.z_range (pa_cons (pe_op op_add (pv 1) pe_int) pa_nil))
            (fun _ _ _ _ _ => pg_name (i := 6) sc_pure_degrees.nd rfl (Or.inl rfl))
            (fun _ _ _ _ _ => pts_one (pt_val (pe_call (ok_beh T) (hr.mono (by decide)) (by rfl) T.m_is_behind T.F_is_behind.kp T.b_is_behind .nil pass0 (pa_cons (pv 6) (pa_cons (pv 5) pa_nil)))))
            (fun _ _ _ _ _ => pe_op (show OpR _ _ (rCatB K) from op_catB) (pv 5) (pe_tup (pa_cons (pv 6) pa_nil))))
        (pss_one (ps_set (i := 2) sc_pure_degrees.nd rfl (Or.inl rfl) (pe_op op_cat (pv 2) (pv 3))))))
      (pss_one (ps_ret (pe_callTy call_tuple_of (by rfl) T.z_tuple boot_tuple (pa_cons (pe_callB (cr_sortM (m := 4) (B := 6) (by decide)) (by rfl) T.z_sorted (by decide +kernel) (pa_cons (pv 2) pa_nil)) pa_nil))))))), ?_⟩
    refine ⟨_, rfl, _, rfl, _, _, rfl, by omega, by omega, by omega, by omega, ?_⟩
    refine ⟨by show 0 ≤ sizeLine; exact Nat.zero_le _, fun fa hfa => ?_⟩
    have s1 := same_new hfa (.lst [])
    refine ⟨by show 0 ≤ sizeLine; exact Nat.zero_le _, fun z0 hz0 => ?_⟩
    have s2 := same_new hz0 (.tup [])
    refine ⟨by show 1 ≤ sizeLine; decide, fun la hla => ?_⟩
    have s3 := same_new hla (.lst [V.ref z0])
    refine ⟨_, rfl, _, _, rfl, rfl, _, rfl, by omega, by omega, ?_⟩
    refine for_range (lo := 0) (n := (((l : Nat) : Int) + 1).toNat) (fun i σ H' => ∃ (v4 : Option V) (fa la : Addr) (rs qs : List Addr), σ = [some (.int ((l : Nat) : Int)), some (.int ((m : Nat) : Int)), some (.ref fa), some (.ref la), v4, none, none] ∧ Same H H' ∧ H' fa = some (.lst (rs.map V.ref)) ∧ TupsI K H' rs (foundP (m + 1) i) ∧ H' la = some (.lst (qs.map V.ref)) ∧ TupsI K H' qs (longP (m + 1) i))
      ⟨none, fa, la, [], [z0], rfl, s1.trans (s2.trans s3), (s2.trans s3) _ _ upd_same, .nil, upd_same, .cons (same_sqt s3 (SqT.of upd_same)) .nil⟩ ?_ ?_
    · rintro i σ H1 hi ⟨v4, fa, la, rs, qs, rfl, sm, hf, hfT, hq, hqT⟩
      have hi4 : i < l + 1 := hi
      have hfac := pd_facts (m + 1) (by omega) i (by omega)
      have hfac2 := pd_facts (m + 1) (by omega) (i + 1) (by omega)
      have hql : qs.length = _ := hqT.length
      have hfl : rs.length = _ := hfT.length
      have s0 : Same H1 H1 := Same.refl H1
      refine ⟨_, rfl, la, rfl, ⟨_, SqL.of hq⟩, fun D hD => ?_⟩
      have sD := same_new hD (.lst [])
      refine out2_list (K := K) (a := la) (xs := qs.map V.ref) (fun i2 H' => Same H1 H' ∧ ∃ es : List Addr, H' D = some (.lst (es.map V.ref)) ∧ TupsI K H' es (stepP (m + 1) ((longP (m + 1) i).take i2))) ⟨sD, [], upd_same, .nil⟩ (fun i2 H' hh => SqL.of (hh.1 _ _ hq)) (fun i2 x H2 hx hh => ?_) (fun H2 hh => ?_)
      · obtain ⟨s2, es, eD, hTe⟩ := hh
        obtain ⟨c, t, rfl, _, ht, hs⟩ := tupsI_get hqT hx
        refine ⟨rfl, _, rfl, _, _, rfl, rfl, _, rfl, by omega, by omega, ?_⟩
        refine in2_range (lo := 0) (n := (((m : Nat) : Int) + 1).toNat) (fun j H' => Same H1 H' ∧ ∃ es : List Addr, H' D = some (.lst (es.map V.ref)) ∧ TupsI K H' es (stepP (m + 1) ((longP (m + 1) i).take i2) ++ (List.range j).filterMap (nextP t))) ⟨s2, es, eD, by rw [List.range_zero, List.filterMap_nil, List.append_nil]; exact hTe⟩ (fun j H3 hj hh => ?_) (fun H3 hh => ?_)
        · obtain ⟨s3, es, eD3, hTe3⟩ := hh
          rw [show (0 : Int) + ((j : Nat) : Int) = ((j : Nat) : Int) from Int.zero_add _]
          have hj6 : j < m + 1 := hj
          have hel : es.length ≤ 1000 := by
            have e1 : es.length = _ := hTe3.length
            rw [List.length_append] at e1
            have e2 := step_len (m + 1) ((longP (m + 1) i).take i2)
            have e3 : ((List.range j).filterMap (nextP t)).length ≤ j := Nat.le_trans (List.length_filterMap_le _ _) (by rw [List.length_range]; exact Nat.le_refl _)
            have e4 : ((longP (m + 1) i).take i2).length ≤ 60 := by rw [List.length_take]; omega
            have e5 : ((longP (m + 1) i).take i2).length * (m + 1) ≤ 60 * 6 := Nat.mul_le_mul e4 (by omega)
            omega
          have hst : t.length ≤ 1000 := by
            obtain ⟨_, _, hb⟩ := pd_long (m + 1) (by omega) i (by omega) t (List.mem_of_getElem? ht)
            omega
          refine ⟨rfl, _, rfl, _, rfl, _, c, t, rfl, same_sqt s3 hs, _, rfl, ?_⟩
          have e6 : (List.range (j + 1)).filterMap (nextP t) = (List.range j).filterMap (nextP t) ++ (if behB ((j : Nat) : Int) t = true then [t ++ [((j : Nat) : Int)]] else []) := by
            rw [List.range_succ, List.filterMap_append]
            congr 1
            unfold nextP
            by_cases z : behB ((j : Nat) : Int) t = true
            · simp [z]
            · simp [z]
          refine ite2 (fun cb => ?_) (fun cb => ?_)
          · refine ⟨_, rfl, _, rfl, by show 1 ≤ sizeLine; decide, fun z1 hz1 => ?_⟩
            have s4 := same_new hz1 (.tup [V.int ((j : Nat) : Int)])
            refine ⟨c, z1, _, _, rfl, rfl, same_sqt (s3.trans s4) hs, SqT.of upd_same, ?_, fun H5 z5 s5 hz5 => ?_⟩
            · rw [iv_len]
              show _ + 1 ≤ _
              exact Nat.le_of_lt (sizeK (by omega))
            have S5 := s4.trans s5
            have hz5' : SqT K H5 z5 (iv (t ++ [((j : Nat) : Int)])) := by rw [iv_app]; exact hz5
            refine ⟨_, S5 _ _ eD3, by rw [List.length_map]; exact sizeK (by omega), same_updL (s3.trans S5) hD, es ++ [z5], by rw [upd_same, List.map_append]; rfl, ?_⟩
            rw [e6, if_pos cb, ← List.append_assoc]
            exact ((hTe3.same S5).updL (S5 _ _ eD3)).app (.cons (sqt_updL (S5 _ _ eD3) hz5') .nil)
          · refine ⟨s3, es, eD3, ?_⟩
            rw [e6, if_neg cb, List.append_nil]
            exact hTe3
        · obtain ⟨s3, es, eD3, hTe3⟩ := hh
          refine ⟨s3, es, eD3, ?_⟩
          rw [step_take ht]
          exact hTe3
      · obtain ⟨s2, es, eD, hTe⟩ := hh
        rw [List.length_map, hql, List.take_length] at hTe
        refine ⟨_, rfl, _, rfl, fa, D, _, _, rfl, rfl, s2 _ _ hf, eD, ?_, fun p hp => ?_⟩
        · rw [List.length_map, List.length_map]
          have e1 : es.length = (longP (m + 1) (i + 1)).length := hTe.length
          exact Nat.le_of_lt (sizeK (by omega))
        have s5 := same_new hp (.lst (rs.map V.ref ++ es.map V.ref))
        exact ⟨_, p, D, rs ++ es, es, rfl, sm.trans (s2.trans s5), by rw [upd_same, List.map_append], ((hfT.same s2).same s5).app (hTe.same s5), s5 _ _ eD, hTe.same s5⟩
    · rintro σ H1 ⟨v4, fa, la, rs, qs, rfl, sm, hf, hfT, hq, hqT⟩
      have hfT' : TupsI K H1 rs (foundP (m + 1) (l + 1)) := hfT
      obtain ⟨f1, f2, f3⟩ := pd_facts (m + 1) (by omega) (l + 1) (by omega)
      have hfl : rs.length = _ := hfT'.length
      refine ⟨_, rfl, fa, _, rfl, SqL.of hf, by rw [List.length_map]; omega, fun x hx => ?_, fun ys p pm pw hp => ?_⟩
      · obtain ⟨i, hi⟩ := List.getElem?_of_mem hx
        obtain ⟨a, t, rfl, _, ht, hs⟩ := tupsI_get hfT' hi
        obtain ⟨t1, t2, t3⟩ := f3 t (List.mem_of_getElem? ht)
        exact ⟨t, ⟨a, rfl, hs⟩, t1, t2, t3⟩
      · obtain ⟨rs', M, rfl, hM, pM, sM⟩ := tupsI_perm hfT' pm (fun n k => TM.cod 6 4 n ≤ TM.cod 6 4 k) pw
        have s2 := same_new hp (.lst (rs'.map V.ref))
        refine ⟨p, _, rfl, .inl ⟨SqL.of upd_same, fun z hz => ?_⟩⟩
        have s3 := same_new hz (.tup (rs'.map V.ref))
        exact q _ z rs' M (sm.trans (s2.trans s3)) (SqT.of upd_same) ⟨hM.same (s2.trans s3), pM, sM⟩
end
end K78

namespace K78
open PySem PySem.Spec PyProof.Rows L2 RZ L5 Gv
section
variable {P : Program} {w : World} {K : PySem.W.Frag} {mg : Str → Option Value} {base : Heap}
/-! ### the law's own draws -/
abbrev pailO (g x c : Int) : HO := .lst [.int g, .int x, .int c]
def Pail (p : Addr) (H : Hp) : Prop := ∃ g x c : Int, H p = some (pailO g x c)
def sp_pot (K : PySem.W.Frag) : Sp := fun vs H Q _ => ∃ (a : Addr) (ns : List Int) (k : Nat), vs = [.ref a, .int ((k : Nat) : Int)] ∧ SqL K H a (ns.map V.int) ∧ k < 1000 ∧ ∀ (H' : Hp) (r : Addr) (g x c : Int), Same H H' → H r = none → H' r = some (pailO g x c) → Q (.ref r) H'
theorem ok_pot (T : Txt K mg) : FnOk P w K mg base CX0 1 T.a_w_pot T.d_w_pot ["_law_script", "_law_at"] (sp_pot K) := by
  refine T.F_w_pot.ok sc_w_pot (fun vs H Q E h => ?_) (fun cdv A outer s H vs Q E hr h => ?_)
  · obtain ⟨a, ns, k, rfl, _⟩ := h
    rfl
  · obtain ⟨a, ns, k, rfl, hS, hk, q⟩ := h
    refine ⟨_, pss_cons (ps_set (i := 2) sc_w_pot.nd rfl (Or.inl rfl) (PE.weak (t' := fun σ' H' Q' => σ' = start N_w_pot [.ref a, .int ((k : Nat) : Int)] ∧ H' = H ∧ ∀ (i : Int), Q' (.int i) H) (pe_ifExp (pt_cmpR op_lt (pv 1) (pe_callB call_len_seq (by rfl) T.z_len boot_len (pa_cons (pv 0) pa_nil)) (nomark _))
        (pe_ix ix_list (pv 0) (pv 1) (fun _ _ => rfl))
        (pe_op op_add (pe_op op_mul pe_int (pv 1)) pe_int)) ?imp))
      (pss_cons (ps_set (i := 3) sc_w_pot.nd rfl (Or.inl rfl) (pe_op op_mod (pe_callTy call_int1 (by rfl) T.z_int boot_int (pa_cons (pe_callB call_abs (by rfl) T.z_abs boot_abs (pa_cons (pv 2) pa_nil)) pa_nil)) (pe_op op_powW (pe_op op_pow pe_int pe_int) pe_int)))
      (pss_cons (ps_set (i := 4) sc_w_pot.nd rfl (Or.inl rfl) (pe_op op_add (pe_op op_add (pe_op op_add (pe_op op_mul (pe_op op_mod (pe_callTy call_int1 (by rfl) T.z_int boot_int (pa_cons (pv 3) pa_nil)) pe_int) pe_int) (pe_op op_mul pe_int (pv 1)))
        (pe_op op_mul pe_int (pe_callTy call_int1 (by rfl) T.z_int boot_int (pa_cons (pe_cmpR op_lt (pv 2) pe_int (nomark _)) pa_nil)))) pe_int))
      (pss_one (ps_ret (pe_lst (pa_cons (pe_callB (call_max2 rfl) (by rfl) T.z_max boot_max (pa_cons pe_int (pa_cons (pe_op op_add (pe_op op_sub (pv 3) (pe_op op_pow pe_int pe_int)) pe_int) pa_nil)))
        (pa_cons (pe_op op_mod (pe_callTy call_int1 (by rfl) T.z_int boot_int (pa_cons (pv 4) pa_nil)) pe_int) (pa_cons pe_int pa_nil)))))))), ?_⟩
    case imp =>
      rintro σ' H' Q' ⟨rfl, rfl, h⟩
      refine ⟨_, rfl, _, rfl, a, _, rfl, .inl hS, _, _, rfl, rfl, _, rfl, ite2 (fun c => ?_) (fun c => ?_)⟩
      · have c' := of_decide_eq_true c
        rw [List.length_map] at c'
        have hlt : k < ns.length := by omega
        refine ⟨_, rfl, _, rfl, a, _, _, .int ns[k], rfl, rfl, hS, atI_nat (by rw [List.getElem?_map, List.getElem?_eq_getElem hlt] <;> rfl), ?_⟩
        exact h _
      · exact ⟨_, rfl, _, _, rfl, rfl, .inl ⟨by decide, by decide⟩, _, _, rfl, rfl, h _⟩
    refine ⟨rfl, rfl, fun cell => ?_⟩
    refine ⟨_, rfl, _, rfl, .inl ⟨_, rfl, _, _, rfl, rfl, ⟨by decide, by decide, by decide⟩, _, _, rfl, rfl, ⟨by decide, by decide +kernel⟩, _, _, rfl, rfl, Int.pow_pos (Int.pow_pos (by decide)), ?_⟩⟩
    refine ⟨_, rfl, .inl ⟨_, rfl, _, _, rfl, rfl, mpos (by decide), ?_⟩⟩
    refine ⟨_, _, rfl, rfl, .inr ⟨by decide, by decide⟩, _, rfl, _, _, rfl, rfl, .inl ⟨by decide, by decide⟩, _, _, rfl, rfl, _, rfl, _, _, rfl, rfl, .inr ⟨_, rfl, _, _, rfl, rfl, .inl ⟨by decide, by decide⟩, _, _, rfl, rfl, _, _, rfl, rfl, ?_⟩⟩
    refine ⟨_, rfl, _, _, rfl, rfl, ⟨by decide, by decide, by decide⟩, _, _, rfl, rfl, _, _, rfl, rfl, _, _, rfl, _, rfl, .inl ⟨_, rfl, _, _, rfl, rfl, mpos (by decide), by show 3 ≤ sizeLine; decide, fun z hz => ?_⟩⟩
    exact q _ z _ _ _ (same_new hz _) hz upd_same
abbrev rDip (H : Hp) (p : Addr) (m : Int) (Q : VK) : Prop := ∀ g x c r : Int, 0 ≤ r → r < m → Q (.int r) (upd H p (pailO g x c))
def sp_dip : Sp := fun vs H Q _ => ∃ (p : Addr) (m g x c : Int), vs = [.ref p, .int m] ∧ H p = some (pailO g x c) ∧ 0 < m ∧ m < 1073741824 ∧ rDip H p m Q
theorem ok_dip (T : Txt K mg) : FnOk P w K mg base CX0 1 T.a_w_dip T.d_w_dip ["_law_pot_here", "_law_total"] sp_dip := by
  refine T.F_w_dip.ok sc_w_dip (fun vs H Q E h => ?_) (fun cdv A outer s H vs Q E hr h => ?_)
  · obtain ⟨p, m, g, x, c, rfl, _⟩ := h
    rfl
  · obtain ⟨p, m, g, x, c, rfl, hp, h0, h1, q⟩ := h
    refine ⟨_, pss_cons (ps_if (pt_cmpR op_gt (pe_ix ix_list (pv 0) pe_int (fun _ _ => rfl)) pe_int (nomark _))
        (pss_cons (ps_set (i := 2) sc_w_dip.nd rfl (Or.inl rfl) (pe_op op_mod (pe_callTy call_int1 (by rfl) T.z_int boot_int (pa_cons (pe_ix ix_list (pv 0) pe_int (fun _ _ => rfl)) pa_nil)) (pv 1)))
        (pss_cons (ps_asg (pe_op op_fdiv (pe_ix ix_list (pv 0) pe_int (fun _ _ => rfl)) (pv 1)) (pg_sub (pv 0) pe_int set_list))
        (pss_one (ps_ret (pv 2))))) pss_nil)
      (pss_cons (ps_asg (pe_op op_add (pe_ix ix_list (pv 0) pe_int (fun _ _ => rfl)) pe_int) (pg_sub (pv 0) pe_int set_list))
      (pss_cons (ps_set (i := 3) sc_w_dip.nd rfl (Or.inl rfl) (pe_op op_mod (pe_callTy call_int1 (by rfl) T.z_int boot_int (pa_cons (pe_op op_add (pe_ix ix_list (pv 0) pe_int (fun _ _ => rfl)) (pe_op op_mul pe_int (pe_ix ix_list (pv 0) pe_int (fun _ _ => rfl)))) pa_nil)) pe_int))
      (pss_cons (ps_set (i := 4) sc_w_dip.nd rfl (Or.inl rfl) (pe_op op_add (pe_op op_mul (pe_op op_mod (pe_callTy call_int1 (by rfl) T.z_int boot_int (pa_cons (pe_op op_mul (pv 3) (pv 3)) pa_nil)) pe_int) (pv 3)) (pe_op op_mul pe_int (pe_ix ix_list (pv 0) pe_int (fun _ _ => rfl)))))
      (pss_one (ps_ret (pe_op op_mod (pe_callTy call_int1 (by rfl) T.z_int boot_int (pa_cons (pe_op op_fdiv (pe_op op_mod (pe_callTy call_int1 (by rfl) T.z_int boot_int (pa_cons (pv 4) pa_nil)) pe_int) pe_int) pa_nil)) (pv 1))))))), ?_⟩
    have a0 : atI [V.int g, V.int x, V.int c] (0 : Int) = some (.int g) := rfl
    refine ⟨_, rfl, p, _, _, _, rfl, rfl, SqL.of hp, a0, _, _, rfl, rfl, _, rfl, ite2 (fun d => ?_) (fun d => ?_)⟩
    · refine ⟨_, rfl, p, _, _, _, rfl, rfl, SqL.of hp, a0, .inl ⟨_, rfl, _, rfl, _, _, rfl, rfl, h0, ?_⟩⟩
      refine ⟨_, rfl, p, _, _, _, rfl, rfl, SqL.of hp, a0, _, rfl, _, _, rfl, rfl, ⟨h0, h1⟩, ?_⟩
      refine ⟨_, rfl, p, _, _, 0, rfl, rfl, hp, rfl, ?_⟩
      exact ⟨_, rfl, q _ _ _ _ (Int.emod_nonneg _ (by omega)) (Int.emod_lt_of_pos _ h0)⟩
    · have a2 : atI [V.int g, V.int x, V.int c] (2 : Int) = some (.int c) := rfl
      refine ⟨_, rfl, p, _, _, _, rfl, rfl, SqL.of hp, a2, _, _, rfl, rfl, _, rfl, p, _, _, 2, rfl, rfl, hp, rfl, ?_⟩
      have hp' : (upd H p (.lst [V.int g, V.int x, V.int (c + 1)])) p = some (.lst [V.int g, V.int x, V.int (c + 1)]) := upd_same
      have b1 : atI [V.int g, V.int x, V.int (c + 1)] (1 : Int) = some (.int x) := rfl
      have b2 : atI [V.int g, V.int x, V.int (c + 1)] (2 : Int) = some (.int (c + 1)) := rfl
      refine ⟨_, rfl, p, _, _, _, rfl, rfl, SqL.of hp', b1, _, rfl, p, _, _, _, rfl, rfl, SqL.of hp', b2, _, _, rfl, rfl, .inl ⟨by decide, by decide⟩, _, _, rfl, rfl, .inl ⟨_, rfl, _, _, rfl, rfl, mpos (by decide), ?_⟩⟩
      have r0 := Int.emod_nonneg (x + 1000213 * (c + 1)) (show (2305843009213693951 : Int) ≠ 0 by decide)
      have r1 := Int.emod_lt_of_pos (x + 1000213 * (c + 1)) (show (0 : Int) < 2305843009213693951 by decide)
      generalize (x + 1000213 * (c + 1)) % 2305843009213693951 = one at r0 r1 ⊢
      refine ⟨_, rfl, _, rfl, _, _, rfl, rfl, .inl ⟨by omega, by omega⟩, .inl ⟨_, rfl, _, _, rfl, rfl, mpos (by decide), ?_⟩⟩
      refine ⟨_, rfl, _, _, rfl, rfl, .inr ⟨by omega, by omega⟩, _, rfl, p, _, _, _, rfl, rfl, SqL.of hp', b2, _, _, rfl, rfl, .inl ⟨by decide, by decide⟩, _, _, rfl, rfl, ?_⟩
      refine ⟨_, rfl, .inl ⟨_, rfl, _, _, rfl, rfl, mpos (by decide), _, _, rfl, rfl, ⟨by decide, by decide⟩, .inl ⟨_, rfl, _, rfl, _, _, rfl, rfl, h0, ?_⟩⟩⟩
      exact q _ _ _ _ (Int.emod_nonneg _ (by omega)) (Int.emod_lt_of_pos _ h0)
/-- items[dip(pot, len(items))] -/
def sp_pick (K : PySem.W.Frag) : Sp := fun vs H Q _ => ∃ (p a : Addr) (xs : List V) (g x c : Int), vs = [.ref p, .ref a] ∧ H p = some (pailO g x c) ∧ a ≠ p ∧ SqL K H a xs ∧ xs ≠ [] ∧ xs.length ≤ 1000 ∧ ∀ g x c v, v ∈ xs → Q v (upd H p (pailO g x c))
theorem ok_pick (T : Txt K mg) : FnOk P w K mg base CX0 2 T.a_w_pick T.d_w_pick ["_law_pot_here", "_law_items"] (sp_pick K) := by
  refine T.F_w_pick.ok sc_w_pick (fun vs H Q E h => ?_) (fun cdv A outer s H vs Q E hr h => ?_)
  · obtain ⟨p, a, xs, g, x, c, rfl, _⟩ := h
    rfl
  · obtain ⟨p, a, xs, g, x, c, rfl, hp, hne, hS, hn, hz, q⟩ := h
    refine ⟨_, pss_one (ps_ret (pe_ix ix_list (pv 1) (pe_call (ok_dip T) hr (by rfl) T.m_w_dip T.F_w_dip.kp T.b_w_dip .nil pass0 (pa_cons (pv 0) (pa_cons (pe_callB call_len_seq (by rfl) T.z_len boot_len (pa_cons (pv 1) pa_nil)) pa_nil))) (fun _ _ => rfl))), ?_⟩
    have hpos : 0 < xs.length := List.length_pos_iff.mpr hn
    refine ⟨_, rfl, _, rfl, _, rfl, a, _, rfl, .inl hS, p, _, g, x, c, rfl, hp, by omega, by omega, fun g' x' c' r h0 h1 => ?_⟩
    have hlt : r.toNat < xs.length := by omega
    refine ⟨a, xs, r, xs[r.toNat], rfl, rfl, sql_updL hne hS, ?_, q _ _ _ _ (List.getElem_mem hlt)⟩
    have := atI_nat (xs := xs) (List.getElem?_eq_getElem hlt)
    rw [show ((r.toNat : Nat) : Int) = r by omega] at this
    exact this
end
end K78

namespace K78
open PySem PySem.Spec PyProof.Rows L2 RZ L5 Gv
/-! ### degrees, as numbers -/
def bel : List Int → List Int → Bool
  | _, [] => true
  | [], _ :: _ => false
  | a :: t, b :: u => decide (a ≤ b) && bel t u
theorem bel_eq : ∀ t u : List Int, belB t u = bel t u
  | [], [] => rfl
  | [], b :: u => by simp [belB, bel]
  | a :: t, [] => by simp [belB, bel]
  | a :: t, b :: u => by
    have ih := bel_eq t u
    unfold belB at ih ⊢
    show (decide (u.length + 1 ≤ t.length + 1) && (decide (a ≤ b) && (zbI (fun a b => decide (a ≤ b)) t u).all id)) = (decide (a ≤ b) && bel t u)
    rw [← ih, show decide (u.length + 1 ≤ t.length + 1) = decide (u.length ≤ t.length) from decide_eq_decide.mpr ⟨fun h => by omega, fun h => by omega⟩]
    cases decide (a ≤ b) <;> cases decide (u.length ≤ t.length) <;> rfl
theorem bel_refl : ∀ t : List Int, bel t t = true
  | [] => rfl
  | a :: t => by
    show (decide (a ≤ a) && bel t t) = true
    rw [decide_eq_true (Int.le_refl a), bel_refl t]
    rfl
theorem bel_cons {a b : Int} {t u : List Int} : bel (a :: t) (b :: u) = true ↔ a ≤ b ∧ bel t u = true := by
  show (decide (a ≤ b) && bel t u) = true ↔ _
  rw [Bool.and_eq_true, decide_eq_true_iff]
theorem bel_trans : ∀ {t u v : List Int}, bel t u = true → bel u v = true → bel t v = true
  | [], [], [], _, _ => rfl
  | _, _ :: _, [], _, _ => by simp [bel]
  | _ :: _, [], [], _, _ => by simp [bel]
  | [], _ :: _, _ :: _, h, _ => by simp [bel] at h
  | _, [], _ :: _, _, h => by simp [bel] at h
  | a :: t, b :: u, c :: v, h, k => by
    obtain ⟨h1, h2⟩ := bel_cons.mp h
    obtain ⟨k1, k2⟩ := bel_cons.mp k
    exact bel_cons.mpr ⟨by omega, bel_trans h2 k2⟩
theorem bel_anti : ∀ {t u : List Int}, bel t u = true → bel u t = true → t = u
  | [], [], _, _ => rfl
  | [], _ :: _, h, _ => by simp [bel] at h
  | _ :: _, [], _, h => by simp [bel] at h
  | a :: t, b :: u, h, k => by
    obtain ⟨h1, h2⟩ := bel_cons.mp h
    obtain ⟨k1, k2⟩ := bel_cons.mp k
    rw [bel_anti h2 k2, show a = b by omega]
theorem bel_take : ∀ (t : List Int) (k : Nat), bel t (t.take k) = true
  | [], k => by simp [bel]
  | a :: t, 0 => by simp [bel]
  | a :: t, k + 1 => bel_cons.mpr ⟨Int.le_refl a, bel_take t k⟩
theorem asc_cons {a b : Int} {r : List Int} : ascI (a :: b :: r) = true ↔ a < b ∧ ascI (b :: r) = true := by
  show (decide (a < b) && ascI (b :: r)) = true ↔ _
  rw [Bool.and_eq_true, decide_eq_true_iff]
theorem asc_tail {a : Int} : ∀ {r : List Int}, ascI (a :: r) = true → ascI r = true
  | [], _ => rfl
  | _ :: _, h => (asc_cons.mp h).2
theorem asc_take : ∀ {t : List Int} (k : Nat), ascI t = true → ascI (t.take k) = true
  | [], k, _ => by simp [ascI]
  | [a], 0, _ => rfl
  | [a], k + 1, _ => by simp [ascI]
  | a :: b :: r, 0, _ => rfl
  | a :: b :: r, 1, _ => rfl
  | a :: b :: r, k + 2, h => by
    obtain ⟨h1, h2⟩ := asc_cons.mp h
    show ascI (a :: b :: r.take k) = true
    exact asc_cons.mpr ⟨h1, asc_take (k + 1) h2⟩
theorem asc_sorted : ∀ {t : List Int}, t.Pairwise (· ≤ ·) → t.Nodup → ascI t = true
  | [], _, _ => rfl
  | [_], _, _ => rfl
  | a :: b :: r, h, n => by
    obtain ⟨h1, h2⟩ := List.pairwise_cons.mp h
    obtain ⟨n1, n2⟩ := List.nodup_cons.mp n
    refine asc_cons.mpr ⟨?_, asc_sorted h2 n2⟩
    have e1 := h1 b List.mem_cons_self
    have e2 : a ≠ b := fun e => n1 (by rw [e]; exact List.mem_cons_self)
    omega
theorem pure_iff {t : List Int} : Pure t ↔ (∀ e ∈ t, 0 ≤ e ∧ e ≤ 480) ∧ ascI t = true ∧ 1 ≤ t.length ∧ t.length ≤ 9 := by
  show ((((t.map some).all fun e => inB e 0 480) && ascI (intsO (t.map some))) && (decide (1 ≤ (t.map some).length) && decide ((t.map some).length ≤ 9))) = true ↔ _
  rw [ints_back, List.length_map, Bool.and_eq_true, Bool.and_eq_true, Bool.and_eq_true, decide_eq_true_iff, decide_eq_true_iff, List.all_eq_true]
  have e : (∀ x ∈ t.map some, inB x 0 480 = true) ↔ ∀ e ∈ t, 0 ≤ e ∧ e ≤ 480 := by
    constructor
    · intro h e he
      have h' : (decide ((0 : Int) ≤ e) && decide (e ≤ 480)) = true := h (some e) (List.mem_map_of_mem he)
      rw [Bool.and_eq_true, decide_eq_true_iff, decide_eq_true_iff] at h'
      exact h'
    · intro h x hx
      obtain ⟨e, he, rfl⟩ := List.mem_map.mp hx
      show (decide ((0 : Int) ≤ e) && decide (e ≤ 480)) = true
      rw [Bool.and_eq_true, decide_eq_true_iff, decide_eq_true_iff]
      exact h e he
  rw [e]
  constructor
  · rintro ⟨⟨h1, h2⟩, h3⟩
    exact ⟨h1, h2, h3⟩
  · rintro ⟨h1, h2, h3⟩
    exact ⟨⟨h1, h2⟩, h3⟩
theorem pure_take {t : List Int} {k : Nat} (h : Pure t) (hk : 1 ≤ k) : Pure (t.take k) := by
  obtain ⟨h1, h2, h3, h4⟩ := pure_iff.mp h
  exact pure_iff.mpr ⟨fun e he => h1 e (List.mem_of_mem_take he), asc_take k h2, by rw [List.length_take]; omega, by rw [List.length_take]; omega⟩
abbrev ones (c : Nat) : List Int := List.replicate c 1
theorem shaped_intsL (l : List Int) : SeqAt.shaped (.list (l.map PyData.int)) = true := by
  obtain ⟨h1, h2⟩ := can_ints l
  simp [SeqAt.shaped, PyData.canLay0, PyData.depth, h1, h2]
theorem eqv_ones (c : Nat) : PyData.eqv (.list ((ones c).map PyData.int)) (.list []) = decide (c = 0) := by
  rw [eqv_nilL]
  refine decide_eq_decide.mpr ?_
  cases c with
  | zero => simp
  | succ c => simp [List.replicate_succ]
/-- how many of the first pairs break a rule -/
theorem none_broken {l : List Bool} {i c : Nat} {b : Bool} (h : l[i]? = some b) (e : c = 0 ↔ (l.take i).all id = true) : (c + (if b = true then 0 else 1) = 0 ↔ (l.take (i + 1)).all id = true) := by
  rw [all_take_step h, Bool.and_eq_true, ← e]
  cases b <;> simp
section
variable {P : Program} {w : World} {K : PySem.W.Frag} {mg : Str → Option Value} {base : Heap}
def sp_wbel (K : PySem.W.Frag) : Sp := fun vs H Q _ => ∃ p r t u, vs = [.ref p, .ref r] ∧ SqT K H p (iv t) ∧ SqT K H r (iv u) ∧ t.length ≤ 1000 ∧ ∀ H', Same H H' → Q (.bl (bel t u)) H'
theorem ok_wbel (T : Txt K mg) : FnOk P w K mg base CX0 1 T.a_w_is_below T.d_w_is_below ["_law_one", "_law_other"] (sp_wbel K) := by
  refine T.F_w_is_below.ok sc_w_is_below (fun vs H Q E h => ?_) (fun cdv A outer s H vs Q E hr h => ?_)
  · obtain ⟨p, r, t, u, rfl, _⟩ := h
    rfl
  · obtain ⟨p, r, t, u, rfl, hT, hU, hz, q⟩ := h
    refine ⟨_, pss_one (ps_ret (pe_and (pe_cmpR op_ge (pe_callB call_len_seq (by rfl) T.z_len boot_len (pa_cons (pv 0) pa_nil)) (pe_callB call_len_seq (by rfl) T.z_len boot_len (pa_cons (pv 1) pa_nil)) (nomark _))
      (pe_one (pe_cmpR (op_eqD hr.units)
        (pe_lc (own := [("_law_first", 2), ("_law_second", 3)]) (g := gTup K 2 (gCons (gName 2) (gCons (gName 3) gNil))) rfl sc_w_is_below.nd (pi_zipA (by rfl) T.z_zip (pa_cons (pv 0) (pa_cons (pv 1) pa_nil)))
          (blkOk_by (own := [("_law_first", 2), ("_law_second", 3)]) (N := N_w_is_below) (sc := defScope s_w_is_below) (by decide +kernel))
          (fun _ _ _ _ _ => pg_tup (by rfl) (pgs_cons (pg_name (i := 2) sc_w_is_below.nd rfl (Or.inl rfl)) (pgs_cons (pg_name (i := 3) sc_w_is_below.nd rfl (Or.inl rfl)) pgs_nil)))
          (fun _ _ _ _ _ => pts_one (pt_cmpR op_gt (pv 2) (pv 3) (nomark _)))
          (fun _ _ _ _ _ => pe_int)) (pe_lst pa_nil) (nomark _))))), ?_⟩
    rw [← bel_eq] at q
    refine ⟨_, rfl, p, _, rfl, .inr hT, _, rfl, r, _, rfl, .inr hU, _, _, rfl, rfl, _, rfl, ?_⟩
    rw [iv_len, iv_len]
    have e0 : decide (((t.length : Nat) : Int) ≥ ((u.length : Nat) : Int)) = decide (u.length ≤ t.length) := decide_eq_decide.mpr ⟨fun h => by omega, fun h => by omega⟩
    rw [e0]
    refine ite2 (fun c => ?_) (fun c => ?_)
    · have e1 : belB t u = (zbI (fun a b => decide (a ≤ b)) t u).all id := by
        show (_ && _) = _
        rw [c, Bool.true_and]
      rw [e1] at q
      refine ⟨_, rfl, _, rfl, p, r, iv t, iv u, rfl, .inr ⟨hT, hU, fun D hD => ?_⟩⟩
      have s3 := same_new hD (.lst [])
      refine lc_zipM _ rfl (fun i H3 => Same H H3 ∧ ∃ k : Nat, H3 D = some (.lst (iv (ones k))) ∧ k ≤ i ∧ (k = 0 ↔ ((zbI (fun a b => decide (a ≤ b)) t u).take i).all id = true)) ⟨s3, 0, upd_same, Nat.le_refl _, by simp⟩ (fun i H3 hh => ⟨same_sqt hh.1 hT, same_sqt hh.1 hU⟩) (fun i x y T' H3 hx hy hh hT3 => ?_) (fun H3 hh => ?_)
      · obtain ⟨s4, k, eD4, hk, hall⟩ := hh
        obtain ⟨n1, hn1, rfl⟩ := iv_get hx
        obtain ⟨n2, hn2, rfl⟩ := iv_get hy
        have hlt : i < t.length := (List.getElem?_eq_some_iff.mp hn1).1
        have sT : Same H3 (upd H3 T' (.tup [.int n1, .int n2])) := same_new hT3 _
        have nb := none_broken (zbI_get (f := fun a b => decide (a ≤ b)) hn1 hn2) hall
        refine ⟨T', _, rfl, SqT.of upd_same, rfl, _, _, rfl, _, _, rfl, rfl, ?_⟩
        refine ⟨rfl, _, rfl, _, rfl, _, _, rfl, rfl, _, rfl, ite2 (fun cc => ?_) (fun cc => ?_)⟩
        · have c' := of_decide_eq_true cc
          rw [decide_eq_false (show ¬ n1 ≤ n2 by omega)] at nb
          refine ⟨_, sT _ _ eD4, by rw [iv_len, List.length_replicate]; exact sizeK (by omega), same_updL (s4.trans sT) hD, k + 1, ?_, by omega, nb⟩
          rw [upd_same, show ones (k + 1) = ones k ++ [1] from List.replicate_succ', iv_app]
          rfl
        · have c' : ¬ n1 > n2 := fun z => cc (decide_eq_true z)
          rw [decide_eq_true (show n1 ≤ n2 by omega)] at nb
          exact ⟨s4.trans sT, k, sT _ _ eD4, by omega, nb⟩
      · obtain ⟨s4, k, eD4, hk, hall⟩ := hh
        rw [List.take_of_length_le (by rw [zbI_len, iv_len, iv_len]; exact Nat.le_refl _)] at hall
        refine ⟨Nat.zero_le _, fun z hz0 => ?_⟩
        have s5 := same_new hz0 (.lst [])
        refine ⟨_, .list [], .lst (SqL.of (s5 _ _ eD4)) (dp_ints (ones k)), .lst (SqL.of upd_same) .nil, shaped_intsL _, by decide, ?_⟩
        rw [eqv_ones]
        have e2 : decide (k = 0) = (zbI (fun a b => decide (a ≤ b)) t u).all id := by
          rw [Bool.eq_iff_iff, decide_eq_true_iff]
          exact hall
        rw [e2]
        exact q _ (s4.trans s5)
    · have e1 : belB t u = false := by
        show (_ && _) = _
        rw [Bool.eq_false_iff.mpr c, Bool.false_and]
      rw [e1] at q
      exact q H (Same.refl H)
end
end K78

namespace K78
open PySem PySem.Spec PyProof.Rows L2 RZ L5 Gv
/-! ### the lower and the upper ones, as numbers -/
def mn (a b : Int) : Int := if b < a then b else a
def mx (a b : Int) : Int := if b > a then b else a
def lowL : List Int → List Int → List Int
  | [], u => u
  | a :: t, [] => a :: t
  | a :: t, b :: u => mn a b :: lowL t u
def upL (t u : List Int) : List Int := List.zipWith mx t u
theorem mn_or (a b : Int) : mn a b = a ∨ mn a b = b := by unfold mn; split <;> simp
theorem mx_or (a b : Int) : mx a b = a ∨ mx a b = b := by unfold mx; split <;> simp
theorem mn_le {a b c : Int} : c ≤ mn a b ↔ c ≤ a ∧ c ≤ b := by unfold mn; split <;> omega
theorem le_mx {a b c : Int} : mx a b ≤ c ↔ a ≤ c ∧ b ≤ c := by unfold mx; split <;> omega
theorem mn_lt {a b c d : Int} (h1 : a < c) (h2 : b < d) : mn a b < mn c d := by unfold mn; split <;> split <;> omega
theorem mx_lt {a b c d : Int} (h1 : a < c) (h2 : b < d) : mx a b < mx c d := by unfold mx; split <;> split <;> omega
theorem low_nil (t : List Int) : lowL t [] = t := by cases t <;> rfl
theorem upL_cons (a b : Int) (t u : List Int) : upL (a :: t) (b :: u) = mx a b :: upL t u := rfl
theorem upL_nil (t : List Int) : upL t [] = [] := by cases t <;> rfl
theorem low_len : ∀ t u : List Int, (lowL t u).length = max t.length u.length
  | [], u => by simp [lowL]
  | a :: t, [] => by simp [lowL]
  | a :: t, b :: u => by
    have := low_len t u
    show (lowL t u).length + 1 = max (t.length + 1) (u.length + 1)
    omega
theorem up_len (t u : List Int) : (upL t u).length = min t.length u.length := List.length_zipWith
theorem low_mem : ∀ {t u : List Int} {e : Int}, e ∈ lowL t u → e ∈ t ∨ e ∈ u
  | [], _, _, h => .inr h
  | _ :: _, [], _, h => .inl h
  | a :: t, b :: u, e, h => by
    rcases List.mem_cons.mp h with rfl | h
    · rcases mn_or a b with z | z <;> rw [z] <;> simp
    · rcases low_mem h with z | z
      · exact .inl (List.mem_cons_of_mem _ z)
      · exact .inr (List.mem_cons_of_mem _ z)
theorem up_mem : ∀ {t u : List Int} {e : Int}, e ∈ upL t u → e ∈ t ∨ e ∈ u
  | [], _, _, h => by simp [upL] at h
  | _ :: _, [], _, h => by simp [upL] at h
  | a :: t, b :: u, e, h => by
    rcases List.mem_cons.mp h with rfl | h
    · rcases mx_or a b with z | z <;> rw [z] <;> simp
    · rcases up_mem h with z | z
      · exact .inl (List.mem_cons_of_mem _ z)
      · exact .inr (List.mem_cons_of_mem _ z)
theorem low_asc : ∀ {t u : List Int}, ascI t = true → ascI u = true → ascI (lowL t u) = true
  | [], _, _, h => h
  | _ :: _, [], h, _ => h
  | [_], [_], _, _ => rfl
  | [a], b :: d :: u, _, h => by
    obtain ⟨h1, h2⟩ := asc_cons.mp h
    refine asc_cons.mpr ⟨?_, h2⟩
    unfold mn
    split <;> omega
  | a :: c :: t, [b], h, _ => by
    obtain ⟨h1, h2⟩ := asc_cons.mp h
    refine asc_cons.mpr ⟨?_, h2⟩
    unfold mn
    split <;> omega
  | a :: c :: t, b :: d :: u, h, k => by
    obtain ⟨h1, h2⟩ := asc_cons.mp h
    obtain ⟨k1, k2⟩ := asc_cons.mp k
    exact asc_cons.mpr ⟨mn_lt h1 k1, low_asc h2 k2⟩
theorem up_asc : ∀ {t u : List Int}, ascI t = true → ascI u = true → ascI (upL t u) = true
  | [], _, _, _ => rfl
  | _ :: _, [], _, _ => rfl
  | [_], [_], _, _ => rfl
  | [_], _ :: _ :: _, _, _ => rfl
  | _ :: _ :: _, [_], _, _ => rfl
  | a :: c :: t, b :: d :: u, h, k => by
    obtain ⟨h1, h2⟩ := asc_cons.mp h
    obtain ⟨k1, k2⟩ := asc_cons.mp k
    exact asc_cons.mpr ⟨mx_lt h1 k1, up_asc h2 k2⟩
theorem pure_low {t u : List Int} (h : Pure t) (k : Pure u) : Pure (lowL t u) := by
  obtain ⟨h1, h2, h3, h4⟩ := pure_iff.mp h
  obtain ⟨k1, k2, k3, k4⟩ := pure_iff.mp k
  have hl := low_len t u
  exact pure_iff.mpr ⟨fun e he => (low_mem he).elim (h1 e) (k1 e), low_asc h2 k2, by omega, by omega⟩
theorem pure_up {t u : List Int} (h : Pure t) (k : Pure u) : Pure (upL t u) := by
  obtain ⟨h1, h2, h3, h4⟩ := pure_iff.mp h
  obtain ⟨k1, k2, k3, k4⟩ := pure_iff.mp k
  have hl := up_len t u
  exact pure_iff.mpr ⟨fun e he => (up_mem he).elim (h1 e) (k1 e), up_asc h2 k2, by omega, by omega⟩
theorem low_zip : ∀ t u : List Int, List.zipWith mn t u ++ t.drop (List.zipWith mn t u).length ++ u.drop (List.zipWith mn t u).length = lowL t u
  | [], u => by simp [lowL]
  | a :: t, [] => by simp [lowL]
  | a :: t, b :: u => by
    have := low_zip t u
    show mn a b :: (List.zipWith mn t u ++ t.drop (List.zipWith mn t u).length ++ u.drop (List.zipWith mn t u).length) = mn a b :: lowL t u
    rw [this]
/-! below, and both -/
theorem low_bel : ∀ s t u : List Int, (bel s t = true ∧ bel s u = true) ↔ bel s (lowL t u) = true
  | s, [], u => by simp [lowL, bel]
  | s, a :: t, [] => by simp [lowL, bel]
  | [], a :: t, b :: u => by simp [lowL, bel]
  | c :: s, a :: t, b :: u => by
    have ih := low_bel s t u
    show _ ↔ bel (c :: s) (mn a b :: lowL t u) = true
    rw [bel_cons, bel_cons, bel_cons, ← ih, mn_le]
    constructor
    · rintro ⟨⟨h1, h2⟩, h3, h4⟩
      exact ⟨⟨h1, h3⟩, h2, h4⟩
    · rintro ⟨⟨h1, h3⟩, h2, h4⟩
      exact ⟨⟨h1, h2⟩, h3, h4⟩
theorem up_bel : ∀ t u s : List Int, (bel t s = true ∧ bel u s = true) ↔ bel (upL t u) s = true
  | t, u, [] => by simp [bel]
  | [], u, c :: s => by simp [upL, bel]
  | a :: t, [], c :: s => by simp [upL, bel]
  | a :: t, b :: u, c :: s => by
    have ih := up_bel t u s
    show _ ↔ bel (mx a b :: upL t u) (c :: s) = true
    rw [bel_cons, bel_cons, bel_cons, ← ih, le_mx]
    constructor
    · rintro ⟨⟨h1, h2⟩, h3, h4⟩
      exact ⟨⟨h1, h3⟩, h2, h4⟩
    · rintro ⟨⟨h1, h3⟩, h2, h4⟩
      exact ⟨⟨h1, h2⟩, h3, h4⟩
theorem low_l (t u : List Int) : bel (lowL t u) t = true := ((low_bel _ t u).mpr (bel_refl _)).1
theorem low_r (t u : List Int) : bel (lowL t u) u = true := ((low_bel _ t u).mpr (bel_refl _)).2
theorem up_l (t u : List Int) : bel t (upL t u) = true := ((up_bel t u _).mpr (bel_refl _)).1
theorem up_r (t u : List Int) : bel u (upL t u) = true := ((up_bel t u _).mpr (bel_refl _)).2
theorem low_is {t u v : List Int} (h1 : bel v t = true) (h2 : bel v u = true) (h : ∀ s, bel s t = true → bel s u = true → bel s v = true) : lowL t u = v :=
  bel_anti (h _ (low_l t u) (low_r t u)) ((low_bel v t u).mp ⟨h1, h2⟩)
theorem up_is {t u v : List Int} (h1 : bel t v = true) (h2 : bel u v = true) (h : ∀ s, bel t s = true → bel u s = true → bel v s = true) : upL t u = v :=
  bel_anti ((up_bel t u v).mp ⟨h1, h2⟩) (h _ (up_l t u) (up_r t u))
theorem low_comm (t u : List Int) : lowL t u = lowL u t := low_is (low_r u t) (low_l u t) fun s h k => (low_bel s u t).mp ⟨k, h⟩
theorem up_comm (t u : List Int) : upL t u = upL u t := up_is (up_r u t) (up_l u t) fun s h k => (up_bel u t s).mp ⟨k, h⟩
theorem low_up (t u : List Int) : lowL t (upL t u) = t := low_is (bel_refl t) (up_l t u) fun s h _ => h
theorem up_low (t u : List Int) : upL t (lowL t u) = t := up_is (bel_refl t) (low_l t u) fun s h _ => h
theorem low_assoc (t u v : List Int) : lowL (lowL t u) v = lowL t (lowL u v) := by
  refine low_is ?_ ?_ fun s h k => ?_
  · exact (low_bel _ t u).mp ⟨low_l _ _, bel_trans (low_r _ _) (low_l u v)⟩
  · exact bel_trans (low_r _ _) (low_r u v)
  · obtain ⟨h1, h2⟩ := (low_bel s t u).mpr h
    exact (low_bel s t _).mp ⟨h1, (low_bel s u v).mp ⟨h2, k⟩⟩
theorem up_assoc (t u v : List Int) : upL (upL t u) v = upL t (upL u v) := by
  refine up_is ?_ ?_ fun s h k => ?_
  · exact (up_bel t u _).mp ⟨up_l _ _, bel_trans (up_l u v) (up_r _ _)⟩
  · exact bel_trans (up_r u v) (up_r _ _)
  · obtain ⟨h1, h2⟩ := (up_bel t u s).mpr h
    exact (up_bel t _ s).mp ⟨h1, (up_bel u v s).mp ⟨h2, k⟩⟩
theorem bel_low (t u : List Int) : decide (lowL t u = t) = bel t u := by
  rw [Bool.eq_iff_iff, decide_eq_true_iff]
  exact ⟨fun h => by rw [← h]; exact low_r t u, fun h => low_is (bel_refl t) h fun s k _ => k⟩
theorem bel_up (t u : List Int) : decide (upL t u = u) = bel t u := by
  rw [Bool.eq_iff_iff, decide_eq_true_iff]
  exact ⟨fun h => by rw [← h]; exact up_l t u, fun h => up_is h (bel_refl u) fun s _ k => k⟩
theorem low_both (s t u : List Int) : (bel s t && bel s u) = bel s (lowL t u) := by
  rw [Bool.eq_iff_iff, Bool.and_eq_true]
  exact low_bel s t u
theorem up_both (t u s : List Int) : (bel t s && bel u s) = bel (upL t u) s := by
  rw [Bool.eq_iff_iff, Bool.and_eq_true]
  exact up_bel t u s
def zbM (f : Int → Int → Int) (t u : List Int) : List Int := List.zipWith f t u
theorem zbM_get {f : Int → Int → Int} {t u : List Int} {i : Nat} {n m : Int} (h1 : t[i]? = some n) (h2 : u[i]? = some m) : (zbM f t u)[i]? = some (f n m) := by
  unfold zbM
  rw [List.getElem?_zipWith, h1, h2]
theorem zbM_len {f : Int → Int → Int} {t u : List Int} : (zbM f t u).length = min t.length u.length := List.length_zipWith
end K78

namespace K78
open PySem PySem.Spec PyProof.Rows L2 RZ L5 Gv
section
variable {P : Program} {w : World} {K : PySem.W.Frag} {mg : Str → Option Value} {base : Heap}
def sp_ch2 (K : PySem.W.Frag) : Sp := fun vs H Q _ => ∃ p r t u, vs = [.ref p, .ref r] ∧ SqT K H p (iv t) ∧ SqT K H r (iv u) ∧ Pure t ∧ Pure u ∧ ∀ H', Same H H' → Q .non H'
theorem ok_ch2 (T : Txt K mg) : FnOk P w K mg base CX0 6 T.a_check_two_degrees T.d_check_two_degrees ["one", "other"] (sp_ch2 K) := by
  refine T.F_check_two_degrees.ok sc_check_two_degrees (fun vs H Q E h => ?_) (fun cdv A outer s H vs Q E hr h => ?_)
  · obtain ⟨p, r, t, u, rfl, _⟩ := h
    rfl
  · obtain ⟨p, r, t, u, rfl, hT, hU, h1, h2, q⟩ := h
    have l1 := h1.len
    have l2 := h2.len
    refine ⟨_, pss_cons (ps_expr (pe_call (ok_chd T) hr (by rfl) T.m_check_degrees T.F_check_degrees.kp T.b_check_degrees .nil pass0 (pa_cons (pv 0) pa_nil)))
      (pss_one (ps_expr (pe_call (ok_chd T) hr (by rfl) T.m_check_degrees T.F_check_degrees.kp T.b_check_degrees .nil pass0 (pa_cons (pv 1) pa_nil)))), ?_⟩
    refine ⟨_, rfl, .ref p, _, rfl, va_iv hT (by omega), h1, fun H1 s1 => ?_⟩
    exact ⟨_, rfl, .ref r, _, rfl, va_iv (same_sqt s1 hU) (by omega), h2, fun H2 s2 => q H2 (s1.trans s2)⟩
def sp_two (K : PySem.W.Frag) (f : List Int → List Int → List Int) : Sp := fun vs H Q _ => ∃ p r t u, vs = [.ref p, .ref r] ∧ SqT K H p (iv t) ∧ SqT K H r (iv u) ∧ Pure t ∧ Pure u ∧ ∀ H' z, Same H H' → SqT K H' z (iv (f t u)) → Q (.ref z) H'
theorem ok_upp (T : Txt K mg) : FnOk P w K mg base CX0 7 T.a_upper_of T.d_upper_of ["one", "other"] (sp_two K upL) := by
  refine T.F_upper_of.ok sc_upper_of (fun vs H Q E h => ?_) (fun cdv A outer s H vs Q E hr h => ?_)
  · obtain ⟨p, r, t, u, rfl, _⟩ := h
    rfl
  · obtain ⟨p, r, t, u, rfl, hT, hU, h1, h2, q⟩ := h
    have l1 := h1.len
    have l2 := h2.len
    refine ⟨_, pss_cons (ps_expr (pe_call (ok_ch2 T) hr (by rfl) T.m_check_two_degrees T.F_check_two_degrees.kp T.b_check_two_degrees .nil pass0 (pa_cons (pv 0) (pa_cons (pv 1) pa_nil))))
      (pss_one (ps_ret (pe_callTy call_tuple_of (by rfl) T.z_tuple boot_tuple (pa_cons
        (pe_lc (own := [("a", 2), ("b", 3)]) (g := gTup K 2 (gCons (gName 2) (gCons (gName 3) gNil))) (tt := tYes) rfl sc_upper_of.nd (pi_zipA (by rfl) T.z_zip (pa_cons (pv 0) (pa_cons (pv 1) pa_nil)))
          (blkOk_by (own := [("a", 2), ("b", 3)]) (N := N_upper_of) (sc := defScope s_upper_of) (by decide +kernel))
          (fun _ _ _ _ _ => pg_tup (by rfl) (pgs_cons (pg_name (i := 2) sc_upper_of.nd rfl (Or.inl rfl)) (pgs_cons (pg_name (i := 3) sc_upper_of.nd rfl (Or.inl rfl)) pgs_nil))) (fun _ _ _ _ _ => pts_nil)
          (fun _ _ _ _ _ => pe_callB (show CallR _ _ (fun xs H Q => ∃ i j, xs = [V.int i, V.int j] ∧ Q (V.int (if j > i then j else i)) H) from call_max2 rfl) (by rfl) T.z_max boot_max (pa_cons (pv 2) (pa_cons (pv 3) pa_nil)))) pa_nil)))), ?_⟩
    refine ⟨_, rfl, _, rfl, p, r, t, u, rfl, hT, hU, h1, h2, fun H1 s1 => ?_⟩
    have hT1 := same_sqt s1 hT
    have hU1 := same_sqt s1 hU
    refine ⟨_, rfl, _, rfl, p, r, iv t, iv u, rfl, .inr ⟨hT1, hU1, fun D hD => ?_⟩⟩
    have s3 := same_new hD (.lst [])
    refine lc_zipM _ rfl (fun i H3 => Same H1 H3 ∧ H3 D = some (.lst (((zbM mx t u).take i).map V.int))) ⟨s3, upd_same⟩ (fun i H3 hh => ⟨same_sqt hh.1 hT1, same_sqt hh.1 hU1⟩) (fun i x y T' H3 hx hy hh hT3 => ?_) (fun H3 hh => ?_)
    · obtain ⟨s4, eD4⟩ := hh
      obtain ⟨n1, hn1, rfl⟩ := iv_get hx
      obtain ⟨n2, hn2, rfl⟩ := iv_get hy
      have hlt : i < t.length := (List.getElem?_eq_some_iff.mp hn1).1
      have sT : Same H3 (upd H3 T' (.tup [.int n1, .int n2])) := same_new hT3 _
      refine ⟨T', _, rfl, SqT.of upd_same, rfl, _, _, rfl, _, _, rfl, rfl, ?_⟩
      refine ⟨rfl, _, rfl, _, rfl, _, _, rfl, ?_⟩
      refine ⟨_, sT _ _ eD4, by rw [List.length_map, List.length_take]; exact sizeK (by omega), same_updL (s4.trans sT) hD, ?_⟩
      rw [upd_same, take_more (zbM_get hn1 hn2), List.map_append]
      rfl
    · obtain ⟨s4, eD4⟩ := hh
      rw [List.take_of_length_le (by rw [zbM_len, iv_len, iv_len]; exact Nat.le_refl _)] at eD4
      refine ⟨D, _, rfl, .inl ⟨SqL.of eD4, fun z hz => ?_⟩⟩
      exact q _ z (s1.trans (s4.trans (same_new hz _))) (SqT.of upd_same)
theorem ok_low (T : Txt K mg) : FnOk P w K mg base CX0 7 T.a_lower_of T.d_lower_of ["one", "other"] (sp_two K lowL) := by
  refine T.F_lower_of.ok sc_lower_of (fun vs H Q E h => ?_) (fun cdv A outer s H vs Q E hr h => ?_)
  · obtain ⟨p, r, t, u, rfl, _⟩ := h
    rfl
  · obtain ⟨p, r, t, u, rfl, hT, hU, h1, h2, q⟩ := h
    have l1 := h1.len
    have l2 := h2.len
    refine ⟨_, pss_cons (ps_expr (pe_call (ok_ch2 T) hr (by rfl) T.m_check_two_degrees T.F_check_two_degrees.kp T.b_check_two_degrees .nil pass0 (pa_cons (pv 0) (pa_cons (pv 1) pa_nil))))
      (pss_cons (ps_set (i := 2) sc_lower_of.nd rfl (Or.inl rfl) (pe_callTy call_tuple_of (by rfl) T.z_tuple boot_tuple (pa_cons
        (pe_lc (own := [("a", 3), ("b", 4)]) (g := gTup K 2 (gCons (gName 3) (gCons (gName 4) gNil))) (tt := tYes) rfl sc_lower_of.nd (pi_zipA (by rfl) T.z_zip (pa_cons (pv 0) (pa_cons (pv 1) pa_nil)))
          (blkOk_by (own := [("a", 3), ("b", 4)]) (N := N_lower_of) (sc := defScope s_lower_of) (by decide +kernel))
          (fun _ _ _ _ _ => pg_tup (by rfl) (pgs_cons (pg_name (i := 3) sc_lower_of.nd rfl (Or.inl rfl)) (pgs_cons (pg_name (i := 4) sc_lower_of.nd rfl (Or.inl rfl)) pgs_nil))) (fun _ _ _ _ _ => pts_nil)
          (fun _ _ _ _ _ => pe_callB (show CallR _ _ (fun xs H Q => ∃ i j, xs = [V.int i, V.int j] ∧ Q (V.int (if j < i then j else i)) H) from call_min2 rfl) (by rfl) T.z_min (by decide +kernel) (pa_cons (pv 3) (pa_cons (pv 4) pa_nil)))) pa_nil)))
      (pss_one (ps_ret (pe_op (show OpR _ _ (rCatB K) from op_catB) (pe_op (show OpR _ _ (rCatB K) from op_catB) (pv 2) (pe_slice sl_tupB (pv 0) (po_some (pe_callB call_len_seq (by rfl) T.z_len boot_len (pa_cons (pv 2) pa_nil))) po_none))
        (pe_slice sl_tupB (pv 1) (po_some (pe_callB call_len_seq (by rfl) T.z_len boot_len (pa_cons (pv 2) pa_nil))) po_none))))), ?_⟩
    refine ⟨_, rfl, _, rfl, p, r, t, u, rfl, hT, hU, h1, h2, fun H1 s1 => ?_⟩
    have hT1 := same_sqt s1 hT
    have hU1 := same_sqt s1 hU
    refine ⟨_, rfl, _, rfl, p, r, iv t, iv u, rfl, .inr ⟨hT1, hU1, fun D hD => ?_⟩⟩
    have s3 := same_new hD (.lst [])
    refine lc_zipM _ rfl (fun i H3 => Same H1 H3 ∧ H3 D = some (.lst (((zbM mn t u).take i).map V.int))) ⟨s3, upd_same⟩ (fun i H3 hh => ⟨same_sqt hh.1 hT1, same_sqt hh.1 hU1⟩) (fun i x y T' H3 hx hy hh hT3 => ?_) (fun H3 hh => ?_)
    · obtain ⟨s4, eD4⟩ := hh
      obtain ⟨n1, hn1, rfl⟩ := iv_get hx
      obtain ⟨n2, hn2, rfl⟩ := iv_get hy
      have hlt : i < t.length := (List.getElem?_eq_some_iff.mp hn1).1
      have sT : Same H3 (upd H3 T' (.tup [.int n1, .int n2])) := same_new hT3 _
      refine ⟨T', _, rfl, SqT.of upd_same, rfl, _, _, rfl, _, _, rfl, rfl, ?_⟩
      refine ⟨rfl, _, rfl, _, rfl, _, _, rfl, ?_⟩
      refine ⟨_, sT _ _ eD4, by rw [List.length_map, List.length_take]; exact sizeK (by omega), same_updL (s4.trans sT) hD, ?_⟩
      rw [upd_same, take_more (zbM_get hn1 hn2), List.map_append]
      rfl
    · obtain ⟨s4, eD4⟩ := hh
      rw [List.take_of_length_le (by rw [zbM_len, iv_len, iv_len]; exact Nat.le_refl _)] at eD4
      refine ⟨D, _, rfl, .inl ⟨SqL.of eD4, fun z hz => ?_⟩⟩
      have s5 := s4.trans (same_new hz (.tup ((zbM mn t u).map V.int)))
      have hZ : SqT K (upd H3 z (.tup ((zbM mn t u).map V.int))) z (iv (zbM mn t u)) := SqT.of upd_same
      generalize (upd H3 z (.tup ((zbM mn t u).map V.int))) = H4 at s5 hZ ⊢
      have hzl : (zbM mn t u).length ≤ 9 := by rw [zbM_len]; omega
      have hz := low_zip t u
      show _
      change zbM mn t u ++ t.drop (zbM mn t u).length ++ u.drop (zbM mn t u).length = lowL t u at hz
      generalize zbM mn t u = bb at hZ hzl hz ⊢
      have hT4 := same_sqt s5 hT1
      have hU4 := same_sqt s5 hU1
      have hl2 : bb.length + (t.drop bb.length).length + (u.drop bb.length).length ≤ 30 := by
        rw [List.length_drop, List.length_drop]
        omega
      refine ⟨_, rfl, _, rfl, _, rfl, z, _, rfl, .inr hZ, _, rfl, p, _, rfl, hT4, fun H5 z5 s6 hz5 => ?_⟩
      rw [iv_len, cut_fromI] at hz5
      refine ⟨z, z5, _, _, rfl, rfl, same_sqt s6 hZ, hz5, by rw [iv_len, iv_len]; exact Nat.le_of_lt (sizeK (by omega)), fun H6 z6 s7 hz6 => ?_⟩
      rw [← iv_app] at hz6
      refine ⟨_, rfl, _, rfl, z, _, rfl, .inr (same_sqt (s6.trans s7) hZ), _, rfl, r, _, rfl, same_sqt (s6.trans s7) hU4, fun H7 z7 s8 hz7 => ?_⟩
      rw [iv_len, cut_fromI] at hz7
      refine ⟨z6, z7, _, _, rfl, rfl, same_sqt s8 hz6, hz7, by rw [iv_len, iv_len, List.length_append]; exact Nat.le_of_lt (sizeK (by omega)), fun H8 z8 s9 hz8 => ?_⟩
      rw [← iv_app, hz] at hz8
      exact q _ z8 (s1.trans (s5.trans (s6.trans (s7.trans (s8.trans s9))))) hz8
end
end K78

namespace K78
open PySem PySem.Spec PyProof.Rows L2 RZ L5 Gv
theorem bar_sqt {p a : Addr} {H H' : Hp} {K : PySem.W.Frag} {xs : List V} (hp : Pail p H) (b : Bar p H H') (h : SqT K H a xs) : SqT K H' a xs := by
  obtain ⟨g, x, c, hp⟩ := hp
  exact sqt_but hp (fun c o n h => b c o n h) h
theorem Pail.same {p : Addr} {H H' : Hp} (s : Same H H') : Pail p H → Pail p H' := fun ⟨g, x, c, h⟩ => ⟨g, x, c, s _ _ h⟩
theorem ne_pail {p y : Addr} {H : Hp} (hp : Pail p H) (hy : H y = none) : y ≠ p := fun z => by
  obtain ⟨g, x, c, hp⟩ := hp
  rw [z, hp] at hy
  cases hy
theorem asc_lt : ∀ {t : List Int}, t.Pairwise (· < ·) → ascI t = true
  | [], _ => rfl
  | [_], _ => rfl
  | a :: b :: r, h => by
    obtain ⟨h1, h2⟩ := List.pairwise_cons.mp h
    exact asc_cons.mpr ⟨h1 b List.mem_cons_self, asc_lt h2⟩
section
variable {P : Program} {w : World} {K : PySem.W.Frag} {mg : Str → Option Value} {base : Heap}
def sp_wdeg (K : PySem.W.Frag) : Sp := fun vs H Q _ => ∃ (p : Addr) (most : Nat), vs = [.ref p, .int ((most : Nat) : Int)] ∧ Pail p H ∧ most ≤ 480 ∧
  ∀ H' z t, Bar p H H' → Pail p H' → SqT K H' z (iv t) → Pure t → Q (.ref z) H'
theorem ok_wdeg (T : Txt K mg) : FnOk P w K mg base CX0 2 T.a_w_degrees T.d_w_degrees ["_law_pot_here", "_law_most"] (sp_wdeg K) := by
  refine T.F_w_degrees.ok sc_w_degrees (fun vs H Q E h => ?_) (fun cdv A outer s H vs Q E hr h => ?_)
  · obtain ⟨p, most, rfl, _⟩ := h
    rfl
  · obtain ⟨p, most, rfl, ⟨g, x, c, hp⟩, hm, q⟩ := h
    refine ⟨_, pss_cons (ps_par (i := 2) (j := 3) (by rfl) sc_w_degrees.nd rfl rfl (by decide) rfl rfl (pa_cons (pe_op op_add pe_int (pe_call (ok_dip T) hr (by rfl) T.m_w_dip T.F_w_dip.kp T.b_w_dip .nil pass0 (pa_cons (pv 0) (pa_cons pe_int pa_nil)))) (pa_cons (pe_lst pa_nil) pa_nil)) (by rfl))
      (pss_cons (ps_for PassesOwn.never rfl (pi_range1 rfl T.z_range (pa_cons (pv 2) pa_nil)) (pg_name (i := 4) sc_w_degrees.nd rfl (Or.inl rfl))
        (pss_one (ps_expr (pe_bm PySem.F.plainAttrs_list PySem.F.slot_list_append PySem.F.type_list_append mt_append (pv 3) (pa_cons (pe_call (ok_dip T) hr (by rfl) T.m_w_dip T.F_w_dip.kp T.b_w_dip .nil pass0 (pa_cons (pv 0) (pa_cons (pe_op op_add (pv 1) pe_int) pa_nil))) pa_nil)))))
      (pss_one (ps_ret (pe_callTy call_tuple_of (by rfl) T.z_tuple boot_tuple (pa_cons (pe_callB (cr_sortedSet rfl) (by rfl) T.z_sorted (by decide +kernel) (pa_cons (pe_callTy (Gs.cr_setLI rfl) (by rfl) T.z_set PyProof.Rows.boot_set (pa_cons (pv 3) pa_nil)) pa_nil)) pa_nil))))), ?_⟩
    refine ⟨_, rfl, p, 4, g, x, c, rfl, hp, by decide, by decide, fun g1 x1 c1 r hr0 hr1 => ?_⟩
    obtain ⟨n, rfl⟩ := nat_of hr0
    refine ⟨_, _, rfl, rfl, ?_⟩
    have hn4 : n < 4 := by omega
    have hHp : (upd H p (pailO g1 x1 c1)) p = some (pailO g1 x1 c1) := upd_same
    have b0 : Bar p H (upd H p (pailO g1 x1 c1)) := Bar.upd
    refine ⟨by show 0 ≤ sizeLine; exact Nat.zero_le _, fun fa hfa => ?_⟩
    have hfp : fa ≠ p := fun e => by rw [e, hHp] at hfa; cases hfa
    have hfa0 : H fa = none := by rw [upd_ne hfp] at hfa; exact hfa
    have sd := same_new hfa (.lst [])
    have b1 := b0.trans (Bar.same sd)
    have p1 := sd _ _ hHp
    have f1 : (upd (upd H p (pailO g1 x1 c1)) fa (.lst [])) fa = some (.lst []) := upd_same
    generalize (upd (upd H p (pailO g1 x1 c1)) fa (.lst [])) = H1 at b1 p1 f1 ⊢
    refine ⟨_, _, rfl, ?_⟩
    refine ⟨_, rfl, _, rfl, by omega, by omega, ?_⟩
    refine for_range (lo := 0) (n := ((1 : Int) + ((n : Nat) : Int)).toNat) (fun i σ H' => ∃ (v4 : Option V) (ks : List Int), σ = [some (.ref p), some (.int ((most : Nat) : Int)), some (.int ((1 : Int) + ((n : Nat) : Int))), some (.ref fa), v4] ∧ Bar p H H' ∧ Pail p H' ∧ H' fa = some (.lst (iv ks)) ∧ ks.length = i ∧ ∀ k ∈ ks, 0 ≤ k ∧ k ≤ ((most : Nat) : Int))
      ⟨none, [], rfl, b1, ⟨_, _, _, p1⟩, f1, rfl, fun _ h => nomatch h⟩ ?_ ?_
    · rintro i σ H2 hi ⟨v4, ks, rfl, b2, ⟨g2, x2, c2, hp2⟩, hf2, hl2, hb2⟩
      have hi4 : i < 4 := by
        have : i < ((1 : Int) + ((n : Nat) : Int)).toNat := hi
        omega
      refine ⟨_, rfl, .inl ⟨rfl, _, SqL.of hf2⟩, _, rfl, _, rfl, _, _, rfl, rfl, p, _, g2, x2, c2, rfl, hp2, by omega, by omega, fun g3 x3 c3 r2 hr2 hr3 => ?_⟩
      have hf3 : (upd H2 p (pailO g3 x3 c3)) fa = some (.lst (iv ks)) := by rw [upd_ne hfp]; exact hf2
      have hp3 : (upd H2 p (pailO g3 x3 c3)) p = some (pailO g3 x3 c3) := upd_same
      have b3 : Bar p H (upd H2 p (pailO g3 x3 c3)) := b2.trans Bar.upd
      generalize (upd H2 p (pailO g3 x3 c3)) = H3 at hf3 hp3 b3 ⊢
      refine ⟨fa, _, _, rfl, rfl, hf3, by rw [iv_len]; exact sizeK (by omega), ?_⟩
      refine ⟨_, ks ++ [r2], rfl, bar_updL b3 hfa0, ⟨g3, x3, c3, by rw [upd_ne (Ne.symm hfp)]; exact hp3⟩, by rw [upd_same, iv_app]; rfl, by rw [List.length_append, hl2]; rfl, fun k hk => ?_⟩
      rcases List.mem_append.mp hk with hk | hk
      · exact hb2 k hk
      · rw [List.mem_singleton.mp hk]
        omega
    · rintro σ H2 ⟨v4, ks, rfl, b2, p2, hf2, hl2, hb2⟩
      have hl3 : ks.length = ((1 : Int) + ((n : Nat) : Int)).toNat := hl2
      refine ⟨_, rfl, fa, ks, rfl, SqL.of hf2, by omega, fun z m hz hm => ?_⟩
      have sz := same_new hz (SetO w z (fun j => decide (j ∈ ks)) m)
      refine ⟨z, _, m, rfl, upd_same, by omega, fun ns y hpw hmem hlen hy => ?_⟩
      have sy := same_new hy (.lst (iv ns))
      refine ⟨y, _, rfl, .inl ⟨SqL.of upd_same, fun z2 hz2 => ?_⟩⟩
      have s2 := same_new hz2 (.tup (iv ns))
      have S := sz.trans (sy.trans s2)
      have hmem' : ∀ k, k ∈ ns ↔ k ∈ ks := fun k => (hmem k).trans decide_eq_true_iff
      refine q _ z2 ns (b2.trans (Bar.same S)) (p2.same S) (SqT.of upd_same) (pure_iff.mpr ⟨fun e he => ?_, asc_lt hpw, ?_, by omega⟩)
      · have := hb2 e ((hmem' e).mp he)
        omega
      · cases ns with
        | cons a l => exact Nat.succ_le_succ (Nat.zero_le _)
        | nil =>
          cases ks with
          | nil =>
            rw [List.length_nil] at hl3
            omega
          | cons a l => exact absurd ((hmem' a).mpr List.mem_cons_self) (by simp)
end
end K78

namespace K78
open PySem PySem.Spec PyProof.Rows L2 RZ L5 Gv
section
variable {P : Program} {w : World} {K : PySem.W.Frag} {mg : Str → Option Value} {base : Heap}
theorem belO_iv (t u : List Int) : belO (some (t.map some)) u = bel t u := by
  show belB (intsO _) u = _
  rw [ints_back, bel_eq]
theorem shaped_bool (b : Bool) : SeqAt.shaped (.bool b) = true := by cases b <;> decide +kernel
theorem eqv_bool (b : Bool) : PyData.eqv (.bool b) (.bool b) = true := by cases b <;> decide +kernel
theorem eqv_bools (b c : Bool) : PyData.eqv (.bool b) (.bool c) = decide (b = c) := by cases b <;> cases c <;> decide +kernel
/-- what the law holds of three drawn ones -/
structure In5 (K : PySem.W.Frag) (H : Hp) (a b c l u : Addr) (t1 t2 t3 : List Int) : Prop where
  ha : SqT K H a (iv t1)
  hb : SqT K H b (iv t2)
  hc : SqT K H c (iv t3)
  hl : SqT K H l (iv (lowL t1 t2))
  hu : SqT K H u (iv (upL t1 t2))
  p1 : Pure t1
  p2 : Pure t2
  p3 : Pure t3
theorem In5.same {H H' : Hp} {a b c l u : Addr} {t1 t2 t3 : List Int} (s : Same H H') (h : In5 K H a b c l u t1 t2 t3) : In5 K H' a b c l u t1 t2 t3 :=
  ⟨same_sqt s h.ha, same_sqt s h.hb, same_sqt s h.hc, same_sqt s h.hl, same_sqt s h.hu, h.p1, h.p2, h.p3⟩
abbrev σQ (p : Addr) (m : Nat) (a b c l u : Addr) (v : Option L2.V) : L2.St := [some (.ref p), some (.int ((m : Nat) : Int)), some (.ref a), some (.ref b), some (.ref c), some (.ref l), some (.ref u), v]
abbrev stR (i : Nat) : Stmt := (defBody s_w_right).getD i (.Pass ⟨0, 0, 0, 0⟩)
abbrev XR {K : PySem.W.Frag} {mg : Str → Option Value} (T : Txt K mg) (P : Program) (w : World) (base : Heap) (cdv : Value) (A : Around) (outer : List Env) (s : Shared) (H : Hp) (E : XK) : Cx :=
  (cxOf CX0 P w K mg base N_w_right "_law_right" (defScope s_w_right) T.a_w_right cdv A outer s H E).nox
variable {cdv : Value} {A : Around} {outer : List Env} {s : Shared} {H0 : Hp} {E : XK}
/-- what each step from the third on asks and gives -/
def stepQ (K : PySem.W.Frag) : TS := fun D σ H => ∃ p m a b c l u t1 t2 t3, (∃ v, σ = σQ p m a b c l u v) ∧ In5 K H a b c l u t1 t2 t3 ∧ ∀ H' v, Same H H' → D.nx (σQ p m a b c l u v) H'
theorem st0 (T : Txt K mg) (hr : Room 7 (XR T P w base cdv A outer s H0 E).A) : PS (XR T P w base cdv A outer s H0 E) (stR 0)
    (fun D σ H => ∃ p, σ = [some (.ref p), none, none, none, none, none, none, none] ∧ Pail p H ∧ ∀ H' m, Bar p H H' → Pail p H' → m ≤ 60 → D.nx [some (.ref p), some (.int ((m : Nat) : Int)), none, none, none, none, none, none] H') := by
  refine PS.weak' (ps_set (i := 1) sc_w_right.nd rfl (Or.inl rfl) (pe_call (ok_pick T) (hr.mono (by decide)) (by rfl) T.m_w_pick T.F_w_pick.kp T.b_w_pick .nil pass0 (pa_cons (pv 0) (pa_cons (pe_lst (pa_cons pe_int (pa_cons pe_int (pa_cons pe_int (pa_cons pe_int pa_nil))))) pa_nil)))) ?i
  rintro D σ H ⟨p, rfl, ⟨g, x, c, hp⟩, q⟩
  refine ⟨_, rfl, by show 4 ≤ sizeLine; decide, fun y hy => ?_⟩
  have sy := same_new hy (.lst [V.int 5, V.int 5, V.int 12, V.int 60])
  refine ⟨p, y, _, g, x, c, rfl, sy _ _ hp, ne_pail ⟨g, x, c, hp⟩ hy, SqL.of upd_same, by simp, by simp, fun g2 x2 c2 v hv => ?_⟩
  obtain ⟨n, rfl, hn⟩ : ∃ n : Nat, v = .int ((n : Nat) : Int) ∧ n ≤ 60 := by
    simp only [List.mem_cons, List.not_mem_nil, or_false] at hv
    rcases hv with rfl | rfl | rfl | rfl
    · exact ⟨5, rfl, by omega⟩
    · exact ⟨5, rfl, by omega⟩
    · exact ⟨12, rfl, by omega⟩
    · exact ⟨60, rfl, by omega⟩
  exact q _ n ((Bar.same sy).trans Bar.upd) ⟨_, _, _, upd_same⟩ hn
theorem st1 (T : Txt K mg) (hr : Room 7 (XR T P w base cdv A outer s H0 E).A) : PS (XR T P w base cdv A outer s H0 E) (stR 1)
    (fun D σ H => ∃ p m, σ = [some (.ref p), some (.int ((m : Nat) : Int)), none, none, none, none, none, none] ∧ m ≤ 60 ∧ Pail p H ∧ ∀ H' a b c t1 t2 t3, Bar p H H' → Pail p H' → SqT K H' a (iv t1) → SqT K H' b (iv t2) → SqT K H' c (iv t3) → Pure t1 → Pure t2 → Pure t3 →
      D.nx [some (.ref p), some (.int ((m : Nat) : Int)), some (.ref a), some (.ref b), some (.ref c), none, none, none] H') := by
  refine PS.weak' (ps_par3 (i := 2) (j := 3) (l := 4) (by rfl) sc_w_right.nd rfl rfl rfl (by decide) (by decide) (by decide) rfl rfl rfl
    (pa_cons (pe_call (ok_wdeg T) (hr.mono (by decide)) (by rfl) T.m_w_degrees T.F_w_degrees.kp T.b_w_degrees .nil pass0 (pa_cons (pv 0) (pa_cons (pv 1) pa_nil)))
    (pa_cons (pe_call (ok_wdeg T) (hr.mono (by decide)) (by rfl) T.m_w_degrees T.F_w_degrees.kp T.b_w_degrees .nil pass0 (pa_cons (pv 0) (pa_cons (pv 1) pa_nil)))
    (pa_cons (pe_call (ok_wdeg T) (hr.mono (by decide)) (by rfl) T.m_w_degrees T.F_w_degrees.kp T.b_w_degrees .nil pass0 (pa_cons (pv 0) (pa_cons (pv 1) pa_nil))) pa_nil))) (by rfl)) ?i
  rintro D σ H ⟨p, m, rfl, hm, hp, q⟩
  refine ⟨_, rfl, _, rfl, p, m, rfl, hp, by omega, fun H1 a t1 b1 p1 ha pt1 => ?_⟩
  refine ⟨_, rfl, _, rfl, p, m, rfl, p1, by omega, fun H2 b t2 b2 p2 hb pt2 => ?_⟩
  refine ⟨_, rfl, _, rfl, p, m, rfl, p2, by omega, fun H3 c t3 b3 p3 hc pt3 => ?_⟩
  refine ⟨_, _, _, rfl, ?_⟩
  exact q H3 a b c t1 t2 t3 (b1.trans (b2.trans b3)) p3 (bar_sqt p2 b3 (bar_sqt p1 b2 ha)) (bar_sqt p2 b3 hb) hc pt1 pt2 pt3
theorem st2 (T : Txt K mg) (hr : Room 7 (XR T P w base cdv A outer s H0 E).A) : PS (XR T P w base cdv A outer s H0 E) (stR 2)
    (fun D σ H => ∃ p m a b c t1 t2 t3, σ = [some (.ref p), some (.int ((m : Nat) : Int)), some (.ref a), some (.ref b), some (.ref c), none, none, none] ∧ SqT K H a (iv t1) ∧ SqT K H b (iv t2) ∧ SqT K H c (iv t3) ∧ Pure t1 ∧ Pure t2 ∧ Pure t3 ∧
      ∀ H' l u, Same H H' → In5 K H' a b c l u t1 t2 t3 → D.nx (σQ p m a b c l u none) H') := by
  refine PS.weak' (ps_par (i := 5) (j := 6) (by rfl) sc_w_right.nd rfl rfl (by decide) rfl rfl
    (pa_cons (pe_call (ok_low T) hr (by rfl) T.m_lower_of T.F_lower_of.kp T.b_lower_of .nil pass0 (pa_cons (pv 2) (pa_cons (pv 3) pa_nil)))
    (pa_cons (pe_call (ok_upp T) hr (by rfl) T.m_upper_of T.F_upper_of.kp T.b_upper_of .nil pass0 (pa_cons (pv 2) (pa_cons (pv 3) pa_nil))) pa_nil)) (by rfl)) ?i
  rintro D σ H ⟨p, m, a, b, c, t1, t2, t3, rfl, ha, hb, hc, p1, p2, p3, q⟩
  refine ⟨_, rfl, _, rfl, a, b, t1, t2, rfl, ha, hb, p1, p2, fun H1 l s1 hl => ?_⟩
  refine ⟨_, rfl, _, rfl, a, b, t1, t2, rfl, same_sqt s1 ha, same_sqt s1 hb, p1, p2, fun H2 u s2 hu => ?_⟩
  have S := s1.trans s2
  exact ⟨_, _, rfl, q H2 l u S ⟨same_sqt S ha, same_sqt S hb, same_sqt S hc, same_sqt s2 hl, hu, p1, p2, p3⟩⟩
theorem st3 (T : Txt K mg) : PS (XR T P w base cdv A outer s H0 E) (stR 3) (stepQ K) := by
  refine PS.weak' (ps_if (PW.pt (pw_or (pt_cmpR op_ne (pe_callB call_len_seq (by rfl) T.z_len boot_len (pa_cons (pv 5) pa_nil)) (pe_callB (call_max2 rfl) (by rfl) T.z_max boot_max (pa_cons (pe_callB call_len_seq (by rfl) T.z_len boot_len (pa_cons (pv 2) pa_nil)) (pa_cons (pe_callB call_len_seq (by rfl) T.z_len boot_len (pa_cons (pv 3) pa_nil)) pa_nil))) (nomark _))
    (pw_or1 (pt_cmpR op_ne (pe_callB call_len_seq (by rfl) T.z_len boot_len (pa_cons (pv 6) pa_nil)) (pe_callB (call_min2 rfl) (by rfl) T.z_min (by decide +kernel) (pa_cons (pe_callB call_len_seq (by rfl) T.z_len boot_len (pa_cons (pv 2) pa_nil)) (pa_cons (pe_callB call_len_seq (by rfl) T.z_len boot_len (pa_cons (pv 3) pa_nil)) pa_nil))) (nomark _)))))
    (pss_one (ps_ret pe_bl)) pss_nil) ?i
  rintro D σ H ⟨p, m, a, b, c, l, u, t1, t2, t3, ⟨v, rfl⟩, I, q⟩
  refine ⟨_, rfl, l, _, rfl, .inr I.hl, _, rfl, a, _, rfl, .inr I.ha, _, rfl, b, _, rfl, .inr I.hb, _, _, rfl, ?_⟩
  have e1 : ((iv (lowL t1 t2)).length : Int) = (if ((iv t2).length : Int) > ((iv t1).length : Int) then ((iv t2).length : Int) else ((iv t1).length : Int)) := by
    have h := low_len t1 t2
    rw [iv_len, iv_len, iv_len]
    split <;> omega
  refine ⟨rfl, _, rfl, ?_⟩
  rw [← e1, decide_eq_true rfl]
  refine iteF ⟨_, rfl, u, _, rfl, .inr I.hu, _, rfl, a, _, rfl, .inr I.ha, _, rfl, b, _, rfl, .inr I.hb, _, _, rfl, ?_⟩
  have e2 : ((iv (upL t1 t2)).length : Int) = (if ((iv t2).length : Int) < ((iv t1).length : Int) then ((iv t2).length : Int) else ((iv t1).length : Int)) := by
    have h := up_len t1 t2
    rw [iv_len, iv_len, iv_len]
    split <;> omega
  refine ⟨rfl, _, rfl, ?_⟩
  rw [← e2, decide_eq_true rfl]
  exact iteF (q H v (Same.refl H))
theorem yes_b {t1 t2 : List Int} (h1 : Pure t1) (h : bel t1 t2 = true) : (pureB (some (t1.map some)) && belO (some (t1.map some)) t2) = true := by
  rw [h1, belO_iv, h]
  rfl
theorem st4 (T : Txt K mg) (hr : Room 7 (XR T P w base cdv A outer s H0 E).A) : PS (XR T P w base cdv A outer s H0 E) (stR 4) (stepQ K) := by
  refine PS.weak' (ps_for PassesOwn.never rfl (pi_tup (pe_tup (pa_cons (pv 2) (pa_cons (pv 3) pa_nil)))) (pg_name (i := 7) sc_w_right.nd rfl (Or.inl rfl))
    (pss_one (ps_if (PW.pt (pw_or (pt_not (pt_val (pe_call (ok_wbel T) (hr.mono (by decide)) (by rfl) T.m_w_is_below T.F_w_is_below.kp T.b_w_is_below .nil pass0 (pa_cons (pv 5) (pa_cons (pv 7) pa_nil)))))
      (pw_or (pt_not (pt_val (pe_call (ok_wbel T) (hr.mono (by decide)) (by rfl) T.m_w_is_below T.F_w_is_below.kp T.b_w_is_below .nil pass0 (pa_cons (pv 7) (pa_cons (pv 6) pa_nil)))))
      (pw_or (pt_not (pt_val (pe_call (ok_isb T) (hr.mono (by decide)) (by rfl) T.m_is_below T.F_is_below.kp T.b_is_below .nil pass0 (pa_cons (pv 5) (pa_cons (pv 7) pa_nil)))))
      (pw_or1 (pt_not (pt_val (pe_call (ok_isb T) (hr.mono (by decide)) (by rfl) T.m_is_below T.F_is_below.kp T.b_is_below .nil pass0 (pa_cons (pv 7) (pa_cons (pv 6) pa_nil)))))))))) (pss_one (ps_ret pe_bl)) pss_nil))) ?i
  rintro D σ H ⟨p, m, a, b, c, l, u, t1, t2, t3, ⟨v, rfl⟩, I, q⟩
  have l1 := I.p1.len
  have l2 := I.p2.len
  have pl := pure_low I.p1 I.p2
  have pu := pure_up I.p1 I.p2
  have l3 := pl.len
  have l4 := pu.len
  refine ⟨_, rfl, _, rfl, by show 2 ≤ sizeLine; decide, fun z hz => ?_⟩
  have tz := same_new hz (.tup [V.ref a, V.ref b])
  have hzz : (upd H z (.tup [V.ref a, V.ref b])) z = some (.tup [V.ref a, V.ref b]) := upd_same
  generalize (upd H z (.tup [V.ref a, V.ref b])) = H1 at tz hzz ⊢
  have I1 := I.same tz
  refine ⟨z, rfl, ⟨_, SqT.of hzz⟩, for_tup (K := K) (a := z) (xs := [V.ref a, V.ref b]) (fun i σ H' => (∃ v, σ = σQ p m a b c l u v) ∧ Same H1 H') ⟨⟨v, rfl⟩, Same.refl _⟩ (fun i σ H' _ hh => same_sqt hh.2 (SqT.of hzz)) ?_ ?_⟩
  · rintro i x σ H2 hi ⟨⟨v2, rfl⟩, s2⟩
    have I2 := I1.same s2
    obtain ⟨y, t, rfl, hy, pt, b1, b2⟩ : ∃ y t, x = .ref y ∧ SqT K H2 y (iv t) ∧ Pure t ∧ bel (lowL t1 t2) t = true ∧ bel t (upL t1 t2) = true := by
      have hm := List.mem_of_getElem? hi
      simp only [List.mem_cons, List.not_mem_nil, or_false] at hm
      rcases hm with rfl | rfl
      · exact ⟨a, t1, rfl, I2.ha, I.p1, low_l _ _, up_l _ _⟩
      · exact ⟨b, t2, rfl, I2.hb, I.p2, low_r _ _, up_r _ _⟩
    have lt := pt.len
    refine ⟨_, rfl, _, rfl, l, y, _, t, rfl, I2.hl, hy, by omega, fun H3 s3 => ⟨_, rfl, ?_⟩⟩
    rw [b1]
    refine iteF ⟨_, rfl, _, rfl, y, u, t, _, rfl, same_sqt s3 hy, (I2.same s3).hu, by omega, fun H4 s4 => ⟨_, rfl, ?_⟩⟩
    rw [b2]
    have S4 := s3.trans s4
    have I4 := I2.same S4
    have hy4 := same_sqt S4 hy
    refine iteF ⟨_, rfl, _, rfl, .ref l, _, y, t, rfl, va_iv I4.hl (by omega), hy4, pt, fun H5 s5 => ⟨_, rfl, ?_⟩⟩
    rw [yes_b pl b1]
    have I5 := I4.same s5
    refine iteF ⟨_, rfl, _, rfl, .ref y, _, u, _, rfl, va_iv (same_sqt s5 hy4) (by omega), I5.hu, pu, fun H6 s6 => ⟨_, rfl, ?_⟩⟩
    rw [yes_b pt b2]
    exact iteF ⟨⟨_, rfl⟩, s2.trans (S4.trans (s5.trans s6))⟩
  · rintro σ H2 ⟨⟨v2, rfl⟩, s2⟩
    exact q H2 v2 (tz.trans s2)
/-- two tuples of ints, told to be unlike -/
theorem ne_tup {H : Hp} {x y : Addr} {t t' : List Int} {Q : VK} (hx : SqT K H x (iv t)) (hy : SqT K H y (iv t')) (e : t = t') (q : Q (.bl false) H) : rNeD K (.ref x) (.ref y) H Q := by
  refine ⟨encI t, encI t', dp_tupI hx, dp_tupI hy, shaped_intsT _, shaped_intsT _, ?_⟩
  rw [eqv_tupIE, decide_eq_true e]
  exact q
theorem st5 (T : Txt K mg) (hr : Room 7 (XR T P w base cdv A outer s H0 E).A) : PS (XR T P w base cdv A outer s H0 E) (stR 5) (stepQ K) := by
  refine PS.weak' (ps_if (PW.pt (pw_or (pt_cmpR (op_neD hr.units) (pe_call (ok_low T) hr (by rfl) T.m_lower_of T.F_lower_of.kp T.b_lower_of .nil pass0 (pa_cons (pv 3) (pa_cons (pv 2) pa_nil))) (pv 5) (nomark _))
    (pw_or (pt_cmpR (op_neD hr.units) (pe_call (ok_upp T) hr (by rfl) T.m_upper_of T.F_upper_of.kp T.b_upper_of .nil pass0 (pa_cons (pv 3) (pa_cons (pv 2) pa_nil))) (pv 6) (nomark _))
    (pw_or (pt_cmpR (op_neD hr.units) (pe_call (ok_low T) hr (by rfl) T.m_lower_of T.F_lower_of.kp T.b_lower_of .nil pass0 (pa_cons (pv 2) (pa_cons (pv 6) pa_nil))) (pv 2) (nomark _))
    (pw_or1 (pt_cmpR (op_neD hr.units) (pe_call (ok_upp T) hr (by rfl) T.m_upper_of T.F_upper_of.kp T.b_upper_of .nil pass0 (pa_cons (pv 2) (pa_cons (pv 5) pa_nil))) (pv 2) (nomark _))))))) (pss_one (ps_ret pe_bl)) pss_nil) ?i
  rintro D σ H ⟨p, m, a, b, c, l, u, t1, t2, t3, ⟨v, rfl⟩, I, q⟩
  have pl := pure_low I.p1 I.p2
  have pu := pure_up I.p1 I.p2
  refine ⟨_, rfl, _, rfl, b, a, _, _, rfl, I.hb, I.ha, I.p2, I.p1, fun H1 z1 s1 h1 => ⟨_, rfl, ?_⟩⟩
  have I1 := I.same s1
  refine ne_tup h1 I1.hl (low_comm _ _) ⟨_, rfl, iteF ?_⟩
  refine ⟨_, rfl, _, rfl, b, a, _, _, rfl, I1.hb, I1.ha, I.p2, I.p1, fun H2 z2 s2 h2 => ⟨_, rfl, ?_⟩⟩
  have I2 := I1.same s2
  refine ne_tup h2 I2.hu (up_comm _ _) ⟨_, rfl, iteF ?_⟩
  refine ⟨_, rfl, _, rfl, a, u, _, _, rfl, I2.ha, I2.hu, I.p1, pu, fun H3 z3 s3 h3 => ⟨_, rfl, ?_⟩⟩
  have I3 := I2.same s3
  refine ne_tup h3 I3.ha (low_up _ _) ⟨_, rfl, iteF ?_⟩
  refine ⟨_, rfl, _, rfl, a, l, _, _, rfl, I3.ha, I3.hl, I.p1, pl, fun H4 z4 s4 h4 => ⟨_, rfl, ?_⟩⟩
  refine ne_tup h4 (I3.same s4).ha (up_low _ _) ⟨_, rfl, iteF ?_⟩
  exact q H4 v (s1.trans (s2.trans (s3.trans s4)))
theorem st6 (T : Txt K mg) (hr : Room 7 (XR T P w base cdv A outer s H0 E).A) : PS (XR T P w base cdv A outer s H0 E) (stR 6) (stepQ K) := by
  refine PS.weak' (ps_if (PW.pt (pw_or (pt_cmpR (op_neD hr.units) (pe_call (ok_low T) hr (by rfl) T.m_lower_of T.F_lower_of.kp T.b_lower_of .nil pass0 (pa_cons (pv 5) (pa_cons (pv 4) pa_nil)))
      (pe_call (ok_low T) hr (by rfl) T.m_lower_of T.F_lower_of.kp T.b_lower_of .nil pass0 (pa_cons (pv 2) (pa_cons (pe_call (ok_low T) hr (by rfl) T.m_lower_of T.F_lower_of.kp T.b_lower_of .nil pass0 (pa_cons (pv 3) (pa_cons (pv 4) pa_nil))) pa_nil))) (nomark _))
    (pw_or1 (pt_cmpR (op_neD hr.units) (pe_call (ok_upp T) hr (by rfl) T.m_upper_of T.F_upper_of.kp T.b_upper_of .nil pass0 (pa_cons (pv 6) (pa_cons (pv 4) pa_nil)))
      (pe_call (ok_upp T) hr (by rfl) T.m_upper_of T.F_upper_of.kp T.b_upper_of .nil pass0 (pa_cons (pv 2) (pa_cons (pe_call (ok_upp T) hr (by rfl) T.m_upper_of T.F_upper_of.kp T.b_upper_of .nil pass0 (pa_cons (pv 3) (pa_cons (pv 4) pa_nil))) pa_nil))) (nomark _))))) (pss_one (ps_ret pe_bl)) pss_nil) ?i
  rintro D σ H ⟨p, m, a, b, c, l, u, t1, t2, t3, ⟨v, rfl⟩, I, q⟩
  have pl := pure_low I.p1 I.p2
  have pu := pure_up I.p1 I.p2
  have pl2 := pure_low I.p2 I.p3
  have pu2 := pure_up I.p2 I.p3
  refine ⟨_, rfl, _, rfl, l, c, _, _, rfl, I.hl, I.hc, pl, I.p3, fun H1 z1 s1 h1 => ?_⟩
  have I1 := I.same s1
  refine ⟨_, rfl, _, rfl, _, rfl, b, c, _, _, rfl, I1.hb, I1.hc, I.p2, I.p3, fun H2 z2 s2 h2 => ?_⟩
  have I2 := I1.same s2
  refine ⟨a, z2, _, _, rfl, I2.ha, h2, I.p1, pl2, fun H3 z3 s3 h3 => ?_⟩
  have I3 := I2.same s3
  refine ne_tup (same_sqt (s2.trans s3) h1) h3 (low_assoc _ _ _) ⟨_, rfl, iteF ?_⟩
  refine ⟨_, rfl, _, rfl, u, c, _, _, rfl, I3.hu, I3.hc, pu, I.p3, fun H4 z4 s4 h4 => ?_⟩
  have I4 := I3.same s4
  refine ⟨_, rfl, _, rfl, _, rfl, b, c, _, _, rfl, I4.hb, I4.hc, I.p2, I.p3, fun H5 z5 s5 h5 => ?_⟩
  have I5 := I4.same s5
  refine ⟨a, z5, _, _, rfl, I5.ha, h5, I.p1, pu2, fun H6 z6 s6 h6 => ?_⟩
  refine ne_tup (same_sqt (s5.trans s6) h4) h6 (up_assoc _ _ _) ⟨_, rfl, iteF ?_⟩
  exact q H6 v (s1.trans (s2.trans (s3.trans (s4.trans (s5.trans s6)))))
end
end K78

namespace K78
open PySem PySem.Spec PyProof.Rows L2 RZ L5 Gv
section
variable {P : Program} {w : World} {K : PySem.W.Frag} {mg : Str → Option Value} {base : Heap} {cdv : Value} {A : Around} {outer : List Env} {s : Shared} {H0 : Hp} {E : XK}
theorem ne_bl {H : Hp} {b b' : Bool} {Q : VK} (e : b = b') (q : Q (.bl false) H) : rNe (.bl b) (.bl b') H Q := by
  subst e
  refine ⟨rfl, ?_⟩
  rw [decide_eq_true rfl]
  exact q
theorem eq_tup {H : Hp} {x y : Addr} {t t' : List Int} {Q : VK} (hx : SqT K H x (iv t)) (hy : SqT K H y (iv t')) (q : Q (.bl (decide (t = t'))) H) : rEqD K (.ref x) (.ref y) H Q := by
  refine ⟨encI t, encI t', dp_tupI hx, dp_tupI hy, shaped_intsT _, shaped_intsT _, ?_⟩
  rw [eqv_tupIE]
  exact q
theorem st7 (T : Txt K mg) (hr : Room 7 (XR T P w base cdv A outer s H0 E).A) : PS (XR T P w base cdv A outer s H0 E) (stR 7) (stepQ K) := by
  refine PS.weak' (ps_if (PW.pt (pw_or (pt_cmpR op_ne (pe_call (ok_isb T) (hr.mono (by decide)) (by rfl) T.m_is_below T.F_is_below.kp T.b_is_below .nil pass0 (pa_cons (pv 2) (pa_cons (pv 3) pa_nil)))
      (pe_call (ok_wbel T) (hr.mono (by decide)) (by rfl) T.m_w_is_below T.F_w_is_below.kp T.b_w_is_below .nil pass0 (pa_cons (pv 2) (pa_cons (pv 3) pa_nil))) (nomark _))
    (pw_or (pt_cmpR op_ne (pe_call (ok_wbel T) (hr.mono (by decide)) (by rfl) T.m_w_is_below T.F_w_is_below.kp T.b_w_is_below .nil pass0 (pa_cons (pv 2) (pa_cons (pv 3) pa_nil))) (pe_cmpR (op_eqD hr.units) (pv 5) (pv 2) (nomark _)) (nomark _))
    (pw_or1 (pt_cmpR op_ne (pe_cmpR (op_eqD hr.units) (pv 6) (pv 3) (nomark _)) (pe_cmpR (op_eqD hr.units) (pv 5) (pv 2) (nomark _)) (nomark _)))))) (pss_one (ps_ret pe_bl)) pss_nil) ?i
  rintro D σ H ⟨p, m, a, b, c, l, u, t1, t2, t3, ⟨v, rfl⟩, I, q⟩
  have l1 := I.p1.len
  refine ⟨_, rfl, _, rfl, .ref a, _, b, t2, rfl, va_iv I.ha (by omega), I.hb, I.p2, fun H1 s1 => ?_⟩
  have I1 := I.same s1
  refine ⟨_, rfl, _, rfl, a, b, t1, t2, rfl, I1.ha, I1.hb, by omega, fun H2 s2 => ?_⟩
  have I2 := I1.same s2
  refine ne_bl (by rw [I.p1, belO_iv]; rfl) ⟨_, rfl, iteF ?_⟩
  refine ⟨_, rfl, _, rfl, a, b, t1, t2, rfl, I2.ha, I2.hb, by omega, fun H3 s3 => ?_⟩
  have I3 := I2.same s3
  refine ⟨_, rfl, _, rfl, eq_tup I3.hl I3.ha ?_⟩
  refine ne_bl (bel_low t1 t2).symm ⟨_, rfl, iteF ?_⟩
  refine ⟨_, rfl, _, rfl, eq_tup I3.hu I3.hb ?_⟩
  refine ⟨_, rfl, _, rfl, eq_tup I3.hl I3.ha ?_⟩
  refine ne_bl ((bel_up t1 t2).trans (bel_low t1 t2).symm) ⟨_, rfl, iteF ?_⟩
  exact q H3 v (s1.trans (s2.trans s3))
def tAll (K : PySem.W.Frag) (f : List Int → List Int → List Int → Bool) : TE := fun σ H Q => ∃ p m a b c l u y t1 t2 t3 t, σ = σQ p m a b c l u (some (.ref y)) ∧ In5 K H a b c l u t1 t2 t3 ∧ SqT K H y (iv t) ∧ t.length ≤ 4 ∧ ∀ H', Same H H' → Q (.bl (f t t1 t2)) H'
theorem st8 (T : Txt K mg) (hr : Room 7 (XR T P w base cdv A outer s H0 E).A) : PS (XR T P w base cdv A outer s H0 E) (stR 8) (stepQ K) := by
  refine PS.weak' (ps_for PassesOwn.never rfl (pi_tup (pe_call (ok_pds T) (hr.mono (by decide)) (by rfl) T.m_pure_degrees T.F_pure_degrees.kp T.b_pure_degrees .nil pass0 (pa_cons pe_int (pa_cons pe_int pa_nil)))) (pg_name (i := 7) sc_w_right.nd rfl (Or.inl rfl))
    (pss_cons (ps_if (pt_cmpR op_ne (PE.weak (t' := tAll K fun t t1 t2 => bel t t1 && bel t t2) (pe_and (pe_call (ok_wbel T) (hr.mono (by decide)) (by rfl) T.m_w_is_below T.F_w_is_below.kp T.b_w_is_below .nil pass0 (pa_cons (pv 7) (pa_cons (pv 2) pa_nil)))
        (pe_one (pe_call (ok_wbel T) (hr.mono (by decide)) (by rfl) T.m_w_is_below T.F_w_is_below.kp T.b_w_is_below .nil pass0 (pa_cons (pv 7) (pa_cons (pv 3) pa_nil))))) ?a1)
      (pe_call (ok_wbel T) (hr.mono (by decide)) (by rfl) T.m_w_is_below T.F_w_is_below.kp T.b_w_is_below .nil pass0 (pa_cons (pv 7) (pa_cons (pv 5) pa_nil))) (nomark _)) (pss_one (ps_ret pe_bl)) pss_nil)
    (pss_one (ps_if (pt_cmpR op_ne (PE.weak (t' := tAll K fun t t1 t2 => bel t1 t && bel t2 t) (pe_and (pe_call (ok_wbel T) (hr.mono (by decide)) (by rfl) T.m_w_is_below T.F_w_is_below.kp T.b_w_is_below .nil pass0 (pa_cons (pv 2) (pa_cons (pv 7) pa_nil)))
        (pe_one (pe_call (ok_wbel T) (hr.mono (by decide)) (by rfl) T.m_w_is_below T.F_w_is_below.kp T.b_w_is_below .nil pass0 (pa_cons (pv 3) (pa_cons (pv 7) pa_nil))))) ?a2)
      (pe_call (ok_wbel T) (hr.mono (by decide)) (by rfl) T.m_w_is_below T.F_w_is_below.kp T.b_w_is_below .nil pass0 (pa_cons (pv 6) (pa_cons (pv 7) pa_nil))) (nomark _)) (pss_one (ps_ret pe_bl)) pss_nil)))) ?i
  case a1 =>
    rintro σ H Q ⟨p, m, a, b, c, l, u, y, t1, t2, t3, t, rfl, I, hy, h4, q⟩
    dsimp only at q
    refine ⟨_, rfl, _, rfl, y, a, t, t1, rfl, hy, I.ha, by omega, fun H3 s3 => ⟨_, rfl, ?_⟩⟩
    cases e : bel t t1 with
    | false =>
      refine iteF ?_
      have := q H3 s3
      rw [e] at this
      exact this
    | true =>
      refine iteT ⟨_, rfl, _, rfl, y, b, t, t2, rfl, same_sqt s3 hy, (I.same s3).hb, by omega, fun H4 s4 => ?_⟩
      have := q H4 (s3.trans s4)
      rw [e] at this
      exact this
  case a2 =>
    rintro σ H Q ⟨p, m, a, b, c, l, u, y, t1, t2, t3, t, rfl, I, hy, h4, q⟩
    dsimp only at q
    have l1 := I.p1.len
    have l2 := I.p2.len
    refine ⟨_, rfl, _, rfl, a, y, t1, t, rfl, I.ha, hy, by omega, fun H3 s3 => ⟨_, rfl, ?_⟩⟩
    cases e : bel t1 t with
    | false =>
      refine iteF ?_
      have := q H3 s3
      rw [e] at this
      exact this
    | true =>
      refine iteT ⟨_, rfl, _, rfl, b, y, t2, t, rfl, (I.same s3).hb, same_sqt s3 hy, by omega, fun H4 s4 => ?_⟩
      have := q H4 (s3.trans s4)
      rw [e] at this
      exact this
  rintro D σ H ⟨p, m, a, b, c, l, u, t1, t2, t3, ⟨v, rfl⟩, I, q⟩
  have l1 := I.p1.len
  have l2 := I.p2.len
  have pl := pure_low I.p1 I.p2
  have pu := pure_up I.p1 I.p2
  have l3 := pl.len
  have l4 := pu.len
  refine ⟨3, 5, rfl, by decide, by decide, fun H1 z rs M s1 hz hM => ?_⟩
  have I1 := I.same s1
  refine ⟨z, rfl, ⟨_, hz⟩, for_tup (K := K) (a := z) (xs := rs.map V.ref) (fun i σ H' => (∃ v, σ = σQ p m a b c l u v) ∧ Same H1 H') ⟨⟨v, rfl⟩, Same.refl _⟩ (fun i σ H' _ hh => same_sqt hh.2 hz) ?_ ?_⟩
  · rintro i x σ H2 hi ⟨⟨v2, rfl⟩, s2⟩
    have I2 := I1.same s2
    obtain ⟨y, t, rfl, _, ht, hy1⟩ := tupsI_get hM.1 hi
    have hy := same_sqt s2 hy1
    have lt : t.length ≤ 4 := ((pd_facts (5 + 1) (by omega) (3 + 1) (by omega)).2.2 t (hM.2.1.mem_iff.mp (List.mem_of_getElem? ht))).2.1
    refine ⟨p, m, a, b, c, l, u, y, t1, t2, t3, t, rfl, I2, hy, lt, fun H3 s3 => ?_⟩
    have I3 := I2.same s3
    have hy3 := same_sqt s3 hy
    refine ⟨_, rfl, _, rfl, y, l, t, _, rfl, hy3, I3.hl, by omega, fun H4 s4 => ?_⟩
    have I4 := I3.same s4
    have hy4 := same_sqt s4 hy3
    refine ne_bl (low_both t t1 t2) ⟨_, rfl, iteF ?_⟩
    refine ⟨p, m, a, b, c, l, u, y, t1, t2, t3, t, rfl, I4, hy4, lt, fun H5 s5 => ?_⟩
    have I5 := I4.same s5
    refine ⟨_, rfl, _, rfl, u, y, _, t, rfl, I5.hu, same_sqt s5 hy4, by omega, fun H6 s6 => ?_⟩
    refine ne_bl (up_both t1 t2 t) ⟨_, rfl, iteF ?_⟩
    exact ⟨⟨_, rfl⟩, s2.trans (s3.trans (s4.trans (s5.trans s6)))⟩
  · rintro σ H2 ⟨⟨v2, rfl⟩, s2⟩
    exact q H2 v2 (s1.trans s2)
def sp_right (K : PySem.W.Frag) : Sp := fun vs H Q _ => ∃ p : Addr, vs = [.ref p] ∧ Pail p H ∧ ∀ H', Bar p H H' → Pail p H' → Q (.bl true) H'
theorem ok_right (T : Txt K mg) : FnOk P w K mg base CX0 8 T.a_w_right T.d_w_right ["_law_pot_here"] (sp_right K) := by
  refine T.F_w_right.ok sc_w_right (fun vs H Q E h => ?_) (fun cdv A outer s H vs Q E hr h => ?_)
  · obtain ⟨p, rfl, _⟩ := h
    rfl
  · obtain ⟨p, rfl, hp, q⟩ := h
    refine ⟨_, pss_cons (st0 T hr) (pss_cons (st1 T hr) (pss_cons (st2 T hr) (pss_cons (st3 T) (pss_cons (st4 T hr) (pss_cons (st5 T hr) (pss_cons (st6 T hr) (pss_cons (st7 T hr) (pss_cons (st8 T hr) (pss_one (ps_ret pe_bl)))))))))), ?_⟩
    refine ⟨p, rfl, hp, fun H1 m b1 p1 hm => ?_⟩
    refine ⟨p, m, rfl, hm, p1, fun H2 a b c t1 t2 t3 b2 p2 ha hb hc q1 q2 q3 => ?_⟩
    refine ⟨p, m, a, b, c, t1, t2, t3, rfl, ha, hb, hc, q1, q2, q3, fun H3 l u s3 I => ?_⟩
    refine ⟨p, m, a, b, c, l, u, t1, t2, t3, ⟨_, rfl⟩, I, fun H4 v4 s4 => ?_⟩
    refine ⟨p, m, a, b, c, l, u, t1, t2, t3, ⟨_, rfl⟩, I.same s4, fun H5 v5 s5 => ?_⟩
    refine ⟨p, m, a, b, c, l, u, t1, t2, t3, ⟨_, rfl⟩, (I.same s4).same s5, fun H6 v6 s6 => ?_⟩
    refine ⟨p, m, a, b, c, l, u, t1, t2, t3, ⟨_, rfl⟩, ((I.same s4).same s5).same s6, fun H7 v7 s7 => ?_⟩
    refine ⟨p, m, a, b, c, l, u, t1, t2, t3, ⟨_, rfl⟩, (((I.same s4).same s5).same s6).same s7, fun H8 v8 s8 => ?_⟩
    refine ⟨p, m, a, b, c, l, u, t1, t2, t3, ⟨_, rfl⟩, ((((I.same s4).same s5).same s6).same s7).same s8, fun H9 v9 s9 => ?_⟩
    have S := s3.trans (s4.trans (s5.trans (s6.trans (s7.trans (s8.trans s9)))))
    exact q H9 (b1.trans (b2.trans (Bar.same S))) (p2.same S)
end
end K78

namespace K78
open PySem PySem.Spec PyProof.Rows L2 RZ L5 Gv
theorem bar_back {p : Addr} {H H1 H2 : Hp} (s1 : Same H H1) (b : Bar p H1 H2) (hp : H p = none) : Same H H2 := fun c o h => b c o (fun e => by rw [e, hp] at h; cases h) (s1 c o h)
theorem pure_1 : Pure [0, 1, 4] := by decide +kernel
theorem pure_2 : Pure [0, 2, 3] := by decide +kernel
theorem pure_3 : Pure [0, 3] := by decide +kernel
theorem pure_4 : Pure [1, 2, 5] := by decide +kernel
section
variable {P : Program} {w : World} {K : PySem.W.Frag} {mg : Str → Option Value} {base : Heap}
def sp_law (K : PySem.W.Frag) : Sp := fun vs H Q _ => ∃ (a : Addr) (ns : List Int), vs = [.ref a] ∧ SqL K H a (ns.map V.int) ∧ ns.length ≤ 63 ∧ ∀ H', Q (.bl true) H'
theorem ok_law (T : Txt K mg) : FnOk P w K mg base CX0 9 T.a_law T.d_law ["_law_script"] (sp_law K) := by
  refine T.F_law.ok sc_law (fun vs H Q E h => ?_) (fun cdv A outer s H vs Q E hr h => ?_)
  · obtain ⟨a, ns, rfl, _⟩ := h
    rfl
  · obtain ⟨a, ns, rfl, hS, hn, q⟩ := h
    refine ⟨_, pss_cons (ps_for PassesOwn.never rfl (pi_range1 rfl T.z_range (pa_cons (pe_callB (call_max2 rfl) (by rfl) T.z_max boot_max (pa_cons pe_int (pa_cons (pe_callB (call_min2 rfl) (by rfl) T.z_min (by decide +kernel) (pa_cons pe_int (pa_cons (pe_callB call_len_seq (by rfl) T.z_len boot_len (pa_cons (pv 0) pa_nil)) pa_nil))) pa_nil))) pa_nil)) (pg_name (i := 1) sc_law.nd rfl (Or.inl rfl))
        (pss_cons (ps_set (i := 2) sc_law.nd rfl (Or.inl rfl) (pe_call (ok_pot T) (hr.mono (by decide)) (by rfl) T.m_w_pot T.F_w_pot.kp T.b_w_pot .nil pass0 (pa_cons (pv 0) (pa_cons (pv 1) pa_nil))))
        (pss_one (ps_if (PW.pt (pw_or (pt_not (pt_val (pe_call (ok_right T) hr (by rfl) T.m_w_right T.F_w_right.kp T.b_w_right .nil pass0 (pa_cons (pv 2) pa_nil))))
          (pw_or1 (pt_not (pt_val (pe_call (ok_right T) hr (by rfl) T.m_w_right T.F_w_right.kp T.b_w_right .nil pass0 (pa_cons (pv 2) pa_nil))))))) (pss_one (ps_ret pe_bl)) pss_nil))))
      (pss_cons (ps_set (i := 3) sc_law.nd rfl (Or.inl rfl) (pe_lst
        (pa_cons (pe_call (ok_low T) (hr.mono (by decide)) (by rfl) T.m_lower_of T.F_lower_of.kp T.b_lower_of .nil pass0 (pa_cons (pe_tup (pa_cons pe_int (pa_cons pe_int (pa_cons pe_int pa_nil)))) (pa_cons (pe_tup (pa_cons pe_int (pa_cons pe_int (pa_cons pe_int pa_nil)))) pa_nil)))
        (pa_cons (pe_call (ok_upp T) (hr.mono (by decide)) (by rfl) T.m_upper_of T.F_upper_of.kp T.b_upper_of .nil pass0 (pa_cons (pe_tup (pa_cons pe_int (pa_cons pe_int (pa_cons pe_int pa_nil)))) (pa_cons (pe_tup (pa_cons pe_int (pa_cons pe_int (pa_cons pe_int pa_nil)))) pa_nil)))
        (pa_cons (pe_call (ok_low T) (hr.mono (by decide)) (by rfl) T.m_lower_of T.F_lower_of.kp T.b_lower_of .nil pass0 (pa_cons (pe_tup (pa_cons pe_int (pa_cons pe_int pa_nil))) (pa_cons (pe_tup (pa_cons pe_int (pa_cons pe_int (pa_cons pe_int pa_nil)))) pa_nil)))
        (pa_cons (pe_call (ok_upp T) (hr.mono (by decide)) (by rfl) T.m_upper_of T.F_upper_of.kp T.b_upper_of .nil pass0 (pa_cons (pe_tup (pa_cons pe_int (pa_cons pe_int pa_nil))) (pa_cons (pe_tup (pa_cons pe_int (pa_cons pe_int (pa_cons pe_int pa_nil)))) pa_nil))) pa_nil))))))
      (pss_one (ps_ret (pe_cmpR (op_eqD hr.units) (pv 3) (pe_lst (pa_cons (pe_tup (pa_cons pe_int (pa_cons pe_int (pa_cons pe_int pa_nil)))) (pa_cons (pe_tup (pa_cons pe_int (pa_cons pe_int (pa_cons pe_int pa_nil)))) (pa_cons (pe_tup (pa_cons pe_int (pa_cons pe_int (pa_cons pe_int pa_nil)))) (pa_cons (pe_tup (pa_cons pe_int (pa_cons pe_int pa_nil))) pa_nil))))) (nomark _))))), ?_⟩
    have hm1 : ∀ m : Int, (if (if ((ns.map V.int).length : Int) < 4 then ((ns.map V.int).length : Int) else 4) > 1 then (if ((ns.map V.int).length : Int) < 4 then ((ns.map V.int).length : Int) else 4) else 1) = m → 1 ≤ m ∧ m ≤ 4 := fun m e => by
      rw [← e]
      split <;> split <;> omega
    refine ⟨_, rfl, a, _, rfl, .inl hS, _, _, rfl, _, _, rfl, _, rfl, ?_⟩
    have hb := hm1 _ rfl
    refine ⟨Int.le_trans (by decide) hb.1, Int.lt_of_le_of_lt hb.2 (by decide), ?_⟩
    refine for_range (lo := 0) (n := _) (fun i σ H' => ∃ v1 v2 : Option V, σ = [some (.ref a), v1, v2, none] ∧ Same H H') ⟨none, none, rfl, Same.refl H⟩ ?_ ?_
    · rintro i σ H1 hi ⟨v1, v2, rfl, s1⟩
      have hi3 : i < 1000 := by
        have := hb.2
        omega
      refine ⟨_, rfl, _, rfl, a, ns, i, by rw [Int.zero_add]; rfl, s1.seq hS, hi3, fun H2 z g x c s2 hz hz2 => ?_⟩
      have hzn : H z = none := Same.free s1 hz
      refine ⟨_, rfl, z, rfl, ⟨g, x, c, hz2⟩, fun H3 b3 hz3 => ⟨true, rfl, iteF ?_⟩⟩
      refine ⟨_, rfl, z, rfl, hz3, fun H4 b4 hz4 => ⟨true, rfl, iteF ?_⟩⟩
      exact ⟨_, _, rfl, bar_back (s1.trans s2) (b3.trans b4) hzn⟩
    · rintro σ H1 ⟨v1, v2, rfl, s1⟩
      refine ⟨by show 3 ≤ sizeLine; decide, fun q0 qk0 => ⟨by show 3 ≤ sizeLine; decide, fun q1 qk1 => ?_⟩⟩
      have t0 := same_new qk0 (.tup [V.int 0, V.int 1, V.int 4])
      have t1 := same_new qk1 (.tup [V.int 0, V.int 2, V.int 3])
      refine ⟨q0, q1, [0, 1, 4], [0, 2, 3], rfl, SqT.of (t1 _ _ upd_same), SqT.of upd_same, pure_1, pure_2, fun H2 y1 s2 hy1 => ?_⟩
      refine ⟨by show 3 ≤ sizeLine; decide, fun q2 qk2 => ⟨by show 3 ≤ sizeLine; decide, fun q3 qk3 => ?_⟩⟩
      have t2 := same_new qk2 (.tup [V.int 0, V.int 1, V.int 4])
      have t3 := same_new qk3 (.tup [V.int 0, V.int 2, V.int 3])
      refine ⟨q2, q3, [0, 1, 4], [0, 2, 3], rfl, SqT.of (t3 _ _ upd_same), SqT.of upd_same, pure_1, pure_2, fun H3 y2 s3 hy2 => ?_⟩
      have hy1 := same_sqt (t2.trans (t3.trans s3)) hy1
      refine ⟨by show 2 ≤ sizeLine; decide, fun q4 qk4 => ⟨by show 3 ≤ sizeLine; decide, fun q5 qk5 => ?_⟩⟩
      have t4 := same_new qk4 (.tup [V.int 0, V.int 3])
      have t5 := same_new qk5 (.tup [V.int 1, V.int 2, V.int 5])
      refine ⟨q4, q5, [0, 3], [1, 2, 5], rfl, SqT.of (t5 _ _ upd_same), SqT.of upd_same, pure_3, pure_4, fun H4 y3 s4 hy3 => ?_⟩
      have S4 := t4.trans (t5.trans s4)
      have hy1 := same_sqt S4 hy1
      have hy2 := same_sqt S4 hy2
      refine ⟨by show 2 ≤ sizeLine; decide, fun q6 qk6 => ⟨by show 3 ≤ sizeLine; decide, fun q7 qk7 => ?_⟩⟩
      have t6 := same_new qk6 (.tup [V.int 0, V.int 3])
      have t7 := same_new qk7 (.tup [V.int 1, V.int 2, V.int 5])
      refine ⟨q6, q7, [0, 3], [1, 2, 5], rfl, SqT.of (t7 _ _ upd_same), SqT.of upd_same, pure_3, pure_4, fun H5 y4 s5 hy4 => ?_⟩
      have S5 := t6.trans (t7.trans s5)
      have hy1 := same_sqt S5 hy1
      have hy2 := same_sqt S5 hy2
      have hy3 := same_sqt S5 hy3
      refine ⟨by show 4 ≤ sizeLine; decide, fun o ho => ?_⟩
      have tO := same_new ho (.lst [V.ref y1, V.ref y2, V.ref y3, V.ref y4])
      have hO : (upd H5 o (.lst [V.ref y1, V.ref y2, V.ref y3, V.ref y4])) o = some (.lst [V.ref y1, V.ref y2, V.ref y3, V.ref y4]) := upd_same
      have hT : TupsI K (upd H5 o (.lst [V.ref y1, V.ref y2, V.ref y3, V.ref y4])) [y1, y2, y3, y4] [lowL [0, 1, 4] [0, 2, 3], upL [0, 1, 4] [0, 2, 3], lowL [0, 3] [1, 2, 5], upL [0, 3] [1, 2, 5]] :=
        .cons (same_sqt tO hy1) (.cons (same_sqt tO hy2) (.cons (same_sqt tO hy3) (.cons (same_sqt tO hy4) .nil)))
      generalize (upd H5 o (.lst [V.ref y1, V.ref y2, V.ref y3, V.ref y4])) = H6 at hO hT ⊢
      refine ⟨_, rfl, ?_⟩
      refine ⟨by show 3 ≤ sizeLine; decide, fun r1 hr1 => ⟨by show 3 ≤ sizeLine; decide, fun r2 hr2 => ⟨by show 3 ≤ sizeLine; decide, fun r3 hr3 => ⟨by show 2 ≤ sizeLine; decide, fun r4 hr4 => ⟨by show 4 ≤ sizeLine; decide, fun o2 ho2 => ?_⟩⟩⟩⟩⟩
      have u1 := same_new hr1 (.tup (iv [0, 1, 3]))
      have u2 := same_new hr2 (.tup (iv [0, 2, 4]))
      have u3 := same_new hr3 (.tup (iv [0, 2, 5]))
      have u4 := same_new hr4 (.tup (iv [1, 3]))
      have u5 := same_new ho2 (.lst [V.ref r1, V.ref r2, V.ref r3, V.ref r4])
      have U4 := u4.trans u5
      have U3 := u3.trans U4
      have U2 := u2.trans U3
      refine ⟨.list ([lowL [0, 1, 4] [0, 2, 3], upL [0, 1, 4] [0, 2, 3], lowL [0, 3] [1, 2, 5], upL [0, 3] [1, 2, 5]].map encI), .list ([[0, 1, 3], [0, 2, 4], [0, 2, 5], [1, 3]].map encI),
        .lst (SqL.of (U2 _ _ (u1 _ _ hO))) (dp_tupsI (rs := [y1, y2, y3, y4]) (hT.same (u1.trans U2))), .lst (SqL.of upd_same) (dp_tupsI (rs := [r1, r2, r3, r4]) (.cons (SqT.of (U2 _ _ upd_same)) (.cons (SqT.of (U3 _ _ upd_same)) (.cons (SqT.of (U4 _ _ upd_same)) (.cons (SqT.of (u5 _ _ upd_same)) .nil))))), shaped_tupsIL _, shaped_tupsIL _, ?_⟩
      rw [show PyData.eqv (.list ([lowL [0, 1, 4] [0, 2, 3], upL [0, 1, 4] [0, 2, 3], lowL [0, 3] [1, 2, 5], upL [0, 3] [1, 2, 5]].map encI)) (.list ([[0, 1, 3], [0, 2, 4], [0, 2, 5], [1, 3]].map encI)) = true by decide +kernel]
      exact q _
end
end K78

namespace K78
open PySem PySem.Spec PyProof.Rows L2 RZ L5 Gv
/-! ### the end -/
theorem all_mk {l : PySem.W.OpenLaw} {w : World} {K : PySem.W.Frag} {h : Heap} {mg : Str → Option Value} {fa : Addr} (X : K.In h) (G : h.Ns mainGlobals mg) (hfa : mg "law" = some (.ref fa))
    {od_is_number an_is_number : Option Addr} {sl_is_number : Array (Option Value)} {oc_is_number kV_is_number dc_is_number pm_is_number cd_is_number ct_is_number : Value} {f_is_number : Addr}
    (a_is_number : PySem.W.nsIn K mainGlobals "is_number" = some (some (.ref f_is_number))) (l_is_number : K.lookup f_is_number = some ⟨oc_is_number, od_is_number, .func (PySem.W.fnOf "is_number" "is_number" (defArgs s_is_number) (defBody s_is_number) (defScope s_is_number) .none kV_is_number dc_is_number pm_is_number an_is_number cd_is_number ct_is_number), sl_is_number⟩) (c_is_number : PySem.W.codeIn K cd_is_number "is_number" = true) (k_is_number : PySem.W.keepIn K (.ref f_is_number) = true)
    {od_is_within an_is_within : Option Addr} {sl_is_within : Array (Option Value)} {oc_is_within kV_is_within dc_is_within pm_is_within cd_is_within ct_is_within : Value} {f_is_within : Addr}
    (a_is_within : PySem.W.nsIn K mainGlobals "is_within" = some (some (.ref f_is_within))) (l_is_within : K.lookup f_is_within = some ⟨oc_is_within, od_is_within, .func (PySem.W.fnOf "is_within" "is_within" (defArgs s_is_within) (defBody s_is_within) (defScope s_is_within) .none kV_is_within dc_is_within pm_is_within an_is_within cd_is_within ct_is_within), sl_is_within⟩) (c_is_within : PySem.W.codeIn K cd_is_within "is_within" = true) (k_is_within : PySem.W.keepIn K (.ref f_is_within) = true)
    {od_check_within an_check_within : Option Addr} {sl_check_within : Array (Option Value)} {oc_check_within kV_check_within dc_check_within pm_check_within cd_check_within ct_check_within : Value} {f_check_within : Addr}
    (a_check_within : PySem.W.nsIn K mainGlobals "check_within" = some (some (.ref f_check_within))) (l_check_within : K.lookup f_check_within = some ⟨oc_check_within, od_check_within, .func (PySem.W.fnOf "check_within" "check_within" (defArgs s_check_within) (defBody s_check_within) (defScope s_check_within) .none kV_check_within dc_check_within pm_check_within an_check_within cd_check_within ct_check_within), sl_check_within⟩) (c_check_within : PySem.W.codeIn K cd_check_within "check_within" = true) (k_check_within : PySem.W.keepIn K (.ref f_check_within) = true)
    {od_is_set an_is_set : Option Addr} {sl_is_set : Array (Option Value)} {oc_is_set kV_is_set dc_is_set pm_is_set cd_is_set ct_is_set : Value} {f_is_set : Addr}
    (a_is_set : PySem.W.nsIn K mainGlobals "is_set" = some (some (.ref f_is_set))) (l_is_set : K.lookup f_is_set = some ⟨oc_is_set, od_is_set, .func (PySem.W.fnOf "is_set" "is_set" (defArgs s_is_set) (defBody s_is_set) (defScope s_is_set) .none kV_is_set dc_is_set pm_is_set an_is_set cd_is_set ct_is_set), sl_is_set⟩) (c_is_set : PySem.W.codeIn K cd_is_set "is_set" = true) (k_is_set : PySem.W.keepIn K (.ref f_is_set) = true)
    {od_is_pure an_is_pure : Option Addr} {sl_is_pure : Array (Option Value)} {oc_is_pure kV_is_pure dc_is_pure pm_is_pure cd_is_pure ct_is_pure : Value} {f_is_pure : Addr}
    (a_is_pure : PySem.W.nsIn K mainGlobals "is_pure" = some (some (.ref f_is_pure))) (l_is_pure : K.lookup f_is_pure = some ⟨oc_is_pure, od_is_pure, .func (PySem.W.fnOf "is_pure" "is_pure" (defArgs s_is_pure) (defBody s_is_pure) (defScope s_is_pure) .none kV_is_pure dc_is_pure pm_is_pure an_is_pure cd_is_pure ct_is_pure), sl_is_pure⟩) (c_is_pure : PySem.W.codeIn K cd_is_pure "is_pure" = true) (k_is_pure : PySem.W.keepIn K (.ref f_is_pure) = true)
    {od_check_degrees an_check_degrees : Option Addr} {sl_check_degrees : Array (Option Value)} {oc_check_degrees kV_check_degrees dc_check_degrees pm_check_degrees cd_check_degrees ct_check_degrees : Value} {f_check_degrees : Addr}
    (a_check_degrees : PySem.W.nsIn K mainGlobals "check_degrees" = some (some (.ref f_check_degrees))) (l_check_degrees : K.lookup f_check_degrees = some ⟨oc_check_degrees, od_check_degrees, .func (PySem.W.fnOf "check_degrees" "check_degrees" (defArgs s_check_degrees) (defBody s_check_degrees) (defScope s_check_degrees) .none kV_check_degrees dc_check_degrees pm_check_degrees an_check_degrees cd_check_degrees ct_check_degrees), sl_check_degrees⟩) (c_check_degrees : PySem.W.codeIn K cd_check_degrees "check_degrees" = true) (k_check_degrees : PySem.W.keepIn K (.ref f_check_degrees) = true)
    {od_is_below an_is_below : Option Addr} {sl_is_below : Array (Option Value)} {oc_is_below kV_is_below dc_is_below pm_is_below cd_is_below ct_is_below : Value} {f_is_below : Addr}
    (a_is_below : PySem.W.nsIn K mainGlobals "is_below" = some (some (.ref f_is_below))) (l_is_below : K.lookup f_is_below = some ⟨oc_is_below, od_is_below, .func (PySem.W.fnOf "is_below" "is_below" (defArgs s_is_below) (defBody s_is_below) (defScope s_is_below) .none kV_is_below dc_is_below pm_is_below an_is_below cd_is_below ct_is_below), sl_is_below⟩) (c_is_below : PySem.W.codeIn K cd_is_below "is_below" = true) (k_is_below : PySem.W.keepIn K (.ref f_is_below) = true)
    {od_stands_below an_stands_below : Option Addr} {sl_stands_below : Array (Option Value)} {oc_stands_below kV_stands_below dc_stands_below pm_stands_below cd_stands_below ct_stands_below : Value} {f_stands_below : Addr}
    (a_stands_below : PySem.W.nsIn K mainGlobals "stands_below" = some (some (.ref f_stands_below))) (l_stands_below : K.lookup f_stands_below = some ⟨oc_stands_below, od_stands_below, .func (PySem.W.fnOf "stands_below" "stands_below" (defArgs s_stands_below) (defBody s_stands_below) (defScope s_stands_below) .none kV_stands_below dc_stands_below pm_stands_below an_stands_below cd_stands_below ct_stands_below), sl_stands_below⟩) (c_stands_below : PySem.W.codeIn K cd_stands_below "stands_below" = true) (k_stands_below : PySem.W.keepIn K (.ref f_stands_below) = true)
    {od_check_window an_check_window : Option Addr} {sl_check_window : Array (Option Value)} {oc_check_window kV_check_window dc_check_window pm_check_window cd_check_window ct_check_window : Value} {f_check_window : Addr}
    (a_check_window : PySem.W.nsIn K mainGlobals "check_window" = some (some (.ref f_check_window))) (l_check_window : K.lookup f_check_window = some ⟨oc_check_window, od_check_window, .func (PySem.W.fnOf "check_window" "check_window" (defArgs s_check_window) (defBody s_check_window) (defScope s_check_window) .none kV_check_window dc_check_window pm_check_window an_check_window cd_check_window ct_check_window), sl_check_window⟩) (c_check_window : PySem.W.codeIn K cd_check_window "check_window" = true) (k_check_window : PySem.W.keepIn K (.ref f_check_window) = true)
    {od_pure_degrees an_pure_degrees : Option Addr} {sl_pure_degrees : Array (Option Value)} {oc_pure_degrees kV_pure_degrees dc_pure_degrees pm_pure_degrees cd_pure_degrees ct_pure_degrees : Value} {f_pure_degrees : Addr}
    (a_pure_degrees : PySem.W.nsIn K mainGlobals "pure_degrees" = some (some (.ref f_pure_degrees))) (l_pure_degrees : K.lookup f_pure_degrees = some ⟨oc_pure_degrees, od_pure_degrees, .func (PySem.W.fnOf "pure_degrees" "pure_degrees" (defArgs s_pure_degrees) (defBody s_pure_degrees) (defScope s_pure_degrees) .none kV_pure_degrees dc_pure_degrees pm_pure_degrees an_pure_degrees cd_pure_degrees ct_pure_degrees), sl_pure_degrees⟩) (c_pure_degrees : PySem.W.codeIn K cd_pure_degrees "pure_degrees" = true) (k_pure_degrees : PySem.W.keepIn K (.ref f_pure_degrees) = true)
    {od_is_behind an_is_behind : Option Addr} {sl_is_behind : Array (Option Value)} {oc_is_behind kV_is_behind dc_is_behind pm_is_behind cd_is_behind ct_is_behind : Value} {f_is_behind : Addr}
    (a_is_behind : PySem.W.nsIn K mainGlobals "is_behind" = some (some (.ref f_is_behind))) (l_is_behind : K.lookup f_is_behind = some ⟨oc_is_behind, od_is_behind, .func (PySem.W.fnOf "is_behind" "is_behind" (defArgs s_is_behind) (defBody s_is_behind) (defScope s_is_behind) .none kV_is_behind dc_is_behind pm_is_behind an_is_behind cd_is_behind ct_is_behind), sl_is_behind⟩) (c_is_behind : PySem.W.codeIn K cd_is_behind "is_behind" = true) (k_is_behind : PySem.W.keepIn K (.ref f_is_behind) = true)
    {od_check_two_degrees an_check_two_degrees : Option Addr} {sl_check_two_degrees : Array (Option Value)} {oc_check_two_degrees kV_check_two_degrees dc_check_two_degrees pm_check_two_degrees cd_check_two_degrees ct_check_two_degrees : Value} {f_check_two_degrees : Addr}
    (a_check_two_degrees : PySem.W.nsIn K mainGlobals "check_two_degrees" = some (some (.ref f_check_two_degrees))) (l_check_two_degrees : K.lookup f_check_two_degrees = some ⟨oc_check_two_degrees, od_check_two_degrees, .func (PySem.W.fnOf "check_two_degrees" "check_two_degrees" (defArgs s_check_two_degrees) (defBody s_check_two_degrees) (defScope s_check_two_degrees) .none kV_check_two_degrees dc_check_two_degrees pm_check_two_degrees an_check_two_degrees cd_check_two_degrees ct_check_two_degrees), sl_check_two_degrees⟩) (c_check_two_degrees : PySem.W.codeIn K cd_check_two_degrees "check_two_degrees" = true) (k_check_two_degrees : PySem.W.keepIn K (.ref f_check_two_degrees) = true)
    {od_lower_of an_lower_of : Option Addr} {sl_lower_of : Array (Option Value)} {oc_lower_of kV_lower_of dc_lower_of pm_lower_of cd_lower_of ct_lower_of : Value} {f_lower_of : Addr}
    (a_lower_of : PySem.W.nsIn K mainGlobals "lower_of" = some (some (.ref f_lower_of))) (l_lower_of : K.lookup f_lower_of = some ⟨oc_lower_of, od_lower_of, .func (PySem.W.fnOf "lower_of" "lower_of" (defArgs s_lower_of) (defBody s_lower_of) (defScope s_lower_of) .none kV_lower_of dc_lower_of pm_lower_of an_lower_of cd_lower_of ct_lower_of), sl_lower_of⟩) (c_lower_of : PySem.W.codeIn K cd_lower_of "lower_of" = true) (k_lower_of : PySem.W.keepIn K (.ref f_lower_of) = true)
    {od_upper_of an_upper_of : Option Addr} {sl_upper_of : Array (Option Value)} {oc_upper_of kV_upper_of dc_upper_of pm_upper_of cd_upper_of ct_upper_of : Value} {f_upper_of : Addr}
    (a_upper_of : PySem.W.nsIn K mainGlobals "upper_of" = some (some (.ref f_upper_of))) (l_upper_of : K.lookup f_upper_of = some ⟨oc_upper_of, od_upper_of, .func (PySem.W.fnOf "upper_of" "upper_of" (defArgs s_upper_of) (defBody s_upper_of) (defScope s_upper_of) .none kV_upper_of dc_upper_of pm_upper_of an_upper_of cd_upper_of ct_upper_of), sl_upper_of⟩) (c_upper_of : PySem.W.codeIn K cd_upper_of "upper_of" = true) (k_upper_of : PySem.W.keepIn K (.ref f_upper_of) = true)
    {od_w_pot an_w_pot : Option Addr} {sl_w_pot : Array (Option Value)} {oc_w_pot kV_w_pot dc_w_pot pm_w_pot cd_w_pot ct_w_pot : Value} {f_w_pot : Addr}
    (a_w_pot : PySem.W.nsIn K mainGlobals "_law_pot" = some (some (.ref f_w_pot))) (l_w_pot : K.lookup f_w_pot = some ⟨oc_w_pot, od_w_pot, .func (PySem.W.fnOf "_law_pot" "_law_pot" (defArgs s_w_pot) (defBody s_w_pot) (defScope s_w_pot) .none kV_w_pot dc_w_pot pm_w_pot an_w_pot cd_w_pot ct_w_pot), sl_w_pot⟩) (c_w_pot : PySem.W.codeIn K cd_w_pot "_law_pot" = true) (k_w_pot : PySem.W.keepIn K (.ref f_w_pot) = true)
    {od_w_dip an_w_dip : Option Addr} {sl_w_dip : Array (Option Value)} {oc_w_dip kV_w_dip dc_w_dip pm_w_dip cd_w_dip ct_w_dip : Value} {f_w_dip : Addr}
    (a_w_dip : PySem.W.nsIn K mainGlobals "_law_dip" = some (some (.ref f_w_dip))) (l_w_dip : K.lookup f_w_dip = some ⟨oc_w_dip, od_w_dip, .func (PySem.W.fnOf "_law_dip" "_law_dip" (defArgs s_w_dip) (defBody s_w_dip) (defScope s_w_dip) .none kV_w_dip dc_w_dip pm_w_dip an_w_dip cd_w_dip ct_w_dip), sl_w_dip⟩) (c_w_dip : PySem.W.codeIn K cd_w_dip "_law_dip" = true) (k_w_dip : PySem.W.keepIn K (.ref f_w_dip) = true)
    {od_w_pick an_w_pick : Option Addr} {sl_w_pick : Array (Option Value)} {oc_w_pick kV_w_pick dc_w_pick pm_w_pick cd_w_pick ct_w_pick : Value} {f_w_pick : Addr}
    (a_w_pick : PySem.W.nsIn K mainGlobals "_law_pick" = some (some (.ref f_w_pick))) (l_w_pick : K.lookup f_w_pick = some ⟨oc_w_pick, od_w_pick, .func (PySem.W.fnOf "_law_pick" "_law_pick" (defArgs s_w_pick) (defBody s_w_pick) (defScope s_w_pick) .none kV_w_pick dc_w_pick pm_w_pick an_w_pick cd_w_pick ct_w_pick), sl_w_pick⟩) (c_w_pick : PySem.W.codeIn K cd_w_pick "_law_pick" = true) (k_w_pick : PySem.W.keepIn K (.ref f_w_pick) = true)
    {od_w_degrees an_w_degrees : Option Addr} {sl_w_degrees : Array (Option Value)} {oc_w_degrees kV_w_degrees dc_w_degrees pm_w_degrees cd_w_degrees ct_w_degrees : Value} {f_w_degrees : Addr}
    (a_w_degrees : PySem.W.nsIn K mainGlobals "_law_degrees" = some (some (.ref f_w_degrees))) (l_w_degrees : K.lookup f_w_degrees = some ⟨oc_w_degrees, od_w_degrees, .func (PySem.W.fnOf "_law_degrees" "_law_degrees" (defArgs s_w_degrees) (defBody s_w_degrees) (defScope s_w_degrees) .none kV_w_degrees dc_w_degrees pm_w_degrees an_w_degrees cd_w_degrees ct_w_degrees), sl_w_degrees⟩) (c_w_degrees : PySem.W.codeIn K cd_w_degrees "_law_degrees" = true) (k_w_degrees : PySem.W.keepIn K (.ref f_w_degrees) = true)
    {od_w_is_below an_w_is_below : Option Addr} {sl_w_is_below : Array (Option Value)} {oc_w_is_below kV_w_is_below dc_w_is_below pm_w_is_below cd_w_is_below ct_w_is_below : Value} {f_w_is_below : Addr}
    (a_w_is_below : PySem.W.nsIn K mainGlobals "_law_is_below" = some (some (.ref f_w_is_below))) (l_w_is_below : K.lookup f_w_is_below = some ⟨oc_w_is_below, od_w_is_below, .func (PySem.W.fnOf "_law_is_below" "_law_is_below" (defArgs s_w_is_below) (defBody s_w_is_below) (defScope s_w_is_below) .none kV_w_is_below dc_w_is_below pm_w_is_below an_w_is_below cd_w_is_below ct_w_is_below), sl_w_is_below⟩) (c_w_is_below : PySem.W.codeIn K cd_w_is_below "_law_is_below" = true) (k_w_is_below : PySem.W.keepIn K (.ref f_w_is_below) = true)
    {od_w_right an_w_right : Option Addr} {sl_w_right : Array (Option Value)} {oc_w_right kV_w_right dc_w_right pm_w_right cd_w_right ct_w_right : Value} {f_w_right : Addr}
    (a_w_right : PySem.W.nsIn K mainGlobals "_law_right" = some (some (.ref f_w_right))) (l_w_right : K.lookup f_w_right = some ⟨oc_w_right, od_w_right, .func (PySem.W.fnOf "_law_right" "_law_right" (defArgs s_w_right) (defBody s_w_right) (defScope s_w_right) .none kV_w_right dc_w_right pm_w_right an_w_right cd_w_right ct_w_right), sl_w_right⟩) (c_w_right : PySem.W.codeIn K cd_w_right "_law_right" = true) (k_w_right : PySem.W.keepIn K (.ref f_w_right) = true)
    {od_law an_law : Option Addr} {sl_law : Array (Option Value)} {oc_law kV_law dc_law pm_law cd_law ct_law : Value} {f_law : Addr}
    (a_law : PySem.W.nsIn K mainGlobals "law" = some (some (.ref f_law))) (l_law : K.lookup f_law = some ⟨oc_law, od_law, .func (PySem.W.fnOf "law" "law" (defArgs s_law) (defBody s_law) (defScope s_law) .none kV_law dc_law pm_law an_law cd_law ct_law), sl_law⟩) (c_law : PySem.W.codeIn K cd_law "law" = true) (k_law : PySem.W.keepIn K (.ref f_law) = true)
    (z_isinstance : PySem.W.nsIn K mainGlobals "isinstance" = some none)
    (z_int : PySem.W.nsIn K mainGlobals "int" = some none)
    (z_bool : PySem.W.nsIn K mainGlobals "bool" = some none)
    (z_tuple : PySem.W.nsIn K mainGlobals "tuple" = some none)
    (z_all : PySem.W.nsIn K mainGlobals "all" = some none)
    (z_zip : PySem.W.nsIn K mainGlobals "zip" = some none)
    (z_len : PySem.W.nsIn K mainGlobals "len" = some none)
    (z_range : PySem.W.nsIn K mainGlobals "range" = some none)
    (z_sorted : PySem.W.nsIn K mainGlobals "sorted" = some none)
    (z_min : PySem.W.nsIn K mainGlobals "min" = some none)
    (z_max : PySem.W.nsIn K mainGlobals "max" = some none)
    (z_abs : PySem.W.nsIn K mainGlobals "abs" = some none)
    (z_set : PySem.W.nsIn K mainGlobals "set" = some none)
    {t_MAX_STEP : Nat} (g_MAX_STEP : PySem.W.nsIn K mainGlobals "MAX_STEP" = some (some (.int 8 t_MAX_STEP)))
    {t_MAX_PLACE : Nat} (g_MAX_PLACE : PySem.W.nsIn K mainGlobals "MAX_PLACE" = some (some (.int 480 t_MAX_PLACE)))
    {t_MOST_LAST : Nat} (g_MOST_LAST : PySem.W.nsIn K mainGlobals "MOST_LAST" = some (some (.int 3 t_MOST_LAST)))
    {t_MOST_DEGREE : Nat} (g_MOST_DEGREE : PySem.W.nsIn K mainGlobals "MOST_DEGREE" = some (some (.int 5 t_MOST_DEGREE)))
    : ∃ fd : FuncData, (∀ (s : Shared) (v : Value), BindsTo s fd ⟨[v], []⟩ [("_law_script", v)]) ∧ ∀ base : Heap, K.In base → base.Ns mainGlobals mg → FnOk l.prog w K mg base CX0 9 fa fd ["_law_script"] (sp_law K) := by
  have e := hfa.symm.trans (PySem.W.mg_of X G a_law)
  cases e
  have F_is_number := fun_mk (st := s_is_number) l_is_number c_is_number k_is_number
  have b_is_number := F_is_number.binds (ps := ["value"]) fun _ _ _ _ _ _ us hl => match us, hl with | [_], _ => rfl
  have F_is_within := fun_mk (st := s_is_within) l_is_within c_is_within k_is_within
  have b_is_within := F_is_within.binds (ps := ["value", "least", "most"]) fun _ _ _ _ _ _ us hl => match us, hl with | [_, _, _], _ => rfl
  have F_check_within := fun_mk (st := s_check_within) l_check_within c_check_within k_check_within
  have b_check_within := F_check_within.binds (ps := ["value", "least", "most"]) fun _ _ _ _ _ _ us hl => match us, hl with | [_, _, _], _ => rfl
  have F_is_set := fun_mk (st := s_is_set) l_is_set c_is_set k_is_set
  have b_is_set := F_is_set.binds (ps := ["value", "many"]) fun _ _ _ _ _ _ us hl => match us, hl with | [_, _], _ => rfl
  have F_is_pure := fun_mk (st := s_is_pure) l_is_pure c_is_pure k_is_pure
  have b_is_pure := F_is_pure.binds (ps := ["value"]) fun _ _ _ _ _ _ us hl => match us, hl with | [_], _ => rfl
  have F_check_degrees := fun_mk (st := s_check_degrees) l_check_degrees c_check_degrees k_check_degrees
  have b_check_degrees := F_check_degrees.binds (ps := ["value"]) fun _ _ _ _ _ _ us hl => match us, hl with | [_], _ => rfl
  have F_is_below := fun_mk (st := s_is_below) l_is_below c_is_below k_is_below
  have b_is_below := F_is_below.binds (ps := ["value", "other"]) fun _ _ _ _ _ _ us hl => match us, hl with | [_, _], _ => rfl
  have F_stands_below := fun_mk (st := s_stands_below) l_stands_below c_stands_below k_stands_below
  have b_stands_below := F_stands_below.binds (ps := ["one", "other"]) fun _ _ _ _ _ _ us hl => match us, hl with | [_, _], _ => rfl
  have F_check_window := fun_mk (st := s_check_window) l_check_window c_check_window k_check_window
  have b_check_window := F_check_window.binds (ps := ["last", "most"]) fun _ _ _ _ _ _ us hl => match us, hl with | [_, _], _ => rfl
  have F_pure_degrees := fun_mk (st := s_pure_degrees) l_pure_degrees c_pure_degrees k_pure_degrees
  have b_pure_degrees := F_pure_degrees.binds (ps := ["last", "most"]) fun _ _ _ _ _ _ us hl => match us, hl with | [_, _], _ => rfl
  have F_is_behind := fun_mk (st := s_is_behind) l_is_behind c_is_behind k_is_behind
  have b_is_behind := F_is_behind.binds (ps := ["degree", "chosen"]) fun _ _ _ _ _ _ us hl => match us, hl with | [_, _], _ => rfl
  have F_check_two_degrees := fun_mk (st := s_check_two_degrees) l_check_two_degrees c_check_two_degrees k_check_two_degrees
  have b_check_two_degrees := F_check_two_degrees.binds (ps := ["one", "other"]) fun _ _ _ _ _ _ us hl => match us, hl with | [_, _], _ => rfl
  have F_lower_of := fun_mk (st := s_lower_of) l_lower_of c_lower_of k_lower_of
  have b_lower_of := F_lower_of.binds (ps := ["one", "other"]) fun _ _ _ _ _ _ us hl => match us, hl with | [_, _], _ => rfl
  have F_upper_of := fun_mk (st := s_upper_of) l_upper_of c_upper_of k_upper_of
  have b_upper_of := F_upper_of.binds (ps := ["one", "other"]) fun _ _ _ _ _ _ us hl => match us, hl with | [_, _], _ => rfl
  have F_w_pot := fun_mk (st := s_w_pot) l_w_pot c_w_pot k_w_pot
  have b_w_pot := F_w_pot.binds (ps := ["_law_script", "_law_at"]) fun _ _ _ _ _ _ us hl => match us, hl with | [_, _], _ => rfl
  have F_w_dip := fun_mk (st := s_w_dip) l_w_dip c_w_dip k_w_dip
  have b_w_dip := F_w_dip.binds (ps := ["_law_pot_here", "_law_total"]) fun _ _ _ _ _ _ us hl => match us, hl with | [_, _], _ => rfl
  have F_w_pick := fun_mk (st := s_w_pick) l_w_pick c_w_pick k_w_pick
  have b_w_pick := F_w_pick.binds (ps := ["_law_pot_here", "_law_items"]) fun _ _ _ _ _ _ us hl => match us, hl with | [_, _], _ => rfl
  have F_w_degrees := fun_mk (st := s_w_degrees) l_w_degrees c_w_degrees k_w_degrees
  have b_w_degrees := F_w_degrees.binds (ps := ["_law_pot_here", "_law_most"]) fun _ _ _ _ _ _ us hl => match us, hl with | [_, _], _ => rfl
  have F_w_is_below := fun_mk (st := s_w_is_below) l_w_is_below c_w_is_below k_w_is_below
  have b_w_is_below := F_w_is_below.binds (ps := ["_law_one", "_law_other"]) fun _ _ _ _ _ _ us hl => match us, hl with | [_, _], _ => rfl
  have F_w_right := fun_mk (st := s_w_right) l_w_right c_w_right k_w_right
  have b_w_right := F_w_right.binds (ps := ["_law_pot_here"]) fun _ _ _ _ _ _ us hl => match us, hl with | [_], _ => rfl
  have F_law := fun_mk (st := s_law) l_law c_law k_law
  have b_law := F_law.binds (ps := ["_law_script"]) fun _ _ _ _ _ _ us hl => match us, hl with | [_], _ => rfl
  let T : Txt K mg := ⟨_, _, F_is_number, b_is_number, PySem.W.mg_of X G a_is_number, _, _, F_is_within, b_is_within, PySem.W.mg_of X G a_is_within, _, _, F_check_within, b_check_within, PySem.W.mg_of X G a_check_within, _, _, F_is_set, b_is_set, PySem.W.mg_of X G a_is_set, _, _, F_is_pure, b_is_pure, PySem.W.mg_of X G a_is_pure, _, _, F_check_degrees, b_check_degrees, PySem.W.mg_of X G a_check_degrees, _, _, F_is_below, b_is_below, PySem.W.mg_of X G a_is_below, _, _, F_stands_below, b_stands_below, PySem.W.mg_of X G a_stands_below, _, _, F_check_window, b_check_window, PySem.W.mg_of X G a_check_window, _, _, F_pure_degrees, b_pure_degrees, PySem.W.mg_of X G a_pure_degrees, _, _, F_is_behind, b_is_behind, PySem.W.mg_of X G a_is_behind, _, _, F_check_two_degrees, b_check_two_degrees, PySem.W.mg_of X G a_check_two_degrees, _, _, F_lower_of, b_lower_of, PySem.W.mg_of X G a_lower_of, _, _, F_upper_of, b_upper_of, PySem.W.mg_of X G a_upper_of, _, _, F_w_pot, b_w_pot, PySem.W.mg_of X G a_w_pot, _, _, F_w_dip, b_w_dip, PySem.W.mg_of X G a_w_dip, _, _, F_w_pick, b_w_pick, PySem.W.mg_of X G a_w_pick, _, _, F_w_degrees, b_w_degrees, PySem.W.mg_of X G a_w_degrees, _, _, F_w_is_below, b_w_is_below, PySem.W.mg_of X G a_w_is_below, _, _, F_w_right, b_w_right, PySem.W.mg_of X G a_w_right, _, _, F_law, b_law, PySem.W.mg_of X G a_law, PySem.W.mg_none_of X G z_isinstance, PySem.W.mg_none_of X G z_int, PySem.W.mg_none_of X G z_bool, PySem.W.mg_none_of X G z_tuple, PySem.W.mg_none_of X G z_all, PySem.W.mg_none_of X G z_zip, PySem.W.mg_none_of X G z_len, PySem.W.mg_none_of X G z_range, PySem.W.mg_none_of X G z_sorted, PySem.W.mg_none_of X G z_min, PySem.W.mg_none_of X G z_max, PySem.W.mg_none_of X G z_abs, PySem.W.mg_none_of X G z_set, _, PySem.W.mg_of X G g_MAX_STEP, _, PySem.W.mg_of X G g_MAX_PLACE, _, PySem.W.mg_of X G g_MOST_LAST, _, PySem.W.mg_of X G g_MOST_DEGREE⟩
  exact ⟨_, fun s v => .of_eq rfl, fun base _ _ => ok_law T⟩
end K78
open PySem PySem.W PyProof.Rows
set_option maxRecDepth 100000 in
set_option maxHeartbeats 0 in
theorem PySem.Challenge.cw_pureladders_k78_whole_lower_and_upper_de_holds : PySem.Challenge.rw_pureladders_k78_whole_lower_and_upper_de.Holds := by
  w_on; o_law; k_head; (case hw => w_witness2)
  k_fill
  refine L2.walk_of (l := PySem.Challenge.rw_pureladders_k78_whole_lower_and_upper_de) (n := 63) (k := 9) (x := "_law_script") (CX := fun _ => L2.CX0) (sp := fun w => K78.sp_law _) rfl (by decide) rfl ⟨rfl, by decide, by decide⟩ (fun w h Y => PySem.W.kIn_of Y) ?F (fun _ _ a ns hl _ hS => ⟨a, ns, rfl, hS, hl, fun _ => rfl⟩) (fun _ _ _ _ _ h => h)
  case F =>
    intro w mg fa h KX G hmg
    refine' K78.all_mk KX G hmg ?a_is_number ?l_is_number ?c_is_number ?k_is_number ?a_is_within ?l_is_within ?c_is_within ?k_is_within ?a_check_within ?l_check_within ?c_check_within ?k_check_within ?a_is_set ?l_is_set ?c_is_set ?k_is_set ?a_is_pure ?l_is_pure ?c_is_pure ?k_is_pure ?a_check_degrees ?l_check_degrees ?c_check_degrees ?k_check_degrees ?a_is_below ?l_is_below ?c_is_below ?k_is_below ?a_stands_below ?l_stands_below ?c_stands_below ?k_stands_below ?a_check_window ?l_check_window ?c_check_window ?k_check_window ?a_pure_degrees ?l_pure_degrees ?c_pure_degrees ?k_pure_degrees ?a_is_behind ?l_is_behind ?c_is_behind ?k_is_behind ?a_check_two_degrees ?l_check_two_degrees ?c_check_two_degrees ?k_check_two_degrees ?a_lower_of ?l_lower_of ?c_lower_of ?k_lower_of ?a_upper_of ?l_upper_of ?c_upper_of ?k_upper_of ?a_w_pot ?l_w_pot ?c_w_pot ?k_w_pot ?a_w_dip ?l_w_dip ?c_w_dip ?k_w_dip ?a_w_pick ?l_w_pick ?c_w_pick ?k_w_pick ?a_w_degrees ?l_w_degrees ?c_w_degrees ?k_w_degrees ?a_w_is_below ?l_w_is_below ?c_w_is_below ?k_w_is_below ?a_w_right ?l_w_right ?c_w_right ?k_w_right ?a_law ?l_law ?c_law ?k_law ?z_isinstance ?z_int ?z_bool ?z_tuple ?z_all ?z_zip ?z_len ?z_range ?z_sorted ?z_min ?z_max ?z_abs ?z_set ?g_MAX_STEP ?g_MAX_PLACE ?g_MOST_LAST ?g_MOST_DEGREE
    (case a_is_number => k_is)
    (case l_is_number => k_is)
    (case c_is_number => k_is)
    (case k_is_number => k_is)
    (case a_is_within => k_is)
    (case l_is_within => k_is)
    (case c_is_within => k_is)
    (case k_is_within => k_is)
    (case a_check_within => k_is)
    (case l_check_within => k_is)
    (case c_check_within => k_is)
    (case k_check_within => k_is)
    (case a_is_set => k_is)
    (case l_is_set => k_is)
    (case c_is_set => k_is)
    (case k_is_set => k_is)
    (case a_is_pure => k_is)
    (case l_is_pure => k_is)
    (case c_is_pure => k_is)
    (case k_is_pure => k_is)
    (case a_check_degrees => k_is)
    (case l_check_degrees => k_is)
    (case c_check_degrees => k_is)
    (case k_check_degrees => k_is)
    (case a_is_below => k_is)
    (case l_is_below => k_is)
    (case c_is_below => k_is)
    (case k_is_below => k_is)
    (case a_stands_below => k_is)
    (case l_stands_below => k_is)
    (case c_stands_below => k_is)
    (case k_stands_below => k_is)
    (case a_check_window => k_is)
    (case l_check_window => k_is)
    (case c_check_window => k_is)
    (case k_check_window => k_is)
    (case a_pure_degrees => k_is)
    (case l_pure_degrees => k_is)
    (case c_pure_degrees => k_is)
    (case k_pure_degrees => k_is)
    (case a_is_behind => k_is)
    (case l_is_behind => k_is)
    (case c_is_behind => k_is)
    (case k_is_behind => k_is)
    (case a_check_two_degrees => k_is)
    (case l_check_two_degrees => k_is)
    (case c_check_two_degrees => k_is)
    (case k_check_two_degrees => k_is)
    (case a_lower_of => k_is)
    (case l_lower_of => k_is)
    (case c_lower_of => k_is)
    (case k_lower_of => k_is)
    (case a_upper_of => k_is)
    (case l_upper_of => k_is)
    (case c_upper_of => k_is)
    (case k_upper_of => k_is)
    (case a_w_pot => k_is)
    (case l_w_pot => k_is)
    (case c_w_pot => k_is)
    (case k_w_pot => k_is)
    (case a_w_dip => k_is)
    (case l_w_dip => k_is)
    (case c_w_dip => k_is)
    (case k_w_dip => k_is)
    (case a_w_pick => k_is)
    (case l_w_pick => k_is)
    (case c_w_pick => k_is)
    (case k_w_pick => k_is)
    (case a_w_degrees => k_is)
    (case l_w_degrees => k_is)
    (case c_w_degrees => k_is)
    (case k_w_degrees => k_is)
    (case a_w_is_below => k_is)
    (case l_w_is_below => k_is)
    (case c_w_is_below => k_is)
    (case k_w_is_below => k_is)
    (case a_w_right => k_is)
    (case l_w_right => k_is)
    (case c_w_right => k_is)
    (case k_w_right => k_is)
    (case a_law => k_is)
    (case l_law => k_is)
    (case c_law => k_is)
    (case k_law => k_is)
    (case z_isinstance => k_is)
    (case z_int => k_is)
    (case z_bool => k_is)
    (case z_tuple => k_is)
    (case z_all => k_is)
    (case z_zip => k_is)
    (case z_len => k_is)
    (case z_range => k_is)
    (case z_sorted => k_is)
    (case z_min => k_is)
    (case z_max => k_is)
    (case z_abs => k_is)
    (case z_set => k_is)
    (case g_MAX_STEP => k_is)
    (case g_MAX_PLACE => k_is)
    (case g_MOST_LAST => k_is)
    (case g_MOST_DEGREE => k_is)
