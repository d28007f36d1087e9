import PyProof.Rows.All
import Wide.All
import OpenK.AllK
import Wide.FinOn
import HandS.Base
import HandS.Call
import HandS.List
import HandS.Comp
import HandS.Ends
import HandS.Iter
import HandS.Words
import HandS.WordsList
import HandS.TupMul
import HandS.TupAny
import HandS.IsInst
import HandS.Zip
import HandS.Style
import HandS.Wide
import HandS.GenList
import KE.KTupSum
import KE.KEqSeq
import HandS.TupSets
import HandS.Dict
import HandS.More
import KE.KRevSl
import HandS.Flow
import HandS.Conv
import PySem.Challenge.RW_pureladders_k61_whole_degrees_below_othe
set_option Elab.async false
set_option linter.all false
set_option maxRecDepth 100000
set_option maxHeartbeats 4000000
/-! rules that the layer lacks -/
namespace L5
open PySem PySem.Spec PyProof.Rows L2
/-! ### powers of great numbers -/
def CPowW (i j : Int) : Prop := 0 ≤ j ∧ (Builtin.Int.intBits i : Int) * j ≤ 2 ^ 27
theorem op_powW {X : Cx} : OpR X (binaryOp .Pow) (rI CPowW fun i j => .int (i ^ j.toNat)) := opI fun _ _ _ _ _ _ _ hc q => pow_int hc.1 hc.2 q
/-! ### sum and max of a tuple of ints -/
section
variable {pr : Program} {wd : World} {A : Around} {E : Value → Shared → Prop} {s : Shared} {tp : Addr} {us : List Value} {ms : List Int} {G : Value → Shared → Prop}
/-- a row of ints, as the library's walks want it -/
theorem items_of (hi : IntsAre us ms) : ∃ ws : Array (Int × Tok), us.toArray = intItems ws ∧ ws.toList.map (·.1) = ms := by
  obtain ⟨ws, ew⟩ := hi.allInts.items
  refine ⟨ws, ew, ?_⟩
  rw [← nums_intItems, ← ew]
  exact hi.numsOf
abbrev Stays (s : Shared) (h : Heap) : Prop := ∀ b o, s.heap.get? b = some o → h.get? b = some o
theorem sum_of_tuple (hh : A.handled = none) (ht : s.heap.IsTuple tp us.toArray) (hi : IntsAre us ms) (q : ∀ h n t, Stays s h → G (.int ms.sum t) { s with heap := h, toks := n }) :
    wpAny (model pr wd) A (call (.builtin "sum") [.ref tp]) G E s := by
  obtain ⟨ws, ew, en⟩ := items_of hi
  rw [ew] at ht
  refine PySem.W.ktm_sumG hh ht fun h n t kept => ?_
  have g := q h n t kept
  rw [← en] at g
  rw [preSum_eq, List.take_of_length_le (by rw [List.length_map, Array.length_toList]; exact Nat.le_refl _)]
  exact g
theorem max_of_tuple (hh : A.handled = none) (ht : s.heap.IsTuple tp us.toArray) (hi : IntsAre us ms) (some1 : 0 < ms.length) (q : ∀ h n M t, Stays s h → M ∈ ms → (∀ a, a ∈ ms → a ≤ M) → G (.int M t) { s with heap := h, toks := n }) :
    wpAny (model pr wd) A (call (.builtin "max") [.ref tp]) G E s := by
  obtain ⟨ws, ew, en⟩ := items_of hi
  subst en
  rw [ew] at ht
  have pos : 0 < ws.size := by simpa using some1
  have esz : (intItems ws).size = ws.size := by simp [intItems]
  obtain ⟨ob, hob, _⟩ := id ht
  have apart : tp ≠ s.heap.objs.size := Nat.ne_of_lt (Heap.lt_size hob)
  refine call_max_walk (wpAny_pyIter_tuple ht ?_)
  refine ⟨_, _, _, _, _, _, _, rfl, Walks.tuple (A := A.in1) hh s.heap.objs.size tp apart (intItems ws), ⟨⟨_, Heap.get?_push_size _ rfl, rfl, rfl⟩, ht.at fun o e => Heap.get?_push_of_some _ e⟩, fun b hb => ?_, by rw [esz]; exact pos, CmpOf.ints_gt (numAt ws) (fun _ _ => intItems_at), fun v h n hv kept => ?_⟩
  · have two : b = s.heap.objs.size ∨ b = tp := by simpa using hb
    rcases two with rfl | rfl
    · exact Heap.lt_size (o := _) (Heap.get?_push_size _ rfl)
    · exact Heap.lt_size (o := ob) (Heap.get?_push_of_some _ hob)
  · obtain ⟨t, rfl⟩ := intItems_at hv
    rw [esz] at *
    obtain ⟨top1, top2⟩ := argBest_gt (numAt ws) (ws.size - 1)
    have at_of : ∀ i, numAt ws i = (ws.toList.map (·.1)).getD i 0 := fun i => numAt_eq ..
    refine q h n _ t (fun b o e => kept b o (fun hb => ?_) (Heap.get?_push_of_some _ e)) ?_ fun a ha => ?_
    · rw [List.mem_singleton.mp hb] at e
      exact Nat.lt_irrefl _ (Heap.lt_size e)
    · rw [at_of]
      refine PySem.getD_mem ?_
      rw [List.length_map, Array.length_toList]
      omega
    · obtain ⟨i, less, rfl⟩ := mem_getD ha
      rw [List.length_map, Array.length_toList] at less
      rw [← at_of]
      exact top2 i (by omega)
end
section
variable {X : Cx}
def rSumT (K : PySem.W.Frag) : List V → Hp → VK → Prop := fun vs H Q => ∃ (a : Addr) (ns : List Int), vs = [V.ref a] ∧ SqT K H a (ns.map V.int) ∧ Q (.int ns.sum) H
theorem cr_sumT (calm : X.calm = true) : CallR X (.builtin "sum") (rSumT X.K) := fun _ _ _ _ _ _ _ I r h => by
  obtain ⟨_, _, rfl, ht, q⟩ := h
  obtain ⟨_, rv, plain, _⟩ := I.tuple ht
  rw [Vals.ref1 r]
  exact sum_of_tuple (I.ok.hd calm) plain rv.ints fun _ _ _ kept => ⟨.int _, _, I.kept kept, ⟨_, rfl⟩, q⟩
def rMaxT (K : PySem.W.Frag) : List V → Hp → VK → Prop := fun vs H Q => ∃ (a : Addr) (ns : List Int), vs = [V.ref a] ∧ SqT K H a (ns.map V.int) ∧ 0 < ns.length ∧ ∀ m, m ∈ ns → (∀ y, y ∈ ns → y ≤ m) → Q (.int m) H
theorem cr_maxT (calm : X.calm = true) : CallR X (.builtin "max") (rMaxT X.K) := fun _ _ _ _ _ _ _ I r h => by
  obtain ⟨_, _, rfl, ht, some1, q⟩ := h
  obtain ⟨_, rv, plain, _⟩ := I.tuple ht
  rw [Vals.ref1 r]
  exact max_of_tuple (I.ok.hd calm) plain rv.ints some1 fun _ _ m _ kept g1 g2 => ⟨.int m, _, I.kept kept, ⟨_, rfl⟩, q m g1 g2⟩
end
/-! ### tuple * int, any int: the tuple itself, the empty one, or a longer one -/
abbrev tupObj (items : Array Value) (n : Nat) (dd : Option Addr) (sl : Array (Option Value)) : Obj := { cls := .type "tuple", dict := dd, data := .seq items n, slots := sl }
theorem off_of {b : Bool} (h : b = false) : decide (b = true) = false := decide_eq_false (Bool.eq_false_iff.mp h)
theorem mul_same (tp : Addr) (items : Array Value) (n : Nat) (dd : Option Addr) (sl : Array (Option Value)) (x : Int) (u : Tok) (fits : (decide (x < -(2 ^ 63)) || decide (x ≥ 2 ^ 63)) = false) (same : (items.isEmpty || x == 1) = true) :
    Meets (Builtin.«tuple.__mul__» ⟨[.ref tp, .int x u], []⟩) (fun _ R s => s.heap.get? tp = some (tupObj items n dd sl) ∧ R (.ok (.ret (Value.ref tp))) { s with heap := s.heap, toks := s.toks }) :=
  .of_wp fun _ _ _ _ st both => by
    obtain ⟨_, _, _, _, _⟩ := st
    obtain ⟨at1, q⟩ := both
    have ix := AutoSeq1.idx_int
    wp_walk using wpAny_loadPart' at1
    repeat (first
      | (refine wpAny_ite_false (off_of fits) ?_; wp_walk using wpAny_loadPart' at1)
      | (refine wpAny_ite_true (decide_eq_true same) ?_; wp_walk using wpAny_loadPart' at1))
    exact ⟨_, rfl, q⟩
theorem mul_none (tp : Addr) (items : Array Value) (n : Nat) (dd : Option Addr) (sl : Array (Option Value)) (x : Int) (u : Tok) (fits : (decide (x < -(2 ^ 63)) || decide (x ≥ 2 ^ 63)) = false) (other : (items.isEmpty || x == 1) = false) (less : (decide (x ≤ 0) || items.isEmpty) = true) :
    Meets (Builtin.«tuple.__mul__» ⟨[.ref tp, .int x u], []⟩) (fun _ R s => s.heap.get? tp = some (tupObj items n dd sl) ∧
      R (.ok (.ret (Value.ref s.heap.objs.size))) { s with heap := s.heap.push { cls := Value.type "tuple", data := Data.seq #[] }, toks := s.toks }) :=
  .of_wp fun _ _ _ _ st both => by
    obtain ⟨_, _, _, _, _⟩ := st
    obtain ⟨at1, q⟩ := both
    have ix := AutoSeq1.idx_int
    wp_walk using wpAny_loadPart' at1
    repeat (first
      | (refine wpAny_ite_false (off_of fits) ?_; wp_walk using wpAny_loadPart' at1)
      | (refine wpAny_ite_false (off_of other) ?_; wp_walk using wpAny_loadPart' at1)
      | (refine wpAny_ite_true (decide_eq_true less) ?_; wp_walk using wpAny_loadPart' at1))
    exact ⟨_, rfl, q⟩
def rRepA (K : PySem.W.Frag) : R2 := fun x y H Q => ∃ l k xs, x = .ref l ∧ y = .int k ∧ SqT K H l xs ∧ xs ≠ [] ∧ -1000 ≤ k ∧ k ≤ 1000 ∧ xs.length ≤ 1000 ∧
  (k = 1 → Q (.ref l) H) ∧ (k ≠ 1 → ∀ p, H p = none → Q (.ref p) (upd H p (.tup (List.replicate k.toNat xs).flatten)))
section
variable {X : Cx}
theorem op_repA : OpR X (binaryOp .Mult) (rRepA X.K) := fun pins s σ H x y v u Q I rx ry h => by
  obtain ⟨tp, k, xs, rfl, rfl, isT, full, lo, hi, short, qa, qb⟩ := h
  by_cases two : 2 ≤ k
  · exact op_repT pins s σ H _ _ v u Q I rx ry ⟨tp, k, xs, rfl, rfl, isT, full, two, hi, short, qb (by omega)⟩
  cases rx
  obtain ⟨tk, rfl⟩ := ry
  obtain ⟨its, r, ⟨⟨c, dd, dt, sl⟩, ho, hc, n, hd⟩, _⟩ := I.tuple isT
  simp only at hc hd
  subst hc hd
  have filled : its.toArray.isEmpty = false := by
    cases its with
    | nil =>
      cases r
      exact absurd rfl full
    | cons _ _ => rfl
  have fits : (decide (k < -(2 ^ 63)) || decide (k ≥ 2 ^ 63)) = false := Bool.or_eq_false_iff.mpr ⟨decide_eq_false (by omega), decide_eq_false (by omega)⟩
  by_cases one : k = 1
  · subst one
    refine wpAny_binaryOp_repeat_ref (T := "tuple") (U := "int") (by decide) ⟨_, ho, rfl⟩ (fun z => typeIs_int z _ tk) noFill_tuple_mul F.fills_int_mul F.slot_int_rmul repeat_tuple F.slot_int_index.lookup
      (call_meets F.slot_int_rmul (typeIs_int s _ tk) F.entry_int_rmul (F.args_int_rmul_2 _ _) (int_rmul_tuple _ tk tp its.toArray n dd sl)
        ⟨ho, rfl, ⟨_, ho, rfl⟩, call_meets F.slot_tuple_mul ⟨_, ho, rfl⟩ F.entry_tuple_mul (F.args_tuple_mul_2 _ _) (mul_same tp its.toArray n dd sl 1 tk fits (by rw [filled]; rfl)) ⟨ho, ?_⟩⟩)
    exact ⟨.ref tp, H, I, rfl, qa rfl⟩
  · have other : (its.toArray.isEmpty || k == 1) = false := Bool.or_eq_false_iff.mpr ⟨filled, beq_eq_false_iff_ne.mpr one⟩
    have less : (decide (k ≤ 0) || its.toArray.isEmpty) = true := Bool.or_eq_true_iff.mpr (.inl (decide_eq_true (by omega)))
    refine wpAny_binaryOp_repeat_ref (T := "tuple") (U := "int") (by decide) ⟨_, ho, rfl⟩ (fun z => typeIs_int z k tk) noFill_tuple_mul F.fills_int_mul F.slot_int_rmul repeat_tuple F.slot_int_index.lookup
      (call_meets F.slot_int_rmul (typeIs_int s k tk) F.entry_int_rmul (F.args_int_rmul_2 _ _) (int_rmul_tuple k tk tp its.toArray n dd sl)
        ⟨ho, rfl, ⟨_, ho, rfl⟩, call_meets F.slot_tuple_mul ⟨_, ho, rfl⟩ F.entry_tuple_mul (F.args_tuple_mul_2 _ _) (mul_none tp its.toArray n dd sl k tk fits other less) ⟨ho, ?_⟩⟩)
    have e0 : (List.replicate k.toNat xs).flatten = [] := by
      rw [show k.toNat = 0 by omega]
      rfl
    have q := qb one s.heap.objs.size (I.hok.fresh (Nat.le_refl _))
    rw [e0] at q
    exact ⟨.ref s.heap.objs.size, _, I.laid (t' := s.toks) (o := .tup []) (fun _ _ e => Heap.get?_push_of_some _ e) (Nat.le_refl _) ⟨Nat.zero_le _, [], .nil, IsTup.new _ _⟩, rfl, q⟩
end
/-! ### words for what stands in the heap -/
section
variable {K : PySem.W.Frag} {H H' : Hp}
abbrev nv (t : List Nat) : List V := t.map fun n => V.int ((n : Nat) : Int)
theorem nv_ints (t : List Nat) : nv t = (t.map fun n => ((n : Nat) : Int)).map V.int := by
  rw [List.map_map]
  rfl
theorem nv_len (t : List Nat) : (nv t).length = t.length := List.length_map _
theorem nv_app (t u : List Nat) : nv (t ++ u) = nv t ++ nv u := List.map_append
theorem nv_get {t : List Nat} {i : Nat} {x : V} (h : (nv t)[i]? = some x) : ∃ n, t[i]? = some n ∧ x = .int ((n : Nat) : Int) := by
  rw [List.getElem?_map] at h
  cases e : t[i]? with
  | none =>
    rw [e] at h
    cases h
  | some n =>
    rw [e] at h
    exact ⟨n, rfl, (Option.some.inj h).symm⟩
theorem nv_at {t : List Nat} {i n : Nat} (h : t[i]? = some n) : atI (nv t) (i : Int) = some (.int ((n : Nat) : Int)) := atI_nat (by rw [List.getElem?_map, h] <;> rfl)
theorem sizeK {n : Nat} (h : n ≤ 1000000) : n < sizeLine := Nat.lt_of_le_of_lt h (by decide)
theorem same_updL {p : Addr} {o : HO} (s : Same H H') (hp : H p = none) : Same H (upd H' p o) := fun b u q => by
  rw [upd_ne (ne_of_none q hp)]
  exact s b u q
theorem sqt_updL {a p : Addr} {xs ys : List V} {o : HO} (hp : H p = some (.lst ys)) (h : SqT K H a xs) : SqT K (upd H p o) a xs := by
  have ne : ∀ u, H a = some u → u ≠ .lst ys → a ≠ p := fun u e n z => by
    rw [z, hp] at e
    exact n (Option.some.inj e).symm
  rcases h with (h | ⟨o, h⟩) | h
  · exact .inl (.inl (by rw [upd_ne (ne _ h (by intro z; cases z))]; exact h))
  · exact .inl (.inr ⟨o, by rw [upd_ne (ne _ h (by intro z; cases z))]; exact h⟩)
  · exact .inr h
theorem sql_updL {a p : Addr} {xs : List V} {o : HO} (hne : a ≠ p) (h : SqL K H a xs) : SqL K (upd H p o) a xs := by
  rcases h with (h | ⟨o, h⟩) | h
  · exact .inl (.inl (by rw [upd_ne hne]; exact h))
  · exact .inl (.inr ⟨o, by rw [upd_ne hne]; exact h⟩)
  · exact .inr h
theorem sum_cast (t : List Nat) : (t.map fun n => ((n : Nat) : Int)).sum = ((t.sum : Nat) : Int) := by
  induction t with
  | nil => rfl
  | cons x r ih => rw [List.map_cons, List.sum_cons, List.sum_cons, ih]; omega
theorem same_sqt {a : Addr} {xs : List V} (e : Same H H') (h : SqT K H a xs) : SqT K H' a xs := by
  rcases h with (h | ⟨o, h⟩) | h
  · exact .inl (.inl (e _ _ h))
  · exact .inl (.inr ⟨o, e _ _ h⟩)
  · exact .inr h
theorem same_new {p : Addr} (h : H p = none) (o : HO) : Same H (upd H p o) := fun b u q => by rw [upd_ne (ne_of_none q h)]; exact q
def Tups (K : PySem.W.Frag) (H : Hp) : List Addr → List (List Nat) → Prop := Paired fun a t => SqT K H a (nv t)
theorem Tups.same (e : Same H H') : ∀ {rs : List Addr} {L : List (List Nat)}, Tups K H rs L → Tups K H' rs L
  | _, _, .nil => .nil
  | _, _, .cons h t => .cons (same_sqt e h) (Tups.same e t)
theorem Tups.updL {p : Addr} {ys : List V} {o : HO} (hp : H p = some (.lst ys)) : ∀ {rs : List Addr} {L : List (List Nat)}, Tups K H rs L → Tups K (upd H p o) rs L
  | _, _, .nil => .nil
  | _, _, .cons h t => .cons (sqt_updL hp h) (Tups.updL hp t)
theorem Tups.length : ∀ {rs : List Addr} {L : List (List Nat)}, Tups K H rs L → rs.length = L.length
  | _, _, .nil => rfl
  | _, _, .cons _ t => congrArg (· + 1) (Tups.length t)
theorem Tups.app : ∀ {rs qs : List Addr} {L M : List (List Nat)}, Tups K H rs L → Tups K H qs M → Tups K H (rs ++ qs) (L ++ M)
  | _, _, _, _, .nil, s => s
  | _, _, _, _, .cons r t, s => .cons r (Tups.app t s)
theorem Tups.rev {rs : List Addr} {L : List (List Nat)} (h : Tups K H rs L) : Tups K H rs.reverse L.reverse := by
  induction h with
  | nil => exact .nil
  | cons r t ih =>
    rw [List.reverse_cons, List.reverse_cons]
    exact ih.app (.cons r .nil)
theorem Tups.get : ∀ {rs : List Addr} {L : List (List Nat)} {i : Nat} {a : Addr}, Tups K H rs L → rs[i]? = some a → ∃ t, L[i]? = some t ∧ SqT K H a (nv t)
  | _, _, _, _, .nil, e => by simp at e
  | _, _, 0, _, .cons r _, e => by simp at e; subst e; exact ⟨_, rfl, r⟩
  | _, _, i + 1, a, .cons _ t, e => by
    obtain ⟨u, h1, h2⟩ := Tups.get (i := i) (a := a) t (by simpa using e)
    exact ⟨u, by simpa using h1, h2⟩
theorem sqt_ty {a : Addr} {xs : List V} (h : SqT K H a xs) : TyX K H (.ref a) (.type "tuple") := by
  rcases h with (h | ⟨o, h⟩) | ⟨o, its, n, e, c, _⟩
  · exact .base (.tup h)
  · exact .fTuple h
  · exact .kTuple e c
/-- as data -/
abbrev encT (t : List Nat) : PyData := .tuple (t.map fun n => PyData.int ((n : Nat) : Int))
theorem dp_nats : ∀ (t : List Nat), DpAll K H (nv t) (t.map fun n => PyData.int ((n : Nat) : Int))
  | [] => .nil
  | n :: t => .cons (.int _) (dp_nats t)
theorem dp_tup {a : Addr} {t : List Nat} (h : SqT K H a (nv t)) : Dp K H (.ref a) (encT t) := .tup h (dp_nats t)
theorem dp_tups : ∀ {rs : List Addr} {L : List (List Nat)}, Tups K H rs L → DpAll K H (rs.map V.ref) (L.map encT)
  | _, _, .nil => .nil
  | _, _, .cons h t => .cons (dp_tup h) (dp_tups t)
theorem can_nats : ∀ t : List Nat, PyData.canLayAll0 (t.map fun n => PyData.int ((n : Nat) : Int)) = true ∧ PyData.depthAll (t.map fun n => PyData.int ((n : Nat) : Int)) = 0
  | [] => by simp [PyData.canLayAll0, PyData.depthAll]
  | n :: t => by
    have h := can_nats t
    simp only [List.map_cons, PyData.canLayAll0, PyData.depthAll, h.1, h.2, PyData.canLay0, PyData.depth]
    simp
theorem can_tups : ∀ L : List (List Nat), PyData.canLayAll0 (L.map encT) = true ∧ PyData.depthAll (L.map encT) ≤ 1
  | [] => by simp [PyData.canLayAll0, PyData.depthAll]
  | t :: L => by
    have h := can_tups L
    have g := can_nats t
    simp only [List.map_cons, PyData.canLayAll0, PyData.depthAll, h.1, PyData.canLay0, PyData.depth, g.1, g.2]
    exact ⟨by simp, by omega⟩
theorem shaped_tups (L : List (List Nat)) : SeqAt.shaped (.list (L.map encT)) = true := by
  have h := can_tups L
  unfold SeqAt.shaped
  simp only [PyData.canLay0, PyData.depth, h.1, Bool.true_and]
  exact decide_eq_true (by omega)
theorem eqv_tups (L : List (List Nat)) : PyData.eqv (.list (L.map encT)) (.list (L.map encT)) = true := SeqAt.eqv_refl _ (by
  simp only [PyData.canLay0]
  exact (can_tups L).1)
theorem shaped_tup (t : List Nat) : SeqAt.shaped (encT t) = true := by
  have g := can_nats t
  unfold SeqAt.shaped
  simp only [encT, PyData.canLay0, PyData.depth, g.1, g.2, Bool.true_and]
  exact decide_eq_true (by omega)
theorem eqv_tup (t : List Nat) : PyData.eqv (encT t) (encT t) = true := SeqAt.eqv_refl _ (by
  simp only [encT, PyData.canLay0]
  exact (can_nats t).1)
end
end L5

/-! sorted of a list of tuples of ints, of unlike lengths, none of them empty -/
namespace TM
open PySem PyProof.Rows TS
/-- the place of a tuple of up to m ints in [0, B) in the order of tuples -/
def cod (B : Int) : Nat → List Int → Int
  | 0, _ => 0
  | _ + 1, [] => 0
  | m + 1, d :: r => (d + 1) * (B + 1) ^ m + cod B m r
theorem cod_bd {B : Int} (hB : 0 ≤ B) : ∀ (m : Nat) (ns : List Int), Bd B ns → 0 ≤ cod B m ns ∧ cod B m ns < (B + 1) ^ m
  | 0, ns, _ => by
    constructor
    · show (0 : Int) ≤ 0; exact Int.le_refl _
    · show (0 : Int) < (B + 1) ^ 0
      rw [Int.pow_zero]; decide
  | m + 1, [], _ => by
    constructor
    · show (0 : Int) ≤ 0; exact Int.le_refl _
    · show (0 : Int) < (B + 1) ^ (m + 1)
      exact Int.pow_pos (by omega)
  | m + 1, d :: r, h => by
    obtain ⟨c0, c1⟩ := cod_bd hB m r h.tail
    obtain ⟨d0, d1⟩ := h.head
    show 0 ≤ (d + 1) * (B + 1) ^ m + cod B m r ∧ (d + 1) * (B + 1) ^ m + cod B m r < (B + 1) ^ (m + 1)
    rw [Int.pow_succ]
    exact num1 c0 c1 (by omega) (by omega)
theorem cod_nil {B : Int} (hB : 0 ≤ B) (m : Nat) {d : Int} {r : List Int} (h : Bd B (d :: r)) : cod B (m + 1) [] < cod B (m + 1) (d :: r) := by
  obtain ⟨c0, _⟩ := cod_bd hB m r h.tail
  obtain ⟨d0, d1⟩ := h.head
  show (0 : Int) < (d + 1) * (B + 1) ^ m + cod B m r
  have p : 0 < (d + 1) * (B + 1) ^ m := Int.mul_pos (by omega) (Int.pow_pos (by omega))
  omega
theorem cod_lt {B : Int} (hB : 0 ≤ B) (m : Nat) {d e : Int} {r q : List Int} (hr : Bd B r) (hq : Bd B q) (h : d < e) : cod B (m + 1) (d :: r) < cod B (m + 1) (e :: q) := by
  obtain ⟨c0, c1⟩ := cod_bd hB m r hr
  obtain ⟨g0, g1⟩ := cod_bd hB m q hq
  show (d + 1) * (B + 1) ^ m + cod B m r < (e + 1) * (B + 1) ^ m + cod B m q
  exact num2 c0 c1 g0 (by omega)
theorem cod_same {B : Int} (m : Nat) {d : Int} {r q : List Int} : cod B (m + 1) (d :: r) < cod B (m + 1) (d :: q) ↔ cod B m r < cod B m q := by
  show (d + 1) * (B + 1) ^ m + cod B m r < (d + 1) * (B + 1) ^ m + cod B m q ↔ _
  generalize (d + 1) * (B + 1) ^ m = X
  constructor <;> intro z <;> omega
/-- unlike tuples have unlike places -/
theorem cod_inj {B : Int} (hB : 0 ≤ B) : ∀ (m : Nat) {ns ms : List Int}, Bd B ns → Bd B ms → ns.length ≤ m → ms.length ≤ m → cod B m ns = cod B m ms → ns = ms
  | 0, [], [], _, _, _, _, _ => rfl
  | 0, _ :: _, _, _, _, h, _, _ => by simp at h
  | 0, [], _ :: _, _, _, _, h, _ => by simp at h
  | m + 1, [], [], _, _, _, _, _ => rfl
  | m + 1, [], e :: q, _, h2, _, _, h => by
    have := cod_nil hB m h2
    omega
  | m + 1, d :: r, [], h1, _, _, _, h => by
    have := cod_nil hB m h1
    omega
  | m + 1, d :: r, e :: q, h1, h2, l1, l2, h => by
    rcases Int.lt_trichotomy d e with z | z | z
    · have := cod_lt hB m h1.tail h2.tail z
      omega
    · subst z
      have hc : cod B m r = cod B m q := by
        have h' : (d + 1) * (B + 1) ^ m + cod B m r = (d + 1) * (B + 1) ^ m + cod B m q := h
        omega
      rw [cod_inj hB m h1.tail h2.tail (by simpa using l1) (by simpa using l2) hc]
    · have := cod_lt hB m h2.tail h1.tail z
      omega
section
variable {prog : Program} {w : World} {A : Around} {E : Value → Shared → Prop} {s : Shared} {Q : Bool → Shared → Prop}
theorem lex_mixed {B : Int} (hB : 0 ≤ B) {b fin : Bool} {xs ys : List Value} {ns ms : List Int} (m i : Nat) (hx : IntsAre xs ns) (hy : IntsAre ys ms) (h1 : Bd B ns) (h2 : Bd B ms) (l1 : ns.length ≤ m) (l2 : ms.length ≤ m)
    (hf : fin = decide (ns.length < ms.length)) (h : Q (decide (cod B m ns < cod B m ms)) s) : PySem.W.KatLex prog w A b fin Q (xs.zip ys) i s := by
  induction hx generalizing ys ms i m with
  | nil =>
    cases hy with
    | nil =>
      have e : decide (cod B m [] < cod B m []) = fin := by rw [hf, decide_eq_false (Int.lt_irrefl _)]; rfl
      rw [e] at h
      exact PySem.W.kat_nil h
    | @cons q u ys ms hy =>
      obtain ⟨k, rfl⟩ : ∃ k, m = k + 1 := ⟨m - 1, by simp at l2; omega⟩
      have e : decide (cod B (k + 1) [] < cod B (k + 1) (q :: ms)) = fin := by
        rw [hf, decide_eq_true (cod_nil hB k h2)]
        exact (decide_eq_true (by simp)).symm
      rw [e] at h
      exact PySem.W.kat_nil h
  | @cons p t xs ns hx ih =>
    obtain ⟨k, rfl⟩ : ∃ k, m = k + 1 := ⟨m - 1, by simp at l1; omega⟩
    cases hy with
    | nil =>
      have e : decide (cod B (k + 1) (p :: ns) < cod B (k + 1) []) = fin := by
        have := cod_nil hB k h1
        rw [hf, decide_eq_false (by omega)]
        exact (decide_eq_false (by simp)).symm
      rw [e] at h
      exact PySem.W.kat_nil h
    | @cons q u ys ms hy =>
      show PySem.W.KatLex prog w A b fin Q ((Value.int p t, Value.int q u) :: xs.zip ys) i s
      refine PySem.W.kat_cons (wpAny_eqBool_int ?_)
      by_cases e : p = q
      · subst e
        rw [beq_self_eq_true]
        have d : decide (cod B (k + 1) (p :: ns) < cod B (k + 1) (p :: ms)) = decide (cod B k ns < cod B k ms) := decide_eq_decide.mpr (cod_same k)
        rw [d] at h
        refine PySem.W.kat_yes ?_
        exact ih k (i + 1) hy h1.tail h2.tail (by simpa using l1) (by simpa using l2) (by rw [hf]; exact decide_eq_decide.mpr (by simp)) h
      · rw [show (p == q) = false from beq_eq_false_iff_ne.mpr e]
        refine PySem.W.kat_no (oneLt_ints _ ?_)
        have d : decide (cod B (k + 1) (p :: ns) < cod B (k + 1) (q :: ms)) = decide (p < q) := by
          refine decide_eq_decide.mpr ⟨fun x => ?_, fun x => cod_lt hB k h1.tail h2.tail x⟩
          rcases Int.lt_trichotomy p q with y | y | y
          · exact y
          · exact absurd y e
          · have := cod_lt hB k h2.tail h1.tail y
            omega
        rw [d] at h
        exact h
end
/-- what is sorted: tuples of 1 to m ints each in [0, B) -/
def TupsM (h : Heap) (m : Nat) (B : Int) (vs : List Value) : Prop := ∀ v, v ∈ vs → ∃ ns, TupInts h v ns ∧ 1 ≤ ns.length ∧ ns.length ≤ m ∧ Bd B ns
theorem TupsM.keeps {h h' : Heap} {m : Nat} {B : Int} {vs : List Value} (x : TupsM h m B vs) (k : ∀ b o, h.get? b = some o → o.cls = .type "tuple" → h'.get? b = some o) : TupsM h' m B vs := fun v hv =>
  let ⟨ns, t, r⟩ := x v hv; ⟨ns, t.keeps k, r⟩
theorem firsts_mixed {h : Heap} {m : Nat} {B : Int} : ∀ vs : List Value, TupsM h m B vs → ∃ fs, PySem.W.KatTups h vs fs ∧ fs.length = vs.length ∧ ∀ f, f ∈ fs → ∃ n t, f = Value.int n t
  | [], _ => ⟨[], PySem.W.KatTups.nil, rfl, fun f hf => by simp at hf⟩
  | v :: vs, x => by
    obtain ⟨fs, k, hl, hi⟩ := firsts_mixed vs fun u hu => x u (List.mem_cons_of_mem _ hu)
    obtain ⟨ns, ⟨a, xs, rfl, ⟨o, ho, hc, n, hdt⟩, i⟩, hn, _⟩ := x v (List.mem_cons_self ..)
    obtain ⟨y, ys, e⟩ : ∃ y ys, xs.toList = y :: ys := by
      cases q : xs.toList with
      | nil =>
        rw [q] at i
        have l := i.length
        rw [List.length_nil] at l
        omega
      | cons y ys => exact ⟨y, ys, rfl⟩
    obtain ⟨m, t, hy⟩ := i.all y (by rw [e]; exact List.mem_cons_self ..)
    refine ⟨y :: fs, PySem.W.KatTups.cons ho hc hdt ?_ k, by simp [hl], ?_⟩
    · have z := congrArg (fun l : List Value => l[0]?) e
      simpa using z
    · intro f hf
      rcases List.mem_cons.mp hf with rfl | hf
      · exact ⟨m, t, hy⟩
      · exact hi f hf
section
variable {prog : Program} {w : World} {A : Around} {E : Value → Shared → Prop} {s : Shared}
theorem kind_mixed {m : Nat} {B : Int} {vs : List Value} (hB : 0 ≤ B) (h2 : 2 ≤ vs.length) (x : TupsM s.heap m B vs) (r : Value → Int) (hr : ∀ v, v ∈ vs → ∀ ns, TupInts s.heap v ns → r v = cod B m ns) (Q : SortKind → Shared → Prop)
    (h : ∀ κ, Cmp prog w A s κ (pairsOf vs) r → Q κ s) : wpAny (model prog w) A (keyKind' vs.toArray) Q E s := by
  obtain ⟨fs, k, hl, hi⟩ := firsts_mixed vs x
  refine PySem.W.kat_kind (T := Value.type "int") k (by omega) (fun f hf => ?_) rfl (h _ ?_)
  · obtain ⟨n, t, rfl⟩ := hi f hf
    exact PySem.W.Looks.of_pure rfl
  · intro p q hp hq Q' E' hQ
    rw [pairsOf_toList] at hp hq
    obtain ⟨ns, tp, _, lp, bp⟩ := x _ (mem_zip_self hp).2
    obtain ⟨ms, tq, _, lq, bq⟩ := x _ (mem_zip_self hq).2
    have ep := hr _ (mem_zip_self hp).2 _ tp
    have eq2 := hr _ (mem_zip_self hq).2 _ tq
    have hQ' : Q' (decide (cod B m ns < cod B m ms)) s := by
      have z : decide (r p.1 < r q.1) = decide (cod B m ns < cod B m ms) := by rw [ep, eq2]
      rw [← z]; exact hQ
    obtain ⟨a, xs, e1, ⟨o, ho, hc, n, hdt⟩, i⟩ := tp
    obtain ⟨a', ys, e2, ⟨o', ho', hc', n', hdt'⟩, i'⟩ := tq
    rw [e1, e2]
    refine PySem.W.kat_lt ho hdt ho' hdt' ?_
    have l1 := i.length
    have l2 := i'.length
    rw [Array.length_toList] at l1 l2
    exact lex_mixed hB m 0 i i' bp bq lp lq (by rw [l1, l2]) hQ'
theorem sort_mixed {a : Addr} {vs : List Value} {n m : Nat} {B : Int} {P : PySem.Fin → Shared → Prop} (ho : s.heap.get? a = some (seqObj "list" vs.toArray n)) (h64 : vs.length < 64) (hB : 0 ≤ B) (x : TupsM s.heap m B vs)
    (r : Value → Int) (hr : ∀ v, v ∈ vs → ∀ ns, TupInts s.heap v ns → r v = cod B m ns)
    (h : ∀ out : Array Value, out.toList.Perm vs → out.toList.Pairwise (fun u v => r u ≤ r v) → P (.done (.ret .none)) { s with heap := sortedHeap s.heap a vs out }) :
    wpAny (model prog w) A (Builtin.«list.sort» ⟨[.ref a], []⟩) P E s := by
  have keep : ∀ b o, s.heap.get? b = some o → o.cls = .type "tuple" → (midHeap s.heap a vs).get? b = some o := fun b o e hc => by
    refine midHeap_old ?_ e
    rintro rfl
    rw [ho] at e
    have e' : seqObj "list" vs.toArray n = o := Option.some.inj e
    rw [← e'] at hc
    have c' : Value.type "list" = Value.type "tuple" := hc
    injection c' with c''
    exact absurd c'' (by decide)
  refine SK.plain_sort (r := r) ho h64 (fun h2 Q hQ => ?_) fun ps out h1 h2 h3 => ?_
  · refine kind_mixed (s := { s with heap := midHeap s.heap a vs }) hB h2 (x.keeps keep) r (fun v hv ns t => ?_) Q hQ
    obtain ⟨ns0, t0, _⟩ := x v hv
    have e : ns = ns0 := t.ints.symm.trans (t0.keeps keep).ints
    rw [e]
    exact hr v hv ns0 t0
  · obtain ⟨p, o⟩ := out_rank h1 h2 h3
    exact h out p o
theorem sorted_mixed {l : Addr} {vs : List Value} {m : Nat} {B : Int} {Q : Value → Shared → Prop} (hl : s.heap.IsList l vs.toArray) (h64 : vs.length < 64) (hB : 0 ≤ B) (x : TupsM s.heap m B vs)
    (h : ∀ out : Array Value, out.toList.Perm vs → out.toList.Pairwise (fun u v => cod B m (intsOf s.heap u) ≤ cod B m (intsOf s.heap v)) → Q (.ref (s.heap.objs.size + 1)) { s with heap := sortedAll s.heap vs out }) :
    wpAny (model prog w) A (call (.builtin "sorted") [.ref l]) Q E s := by
  refine Calls.call_function_entry kind_sorted plain_sorted entry_sorted (args_sorted1 _) ?_
  unfold Builtin.«sorted»
  refine wpAny_bind (m := checkCount "sorted" 1 1 _) (wpAny_pure ?_)
  refine wpAny_bind (collect_list hl ?_ (by rw [sizeLine_eq]; omega))
  refine wpAny_bind (wpAny_newList ?_ (by rw [sizeLine_eq]; omega))
  have hsz : ((s.heap.push (seqObj "list" #[] 0)).update s.heap.objs.size (Obj.mapSeq (· ++ vs.toArray))).objs.size = s.heap.objs.size + 1 := by
    rw [Heap.size_update, size_push']
  have hoL : (((s.heap.push (seqObj "list" #[] 0)).update s.heap.objs.size (Obj.mapSeq (· ++ vs.toArray))).push (seqObj "list" vs.toArray 0)).get? (s.heap.objs.size + 1) = some (seqObj "list" vs.toArray 0) := by
    rw [← hsz]; exact Heap.get?_push_size _ rfl
  have keep : ∀ b o, s.heap.get? b = some o → o.cls = .type "tuple" → (((s.heap.push (seqObj "list" #[] 0)).update s.heap.objs.size (Obj.mapSeq (· ++ vs.toArray))).push (seqObj "list" vs.toArray 0)).get? b = some o := fun b o q _ => by
    have hlt : b < s.heap.objs.size := Heap.lt_size q
    rw [Heap.get?_push_ne _ _ _ (by rw [hsz]; exact Nat.ne_of_lt (Nat.lt_succ_of_lt hlt)), Heap.get?_update_ne _ _ _ _ (Nat.ne_of_lt hlt), Heap.get?_push_ne _ _ _ (Nat.ne_of_lt hlt)]
    exact q
  show wpAny _ _ _ _ _ { s with heap := ((s.heap.push (seqObj "list" #[] 0)).update s.heap.objs.size (Obj.mapSeq (· ++ vs.toArray))).push (seqObj "list" vs.toArray 0) }
  rw [hsz]
  refine wpAny_bind (wpAny_holding (wpAny_call_entry slot_list_sort ⟨_, hoL, rfl⟩ entry_list_sort (sort_mixed hoL h64 hB (x.keeps keep) (fun v => cod B m (intsOf s.heap v)) (fun v hv ns t => ?_) fun out a1 a2 => ⟨_, rfl, ?_⟩) (args_list_sort _)))
  · obtain ⟨ns0, t0, _⟩ := x v hv
    have e : ns = ns0 := t.ints.symm.trans (t0.keeps keep).ints
    rw [e]
    show cod B m (intsOf s.heap v) = cod B m ns0
    rw [t0.ints]
  · exact wpAny_pure ⟨_, rfl, h out a1 a2⟩
end
end TM
namespace L2
open PySem PySem.Spec PyProof.Rows
section
variable {X : Cx}
def rSortM (K : PySem.W.Frag) (m : Nat) (B : Int) : List V → Hp → VK → Prop := fun vs H Q => ∃ (a : Addr) (xs : List V), vs = [V.ref a] ∧ SqL K H a xs ∧ xs.length < 64 ∧ (∀ x ∈ xs, ∃ ns, TupI K H x ns ∧ 1 ≤ ns.length ∧ ns.length ≤ m ∧ TS.Bd B ns) ∧
  ∀ (ys : List V) (p : Addr), ys.Perm xs → ys.Pairwise (fun x y => ∀ n k, TupI K H x n → TupI K H y k → TM.cod B m n ≤ TM.cod B m k) → H p = none → Q (.ref p) (upd H p (.lst ys))
theorem cr_sortM {m : Nat} {B : Int} (hB : 0 ≤ B) : CallR X (.builtin "sorted") (rSortM X.K m B) := by
  intro pins s σ H vs us Q I r h
  obtain ⟨a, xs, rfl, hs, h64, hx, q⟩ := h
  obtain ⟨its, rv, hl, hz⟩ := I.list hs
  rw [Vals.ref1 r]
  obtain ⟨e1, e2⟩ := bkV_refs rv fun x m => by
    obtain ⟨ns, ⟨t, e, _⟩, _⟩ := hx x m
    exact ⟨t, e⟩
  refine TM.sorted_mixed (m := m) (B := B) hl.isList (by rw [← rv.length]; exact h64) hB (fun v hv => ?_) fun out h1 h2 => ?_
  · obtain ⟨t, rfl⟩ := e2 v hv
    have hm : V.ref t ∈ xs := by
      rw [e1]
      exact List.mem_map.mpr ⟨_, hv, rfl⟩
    obtain ⟨ns, ⟨t', e, ht⟩, hn, hb⟩ := hx _ hm
    cases e
    exact ⟨ns, tupI_raw I ht, hn, hb⟩
  · obtain ⟨ep, he'⟩ := PyProof.Rows.sortedAll_at s.heap its out
    have h3 : ∀ u ∈ out.toList, ∃ a, u = Value.ref a := fun u hu => e2 u (h1.mem_iff.mp hu)
    have hp : (out.toList.map bkV).Perm xs := by
      rw [e1]
      exact h1.map bkV
    have hlen : (out.toList.map bkV).length ≤ sizeLine := by
      rw [hp.length_eq]
      exact hz
    refine ⟨.ref _, upd H (s.heap.objs.size + 1) (.lst (out.toList.map bkV)), I.laid (t' := s.toks) (fun _ _ => PyProof.Rows.sortedAll_old) (Nat.le_succ _) ⟨hlen, out.toList, ep, bkV_vals h3, he'⟩, rfl, q _ _ hp ?_ (I.hok.fresh (Nat.le_succ _))⟩
    rw [List.pairwise_map]
    refine List.Pairwise.imp (fun {u v} huv n m hn hm => ?_) h2
    obtain ⟨t, et, ht⟩ := hn
    obtain ⟨t', et', ht'⟩ := hm
    have eu := bkV_ref et
    have ev := bkV_ref et'
    have i1 : TS.intsOf s.heap u = n := by
      rw [eu]
      exact (tupI_raw I ht).ints
    have i2 : TS.intsOf s.heap v = m := by
      rw [ev]
      exact (tupI_raw I ht').ints
    rw [← i1, ← i2]
    exact huv
end
end L2

/-! general words: values of any kind, zips, bars, comparisons -/
namespace Gv
open PySem PySem.Spec PyProof.Rows L2 RZ L5
section
variable {K : PySem.W.Frag} {H H' : Hp}
inductive El (K : PySem.W.Frag) (H : Hp) : V → Option Int → Prop
  | int (i : Int) : El K H (.int i) (some i)
  | bl (b : Bool) : El K H (.bl b) none
  | non : El K H .non none
  | str (x : Str) (h : PyData.strOk x = true) : El K H (.str x) none
  | tup {a : Addr} {t : List Int} (h : SqT K H a (t.map V.int)) : El K H (.ref a) none
theorem El.same (s : Same H H') {v : V} {o : Option Int} (h : El K H v o) : El K H' v o := by
  cases h with
  | int i => exact .int i
  | bl b => exact .bl b
  | non => exact .non
  | str x h => exact .str x h
  | tup h => exact .tup (same_sqt s h)
theorem El.isi {v : V} {o : Option Int} (h : El K H v o) : ∃ t bi bb, TyX K H v t ∧ PySem.W.kitOne K t (.type "int") = some bi ∧ PySem.W.kitOne K t (.type "bool") = some bb ∧ o.isSome = (bi && !bb) ∧ ∀ i, o = some i → v = .int i := by
  cases h with
  | int i => exact ⟨_, true, false, .base (.int i), kit_ty (by decide +kernel), kit_ty (by decide +kernel), rfl, fun j e => by cases e; rfl⟩
  | bl b => exact ⟨_, true, true, .base (.bl b), kit_ty (by decide +kernel), kit_ty (by decide +kernel), rfl, fun j e => by cases e⟩
  | non => exact ⟨_, false, false, .base .non, kit_ty (by decide +kernel), kit_ty (by decide +kernel), rfl, fun j e => by cases e⟩
  | str x _ => exact ⟨_, false, false, .base (.str x), kit_ty (by decide +kernel), kit_ty (by decide +kernel), rfl, fun j e => by cases e⟩
  | tup h => exact ⟨_, false, false, sqt_ty h, kit_ty (by decide +kernel), kit_ty (by decide +kernel), rfl, fun j e => by cases e⟩
abbrev Els (K : PySem.W.Frag) (H : Hp) : List V → List (Option Int) → Prop := Paired (El K H)
theorem Els.same (s : Same H H') : ∀ {vs : List V} {os : List (Option Int)}, Els K H vs os → Els K H' vs os
  | _, _, .nil => .nil
  | _, _, .cons h t => .cons (h.same s) (Els.same s t)
theorem Els.length : ∀ {vs : List V} {os : List (Option Int)}, Els K H vs os → vs.length = os.length
  | _, _, .nil => rfl
  | _, _, .cons _ t => congrArg (· + 1) (Els.length t)
theorem Els.get : ∀ {vs : List V} {os : List (Option Int)} {i : Nat} {v : V}, Els K H vs os → vs[i]? = some v → ∃ o, os[i]? = some o ∧ El K H v o
  | _, _, _, _, .nil, e => by simp at e
  | _, _, 0, _, .cons h _, e => by simp at e; subst e; exact ⟨_, rfl, h⟩
  | _, _, i + 1, v, .cons _ t, e => by
    obtain ⟨u, h1, h2⟩ := Els.get (i := i) (v := v) t (by simpa using e)
    exact ⟨u, by simpa using h1, h2⟩
theorem Els.app : ∀ {vs us : List V} {os ps : List (Option Int)}, Els K H vs os → Els K H us ps → Els K H (vs ++ us) (os ++ ps)
  | _, _, _, _, .nil, s => s
  | _, _, _, _, .cons r t, s => .cons r (Els.app t s)
theorem els_nv : ∀ t : List Nat, Els K H (nv t) (t.map fun n => some ((n : Nat) : Int))
  | [] => .nil
  | n :: t => .cons (.int _) (els_nv t)
inductive Va (K : PySem.W.Frag) (H : Hp) : V → Option (List (Option Int)) → Prop
  | tup {a : Addr} {vs : List V} {os : List (Option Int)} (h : SqT K H a vs) (e : Els K H vs os) (hl : vs.length ≤ 1000) : Va K H (.ref a) (some os)
  | lst {a : Addr} {xs : List V} (h : SqL K H a xs) : Va K H (.ref a) none
  | dic {a : Addr} (h : H a = some (.dK [])) : Va K H (.ref a) none
  | non : Va K H .non none
  | int (i : Int) : Va K H (.int i) none
  | str (x : Str) : Va K H (.str x) none
  | own {a C dx : Addr} {fs : List (Str × V)} (h : H a = some (.ins C dx fs)) (t : ∀ H' : Hp, H' a = some (.ins C dx fs) → TyX K H' (.ref a) (.ref C)) (k : PySem.W.kitOne K (.ref C) (.type "tuple") = some false) : Va K H (.ref a) none
theorem same_sql {a : Addr} {xs : List V} (e : Same H H') (h : SqL K H a xs) : SqL K H' a xs := by
  rcases h with (h | ⟨o, h⟩) | h
  · exact .inl (.inl (e _ _ h))
  · exact .inl (.inr ⟨o, e _ _ h⟩)
  · exact .inr h
theorem sql_ty {a : Addr} {xs : List V} (h : SqL K H a xs) : TyX K H (.ref a) (.type "list") := by
  rcases h with (h | ⟨o, h⟩) | ⟨o, its, n, e, c, _⟩
  · exact .base (.lst h)
  · exact .base (.frz h)
  · exact .kList e c
theorem Va.same (s : Same H H') {v : V} {d : Option (List (Option Int))} (h : Va K H v d) : Va K H' v d := by
  cases h with
  | tup h e hl => exact .tup (same_sqt s h) (e.same s) hl
  | lst h => exact .lst (same_sql s h)
  | dic h => exact .dic (s _ _ h)
  | non => exact .non
  | int i => exact .int i
  | str x => exact .str x
  | own h t k => exact .own (s _ _ h) t k
theorem Va.isi {v : V} {d : Option (List (Option Int))} (h : Va K H v d) : ∃ t, TyX K H v t ∧ PySem.W.kitOne K t (.type "tuple") = some d.isSome := by
  cases h with
  | tup h e hl => exact ⟨_, sqt_ty h, kit_ty (show kitB "tuple" "tuple" = some true by decide +kernel)⟩
  | lst h => exact ⟨_, sql_ty h, kit_ty (by decide +kernel)⟩
  | dic h => exact ⟨_, .base (.dK h), kit_ty (by decide +kernel)⟩
  | non => exact ⟨_, .base .non, kit_ty (by decide +kernel)⟩
  | int i => exact ⟨_, .base (.int i), kit_ty (by decide +kernel)⟩
  | str x => exact ⟨_, .base (.str x), kit_ty (by decide +kernel)⟩
  | own h t k => exact ⟨_, t _ h, k⟩
theorem Va.get {v : V} {os : List (Option Int)} (h : Va K H v (some os)) : ∃ a vs, v = .ref a ∧ SqT K H a vs ∧ Els K H vs os ∧ vs.length ≤ 1000 := by
  cases h with
  | tup h e hl => exact ⟨_, _, rfl, h, e, hl⟩
def inB (o : Option Int) (a b : Int) : Bool := match o with
  | some i => decide (a ≤ i) && decide (i ≤ b)
  | none => false
theorem va_prod {a : Addr} {t : List Nat} (h : SqT K H a (nv t)) (hl : t.length ≤ 1000) : Va K H (.ref a) (some (t.map fun n => some ((n : Nat) : Int))) := .tup h (els_nv t) (by rw [nv_len]; exact hl)
theorem take_more {α : Type} {l : List α} {i : Nat} {x : α} (h : l[i]? = some x) : l.take (i + 1) = l.take i ++ [x] := by
  rw [List.take_add_one, h]
  rfl
abbrev lcTurn (D : Addr) (g : TG) (tt : TT) (te : TE) (vs : List Nat) (σ : L2.St) (Nx : Hp → Prop) (v : V) (H : Hp) : Prop := g v (wipe σ vs) H fun σ2 H2 => wipe σ2 vs = wipe σ vs ∧ tt σ2 H2 fun b H3 =>
  if b = true then te σ2 H3 fun y H4 => ∃ acc, H4 D = some (.lst acc) ∧ acc.length < sizeLine ∧ Nx (upd H4 D (.lst (acc ++ [y]))) else Nx H3
theorem lc_zipT {a b : Addr} {xs ys : List V} {g : TG} {tt : TT} {te : TE} {vs : List Nat} {σ : L2.St} {H1 : Hp} {D : Addr} {Qd : Hp → Prop} (hl : xs.length = ys.length) (Pv : Nat → Hp → Prop) (h0 : Pv 0 (upd H1 D (.lst []))) (hq : ∀ i H, Pv i H → SqT K H a xs ∧ SqT K H b ys)
    (hs : ∀ (i : Nat) (x y : V) (T : Addr) (H : Hp), xs[i]? = some x → ys[i]? = some y → Pv i H → H T = none → lcTurn D g tt te vs σ (Pv (i + 1)) (.ref T) (upd H T (.tup [x, y]))) (hd : ∀ H, Pv xs.length H → Qd H) :
    ∃ W : Nat → Nat → Hp → Prop, (∃ m, W 0 m (upd H1 D (.lst []))) ∧ ∀ i m H0, W i m H0 →
      ((ItzT K a b).stop i H0 ∧ Qd H0) ∨ ((ItzT K a b).go i H0 ∧ ∃ Nx : Hp → Prop, (∀ H', Nx H' → ∃ m', m' < m ∧ W (i + 1) m' H') ∧ ∀ v H', (ItzT K a b).yld i H0 v H' → lcTurn D g tt te vs σ Nx v H') := by
  refine ⟨fun i m H => i + m = xs.length ∧ Pv i H, ⟨xs.length, Nat.zero_add _, h0⟩, fun i m H0 hw => ?_⟩
  obtain ⟨em, pi⟩ := hw
  obtain ⟨ta, tb⟩ := hq i H0 pi
  cases m with
  | zero =>
    have ei : i = xs.length := em
    subst ei
    exact .inl ⟨⟨xs, ys, ta, tb, Or.inl (Nat.le_refl _)⟩, hd H0 pi⟩
  | succ m =>
    have i1 : i < xs.length := by omega
    have i2 : i < ys.length := hl ▸ i1
    refine .inr ⟨⟨xs, ys, _, _, ta, tb, List.getElem?_eq_getElem i1, List.getElem?_eq_getElem i2⟩, Pv (i + 1), fun H' p => ⟨m, Nat.lt_succ_self m, by omega, p⟩, fun v H' out => ?_⟩
    obtain ⟨T, _, _, rfl, free, rfl, fx, fy⟩ := out
    exact hs i _ _ T H0 (fx xs ta) (fy ys tb) pi free
theorem getD_at {t : List Nat} {i : Nat} (h : i < t.length) : t[i]? = some (t.getD i 0) := by
  rw [List.getD_eq_getElem?_getD, List.getElem?_eq_getElem h]
  rfl
theorem nv_take (t : List Nat) (k : Nat) : nv (t.take k) = (nv t).take k := List.map_take
theorem cut_to (xs : List V) (k : Nat) (h : k ≤ xs.length) : cutV xs none (some (k : Int)) = xs.take k := by
  unfold cutV
  rw [show HT.sIx xs.length xs.length (some (k : Int)) = min k xs.length from HT.sIx_nat xs.length xs.length k, HT.sIx_none, Nat.min_eq_left h]
  rfl
def rCatB (K : PySem.W.Frag) : R2 := fun x y H Q => ∃ a b xs ys, x = .ref a ∧ y = .ref b ∧ SqT K H a xs ∧ SqT K H b ys ∧ xs.length + ys.length ≤ sizeLine ∧ ∀ H' z, Same H H' → SqT K H' z (xs ++ ys) → Q (.ref z) H'
theorem op_catB {X : Cx} : OpR X (binaryOp .Add) (rCatB X.K) := by
  intro pins s σ H x y v u Q I rx ry h
  obtain ⟨a, b, xs, ys, rfl, rfl, hx, hy, hz, q⟩ := h
  refine op_catA pins s σ H _ _ v u Q I rx ry ⟨a, b, xs, ys, rfl, rfl, hx, hy, hz, fun e => ?_, fun _ e => ?_, fun _ _ p hp => q _ p (same_new hp _) (SqT.of upd_same)⟩
  · subst e
    exact q H b (Same.refl H) hy
  · subst e
    rw [List.append_nil] at q
    exact q H a (Same.refl H) hx
def rSlB (K : PySem.W.Frag) : V → Option Int → Option Int → Hp → VK → Prop := fun x lo hi H Q => ∃ a xs, x = .ref a ∧ SqT K H a xs ∧ ∀ H' z, Same H H' → SqT K H' z (cutV xs lo hi) → Q (.ref z) H'
theorem sl_tupB {X : Cx} : SlR X (rSlB X.K) := by
  intro pins s σ H x v vl vu lo hi sl Q I rx hs pl pu h
  obtain ⟨a, xs, rfl, hx, q⟩ := h
  refine sl_tupA pins s σ H _ v vl vu lo hi sl Q I rx hs pl pu ⟨a, xs, rfl, hx, fun e => ?_, fun _ p hp => q _ p (same_new hp _) (SqT.of upd_same)⟩
  have e2 : cutV xs lo hi = xs := by
    unfold cutV
    rw [e.1, e.2]
    exact List.take_length
  rw [e2] at q
  exact q H a (Same.refl H) hx
def Bar (p : Addr) (H H' : Hp) : Prop := ∀ b o, b ≠ p → H b = some o → H' b = some o
theorem Bar.trans {p : Addr} {A B C : Hp} (a : Bar p A B) (b : Bar p B C) : Bar p A C := fun c o n h => b c o n (a c o n h)
theorem Bar.same {p : Addr} {A B : Hp} (a : Same A B) : Bar p A B := fun c o _ h => a c o h
theorem Bar.upd {p : Addr} {A : Hp} {o : HO} : Bar p A (upd A p o) := fun c u n h => by
  rw [upd_ne n]
  exact h
theorem passG {X : Cx} : Passes (CX X.prog X.w) X E0 := fun _ _ _ _ _ _ _ c => by
  obtain ⟨_, _, _, _, _, _, _, _, _, _, _, _, no⟩ := c
  exact no.elim
theorem nostop : NoStop K E0 := fun _ _ _ no => no.elim
theorem ref_get {rs : List Addr} {i : Nat} {x : V} (h : (rs.map V.ref)[i]? = some x) : ∃ a, rs[i]? = some a ∧ x = .ref a := by
  rw [List.getElem?_map] at h
  cases e : rs[i]? with
  | none =>
    rw [e] at h
    cases h
  | some n =>
    rw [e] at h
    exact ⟨n, rfl, (Option.some.inj h).symm⟩
theorem mpos {j : Int} (h : (0 : Int) < j) : (0 : Int) < j := h
theorem same_back {H H' : Hp} (s : Same H H') {r : Addr} (h : H' r = none) : H r = none := s.free h
theorem PE.weak {X : Cx} {e : Expr} {t t' : TE} (h : PE X e t) (i : ∀ σ H Q, t' σ H Q → t σ H Q) : PE X e t' := ⟨fun pins s σ H Q I h' => h.run pins s σ H Q I (i σ H Q h')⟩
theorem PT.weak' {X : Cx} {e : Expr} {t t' : TT} (h : PT X e t) (i : ∀ σ H Q, t' σ H Q → t σ H Q) : PT X e t' := ⟨fun pins s σ H Q I h' => h.run pins s σ H Q I (i σ H Q h')⟩
theorem PS.weak' {X : Cx} {st : Stmt} {t t' : TS} (h : PS X st t) (i : ∀ D σ H, t' D σ H → t D σ H) : PS X st t' := ⟨fun pins s σ H D I h' => h.run pins s σ H D I (i D σ H h')⟩
theorem PS.ex {X : Cx} {st : Stmt} {α : Type} {t : α → TS} (h : ∀ x, PS X st (t x)) : PS X st (fun D σ H => ∃ x, t x D σ H) := ⟨fun pins s σ H D I ⟨x, h'⟩ => (h x).run pins s σ H D I h'⟩
theorem shaped_bool (b : Bool) : SeqAt.shaped (.bool b) = true := by cases b <;> decide +kernel
theorem eqv_bool (b : Bool) : PyData.eqv (.bool b) (.bool b) = true := by cases b <;> decide +kernel
theorem dp_ints {K : PySem.W.Frag} {H : Hp} : ∀ l : List Int, DpAll K H (l.map V.int) (l.map PyData.int)
  | [] => .nil
  | i :: l => .cons (.int i) (dp_ints l)
theorem can_ints : ∀ l : List Int, PyData.canLayAll0 (l.map PyData.int) = true ∧ PyData.depthAll (l.map PyData.int) = 0
  | [] => by simp [PyData.canLayAll0, PyData.depthAll]
  | i :: l => by
    obtain ⟨h1, h2⟩ := can_ints l
    constructor
    · rw [List.map_cons, PyData.canLayAll0, h1]
      simp [PyData.canLay0]
    · rw [List.map_cons, PyData.depthAll, h2]
      simp [PyData.depth]
theorem shaped_intsT (l : List Int) : SeqAt.shaped (.tuple (l.map PyData.int)) = true := by
  obtain ⟨h1, h2⟩ := can_ints l
  simp [SeqAt.shaped, PyData.canLay0, PyData.depth, h1, h2]
theorem eqv_intsT (l : List Int) : PyData.eqv (.tuple (l.map PyData.int)) (.tuple (l.map PyData.int)) = true := SeqAt.eqv_refl _ (by
  simp only [PyData.canLay0]
  exact (can_ints l).1)
theorem eqvAll_nats : ∀ t u : List Nat, PyData.eqvAll (t.map fun n => PyData.int ((n : Nat) : Int)) (u.map fun n => PyData.int ((n : Nat) : Int)) = decide (t = u)
  | [], [] => by simp [PyData.eqvAll]
  | [], _ :: _ => by simp [PyData.eqvAll]
  | _ :: _, [] => by simp [PyData.eqvAll]
  | a :: t, b :: u => by
    simp only [List.map_cons, PyData.eqvAll, PyData.eqv, eqvAll_nats t u]
    rw [show (((a : Nat) : Int) == ((b : Nat) : Int)) = decide (a = b) by
      rw [Bool.eq_iff_iff, beq_iff_eq, decide_eq_true_iff]
      omega, ← Bool.decide_and]
    exact decide_eq_decide.mpr (by simp)
theorem eqv_tupE (t u : List Nat) : PyData.eqv (encT t) (encT u) = decide (t = u) := by
  simp only [encT, PyData.eqv]
  exact eqvAll_nats t u
theorem tups_get {H : Hp} {rs : List Addr} {L : List (List Nat)} {i : Nat} {x : V} (hT : Tups K H rs L) (h : (rs.map V.ref)[i]? = some x) : ∃ a t, x = .ref a ∧ rs[i]? = some a ∧ L[i]? = some t ∧ SqT K H a (nv t) := by
  obtain ⟨a, ha, rfl⟩ := ref_get h
  obtain ⟨t, ht, hs⟩ := hT.get ha
  exact ⟨a, t, rfl, ha, ht, hs⟩
theorem any_take_step {l : List Bool} {i : Nat} {b : Bool} (h : l[i]? = some b) : (l.take (i + 1)).any id = ((l.take i).any id || b) := by
  rw [take_more h, List.any_append]
  simp
theorem any_drop {l : List Bool} {i : Nat} (h : (l.take i).any id = true) : l.any id = true := by
  rw [← List.take_append_drop i l, List.any_append, h, Bool.true_or]
theorem eqvAll_tups : ∀ L M : List (List Nat), PyData.eqvAll (L.map encT) (M.map encT) = decide (L = M)
  | [], [] => by simp [PyData.eqvAll]
  | [], _ :: _ => by simp [PyData.eqvAll]
  | _ :: _, [] => by simp [PyData.eqvAll]
  | t :: L, u :: M => by
    rw [List.map_cons, List.map_cons, PyData.eqvAll, eqv_tupE, eqvAll_tups L M, ← Bool.decide_and]
    exact decide_eq_decide.mpr (by simp)
theorem shaped_tupsT (L : List (List Nat)) : SeqAt.shaped (.tuple (L.map encT)) = true := by
  have h := can_tups L
  unfold SeqAt.shaped
  simp only [PyData.canLay0, PyData.depth, h.1, Bool.true_and]
  exact decide_eq_true (by omega)
theorem eqv_tupsSame (L : List (List Nat)) : PyData.eqv (.tuple (L.map encT)) (.tuple (L.map encT)) = true := SeqAt.eqv_refl _ (by
  simp only [PyData.canLay0]
  exact (can_tups L).1)
theorem shaped_natsL (t : List Nat) : SeqAt.shaped (.list (t.map fun n => PyData.int ((n : Nat) : Int))) = true := by
  have g := can_nats t
  unfold SeqAt.shaped
  simp only [PyData.canLay0, PyData.depth, g.1, g.2, Bool.true_and]
  exact decide_eq_true (by omega)
theorem eqv_nilL (l : List PyData) : PyData.eqv (.list l) (.list []) = decide (l = []) := by
  cases l with
  | nil => decide +kernel
  | cons a b =>
    rw [decide_eq_false (List.cons_ne_nil a b)]
    rfl
theorem sorted_one : ∀ {a b : List Int}, a.Perm b → a.Pairwise (· ≤ ·) → b.Pairwise (· ≤ ·) → a = b
  | [], b, p, _, _ => (List.nil_perm.mp p).symm
  | x :: a, [], p, _, _ => absurd p.length_eq (by simp)
  | x :: a, y :: b, p, ha, hb => by
    obtain ⟨a1, a2⟩ := List.pairwise_cons.mp ha
    obtain ⟨b1, b2⟩ := List.pairwise_cons.mp hb
    have e : x = y := by
      have h1 : x ∈ y :: b := p.mem_iff.mp List.mem_cons_self
      have h2 : y ∈ x :: a := p.mem_iff.mpr List.mem_cons_self
      rcases List.mem_cons.mp h1 with h1 | h1
      · exact h1
      · rcases List.mem_cons.mp h2 with h2 | h2
        · exact h2.symm
        · have := b1 x h1
          have := a1 y h2
          omega
    subst e
    rw [sorted_one (List.perm_cons x |>.mp p) a2 b2]
theorem bar_updL {p D : Addr} {o : HO} {H H' : Hp} (b : Bar p H H') (hD : H D = none) : Bar p H (upd H' D o) := fun c u n h => by
  rw [upd_ne (ne_of_none h hD)]
  exact b c u n h
theorem nat_of {i : Int} (h0 : 0 ≤ i) : ∃ n : Nat, i = ((n : Nat) : Int) := ⟨i.toNat, by omega⟩
theorem sqt_but {H H' : Hp} {z a : Addr} {xs ys : List V} (hz : H z = some (.lst ys)) (st : ∀ b o, b ≠ z → H b = some o → H' b = some o) (h : SqT K H a xs) : SqT K H' a xs := by
  have ne : ∀ {o : HO}, H a = some o → o ≠ .lst ys → a ≠ z := fun {o} e n k => by
    rw [k, hz] at e
    exact n (Option.some.inj e).symm
  rcases h with (h | ⟨o, h⟩) | h
  · exact .inl (.inl (st _ _ (ne h fun k => nomatch k) h))
  · exact .inl (.inr ⟨o, st _ _ (ne h fun k => nomatch k) h⟩)
  · exact .inr h
theorem tups_but {H H' : Hp} {z : Addr} {ys : List V} (hz : H z = some (.lst ys)) (st : ∀ b o, b ≠ z → H b = some o → H' b = some o) : ∀ {rs : List Addr} {L : List (List Nat)}, Tups K H rs L → Tups K H' rs L
  | _, _, .nil => .nil
  | _, _, .cons h t => .cons (sqt_but hz st h) (tups_but hz st t)
theorem all_take_step {l : List Bool} {i : Nat} {b : Bool} (h : l[i]? = some b) : (l.take (i + 1)).all id = ((l.take i).all id && b) := by
  rw [take_more h, List.all_append]
  show _ = _
  simp
end
end Gv

/-! tuples of ints, zips of unlike lengths -/
namespace Gv
open PySem PySem.Spec PyProof.Rows L2 RZ L5
section
variable {K : PySem.W.Frag} {H H' : Hp}
abbrev iv (t : List Int) : List V := t.map V.int
theorem iv_len (t : List Int) : (iv t).length = t.length := List.length_map _
theorem iv_app (t u : List Int) : iv (t ++ u) = iv t ++ iv u := List.map_append
theorem iv_get {t : List Int} {i : Nat} {x : V} (h : (iv t)[i]? = some x) : ∃ n, t[i]? = some n ∧ x = .int n := by
  rw [List.getElem?_map] at h
  cases e : t[i]? with
  | none => rw [e] at h; cases h
  | some n => rw [e] at h; exact ⟨n, rfl, (Option.some.inj h).symm⟩
theorem iv_at {t : List Int} {i : Nat} {n : Int} (h : t[i]? = some n) : atI (iv t) (i : Int) = some (.int n) := atI_nat (by rw [List.getElem?_map, h] <;> rfl)
theorem els_iv : ∀ t : List Int, Els K H (iv t) (t.map some)
  | [] => .nil
  | n :: t => .cons (.int n) (els_iv t)
theorem va_iv {a : Addr} {t : List Int} (h : SqT K H a (iv t)) (hl : t.length ≤ 1000) : Va K H (.ref a) (some (t.map some)) := .tup h (els_iv t) (by rw [iv_len]; exact hl)
def intsO (os : List (Option Int)) : List Int := os.map fun o => o.getD 0
theorem ints_back (t : List Int) : intsO (t.map some) = t := by
  unfold intsO
  rw [List.map_map]
  exact (List.map_congr_left fun n _ => rfl).trans (List.map_id _)
theorem els_all {f : Option Int → Bool} (hf : f none = false) : ∀ {vs : List V} {os : List (Option Int)}, Els K H vs os → os.all f = true → vs = iv (intsO os) ∧ os = (intsO os).map some
  | _, _, .nil, _ => ⟨rfl, rfl⟩
  | _, _, .cons (b := o) h t, ha => by
    rw [List.all_cons, Bool.and_eq_true] at ha
    obtain ⟨e1, e2⟩ := els_all hf t ha.2
    cases o with
    | none => rw [hf] at ha; exact absurd ha.1 Bool.false_ne_true
    | some i =>
      obtain ⟨_, _, _, _, _, _, _, e⟩ := h.isi
      obtain rfl := e i rfl
      refine ⟨?_, ?_⟩
      · show _ = V.int i :: iv (intsO _)
        rw [← e1]
      · show _ = some i :: (intsO _).map some
        rw [← e2]
/-! ### many tuples -/
def TupsI (K : PySem.W.Frag) (H : Hp) : List Addr → List (List Int) → Prop := Paired fun a t => SqT K H a (iv t)
theorem TupsI.same (e : Same H H') : ∀ {rs : List Addr} {L : List (List Int)}, TupsI K H rs L → TupsI K H' rs L
  | _, _, .nil => .nil
  | _, _, .cons h t => .cons (same_sqt e h) (TupsI.same e t)
theorem TupsI.updL {p : Addr} {ys : List V} {o : HO} (hp : H p = some (.lst ys)) : ∀ {rs : List Addr} {L : List (List Int)}, TupsI K H rs L → TupsI K (upd H p o) rs L
  | _, _, .nil => .nil
  | _, _, .cons h t => .cons (sqt_updL hp h) (TupsI.updL hp t)
theorem TupsI.length : ∀ {rs : List Addr} {L : List (List Int)}, TupsI K H rs L → rs.length = L.length
  | _, _, .nil => rfl
  | _, _, .cons _ t => congrArg (· + 1) (TupsI.length t)
theorem TupsI.app : ∀ {rs qs : List Addr} {L M : List (List Int)}, TupsI K H rs L → TupsI K H qs M → TupsI K H (rs ++ qs) (L ++ M)
  | _, _, _, _, .nil, s => s
  | _, _, _, _, .cons r t, s => .cons r (TupsI.app t s)
theorem tupsI_get {rs : List Addr} {L : List (List Int)} {i : Nat} {x : V} (hT : TupsI K H rs L) (h : (rs.map V.ref)[i]? = some x) : ∃ a t, x = .ref a ∧ rs[i]? = some a ∧ L[i]? = some t ∧ SqT K H a (iv t) := by
  obtain ⟨a, ha, rfl⟩ := ref_get h
  refine ⟨a, ?_⟩
  have key : ∀ {rs : List Addr} {L : List (List Int)} {i : Nat}, TupsI K H rs L → rs[i]? = some a → ∃ t, L[i]? = some t ∧ SqT K H a (iv t) := fun {rs L} => by
    induction rs generalizing L with
    | nil => intro i _ e; simp at e
    | cons r rs ih =>
      intro i hT e
      cases hT with
      | cons hh tt =>
        cases i with
        | zero =>
          have e2 : r = a := by simpa using e
          subst e2
          exact ⟨_, rfl, hh⟩
        | succ i =>
          obtain ⟨u, h1, h2⟩ := ih (i := i) tt (by simpa using e)
          exact ⟨u, by simpa using h1, h2⟩
  obtain ⟨t, h1, h2⟩ := key hT ha
  exact ⟨t, rfl, ha, h1, h2⟩
abbrev encI (t : List Int) : PyData := .tuple (t.map PyData.int)
theorem dp_tupI {a : Addr} {t : List Int} (h : SqT K H a (iv t)) : Dp K H (.ref a) (encI t) := .tup h (dp_ints t)
theorem dp_tupsI : ∀ {rs : List Addr} {L : List (List Int)}, TupsI K H rs L → DpAll K H (rs.map V.ref) (L.map encI)
  | _, _, .nil => .nil
  | _, _, .cons h t => .cons (dp_tupI h) (dp_tupsI t)
end
theorem can_tupsI : ∀ L : List (List Int), PyData.canLayAll0 (L.map encI) = true ∧ PyData.depthAll (L.map encI) ≤ 1
  | [] => by simp [PyData.canLayAll0, PyData.depthAll]
  | t :: L => by
    obtain ⟨h1, h2⟩ := can_tupsI L
    obtain ⟨h3, h4⟩ := can_ints t
    constructor
    · rw [List.map_cons, PyData.canLayAll0, h1, PyData.canLay0, h3]
      rfl
    · rw [List.map_cons, PyData.depthAll, PyData.depth, h4]
      omega
theorem shaped_tupsIT (L : List (List Int)) : SeqAt.shaped (.tuple (L.map encI)) = true := by
  obtain ⟨h1, h2⟩ := can_tupsI L
  simp [SeqAt.shaped, PyData.canLay0, PyData.depth, h1]
  omega
theorem shaped_tupsIL (L : List (List Int)) : SeqAt.shaped (.list (L.map encI)) = true := by
  obtain ⟨h1, h2⟩ := can_tupsI L
  simp [SeqAt.shaped, PyData.canLay0, PyData.depth, h1]
  omega
theorem eqvAll_ints : ∀ t u : List Int, PyData.eqvAll (t.map PyData.int) (u.map PyData.int) = decide (t = u)
  | [], [] => by simp [PyData.eqvAll]
  | [], _ :: _ => by simp [PyData.eqvAll]
  | _ :: _, [] => by simp [PyData.eqvAll]
  | a :: t, b :: u => by
    rw [List.map_cons, List.map_cons, PyData.eqvAll, eqvAll_ints t u]
    have e : PyData.eqv (.int a) (.int b) = decide (a = b) := by
      simp only [PyData.eqv]
      rfl
    rw [e, ← Bool.decide_and]
    exact decide_eq_decide.mpr ⟨fun h => by rw [h.1, h.2], fun h => by cases h; exact ⟨rfl, rfl⟩⟩
theorem eqv_tupIE (t u : List Int) : PyData.eqv (encI t) (encI u) = decide (t = u) := by
  simp only [PyData.eqv]
  exact eqvAll_ints t u
theorem eqv_tupsIT (L : List (List Int)) : PyData.eqv (.tuple (L.map encI)) (.tuple (L.map encI)) = true := SeqAt.eqv_refl _ (by
  simp only [PyData.canLay0]
  exact (can_tupsI L).1)
section
variable {K : PySem.W.Frag} {H H' : Hp}
/-! ### a comprehension over zip of two tuples -/
theorem lc_zipM {a b : Addr} {xs ys : List V} {g : TG} {tt : TT} {te : TE} {vs : List Nat} {σ : L2.St} {H1 : Hp} {D : Addr} {Qd : Hp → Prop} (n : Nat) (hn : n = min xs.length ys.length) (Pv : Nat → Hp → Prop) (h0 : Pv 0 (upd H1 D (.lst []))) (hq : ∀ i H, Pv i H → SqT K H a xs ∧ SqT K H b ys)
    (hs : ∀ (i : Nat) (x y : V) (T : Addr) (H : Hp), xs[i]? = some x → ys[i]? = some y → Pv i H → H T = none → lcTurn D g tt te vs σ (Pv (i + 1)) (.ref T) (upd H T (.tup [x, y]))) (hd : ∀ H, Pv n H → Qd H) :
    ∃ W : Nat → Nat → Hp → Prop, (∃ m, W 0 m (upd H1 D (.lst []))) ∧ ∀ i m H0, W i m H0 →
      ((ItzT K a b).stop i H0 ∧ Qd H0) ∨ ((ItzT K a b).go i H0 ∧ ∃ Nx : Hp → Prop, (∀ H', Nx H' → ∃ m', m' < m ∧ W (i + 1) m' H') ∧ ∀ v H', (ItzT K a b).yld i H0 v H' → lcTurn D g tt te vs σ Nx v H') := by
  refine ⟨fun i m H => i + m = n ∧ Pv i H, ⟨n, Nat.zero_add _, h0⟩, fun i m H0 hw => ?_⟩
  obtain ⟨em, pi⟩ := hw
  obtain ⟨ta, tb⟩ := hq i H0 pi
  cases m with
  | zero =>
    have ei : i = n := em
    subst ei
    exact .inl ⟨⟨xs, ys, ta, tb, by omega⟩, hd H0 pi⟩
  | succ m =>
    have i1 : i < xs.length := by omega
    have i2 : i < ys.length := by omega
    refine .inr ⟨⟨xs, ys, _, _, ta, tb, List.getElem?_eq_getElem i1, List.getElem?_eq_getElem i2⟩, Pv (i + 1), fun H' p => ⟨m, Nat.lt_succ_self m, by omega, p⟩, fun v H' out => ?_⟩
    obtain ⟨T, _, _, rfl, free, rfl, fx, fy⟩ := out
    exact hs i _ _ T H0 (fx xs ta) (fy ys tb) pi free
/-! ### pairs of ints -/
abbrev zbI (f : Int → Int → Bool) (t u : List Int) : List Bool := List.zipWith f t u
theorem zbI_get {f : Int → Int → Bool} {t u : List Int} {i : Nat} {n m : Int} (h1 : t[i]? = some n) (h2 : u[i]? = some m) : (zbI f t u)[i]? = some (f n m) := by
  rw [List.getElem?_zipWith, h1, h2]
theorem zbI_len {f : Int → Int → Bool} {t u : List Int} : (zbI f t u).length = min t.length u.length := List.length_zipWith
theorem cut_tailI (u : List Int) : cutV (iv u) (some 1) none = iv (u.drop 1) := by
  unfold cutV
  rw [show HT.sIx (iv u).length 0 (some 1) = min 1 (iv u).length from HT.sIx_nat _ _ 1, HT.sIx_none]
  cases u with
  | nil => rfl
  | cons a r =>
    show List.take _ (List.drop (min 1 (r.length.succ)) _) = _
    rw [iv_len]
    show List.take (r.length + 1 - min 1 (r.length + 1)) (List.drop (min 1 (r.length + 1)) (V.int _ :: iv r)) = iv r
    rw [show min 1 (r.length + 1) = 1 by omega]
    show List.take r.length (iv r) = iv r
    exact List.take_of_length_le (by rw [iv_len]; exact Nat.le_refl _)
theorem cut_toI (u : List Int) (k : Nat) (h : k ≤ u.length) : cutV (iv u) none (some (k : Int)) = iv (u.take k) := by
  rw [cut_to _ _ (by rw [iv_len]; exact h)]
  exact List.map_take.symm
theorem cut_fromI (u : List Int) (k : Nat) : cutV (iv u) (some (k : Int)) none = iv (u.drop k) := by
  unfold cutV
  rw [show HT.sIx (iv u).length 0 (some (k : Int)) = min k (iv u).length from HT.sIx_nat _ _ k, HT.sIx_none]
  by_cases h : k ≤ u.length
  · rw [iv_len, Nat.min_eq_left h, List.take_of_length_le (by rw [List.length_drop, iv_len]; exact Nat.le_refl _)]
    exact List.map_drop.symm
  · rw [iv_len, Nat.min_eq_right (by omega), Nat.sub_self, List.take_zero, List.drop_of_length_le (show u.length ≤ k by omega)]
    rfl
theorem cut_initI (u : List Int) : cutV (iv u) none (some (-1)) = iv (u.take (u.length - 1)) := by
  unfold cutV
  rw [HT.sIx_none, List.drop_zero, iv_len]
  show List.take _ _ = List.map _ _
  rw [List.map_take]
  congr 1
  show (if (-1 : Int) < 0 then ((-1 : Int) + ((u.length : Nat) : Int)).toNat else min (-1 : Int).toNat u.length) - 0 = _
  rw [if_pos (by decide)]
  omega
end
end Gv

/-! [e for a in list for b in range], perms of lists of tuples -/
namespace Gv
open PySem PySem.Spec PyProof.Rows L2 RZ L5
section
variable {K : PySem.W.Frag} {g g1 : TG} {tt tt1 : TT} {te : TE} {vs vs1 : List Nat} {D : Addr}
abbrev In2 (J1 : It) (g1 : TG) (tt1 : TT) (te : TE) (vs1 : List Nat) (D : Addr) (σ2 : L2.St) (H4 : Hp) (Nx : Hp → Prop) : Prop := ∃ W1 : Nat → Nat → Hp → Prop, (∃ m, W1 0 m H4) ∧ ∀ j k H, W1 j k H →
  (J1.stop j H ∧ Nx H) ∨ (J1.go j H ∧ ∃ Nx1 : Hp → Prop, (∀ H', Nx1 H' → ∃ k', k' < k ∧ W1 (j + 1) k' H') ∧ ∀ x H', J1.yld j H x H' → g1 x (wipe σ2 vs1) H' fun σ3 H5 => wipe σ3 vs1 = wipe σ2 vs1 ∧ tt1 σ3 H5 fun b H6 =>
    if b = true then te σ3 H6 fun y H7 => ∃ acc, H7 D = some (.lst acc) ∧ acc.length < sizeLine ∧ Nx1 (upd H7 D (.lst (acc ++ [y]))) else Nx1 H6)
theorem in2_range {lo : Int} {n : Nat} {σ2 : L2.St} {H4 : Hp} {Nx : Hp → Prop} (Pj : Nat → Hp → Prop) (h0 : Pj 0 H4)
    (step : ∀ j H, j < n → Pj j H → g1 (.int (lo + j)) (wipe σ2 vs1) H fun σ3 H5 => wipe σ3 vs1 = wipe σ2 vs1 ∧ tt1 σ3 H5 fun c H6 => if c = true then te σ3 H6 fun z H7 => ∃ acc, H7 D = some (.lst acc) ∧ acc.length < sizeLine ∧ Pj (j + 1) (upd H7 D (.lst (acc ++ [z]))) else Pj (j + 1) H6)
    (done : ∀ H, Pj n H → Nx H) : In2 (Itr lo n) g1 tt1 te vs1 D σ2 H4 Nx := by
  refine ⟨fun j k H => j + k = n ∧ Pj j H, ⟨n, Nat.zero_add _, h0⟩, fun j k H0 hw => ?_⟩
  obtain ⟨e, pj⟩ := hw
  cases k with
  | zero =>
    obtain rfl : j = n := e
    exact .inl ⟨Nat.le_refl _, done H0 pj⟩
  | succ k =>
    have lt : j < n := by omega
    refine .inr ⟨lt, Pj (j + 1), fun H' p' => ⟨k, Nat.lt_succ_self k, by omega, p'⟩, fun x H' out => ?_⟩
    obtain ⟨same, val⟩ := out
    subst same
    subst val
    exact step j _ lt pj
theorem out2_list {a : Addr} {xs : List V} {wi1 : TI} {σ : L2.St} {H1 : Hp} {Qd : Hp → Prop} (Pi : Nat → Hp → Prop) (h0 : Pi 0 (upd H1 D (.lst []))) (at_ : ∀ i H, Pi i H → SqL K H a xs)
    (step : ∀ i x H, xs[i]? = some x → Pi i H → g x (wipe σ vs) H fun σ2 H2 => wipe σ2 vs = wipe σ vs ∧ tt σ2 H2 fun c H3 => if c = true then wi1 σ2 H3 fun J1 H4 => In2 J1 g1 tt1 te vs1 D σ2 H4 (Pi (i + 1)) else Pi (i + 1) H3)
    (done : ∀ H, Pi xs.length H → Qd H) :
    ∃ W : Nat → Nat → Hp → Prop, (∃ m, W 0 m (upd H1 D (.lst []))) ∧ ∀ i m H, W i m H →
      ((Itl K a).stop i H ∧ Qd H) ∨ ((Itl K a).go i H ∧ ∃ Nx : Hp → Prop, (∀ H', Nx H' → ∃ m', m' < m ∧ W (i + 1) m' H') ∧ ∀ x H', (Itl K a).yld i H x H' → g x (wipe σ vs) H' fun σ2 H2 => wipe σ2 vs = wipe σ vs ∧ tt σ2 H2 fun c H3 =>
        if c = true then wi1 σ2 H3 fun J1 H4 => In2 J1 g1 tt1 te vs1 D σ2 H4 Nx else Nx H3) := by
  refine ⟨fun i m H => i + m = xs.length ∧ Pi i H, ⟨xs.length, Nat.zero_add _, h0⟩, fun i m H0 hw => ?_⟩
  obtain ⟨e, pi⟩ := hw
  have here := at_ i H0 pi
  cases m with
  | zero =>
    obtain rfl : i = xs.length := e
    exact .inl ⟨⟨xs, here, Nat.le_refl _⟩, done H0 pi⟩
  | succ m =>
    have lt : i < xs.length := by omega
    refine .inr ⟨⟨xs, xs[i], here, List.getElem?_eq_getElem lt⟩, Pi (i + 1), fun H' p' => ⟨m, Nat.lt_succ_self m, by omega, p'⟩, fun x H' out => ?_⟩
    obtain ⟨same, val⟩ := out
    subst same
    exact step i x _ (val xs here) pi
end
section
variable {K : PySem.W.Frag} {H : Hp}
/-! ### tuples that were sorted -/
theorem perm_back {α β : Type} {f : α → β} : ∀ {ys : List β} {l : List α}, ys.Perm (l.map f) → ∃ l' : List α, l'.Perm l ∧ ys = l'.map f := fun {ys l} p => by
  have key : ∀ {xs ys : List β}, xs.Perm ys → ∀ l : List α, xs = l.map f → ∃ l' : List α, l.Perm l' ∧ ys = l'.map f := fun {xs ys} p => by
    induction p with
    | nil => exact fun l e => ⟨l, List.Perm.refl _, e⟩
    | cons x p ih =>
      intro l e
      cases l with
      | nil => cases e
      | cons a l =>
        obtain ⟨e1, e2⟩ := List.cons.inj e
        obtain ⟨l', p', e'⟩ := ih l e2
        exact ⟨a :: l', p'.cons a, by rw [List.map_cons, ← e1, e']⟩
    | swap x y r =>
      intro l e
      match l, e with
      | [], e => cases e
      | [_], e => cases e
      | a :: b :: l, e =>
        obtain ⟨e1, e2⟩ := List.cons.inj e
        obtain ⟨e3, e4⟩ := List.cons.inj e2
        exact ⟨b :: a :: l, List.Perm.swap b a l, by rw [List.map_cons, List.map_cons, ← e1, ← e3, e4]⟩
    | trans p q ihp ihq =>
      intro l e
      obtain ⟨l1, p1, e1⟩ := ihp l e
      obtain ⟨l2, p2, e2⟩ := ihq l1 e1
      exact ⟨l2, p1.trans p2, e2⟩
  obtain ⟨l', p', e⟩ := key p.symm l rfl
  exact ⟨l', p'.symm, e⟩
theorem tupsI_pairs : ∀ {rs : List Addr} {L : List (List Int)}, TupsI K H rs L → ∃ ks : List (Addr × List Int), rs = ks.map Prod.fst ∧ L = ks.map Prod.snd ∧ ∀ p ∈ ks, SqT K H p.1 (iv p.2)
  | _, _, .nil => ⟨[], rfl, rfl, fun _ h => nomatch h⟩
  | _, _, .cons (a := a) (b := t) h hT => by
    obtain ⟨ks, e1, e2, e3⟩ := tupsI_pairs hT
    refine ⟨(a, t) :: ks, by rw [e1]; rfl, by rw [e2]; rfl, fun p hp => ?_⟩
    rcases List.mem_cons.mp hp with rfl | hp
    · exact h
    · exact e3 p hp
theorem pairs_tupsI : ∀ {ks : List (Addr × List Int)}, (∀ p ∈ ks, SqT K H p.1 (iv p.2)) → TupsI K H (ks.map Prod.fst) (ks.map Prod.snd)
  | [], _ => .nil
  | p :: ks, h => .cons (h p List.mem_cons_self) (pairs_tupsI fun q hq => h q (List.mem_cons_of_mem _ hq))
/-- a list of tuples that is a sequence of known ones -/
theorem tupsI_perm {rs : List Addr} {L : List (List Int)} {ys : List V} (hT : TupsI K H rs L) (p : ys.Perm (rs.map V.ref)) (r : List Int → List Int → Prop) (hr : ys.Pairwise fun x y => ∀ n k, TupI K H x n → TupI K H y k → r n k) :
    ∃ rs' L', ys = rs'.map V.ref ∧ TupsI K H rs' L' ∧ L'.Perm L ∧ L'.Pairwise r := by
  obtain ⟨ks, rfl, rfl, e3⟩ := tupsI_pairs hT
  rw [List.map_map] at p
  obtain ⟨ks', p', rfl⟩ := perm_back p
  have e4 : ∀ p ∈ ks', SqT K H p.1 (iv p.2) := fun q hq => e3 q (p'.mem_iff.mp hq)
  refine ⟨ks'.map Prod.fst, ks'.map Prod.snd, by rw [List.map_map], pairs_tupsI e4, p'.map _, ?_⟩
  rw [List.pairwise_map] at hr ⊢
  exact List.Pairwise.imp_of_mem (fun {a b} ha hb h => h _ _ ⟨_, rfl, e4 a ha⟩ ⟨_, rfl, e4 b hb⟩) hr
end
/-- two sorted lists of the same tuples are one -/
theorem cod_one {m : Nat} {B : Int} (hB : 0 ≤ B) : ∀ {L M : List (List Int)}, L.Perm M → (∀ t ∈ L, TS.Bd B t ∧ t.length ≤ m) → L.Pairwise (fun a b => TM.cod B m a ≤ TM.cod B m b) → M.Pairwise (fun a b => TM.cod B m a ≤ TM.cod B m b) → L = M
  | [], M, p, _, _, _ => (List.nil_perm.mp p).symm
  | x :: a, [], p, _, _, _ => absurd p.length_eq (by simp)
  | x :: a, y :: b, p, hb, ha, hbb => by
    obtain ⟨a1, a2⟩ := List.pairwise_cons.mp ha
    obtain ⟨b1, b2⟩ := List.pairwise_cons.mp hbb
    have hx := hb x List.mem_cons_self
    have hy := hb y (p.mem_iff.mpr List.mem_cons_self)
    have e : x = y := by
      have h1 : x ∈ y :: b := p.mem_iff.mp List.mem_cons_self
      have h2 : y ∈ x :: a := p.mem_iff.mpr List.mem_cons_self
      rcases List.mem_cons.mp h1 with h1 | h1
      · exact h1
      · rcases List.mem_cons.mp h2 with h2 | h2
        · exact h2.symm
        · have e1 := b1 x h1
          have e2 := a1 y h2
          exact TM.cod_inj hB m hx.1 hy.1 hx.2 hy.2 (by omega)
    subst e
    rw [cod_one hB (List.perm_cons x |>.mp p) (fun t ht => hb t (List.mem_cons_of_mem _ ht)) a2 b2]
end Gv

/-! t[::-1] of a tuple -/
namespace W7
open PySem PySem.Spec PyProof.Rows L2 HT
section
variable {prog : Program} {w : World} {A : Around} {E : Value → Shared → Prop} {s : Shared}
theorem rev_pick (xs : Array Value) : ((List.range xs.size).filterMap fun (m : Nat) => xs[(((xs.size : Int) - 1) + (m : Int) * (-1)).toNat]?).toArray = xs.toList.reverse.toArray := by
  congr 1
  have e2 : ∀ (l : List Value), (List.range l.length).filterMap (fun m => l[m]?) = l := fun l => by
    induction l with
    | nil => rfl
    | cons x l ih =>
      rw [List.length_cons, List.range_succ_eq_map, List.filterMap_cons, List.filterMap_map]
      show x :: (List.range l.length).filterMap ((fun m => (x :: l)[m]?) ∘ Nat.succ) = _
      rw [show ((fun m => (x :: l)[m]?) ∘ Nat.succ) = (fun m => l[m]?) from rfl, ih]
  have e3 := e2 xs.toList.reverse
  rw [List.length_reverse, Array.length_toList] at e3
  rw [← e3]
  have cg : ∀ {l : List Nat} {f g : Nat → Option Value}, (∀ m ∈ l, f m = g m) → l.filterMap f = l.filterMap g := fun {l f g} h => by
    induction l with
    | nil => rfl
    | cons m l ih => rw [List.filterMap_cons, List.filterMap_cons, h m List.mem_cons_self, ih fun k hk => h k (List.mem_cons_of_mem _ hk)]
  refine cg fun m hm => ?_
  have hlt := List.mem_range.mp hm
  rw [List.getElem?_reverse (by rw [Array.length_toList]; exact hlt), Array.length_toList, show (((xs.size : Int) - 1) + (m : Int) * (-1)).toNat = xs.size - 1 - m by omega, Array.getElem?_toList]
theorem places_rev (n : Nat) : Builtin.Slice.slicePlaces ((n : Int) - 1) (-1) (-1) = n := by
  unfold Builtin.Slice.slicePlaces
  have h1 : ¬ (-1 : Int) > 0 := by omega
  simp only [h1, if_false, Int.neg_neg, Int.ediv_one]
  split <;> omega
theorem sliceApplied_rev {sl : Addr} {vl vu vs : Value} {n : Nat} {Q : Int × Int × Nat → Shared → Prop} (hs : s.heap.IsSliceOf sl vl vu vs) (pl : IsPart vl none) (pu : IsPart vu none) (ps : IsPart vs (some (-1)))
    (h : Q ((n : Int) - 1, -1, n) s) : wpAny (model prog w) A (Builtin.Slice.sliceApplied (.ref sl) (pure (n : Int))) Q E s := by
  obtain ⟨os, hos, hcs, hds⟩ := id hs
  unfold Builtin.Slice.sliceApplied Builtin.Slice.sliceFields
  refine wpAny_bind (wpAny_bind (wpAny_field hos hds (x := vl) rfl (wpAny_bind (wpAny_field hos hds (x := vu) rfl (wpAny_bind (wpAny_field hos hds (x := vs) rfl (wpAny_pure ?_)))))))
  refine wpAny_bind (slicePart_ ps ?_)
  show wpAny _ _ (if ((-1 : Int) == 0) = true then _ else _) _ _ s
  rw [if_neg (by decide)]
  refine wpAny_bind (slicePart_ pl (wpAny_bind (slicePart_ pu (wpAny_bind (wpAny_pure ?_)))))
  show wpAny _ _ (pure ((n : Int) - 1, (-1 : Int), Builtin.Slice.slicePlaces ((n : Int) - 1) (-1) (-1))) _ _ s
  rw [places_rev]
  exact wpAny_pure h
theorem getItem_tuple_rev {t sl : Addr} {items : Array Value} {vl vu vs : Value} {Q : Value → Shared → Prop} (ht : IsTup s.heap t items) (hs : s.heap.IsSliceOf sl vl vu vs) (pl : IsPart vl none) (pu : IsPart vu none) (ps : IsPart vs (some (-1)))
    (h : Q (.ref s.heap.objs.size) { s with heap := s.heap.push { cls := .type "tuple", data := .seq items.toList.reverse.toArray } })
    (hsz : items.size ≤ sizeLine) : wpAny (model prog w) A (getItem (.ref t) (.ref sl)) Q E s := by
  have htake : sizeOk (.seq items.toList.reverse.toArray) := by
    show items.toList.reverse.toArray.size ≤ sizeLine
    rw [List.size_toArray, List.length_reverse, Array.length_toList]
    exact hsz
  obtain ⟨os, hos, hcs, hds⟩ := id hs
  have hTs : s.TypeIs (.ref sl) "slice" := ⟨os, hos, hcs⟩
  unfold getItem
  try with_reducible refine wpAny_holding ?_
  first | refine wpAny_bind (wpAny_pure ?_) | skip
  refine wpAny_bind (wpAny_sequenceKey ht.typeIs (by decide) ?_)
  refine wpAny_bind (wpAny_callSpecial?_slot (name := Str.ofString "__getitem__") ht.typeIs PyProof.Rows.slot_tuple_getitem
    (wpAny_call_entry PyProof.Rows.slot_tuple_getitem ht.typeIs entry_tuple_getitem ?_ (args_tuple_getitem _ _)))
  show wpAny _ _ (Builtin.Tuple.tupleItemsOf (.ref t) >>= _) _ _ s
  refine wpAny_bind (tupleItemsOf_ ht ?_)
  refine wpAny_bind (wpAny_typeOf hTs ?_)
  rw [if_pos (by decide)]
  refine wpAny_bind (sliceApplied_rev hs pl pu ps ?_)
  have hno : ¬ (((((items.size : Nat) : Int) - 1) == 0 && (-1 : Int) == 1 && items.size == items.size) = true) := by
    rw [show ((-1 : Int) == 1) = false by decide, Bool.and_false, Bool.false_and]
    exact Bool.false_ne_true
  show wpAny _ _ (if ((((items.size : Nat) : Int) - 1) == 0 && (-1 : Int) == 1 && items.size == items.size) = true then _ else _) _ _ s
  rw [if_neg hno, rev_pick]
  first
    | exact wpAny_bind (m := Builtin.Tuple.tupleExact _) (wpAny_newObj_type (wpAny_pure ⟨_, rfl, wpAny_pure h⟩) htake)
    | exact wpAny_bind (m := Builtin.Tuple.tupleExact _) (wpAny_newObj_type (wpAny_bind (wpAny_pure (wpAny_pure ⟨_, rfl, wpAny_pure h⟩))) htake)
    | exact wpAny_bind (wpAny_bind (m := Builtin.Tuple.tupleExact _) (wpAny_newObj_type (wpAny_pure (wpAny_pure ⟨_, rfl, wpAny_pure h⟩)) htake))
    | exact wpAny_bind (wpAny_bind (m := Builtin.Tuple.tupleExact _) (wpAny_newObj_type (wpAny_pure ⟨_, rfl, wpAny_pure h⟩) htake))
end
section
variable {X : Cx}
def tRevT (K : PySem.W.Frag) (te : TE) : TE := fun σ H Q => te σ H fun x H1 => ∃ a xs, x = .ref a ∧ SqT K H1 a xs ∧ ∀ p, H1 p = none → Q (.ref p) (upd H1 p (.tup xs.reverse))
theorem pe_revT {e : Expr} {te : TE} {k : Nat} {p1 p2 p3 pos : Pos} (he : PE X e te) : PE X (.Subscript e (.Slice none none (some (.UnaryOp .USub (.Constant (.int 1) k p1) p2)) p3) pos) (tRevT X.K te) := by
  refine ⟨fun pins s σ H Q I h => ?_⟩
  refine Subscript_ (thn (he.run pins s σ H _ I h) fun v s1 ⟨x, H1, I1, r1, q1⟩ => ?_)
  obtain ⟨a, xs, ex, hx, q⟩ := q1
  subst ex
  cases r1
  have hst : PO X (some (.UnaryOp .USub (.Constant (.int 1) k p1) p2)) (tPart (tUn (rU fun i => .int (-i)) (tC (.int 1)))) := po_some (pe_un un_neg pe_int)
  refine wpAny_Slice (thn (po_none.run pins s1 σ H1 (fun o H2 => o = none ∧ H2 = H1) I1 ⟨rfl, rfl⟩) fun vl s2 ⟨l, H2, I2, pl, el, e2⟩ => ?_)
  subst el e2
  refine thn (po_none.run pins s2 σ H2 (fun o H3 => o = none ∧ H3 = H2) I2 ⟨rfl, rfl⟩) fun vu s3 ⟨u, H3, I3, pu, eu, e3⟩ => ?_
  subst eu e3
  refine thn (hst.run pins s3 σ H3 (fun o H4 => o = some (-1) ∧ H4 = H3) I3 ⟨1, rfl, -1, rfl, rfl, rfl⟩) fun vs s4 ⟨o, H4, I4, ps, eo, e4⟩ => ?_
  subst eo e4
  have I5 : Inv X pins σ H4 { s4 with heap := s4.heap.push { cls := .type "slice", data := .fields #[vl, vu, vs] } } := I4.kept (t' := s4.toks) fun b ob q => Heap.get?_push_of_some _ q
  obtain ⟨its, r, ht, hz⟩ := I5.tuple hx
  have hlen := r.length
  show wpAny (model X.prog X.w) X.A (subscriptTail e (.Slice none none (some (.UnaryOp .USub (.Constant (.int 1) k p1) p2)) p3) (.ref a) (.ref s4.heap.objs.size)) (EP X pins σ Q) X.xe { s4 with heap := s4.heap.push { cls := .type "slice", data := .fields #[vl, vu, vs] } }
  refine tail_any (ops := [.ref a, .ref s4.heap.objs.size]) ht.typeIs (PyProof.Rows.slot_tuple_getitem.lookup) ?_ (by with_unfolding_all rfl)
  refine getItem_tuple_rev ht (Heap.IsSliceOf.new _ vl vu vs) pl pu ps ?_ (by rw [List.size_toArray]; omega)
  refine ⟨.ref _, _, I5.laid (t' := s4.toks) (o := .tup xs.reverse) (fun b ob q => Heap.get?_push_of_some _ q) (Nat.le_refl _) ?_, rfl, q _ (I5.hok.fresh (Nat.le_refl _))⟩
  exact ⟨by rw [List.length_reverse]; exact hz, _, r.reverse, IsTup.new _ _⟩
end
end W7

namespace K61
open PySem PySem.Spec PyProof.Rows L2 RZ L5 Gv
/-! ### the text by places -/
def topS (i : Nat) : Stmt := PySem.Challenge.pw_pureladders_k61_whole_degrees_below_othe.main.body.getD i (.Pass ⟨0, 0, 0, 0⟩)
abbrev s_is_number : Stmt := topS 5
abbrev N_is_number : List Str := ["value"]
theorem sc_is_number : FnScope N_is_number ["value"] (defScope s_is_number) := ⟨rfl, rfl, rfl, by decide +kernel, rfl, by decide +kernel, by decide +kernel⟩
abbrev s_is_within : Stmt := topS 6
abbrev N_is_within : List Str := ["value", "least", "most"]
theorem sc_is_within : FnScope N_is_within ["value", "least", "most"] (defScope s_is_within) := ⟨rfl, rfl, rfl, by decide +kernel, rfl, by decide +kernel, by decide +kernel⟩
abbrev s_check_within : Stmt := topS 7
abbrev N_check_within : List Str := ["value", "least", "most"]
theorem sc_check_within : FnScope N_check_within ["value", "least", "most"] (defScope s_check_within) := ⟨rfl, rfl, rfl, by decide +kernel, rfl, by decide +kernel, by decide +kernel⟩
abbrev s_is_set : Stmt := topS 9
abbrev N_is_set : List Str := ["value", "many", "corner", "low", "high"]
theorem sc_is_set : FnScope N_is_set ["value", "many"] (defScope s_is_set) := ⟨rfl, rfl, rfl, by decide +kernel, rfl, by decide +kernel, by decide +kernel⟩
abbrev s_is_pure : Stmt := topS 15
abbrev N_is_pure : List Str := ["value"]
theorem sc_is_pure : FnScope N_is_pure ["value"] (defScope s_is_pure) := ⟨rfl, rfl, rfl, by decide +kernel, rfl, by decide +kernel, by decide +kernel⟩
abbrev s_check_degrees : Stmt := topS 16
abbrev N_check_degrees : List Str := ["value"]
theorem sc_check_degrees : FnScope N_check_degrees ["value"] (defScope s_check_degrees) := ⟨rfl, rfl, rfl, by decide +kernel, rfl, by decide +kernel, by decide +kernel⟩
abbrev s_is_below : Stmt := topS 17
abbrev N_is_below : List Str := ["value", "other"]
theorem sc_is_below : FnScope N_is_below ["value", "other"] (defScope s_is_below) := ⟨rfl, rfl, rfl, by decide +kernel, rfl, by decide +kernel, by decide +kernel⟩
abbrev s_stands_below : Stmt := topS 18
abbrev N_stands_below : List Str := ["one", "other", "low", "high"]
theorem sc_stands_below : FnScope N_stands_below ["one", "other"] (defScope s_stands_below) := ⟨rfl, rfl, rfl, by decide +kernel, rfl, by decide +kernel, by decide +kernel⟩
abbrev s_check_window : Stmt := topS 19
abbrev N_check_window : List Str := ["last", "most"]
theorem sc_check_window : FnScope N_check_window ["last", "most"] (defScope s_check_window) := ⟨rfl, rfl, rfl, by decide +kernel, rfl, by decide +kernel, by decide +kernel⟩
abbrev s_pure_degrees : Stmt := topS 20
abbrev N_pure_degrees : List Str := ["last", "most", "found", "longest", "_", "chosen", "degree"]
theorem sc_pure_degrees : FnScope N_pure_degrees ["last", "most"] (defScope s_pure_degrees) := ⟨rfl, rfl, rfl, by decide +kernel, rfl, by decide +kernel, by decide +kernel⟩
abbrev s_is_behind : Stmt := topS 21
abbrev N_is_behind : List Str := ["degree", "chosen"]
theorem sc_is_behind : FnScope N_is_behind ["degree", "chosen"] (defScope s_is_behind) := ⟨rfl, rfl, rfl, by decide +kernel, rfl, by decide +kernel, by decide +kernel⟩
abbrev s_w_bowl : Stmt := topS 23
abbrev N_w_bowl : List Str := ["_law_script", "_law_spot", "_law_cell", "_law_great", "_law_seed"]
theorem sc_w_bowl : FnScope N_w_bowl ["_law_script", "_law_spot"] (defScope s_w_bowl) := ⟨rfl, rfl, rfl, by decide +kernel, rfl, by decide +kernel, by decide +kernel⟩
abbrev s_w_dip : Stmt := topS 24
abbrev N_w_dip : List Str := ["_law_bowl_here", "_law_total", "_law_found", "_law_one", "_law_two"]
theorem sc_w_dip : FnScope N_w_dip ["_law_bowl_here", "_law_total"] (defScope s_w_dip) := ⟨rfl, rfl, rfl, by decide +kernel, rfl, by decide +kernel, by decide +kernel⟩
abbrev s_w_pick : Stmt := topS 25
abbrev N_w_pick : List Str := ["_law_bowl_here", "_law_items"]
theorem sc_w_pick : FnScope N_w_pick ["_law_bowl_here", "_law_items"] (defScope s_w_pick) := ⟨rfl, rfl, rfl, by decide +kernel, rfl, by decide +kernel, by decide +kernel⟩
abbrev s_w_is_below : Stmt := topS 26
abbrev N_w_is_below : List Str := ["_law_one", "_law_other", "_law_left", "_law_right_here"]
theorem sc_w_is_below : FnScope N_w_is_below ["_law_one", "_law_other"] (defScope s_w_is_below) := ⟨rfl, rfl, rfl, by decide +kernel, rfl, by decide +kernel, by decide +kernel⟩
abbrev s_w_degrees : Stmt := topS 27
abbrev N_w_degrees : List Str := ["_law_bowl_here", "_law_size", "_law_most", "_law_found", "_law_turn"]
theorem sc_w_degrees : FnScope N_w_degrees ["_law_bowl_here", "_law_size", "_law_most"] (defScope s_w_degrees) := ⟨rfl, rfl, rfl, by decide +kernel, rfl, by decide +kernel, by decide +kernel⟩
abbrev s_w_raised : Stmt := topS 28
abbrev N_w_raised : List Str := ["_law_bowl_here", "_law_degrees_here", "_law_found", "_law_most", "_law_at", "_law_room"]
theorem sc_w_raised : FnScope N_w_raised ["_law_bowl_here", "_law_degrees_here"] (defScope s_w_raised) := ⟨rfl, rfl, rfl, by decide +kernel, rfl, by decide +kernel, by decide +kernel⟩
abbrev s_w_is_pure : Stmt := topS 29
abbrev N_w_is_pure : List Str := ["_law_value", "_law_one", "_law_other"]
theorem sc_w_is_pure : FnScope N_w_is_pure ["_law_value"] (defScope s_w_is_pure) := ⟨rfl, rfl, rfl, by decide +kernel, rfl, by decide +kernel, by decide +kernel⟩
abbrev s_w_near : Stmt := topS 30
abbrev N_w_near : List Str := ["_law_bowl_here", "_law_degrees_here", "_law_at", "_law_found"]
theorem sc_w_near : FnScope N_w_near ["_law_bowl_here", "_law_degrees_here"] (defScope s_w_near) := ⟨rfl, rfl, rfl, by decide +kernel, rfl, by decide +kernel, by decide +kernel⟩
abbrev s_w_right : Stmt := topS 31
abbrev N_w_right : List Str := ["_law_bowl_here", "_law_one", "_law_other", "_law_third", "_law_later", "_law_some", "_law_value"]
theorem sc_w_right : FnScope N_w_right ["_law_bowl_here"] (defScope s_w_right) := ⟨rfl, rfl, rfl, by decide +kernel, rfl, by decide +kernel, by decide +kernel⟩
abbrev s_w_window : Stmt := topS 32
abbrev N_w_window : List Str := ["_law_last", "_law_most", "_law_found", "_law_degree", "_law_one"]
theorem sc_w_window : FnScope N_w_window ["_law_last", "_law_most"] (defScope s_w_window) := ⟨rfl, rfl, rfl, by decide +kernel, rfl, by decide +kernel, by decide +kernel⟩
abbrev s_law : Stmt := topS 33
abbrev N_law : List Str := ["_law_script", "_law_spot", "_law_bowl_here", "_law_last", "_law_most", "_law_told"]
theorem sc_law : FnScope N_law ["_law_script"] (defScope s_law) := ⟨rfl, rfl, rfl, by decide +kernel, rfl, by decide +kernel, by decide +kernel⟩
/-! ### what the top has written -/
structure Txt (K : PySem.W.Frag) (mg : Str → Option Value) where
  a_is_number : Addr
  d_is_number : FuncData
  F_is_number : Fun K "is_number" "is_number" s_is_number a_is_number d_is_number
  b_is_number : Binds K d_is_number ["value"] []
  m_is_number : mg "is_number" = some (.ref a_is_number)
  a_is_within : Addr
  d_is_within : FuncData
  F_is_within : Fun K "is_within" "is_within" s_is_within a_is_within d_is_within
  b_is_within : Binds K d_is_within ["value", "least", "most"] []
  m_is_within : mg "is_within" = some (.ref a_is_within)
  a_check_within : Addr
  d_check_within : FuncData
  F_check_within : Fun K "check_within" "check_within" s_check_within a_check_within d_check_within
  b_check_within : Binds K d_check_within ["value", "least", "most"] []
  m_check_within : mg "check_within" = some (.ref a_check_within)
  a_is_set : Addr
  d_is_set : FuncData
  F_is_set : Fun K "is_set" "is_set" s_is_set a_is_set d_is_set
  b_is_set : Binds K d_is_set ["value", "many"] []
  m_is_set : mg "is_set" = some (.ref a_is_set)
  a_is_pure : Addr
  d_is_pure : FuncData
  F_is_pure : Fun K "is_pure" "is_pure" s_is_pure a_is_pure d_is_pure
  b_is_pure : Binds K d_is_pure ["value"] []
  m_is_pure : mg "is_pure" = some (.ref a_is_pure)
  a_check_degrees : Addr
  d_check_degrees : FuncData
  F_check_degrees : Fun K "check_degrees" "check_degrees" s_check_degrees a_check_degrees d_check_degrees
  b_check_degrees : Binds K d_check_degrees ["value"] []
  m_check_degrees : mg "check_degrees" = some (.ref a_check_degrees)
  a_is_below : Addr
  d_is_below : FuncData
  F_is_below : Fun K "is_below" "is_below" s_is_below a_is_below d_is_below
  b_is_below : Binds K d_is_below ["value", "other"] []
  m_is_below : mg "is_below" = some (.ref a_is_below)
  a_stands_below : Addr
  d_stands_below : FuncData
  F_stands_below : Fun K "stands_below" "stands_below" s_stands_below a_stands_below d_stands_below
  b_stands_below : Binds K d_stands_below ["one", "other"] []
  m_stands_below : mg "stands_below" = some (.ref a_stands_below)
  a_check_window : Addr
  d_check_window : FuncData
  F_check_window : Fun K "check_window" "check_window" s_check_window a_check_window d_check_window
  b_check_window : Binds K d_check_window ["last", "most"] []
  m_check_window : mg "check_window" = some (.ref a_check_window)
  a_pure_degrees : Addr
  d_pure_degrees : FuncData
  F_pure_degrees : Fun K "pure_degrees" "pure_degrees" s_pure_degrees a_pure_degrees d_pure_degrees
  b_pure_degrees : Binds K d_pure_degrees ["last", "most"] []
  m_pure_degrees : mg "pure_degrees" = some (.ref a_pure_degrees)
  a_is_behind : Addr
  d_is_behind : FuncData
  F_is_behind : Fun K "is_behind" "is_behind" s_is_behind a_is_behind d_is_behind
  b_is_behind : Binds K d_is_behind ["degree", "chosen"] []
  m_is_behind : mg "is_behind" = some (.ref a_is_behind)
  a_w_bowl : Addr
  d_w_bowl : FuncData
  F_w_bowl : Fun K "_law_bowl" "_law_bowl" s_w_bowl a_w_bowl d_w_bowl
  b_w_bowl : Binds K d_w_bowl ["_law_script", "_law_spot"] []
  m_w_bowl : mg "_law_bowl" = some (.ref a_w_bowl)
  a_w_dip : Addr
  d_w_dip : FuncData
  F_w_dip : Fun K "_law_dip" "_law_dip" s_w_dip a_w_dip d_w_dip
  b_w_dip : Binds K d_w_dip ["_law_bowl_here", "_law_total"] []
  m_w_dip : mg "_law_dip" = some (.ref a_w_dip)
  a_w_pick : Addr
  d_w_pick : FuncData
  F_w_pick : Fun K "_law_pick" "_law_pick" s_w_pick a_w_pick d_w_pick
  b_w_pick : Binds K d_w_pick ["_law_bowl_here", "_law_items"] []
  m_w_pick : mg "_law_pick" = some (.ref a_w_pick)
  a_w_is_below : Addr
  d_w_is_below : FuncData
  F_w_is_below : Fun K "_law_is_below" "_law_is_below" s_w_is_below a_w_is_below d_w_is_below
  b_w_is_below : Binds K d_w_is_below ["_law_one", "_law_other"] []
  m_w_is_below : mg "_law_is_below" = some (.ref a_w_is_below)
  a_w_degrees : Addr
  d_w_degrees : FuncData
  F_w_degrees : Fun K "_law_degrees" "_law_degrees" s_w_degrees a_w_degrees d_w_degrees
  b_w_degrees : Binds K d_w_degrees ["_law_bowl_here", "_law_size", "_law_most"] []
  m_w_degrees : mg "_law_degrees" = some (.ref a_w_degrees)
  a_w_raised : Addr
  d_w_raised : FuncData
  F_w_raised : Fun K "_law_raised" "_law_raised" s_w_raised a_w_raised d_w_raised
  b_w_raised : Binds K d_w_raised ["_law_bowl_here", "_law_degrees_here"] []
  m_w_raised : mg "_law_raised" = some (.ref a_w_raised)
  a_w_is_pure : Addr
  d_w_is_pure : FuncData
  F_w_is_pure : Fun K "_law_is_pure" "_law_is_pure" s_w_is_pure a_w_is_pure d_w_is_pure
  b_w_is_pure : Binds K d_w_is_pure ["_law_value"] []
  m_w_is_pure : mg "_law_is_pure" = some (.ref a_w_is_pure)
  a_w_near : Addr
  d_w_near : FuncData
  F_w_near : Fun K "_law_near" "_law_near" s_w_near a_w_near d_w_near
  b_w_near : Binds K d_w_near ["_law_bowl_here", "_law_degrees_here"] []
  m_w_near : mg "_law_near" = some (.ref a_w_near)
  a_w_right : Addr
  d_w_right : FuncData
  F_w_right : Fun K "_law_right" "_law_right" s_w_right a_w_right d_w_right
  b_w_right : Binds K d_w_right ["_law_bowl_here"] []
  m_w_right : mg "_law_right" = some (.ref a_w_right)
  a_w_window : Addr
  d_w_window : FuncData
  F_w_window : Fun K "_law_window" "_law_window" s_w_window a_w_window d_w_window
  b_w_window : Binds K d_w_window ["_law_last", "_law_most"] []
  m_w_window : mg "_law_window" = some (.ref a_w_window)
  a_law : Addr
  d_law : FuncData
  F_law : Fun K "law" "law" s_law a_law d_law
  b_law : Binds K d_law ["_law_script"] []
  m_law : mg "law" = some (.ref a_law)
  z_isinstance : mg "isinstance" = none
  z_int : mg "int" = none
  z_bool : mg "bool" = none
  z_tuple : mg "tuple" = none
  z_all : mg "all" = none
  z_zip : mg "zip" = none
  z_len : mg "len" = none
  z_range : mg "range" = none
  z_sorted : mg "sorted" = none
  z_abs : mg "abs" = none
  z_max : mg "max" = none
  z_list : mg "list" = none
  z_min : mg "min" = none
  t_MAX_STEP : Nat
  c_MAX_STEP : mg "MAX_STEP" = some (.int 8 t_MAX_STEP)
  t_MAX_PLACE : Nat
  c_MAX_PLACE : mg "MAX_PLACE" = some (.int 480 t_MAX_PLACE)
  t_MOST_LAST : Nat
  c_MOST_LAST : mg "MOST_LAST" = some (.int 3 t_MOST_LAST)
  t_MOST_DEGREE : Nat
  c_MOST_DEGREE : mg "MOST_DEGREE" = some (.int 5 t_MOST_DEGREE)
end K61

namespace K61
open PySem PySem.Spec PyProof.Rows L2 RZ L5 Gv
def ascI : List Int → Bool
  | a :: b :: r => decide (a < b) && ascI (b :: r)
  | _ => true
theorem zb_asc : ∀ u : List Int, (zbI (fun a b => decide (a < b)) u (u.drop 1)).all id = ascI u
  | [] => rfl
  | [_] => rfl
  | a :: b :: r => by
    have := zb_asc (b :: r)
    show (decide (a < b) && (zbI (fun a b => decide (a < b)) (b :: r) ((b :: r).drop 1)).all id) = (decide (a < b) && ascI (b :: r))
    rw [this]
def setB (o : Option (List (Option Int))) (m : Int) : Bool := match o with
  | some os => (os.all fun e => inB e 0 m) && ascI (intsO os)
  | none => false
section
variable {P : Program} {w : World} {K : PySem.W.Frag} {mg : Str → Option Value} {base : Heap}
def sp_num (K : PySem.W.Frag) : Sp := fun vs H Q _ => ∃ v o, vs = [v] ∧ El K H v o ∧ Q (.bl o.isSome) H
theorem ok_num (T : Txt K mg) : FnOk P w K mg base CX0 1 T.a_is_number T.d_is_number ["value"] (sp_num K) := by
  refine T.F_is_number.ok sc_is_number (fun vs H Q E h => ?_) (fun cdv A outer s H vs Q E hr h => ?_)
  · obtain ⟨v, o, rfl, _⟩ := h
    rfl
  · obtain ⟨v, o, rfl, he, q⟩ := h
    refine ⟨_, pss_one (ps_ret (pe_and (pe_callB call_isi (by rfl) T.z_isinstance boot_isinstance (pa_cons (pv 0) (pa_cons (pe_bltn (v := .ty "int") (by rfl) T.z_int boot_int rfl) pa_nil)))
      (pe_one (pe_not (pe_callB call_isi (by rfl) T.z_isinstance boot_isinstance (pa_cons (pv 0) (pa_cons (pe_bltn (v := .ty "bool") (by rfl) T.z_bool boot_bool rfl) pa_nil))))))), ?_⟩
    obtain ⟨t, bi, bb, ty, e1, e2, e3, _⟩ := he.isi
    refine ⟨_, rfl, _, _, _, _, bi, rfl, .ty _, ty, e1, bi, rfl, ?_⟩
    cases bi with
    | true =>
      refine iteT ⟨_, rfl, _, _, _, _, bb, rfl, .ty _, ty, e2, bb, rfl, ?_⟩
      rw [e3] at q
      exact q
    | false =>
      refine iteF ?_
      rw [e3] at q
      exact q
def sp_within (K : PySem.W.Frag) : Sp := fun vs H Q _ => ∃ v o, ∃ a b : Int, vs = [v, .int a, .int b] ∧ El K H v o ∧ Q (.bl (inB o a b)) H
theorem ok_within (T : Txt K mg) : FnOk P w K mg base CX0 2 T.a_is_within T.d_is_within ["value", "least", "most"] (sp_within K) := by
  refine T.F_is_within.ok sc_is_within (fun vs H Q E h => ?_) (fun cdv A outer s H vs Q E hr h => ?_)
  · obtain ⟨v, o, a, b, rfl, _⟩ := h
    rfl
  · obtain ⟨v, o, a, b, rfl, he, q⟩ := h
    refine ⟨_, pss_one (ps_ret (pe_and (pe_call (ok_num T) hr (by rfl) T.m_is_number T.F_is_number.kp T.b_is_number .nil pass0 (pa_cons (pv 0) pa_nil)) (pe_one (pe_chain op_le op_le (pv 1) (pv 0) (pv 2))))), ?_⟩
    refine ⟨_, rfl, v, o, rfl, he, o.isSome, rfl, ?_⟩
    cases o with
    | none => exact iteF q
    | some i =>
      obtain ⟨_, _, _, _, _, _, _, e⟩ := he.isi
      obtain rfl := e i rfl
      refine iteT ?_
      refine ⟨_, rfl, _, rfl, _, _, rfl, rfl, _, rfl, ite2 (fun c => ?_) (fun c => ?_)⟩
      · refine ⟨_, rfl, _, _, rfl, rfl, ?_⟩
        have q' : Q (.bl (decide (a ≤ i) && decide (i ≤ b))) H := q
        rw [c] at q'
        exact q'
      · have q' : Q (.bl (decide (a ≤ i) && decide (i ≤ b))) H := q
        rw [Bool.eq_false_iff.mpr c] at q'
        exact q'
def sp_checkw : Sp := fun vs H Q _ => ∃ i a b : Int, vs = [.int i, .int a, .int b] ∧ a ≤ i ∧ i ≤ b ∧ Q .non H
theorem ok_checkw (T : Txt K mg) : FnOk P w K mg base CX0 3 T.a_check_within T.d_check_within ["value", "least", "most"] sp_checkw := by
  refine T.F_check_within.ok sc_check_within (fun vs H Q E h => ?_) (fun cdv A outer s H vs Q E hr h => ?_)
  · obtain ⟨i, a, b, rfl, _⟩ := h
    rfl
  · obtain ⟨i, a, b, rfl, h1, h2, q⟩ := h
    refine ⟨_, pss_one (ps_if (pt_not (pt_val (pe_call (ok_within T) hr (by rfl) T.m_is_within T.F_is_within.kp T.b_is_within .nil pass0 (pa_cons (pv 0) (pa_cons (pv 1) (pa_cons (pv 2) pa_nil)))))) (pss_one ps_never) pss_nil), ?_⟩
    refine ⟨_, rfl, _, rfl, _, rfl, _, some i, a, b, rfl, .int i, true, ?_, iteF q⟩
    refine congrArg V.bl ?_
    show (decide (a ≤ i) && decide (i ≤ b)) = true
    rw [decide_eq_true h1, decide_eq_true h2]
    rfl

/-! ### is_set -/
def sp_set (K : PySem.W.Frag) : Sp := fun vs H Q _ => ∃ v o, ∃ m : Int, vs = [v, .int m] ∧ Va K H v o ∧ ∀ H', Same H H' → Q (.bl (setB o (m - 1))) H'
theorem ok_set (T : Txt K mg) : FnOk P w K mg base CX0 3 T.a_is_set T.d_is_set ["value", "many"] (sp_set K) := by
  refine T.F_is_set.ok sc_is_set (fun vs H Q E h => ?_) (fun cdv A outer s H vs Q E hr h => ?_)
  · obtain ⟨v, o, m, rfl, _⟩ := h
    rfl
  · obtain ⟨v, o, m, rfl, hv, q⟩ := h
    refine ⟨_, pss_cons (ps_if (PW.pt (pw_or (pt_not (pt_val (pe_callB call_isi (by rfl) T.z_isinstance boot_isinstance (pa_cons (pv 0) (pa_cons (pe_bltn (v := .ty "tuple") (by rfl) T.z_tuple boot_tuple rfl) pa_nil)))))
        (pw_or1 (pt_not (pt_val (pe_callB (cr_all rfl) (by rfl) T.z_all (by decide +kernel) (pa_cons
          (pe_lc (own := [("corner", 2)]) (g := gName 2) (tt := tYes) rfl sc_is_set.nd (pi_tup (pv 0)) (blkOk_by (own := [("corner", 2)]) (N := N_is_set) (sc := defScope s_is_set) (by decide +kernel))
            (fun _ _ _ _ _ => pg_name (i := 2) sc_is_set.nd rfl (Or.inl rfl)) (fun _ _ _ _ _ => pts_nil)
            (fun _ _ _ _ _ => pe_call (ok_within T) hr (by rfl) T.m_is_within T.F_is_within.kp T.b_is_within .nil pass0 (pa_cons (pv 2) (pa_cons pe_int (pa_cons (pe_op op_sub (pv 1) pe_int) pa_nil))))) pa_nil))))))) (pss_one (ps_ret pe_bl)) pss_nil)
      (pss_one (ps_ret (pe_callB (cr_all rfl) (by rfl) T.z_all (by decide +kernel) (pa_cons
        (pe_lc (own := [("low", 3), ("high", 4)]) (g := gTup K 2 (gCons (gName 3) (gCons (gName 4) gNil))) (tt := tYes) rfl sc_is_set.nd (pi_zipA (by rfl) T.z_zip (pa_cons (pv 0) (pa_cons (pe_slice sl_tupB (pv 0) (po_some pe_int) po_none) pa_nil)))
          (blkOk_by (own := [("low", 3), ("high", 4)]) (N := N_is_set) (sc := defScope s_is_set) (by decide +kernel))
          (fun _ _ _ _ _ => pg_tup (by rfl) (pgs_cons (pg_name (i := 3) sc_is_set.nd rfl (Or.inl rfl)) (pgs_cons (pg_name (i := 4) sc_is_set.nd rfl (Or.inl rfl)) pgs_nil))) (fun _ _ _ _ _ => pts_nil)
          (fun _ _ _ _ _ => pe_cmpR op_lt (pv 3) (pv 4) (nomark _))) pa_nil)))), ?_⟩
    obtain ⟨t, ty, et⟩ := hv.isi
    refine ⟨_, rfl, _, _, _, _, _, rfl, .ty _, ty, et, _, rfl, ?_⟩
    cases o with
    | none => exact iteT (q H (Same.refl H))
    | some os =>
      obtain ⟨p, xs, rfl, hT, hE, hz⟩ := hv.get
      have hlen := hE.length
      refine iteF ⟨_, rfl, p, rfl, ⟨_, hT⟩, fun D hD => ?_⟩
      have s1 : Same H (upd H D (.lst [])) := same_new hD _
      refine lc_tup (K := K) (a := p) (xs := xs) (fun i H' => Same H H' ∧ H' D = some (.lst (((os.take i).map fun o => inB o 0 (m - 1)).map V.bl))) ⟨s1, upd_same⟩ (fun i H' _ h => same_sqt h.1 hT) (fun i x H' hi h => ?_) (fun H' h => ?_)
      · obtain ⟨sm, eD⟩ := h
        obtain ⟨o, ho, hx⟩ := hE.get hi
        have hlt : i < xs.length := (List.getElem?_eq_some_iff.mp hi).1
        refine ⟨rfl, _, rfl, _, rfl, _, _, rfl, rfl, x, o, _, _, rfl, hx.same sm, ?_⟩
        refine ⟨_, eD, by rw [List.length_map, List.length_map, List.length_take]; exact sizeK (by omega), same_updL sm hD, ?_⟩
        rw [upd_same, take_more ho, List.map_append, List.map_append]
        rfl
      · obtain ⟨sm, eD⟩ := h
        rw [hlen, List.take_length] at eD
        refine ⟨D, _, rfl, SqL.of eD, _, rfl, ?_⟩
        rw [List.all_map]
        show (if (!(os.all fun o => inB o 0 (m - 1))) = true then _ else _)
        cases ha : os.all fun o => inB o 0 (m - 1) with
        | false =>
          have e1 : setB (some os) (m - 1) = false := by
            show (_ && _) = false
            rw [ha, Bool.false_and]
          have := q H' sm
          rw [e1] at this
          exact iteT this
        | true =>
          refine iteF ?_
          obtain ⟨e1, e2⟩ := els_all (f := fun o => inB o 0 (m - 1)) rfl hE ha
          have eq : setB (some os) (m - 1) = ascI (intsO os) := by
            show (_ && _) = _
            rw [ha, Bool.true_and]
          rw [eq] at q
          generalize intsO os = u at e1 q
          subst e1
          rw [iv_len] at hz
          have hT' := same_sqt sm hT
          refine ⟨_, rfl, _, rfl, _, rfl, p, _, rfl, hT', fun H1 z s2 hz2 => ?_⟩
          rw [cut_tailI] at hz2
          refine ⟨p, z, _, _, rfl, .inr ⟨same_sqt s2 hT', hz2, fun D2 hD2 => ?_⟩⟩
          have S2 := sm.trans s2
          have s3 := same_new hD2 (.lst [])
          refine lc_zipM _ rfl (fun i H3 => Same H1 H3 ∧ H3 D2 = some (.lst (((zbI (fun a b => decide (a < b)) u (u.drop 1)).take i).map V.bl))) ⟨s3, upd_same⟩ (fun i H3 hh => ⟨same_sqt (s2.trans hh.1) hT', same_sqt hh.1 hz2⟩) (fun i x y T' H3 hx hy hh hT3 => ?_) (fun H3 hh => ?_)
          · obtain ⟨s4, eD4⟩ := hh
            obtain ⟨n1, hn1, rfl⟩ := iv_get hx
            obtain ⟨n2, hn2, rfl⟩ := iv_get hy
            have hlt : i < u.length := (List.getElem?_eq_some_iff.mp hn1).1
            have sT : Same H3 (upd H3 T' (.tup [.int n1, .int n2])) := same_new hT3 _
            refine ⟨T', _, rfl, SqT.of upd_same, rfl, _, _, rfl, _, _, rfl, rfl, ?_⟩
            refine ⟨rfl, _, rfl, _, rfl, _, _, rfl, rfl, ?_⟩
            refine ⟨_, sT _ _ eD4, by rw [List.length_map, List.length_take]; exact sizeK (by omega), same_updL (s4.trans sT) hD2, ?_⟩
            rw [upd_same, take_more (zbI_get hn1 hn2), List.map_append]
            rfl
          · obtain ⟨s4, eD4⟩ := hh
            rw [List.take_of_length_le (by rw [zbI_len, iv_len, iv_len]; exact Nat.le_refl _)] at eD4
            refine ⟨D2, _, rfl, SqL.of eD4, ?_⟩
            have := q H3 (S2.trans s4)
            rw [← zb_asc u] at this
            exact this
end
end K61

namespace K61
open PySem PySem.Spec PyProof.Rows L2 RZ L5 Gv
def pureB (o : Option (List (Option Int))) : Bool := match o with
  | some os => setB (some os) 480 && (decide (1 ≤ os.length) && decide (os.length ≤ 9))
  | none => false
def belB (t u : List Int) : Bool := decide (u.length ≤ t.length) && (zbI (fun a b => decide (a ≤ b)) t u).all id
def belO (o : Option (List (Option Int))) (u : List Int) : Bool := match o with
  | some os => belB (intsO os) u
  | none => false
abbrev Pure (t : List Int) : Prop := pureB (some (t.map some)) = true
theorem Pure.len {t : List Int} (h : Pure t) : 1 ≤ t.length ∧ t.length ≤ 9 := by
  have h' : (_ && (decide (1 ≤ (t.map some).length) && decide ((t.map some).length ≤ 9))) = true := h
  rw [List.length_map, Bool.and_eq_true, Bool.and_eq_true] at h'
  exact ⟨of_decide_eq_true h'.2.1, of_decide_eq_true h'.2.2⟩
theorem pure_get {K : PySem.W.Frag} {H : Hp} {v : V} {o : Option (List (Option Int))} (hv : Va K H v o) (h : pureB o = true) : ∃ p t, v = .ref p ∧ SqT K H p (iv t) ∧ o = some (t.map some) := by
  cases o with
  | none => cases h
  | some os =>
    obtain ⟨p, xs, rfl, hT, hE, hz⟩ := hv.get
    have h' : (((os.all fun e => inB e 0 480) && ascI (intsO os)) && _) = true := h
    rw [Bool.and_eq_true, Bool.and_eq_true] at h'
    obtain ⟨e1, e2⟩ := els_all (f := fun o => inB o 0 480) rfl hE h'.1.1
    exact ⟨p, intsO os, rfl, by rw [← e1]; exact hT, by rw [← e2]⟩
def behB (d : Int) (t : List Int) : Bool := match t.getLast? with
  | none => true
  | some x => decide (x < d)
section
variable {P : Program} {w : World} {K : PySem.W.Frag} {mg : Str → Option Value} {base : Heap}
def sp_pure (K : PySem.W.Frag) : Sp := fun vs H Q _ => ∃ v o, vs = [v] ∧ Va K H v o ∧ ∀ H', Same H H' → Q (.bl (pureB o)) H'
theorem ok_pure (T : Txt K mg) : FnOk P w K mg base CX0 4 T.a_is_pure T.d_is_pure ["value"] (sp_pure K) := by
  refine T.F_is_pure.ok sc_is_pure (fun vs H Q E h => ?_) (fun cdv A outer s H vs Q E hr h => ?_)
  · obtain ⟨v, o, rfl, _⟩ := h
    rfl
  · obtain ⟨v, o, rfl, hv, q⟩ := h
    refine ⟨_, pss_one (ps_ret (pe_and (pe_call (ok_set T) hr (by rfl) T.m_is_set T.F_is_set.kp T.b_is_set .nil pass0 (pa_cons (pv 0) (pa_cons (pe_op op_add (pe_glob (v := .int 480) rfl T.c_MAX_PLACE ⟨_, rfl⟩) pe_int) pa_nil)))
      (pe_one (pe_chain op_le op_le pe_int (pe_callB call_len_seq (by rfl) T.z_len boot_len (pa_cons (pv 0) pa_nil)) (pe_op op_add (pe_glob (v := .int 8) rfl T.c_MAX_STEP ⟨_, rfl⟩) pe_int))))), ?_⟩
    refine ⟨_, rfl, _, _, rfl, rfl, v, o, 481, rfl, hv, fun H1 s1 => ⟨_, rfl, ?_⟩⟩
    show if setB o 480 = true then _ else _
    cases e : setB o 480 with
    | false =>
      have e1 : pureB o = false := by
        cases o with
        | none => rfl
        | some os => show (_ && _) = false; rw [e, Bool.false_and]
      rw [e1] at q
      exact iteF (q H1 s1)
    | true =>
      cases o with
      | none => cases e
      | some os =>
        obtain ⟨p, xs, rfl, hT, hE, hz⟩ := hv.get
        have hlen := hE.length
        have e1 : pureB (some os) = (decide (1 ≤ os.length) && decide (os.length ≤ 9)) := by
          show (_ && _) = _
          rw [e, Bool.true_and]
        rw [e1] at q
        refine iteT ⟨_, rfl, p, _, rfl, .inr (same_sqt s1 hT), _, _, rfl, rfl, _, rfl, ?_⟩
        rw [hlen]
        refine ite2 (fun c => ?_) (fun c => ?_)
        · have c' : 1 ≤ os.length := by have := of_decide_eq_true c; omega
          rw [decide_eq_true c', Bool.true_and] at q
          refine ⟨_, _, rfl, rfl, _, _, rfl, rfl, ?_⟩
          have e2 : decide ((((os.length : Nat) : Int)) ≤ 8 + 1) = decide (os.length ≤ 9) := decide_eq_decide.mpr ⟨fun h => by omega, fun h => by omega⟩
          show Q (.bl (decide ((((os.length : Nat) : Int)) ≤ 8 + 1))) H1
          rw [e2]
          exact q H1 s1
        · have c' : ¬ 1 ≤ os.length := fun z => c (decide_eq_true (by omega))
          rw [decide_eq_false c', Bool.false_and] at q
          exact q H1 s1
def sp_chd (K : PySem.W.Frag) : Sp := fun vs H Q _ => ∃ v o, vs = [v] ∧ Va K H v o ∧ pureB o = true ∧ ∀ H', Same H H' → Q .non H'
theorem ok_chd (T : Txt K mg) : FnOk P w K mg base CX0 5 T.a_check_degrees T.d_check_degrees ["value"] (sp_chd K) := by
  refine T.F_check_degrees.ok sc_check_degrees (fun vs H Q E h => ?_) (fun cdv A outer s H vs Q E hr h => ?_)
  · obtain ⟨v, o, rfl, _⟩ := h
    rfl
  · obtain ⟨v, o, rfl, hv, hp, q⟩ := h
    refine ⟨_, pss_one (ps_if (pt_not (pt_val (pe_call (ok_pure T) hr (by rfl) T.m_is_pure T.F_is_pure.kp T.b_is_pure .nil pass0 (pa_cons (pv 0) pa_nil)))) (pss_one ps_never) pss_nil), ?_⟩
    refine ⟨_, rfl, v, o, rfl, hv, fun H1 s1 => ⟨_, rfl, ?_⟩⟩
    rw [hp]
    exact iteF (q H1 s1)
def sp_stb (K : PySem.W.Frag) : Sp := fun vs H Q _ => ∃ p r t u, vs = [.ref p, .ref r] ∧ SqT K H p (iv t) ∧ SqT K H r (iv u) ∧ t.length ≤ 1000 ∧ ∀ H', Same H H' → Q (.bl (belB t u)) H'
theorem ok_stb (T : Txt K mg) : FnOk P w K mg base CX0 1 T.a_stands_below T.d_stands_below ["one", "other"] (sp_stb K) := by
  refine T.F_stands_below.ok sc_stands_below (fun vs H Q E h => ?_) (fun cdv A outer s H vs Q E hr h => ?_)
  · obtain ⟨p, r, t, u, rfl, _⟩ := h
    rfl
  · obtain ⟨p, r, t, u, rfl, hT, hU, hz, q⟩ := h
    refine ⟨_, pss_one (ps_ret (pe_and (pe_cmpR op_ge (pe_callB call_len_seq (by rfl) T.z_len boot_len (pa_cons (pv 0) pa_nil)) (pe_callB call_len_seq (by rfl) T.z_len boot_len (pa_cons (pv 1) pa_nil)) (nomark _))
      (pe_one (pe_callB (cr_all rfl) (by rfl) T.z_all (by decide +kernel) (pa_cons
        (pe_lc (own := [("low", 2), ("high", 3)]) (g := gTup K 2 (gCons (gName 2) (gCons (gName 3) gNil))) (tt := tYes) rfl sc_stands_below.nd (pi_zipA (by rfl) T.z_zip (pa_cons (pv 0) (pa_cons (pv 1) pa_nil)))
          (blkOk_by (own := [("low", 2), ("high", 3)]) (N := N_stands_below) (sc := defScope s_stands_below) (by decide +kernel))
          (fun _ _ _ _ _ => pg_tup (by rfl) (pgs_cons (pg_name (i := 2) sc_stands_below.nd rfl (Or.inl rfl)) (pgs_cons (pg_name (i := 3) sc_stands_below.nd rfl (Or.inl rfl)) pgs_nil))) (fun _ _ _ _ _ => pts_nil)
          (fun _ _ _ _ _ => pe_cmpR op_le (pv 2) (pv 3) (nomark _))) pa_nil))))), ?_⟩
    refine ⟨_, rfl, p, _, rfl, .inr hT, _, rfl, r, _, rfl, .inr hU, _, _, rfl, rfl, _, rfl, ?_⟩
    rw [iv_len, iv_len]
    have e0 : decide (((t.length : Nat) : Int) ≥ ((u.length : Nat) : Int)) = decide (u.length ≤ t.length) := decide_eq_decide.mpr ⟨fun h => by omega, fun h => by omega⟩
    rw [e0]
    refine ite2 (fun c => ?_) (fun c => ?_)
    · have e1 : belB t u = (zbI (fun a b => decide (a ≤ b)) t u).all id := by
        show (_ && _) = _
        rw [c, Bool.true_and]
      rw [e1] at q
      refine ⟨_, rfl, _, rfl, p, r, iv t, iv u, rfl, .inr ⟨hT, hU, fun D hD => ?_⟩⟩
      have s3 := same_new hD (.lst [])
      refine lc_zipM _ rfl (fun i H3 => Same H H3 ∧ H3 D = some (.lst (((zbI (fun a b => decide (a ≤ b)) t u).take i).map V.bl))) ⟨s3, upd_same⟩ (fun i H3 hh => ⟨same_sqt hh.1 hT, same_sqt hh.1 hU⟩) (fun i x y T' H3 hx hy hh hT3 => ?_) (fun H3 hh => ?_)
      · obtain ⟨s4, eD4⟩ := hh
        obtain ⟨n1, hn1, rfl⟩ := iv_get hx
        obtain ⟨n2, hn2, rfl⟩ := iv_get hy
        have hlt : i < t.length := (List.getElem?_eq_some_iff.mp hn1).1
        have sT : Same H3 (upd H3 T' (.tup [.int n1, .int n2])) := same_new hT3 _
        refine ⟨T', _, rfl, SqT.of upd_same, rfl, _, _, rfl, _, _, rfl, rfl, ?_⟩
        refine ⟨rfl, _, rfl, _, rfl, _, _, rfl, rfl, ?_⟩
        refine ⟨_, sT _ _ eD4, by rw [List.length_map, List.length_take]; exact sizeK (by omega), same_updL (s4.trans sT) hD, ?_⟩
        rw [upd_same, take_more (zbI_get hn1 hn2), List.map_append]
        rfl
      · obtain ⟨s4, eD4⟩ := hh
        rw [List.take_of_length_le (by rw [zbI_len, iv_len, iv_len]; exact Nat.le_refl _)] at eD4
        exact ⟨D, _, rfl, SqL.of eD4, q H3 s4⟩
    · have e1 : belB t u = false := by
        show (_ && _) = _
        rw [Bool.eq_false_iff.mpr c, Bool.false_and]
      rw [e1] at q
      exact q H (Same.refl H)
def sp_isb (K : PySem.W.Frag) : Sp := fun vs H Q _ => ∃ v o r u, vs = [v, .ref r] ∧ Va K H v o ∧ SqT K H r (iv u) ∧ Pure u ∧ ∀ H', Same H H' → Q (.bl (pureB o && belO o u)) H'
theorem ok_isb (T : Txt K mg) : FnOk P w K mg base CX0 6 T.a_is_below T.d_is_below ["value", "other"] (sp_isb K) := by
  refine T.F_is_below.ok sc_is_below (fun vs H Q E h => ?_) (fun cdv A outer s H vs Q E hr h => ?_)
  · obtain ⟨v, o, r, u, rfl, _⟩ := h
    rfl
  · obtain ⟨v, o, r, u, rfl, hv, hU, hp, q⟩ := h
    refine ⟨_, pss_cons (ps_expr (pe_call (ok_chd T) hr (by rfl) T.m_check_degrees T.F_check_degrees.kp T.b_check_degrees .nil pass0 (pa_cons (pv 1) pa_nil)))
      (pss_one (ps_ret (pe_and (pe_call (ok_pure T) (hr.mono (by decide)) (by rfl) T.m_is_pure T.F_is_pure.kp T.b_is_pure .nil pass0 (pa_cons (pv 0) pa_nil))
        (pe_one (pe_call (ok_stb T) (hr.mono (by decide)) (by rfl) T.m_stands_below T.F_stands_below.kp T.b_stands_below .nil pass0 (pa_cons (pv 0) (pa_cons (pv 1) pa_nil))))))), ?_⟩
    have hl := hp.len
    refine ⟨_, rfl, .ref r, _, rfl, va_iv hU (by omega), hp, fun H1 s1 => ?_⟩
    refine ⟨_, rfl, v, o, rfl, hv.same s1, fun H2 s2 => ⟨_, rfl, ?_⟩⟩
    have S := s1.trans s2
    cases e : pureB o with
    | false =>
      rw [e, Bool.false_and] at q
      exact iteF (q H2 S)
    | true =>
      obtain ⟨p, t, rfl, hT, rfl⟩ := pure_get hv e
      rw [e, Bool.true_and] at q
      have eb : belO (some (t.map some)) u = belB t u := by
        show belB (intsO _) u = _
        rw [ints_back]
      rw [eb] at q
      have ht := Pure.len (t := t) e
      refine iteT ⟨_, rfl, _, rfl, p, r, t, u, rfl, same_sqt S hT, same_sqt S hU, by omega, fun H3 s3 => q H3 (S.trans s3)⟩
def sp_chw : Sp := fun vs H Q _ => ∃ l m : Int, vs = [.int l, .int m] ∧ 0 ≤ l ∧ l ≤ 3 ∧ 0 ≤ m ∧ m ≤ 5 ∧ Q .non H
theorem ok_chw (T : Txt K mg) : FnOk P w K mg base CX0 4 T.a_check_window T.d_check_window ["last", "most"] sp_chw := by
  refine T.F_check_window.ok sc_check_window (fun vs H Q E h => ?_) (fun cdv A outer s H vs Q E hr h => ?_)
  · obtain ⟨l, m, rfl, _⟩ := h
    rfl
  · obtain ⟨l, m, rfl, h1, h2, h3, h4, q⟩ := h
    refine ⟨_, pss_cons (ps_expr (pe_call (ok_checkw T) hr (by rfl) T.m_check_within T.F_check_within.kp T.b_check_within .nil pass0 (pa_cons (pv 0) (pa_cons pe_int (pa_cons (pe_glob (v := .int 3) rfl T.c_MOST_LAST ⟨_, rfl⟩) pa_nil)))))
      (pss_one (ps_expr (pe_call (ok_checkw T) hr (by rfl) T.m_check_within T.F_check_within.kp T.b_check_within .nil pass0 (pa_cons (pv 1) (pa_cons pe_int (pa_cons (pe_glob (v := .int 5) rfl T.c_MOST_DEGREE ⟨_, rfl⟩) pa_nil)))))), ?_⟩
    exact ⟨_, rfl, _, _, _, rfl, h1, h2, _, rfl, _, _, _, rfl, h3, h4, q⟩
def sp_beh (K : PySem.W.Frag) : Sp := fun vs H Q _ => ∃ d c t, vs = [.int d, .ref c] ∧ SqT K H c (iv t) ∧ Q (.bl (behB d t)) H
theorem ok_beh (T : Txt K mg) : FnOk P w K mg base CX0 1 T.a_is_behind T.d_is_behind ["degree", "chosen"] (sp_beh K) := by
  refine T.F_is_behind.ok sc_is_behind (fun vs H Q E h => ?_) (fun cdv A outer s H vs Q E hr h => ?_)
  · obtain ⟨d, c, t, rfl, _⟩ := h
    rfl
  · obtain ⟨d, c, t, rfl, hT, q⟩ := h
    refine ⟨_, pss_one (ps_ret (pe_or (pe_notT (pv 1)) (pe_one (pe_cmpR op_lt (pe_ix ix_tup (pv 1) (pe_un un_neg pe_int) (fun _ _ => rfl)) (pv 0) (nomark _))))), ?_⟩
    refine ⟨_, rfl, !(iv t).isEmpty, .inr (.inl ⟨_, hT, rfl⟩), ?_⟩
    rcases List.eq_nil_or_concat t with rfl | ⟨r, x, rfl⟩
    · exact ⟨_, rfl, iteT q⟩
    · rw [show behB d (r.concat x) = decide (x < d) by simp [behB]] at q
      have e : (iv (r.concat x)).isEmpty = false := by simp
      rw [e]
      refine ⟨_, rfl, iteF ⟨_, rfl, _, rfl, c, _, _, .int x, rfl, rfl, (by rw [List.concat_eq_append, iv_app] at hT; exact hT), atI_last (iv r) (.int x), _, rfl, _, _, rfl, rfl, ?_⟩⟩
      exact q
end
end K61

namespace K61
open PySem PySem.Spec PyProof.Rows L2 RZ L5 Gv
def nextP (c : List Int) (d : Nat) : Option (List Int) := if behB ((d : Nat) : Int) c = true then some (c ++ [((d : Nat) : Int)]) else none
def stepP (m : Nat) (L : List (List Int)) : List (List Int) := L.flatMap fun c => (List.range m).filterMap (nextP c)
def longP (m : Nat) : Nat → List (List Int)
  | 0 => [[]]
  | k + 1 => stepP m (longP m k)
def foundP (m : Nat) : Nat → List (List Int)
  | 0 => []
  | k + 1 => foundP m k ++ longP m (k + 1)
theorem step_take {m : Nat} {L : List (List Int)} {i : Nat} {c : List Int} (h : L[i]? = some c) : stepP m (L.take (i + 1)) = stepP m (L.take i) ++ (List.range m).filterMap (nextP c) := by
  unfold stepP
  rw [take_more h, List.flatMap_append]
  simp
theorem step_len (m : Nat) : ∀ L : List (List Int), (stepP m L).length ≤ L.length * m
  | [] => by simp [stepP]
  | c :: L => by
    have := step_len m L
    have h2 : ((List.range m).filterMap (nextP c)).length ≤ m := Nat.le_trans (List.length_filterMap_le _ _) (by rw [List.length_range]; exact Nat.le_refl _)
    show (((List.range m).filterMap (nextP c)) ++ stepP m L).length ≤ _
    rw [List.length_append, List.length_cons, Nat.succ_mul]
    omega
theorem pd_facts : ∀ m, m < 7 → ∀ k, k < 5 → (foundP m k).length < 60 ∧ (longP m k).length < 60 ∧ ∀ t ∈ foundP m k, 1 ≤ t.length ∧ t.length ≤ 4 ∧ ∀ e ∈ t, 0 ≤ e ∧ e < 6 := by decide +kernel
theorem pd_long : ∀ m, m < 7 → ∀ k, k < 5 → ∀ t ∈ longP m k, t.length ≤ 4 ∧ t.length ≤ 4 ∧ t.length ≤ 4 := by decide +kernel
section
variable {P : Program} {w : World} {K : PySem.W.Frag} {mg : Str → Option Value} {base : Heap}
/-- what sorted gives of the found ones -/
def SortedP (K : PySem.W.Frag) (H : Hp) (rs : List Addr) (L M : List (List Int)) : Prop := TupsI K H rs M ∧ M.Perm L ∧ M.Pairwise fun a b => TM.cod 6 4 a ≤ TM.cod 6 4 b
def sp_pds (K : PySem.W.Frag) : Sp := fun vs H Q _ => ∃ l m : Nat, vs = [.int ((l : Nat) : Int), .int ((m : Nat) : Int)] ∧ l ≤ 3 ∧ m ≤ 5 ∧ ∀ H' z rs M, Same H H' → SqT K H' z (rs.map V.ref) → SortedP K H' rs (foundP (m + 1) (l + 1)) M → Q (.ref z) H'
theorem ok_pds (T : Txt K mg) : FnOk P w K mg base CX0 5 T.a_pure_degrees T.d_pure_degrees ["last", "most"] (sp_pds K) := by
  refine T.F_pure_degrees.ok sc_pure_degrees (fun vs H Q E h => ?_) (fun cdv A outer s H vs Q E hr h => ?_)
  · obtain ⟨l, m, rfl, _⟩ := h
    rfl
  · obtain ⟨l, m, rfl, hl, hm, q⟩ := h
    refine ⟨_, pss_cons (ps_expr (pe_call (ok_chw T) hr (by rfl) T.m_check_window T.F_check_window.kp T.b_check_window .nil pass0 (pa_cons (pv 0) (pa_cons (pv 1) pa_nil))))
      (pss_cons (ps_set (i := 2) sc_pure_degrees.nd rfl (Or.inl rfl) (pe_lst pa_nil))
      (pss_cons (ps_set (i := 3) sc_pure_degrees.nd rfl (Or.inl rfl) (pe_lst (pa_cons (pe_tup pa_nil) pa_nil)))
      (pss_cons (ps_for PassesOwn.never rfl (pi_range1 rfl T.z_range (pa_cons (pe_op op_add (pv 0) pe_int) pa_nil)) (pg_name (i := 4) sc_pure_degrees.nd rfl (Or.inl rfl))
        (pss_cons (ps_setLc2 (i := 3) (own := [("chosen", 5), ("degree", 6)]) (vs1 := [6]) (g := gName 5) (tt := tYes) (g1 := gName 6) rfl sc_pure_degrees.nd rfl rfl (sw_true rfl rfl rfl (by decide +kernel)) (pi_list (pv 3))
            (blkOk_by (own := [("chosen", 5), ("degree", 6)]) (N := N_pure_degrees) (sc := defScope s_pure_degrees) (by decide +kernel)) (by decide)
            (fun _ _ _ _ _ => pg_name (i := 5) sc_pure_degrees.nd rfl (Or.inl rfl)) (fun _ _ _ _ _ => pts_nil)
            (fun _ _ _ _ _ => pi_range1 rfl T.z_range (pa_cons (pe_op op_add (pv 1) pe_int) pa_nil))
            (fun _ _ _ _ _ => pg_name (i := 6) sc_pure_degrees.nd rfl (Or.inl rfl))
            (fun _ _ _ _ _ => pts_one (pt_val (pe_call (ok_beh T) (hr.mono (by decide)) (by rfl) T.m_is_behind T.F_is_behind.kp T.b_is_behind .nil pass0 (pa_cons (pv 6) (pa_cons (pv 5) pa_nil)))))
            (fun _ _ _ _ _ => pe_op (show OpR _ _ (rCatB K) from op_catB) (pv 5) (pe_tup (pa_cons (pv 6) pa_nil))))
        (pss_one (ps_set (i := 2) sc_pure_degrees.nd rfl (Or.inl rfl) (pe_op op_cat (pv 2) (pv 3))))))
      (pss_one (ps_ret (pe_callTy call_tuple_of (by rfl) T.z_tuple boot_tuple (pa_cons (pe_callB (cr_sortM (m := 4) (B := 6) (by decide)) (by rfl) T.z_sorted (by decide +kernel) (pa_cons (pv 2) pa_nil)) pa_nil))))))), ?_⟩
    refine ⟨_, rfl, _, rfl, _, _, rfl, by omega, by omega, by omega, by omega, ?_⟩
    refine ⟨by show 0 ≤ sizeLine; exact Nat.zero_le _, fun fa hfa => ?_⟩
    have s1 := same_new hfa (.lst [])
    refine ⟨by show 0 ≤ sizeLine; exact Nat.zero_le _, fun z0 hz0 => ?_⟩
    have s2 := same_new hz0 (.tup [])
    refine ⟨by show 1 ≤ sizeLine; decide, fun la hla => ?_⟩
    have s3 := same_new hla (.lst [V.ref z0])
    refine ⟨_, rfl, _, _, rfl, rfl, _, rfl, by omega, by omega, ?_⟩
    refine for_range (lo := 0) (n := (((l : Nat) : Int) + 1).toNat) (fun i σ H' => ∃ (v4 : Option V) (fa la : Addr) (rs qs : List Addr), σ = [some (.int ((l : Nat) : Int)), some (.int ((m : Nat) : Int)), some (.ref fa), some (.ref la), v4, none, none] ∧ Same H H' ∧ H' fa = some (.lst (rs.map V.ref)) ∧ TupsI K H' rs (foundP (m + 1) i) ∧ H' la = some (.lst (qs.map V.ref)) ∧ TupsI K H' qs (longP (m + 1) i))
      ⟨none, fa, la, [], [z0], rfl, s1.trans (s2.trans s3), (s2.trans s3) _ _ upd_same, .nil, upd_same, .cons (same_sqt s3 (SqT.of upd_same)) .nil⟩ ?_ ?_
    · rintro i σ H1 hi ⟨v4, fa, la, rs, qs, rfl, sm, hf, hfT, hq, hqT⟩
      have hi4 : i < l + 1 := hi
      have hfac := pd_facts (m + 1) (by omega) i (by omega)
      have hfac2 := pd_facts (m + 1) (by omega) (i + 1) (by omega)
      have hql : qs.length = _ := hqT.length
      have hfl : rs.length = _ := hfT.length
      have s0 : Same H1 H1 := Same.refl H1
      refine ⟨_, rfl, la, rfl, ⟨_, SqL.of hq⟩, fun D hD => ?_⟩
      have sD := same_new hD (.lst [])
      refine out2_list (K := K) (a := la) (xs := qs.map V.ref) (fun i2 H' => Same H1 H' ∧ ∃ es : List Addr, H' D = some (.lst (es.map V.ref)) ∧ TupsI K H' es (stepP (m + 1) ((longP (m + 1) i).take i2))) ⟨sD, [], upd_same, .nil⟩ (fun i2 H' hh => SqL.of (hh.1 _ _ hq)) (fun i2 x H2 hx hh => ?_) (fun H2 hh => ?_)
      · obtain ⟨s2, es, eD, hTe⟩ := hh
        obtain ⟨c, t, rfl, _, ht, hs⟩ := tupsI_get hqT hx
        refine ⟨rfl, _, rfl, _, _, rfl, rfl, _, rfl, by omega, by omega, ?_⟩
        refine in2_range (lo := 0) (n := (((m : Nat) : Int) + 1).toNat) (fun j H' => Same H1 H' ∧ ∃ es : List Addr, H' D = some (.lst (es.map V.ref)) ∧ TupsI K H' es (stepP (m + 1) ((longP (m + 1) i).take i2) ++ (List.range j).filterMap (nextP t))) ⟨s2, es, eD, by rw [List.range_zero, List.filterMap_nil, List.append_nil]; exact hTe⟩ (fun j H3 hj hh => ?_) (fun H3 hh => ?_)
        · obtain ⟨s3, es, eD3, hTe3⟩ := hh
          rw [show (0 : Int) + ((j : Nat) : Int) = ((j : Nat) : Int) from Int.zero_add _]
          have hj6 : j < m + 1 := hj
          have hel : es.length ≤ 1000 := by
            have e1 : es.length = _ := hTe3.length
            rw [List.length_append] at e1
            have e2 := step_len (m + 1) ((longP (m + 1) i).take i2)
            have e3 : ((List.range j).filterMap (nextP t)).length ≤ j := Nat.le_trans (List.length_filterMap_le _ _) (by rw [List.length_range]; exact Nat.le_refl _)
            have e4 : ((longP (m + 1) i).take i2).length ≤ 60 := by rw [List.length_take]; omega
            have e5 : ((longP (m + 1) i).take i2).length * (m + 1) ≤ 60 * 6 := Nat.mul_le_mul e4 (by omega)
            omega
          have hst : t.length ≤ 1000 := by
            obtain ⟨_, _, hb⟩ := pd_long (m + 1) (by omega) i (by omega) t (List.mem_of_getElem? ht)
            omega
          refine ⟨rfl, _, rfl, _, rfl, _, c, t, rfl, same_sqt s3 hs, _, rfl, ?_⟩
          have e6 : (List.range (j + 1)).filterMap (nextP t) = (List.range j).filterMap (nextP t) ++ (if behB ((j : Nat) : Int) t = true then [t ++ [((j : Nat) : Int)]] else []) := by
            rw [List.range_succ, List.filterMap_append]
            congr 1
            unfold nextP
            by_cases z : behB ((j : Nat) : Int) t = true
            · simp [z]
            · simp [z]
          refine ite2 (fun cb => ?_) (fun cb => ?_)
          · refine ⟨_, rfl, _, rfl, by show 1 ≤ sizeLine; decide, fun z1 hz1 => ?_⟩
            have s4 := same_new hz1 (.tup [V.int ((j : Nat) : Int)])
            refine ⟨c, z1, _, _, rfl, rfl, same_sqt (s3.trans s4) hs, SqT.of upd_same, ?_, fun H5 z5 s5 hz5 => ?_⟩
            · rw [iv_len]
              show _ + 1 ≤ _
              exact Nat.le_of_lt (sizeK (by omega))
            have S5 := s4.trans s5
            have hz5' : SqT K H5 z5 (iv (t ++ [((j : Nat) : Int)])) := by rw [iv_app]; exact hz5
            refine ⟨_, S5 _ _ eD3, by rw [List.length_map]; exact sizeK (by omega), same_updL (s3.trans S5) hD, es ++ [z5], by rw [upd_same, List.map_append]; rfl, ?_⟩
            rw [e6, if_pos cb, ← List.append_assoc]
            exact ((hTe3.same S5).updL (S5 _ _ eD3)).app (.cons (sqt_updL (S5 _ _ eD3) hz5') .nil)
          · refine ⟨s3, es, eD3, ?_⟩
            rw [e6, if_neg cb, List.append_nil]
            exact hTe3
        · obtain ⟨s3, es, eD3, hTe3⟩ := hh
          refine ⟨s3, es, eD3, ?_⟩
          rw [step_take ht]
          exact hTe3
      · obtain ⟨s2, es, eD, hTe⟩ := hh
        rw [List.length_map, hql, List.take_length] at hTe
        refine ⟨_, rfl, _, rfl, fa, D, _, _, rfl, rfl, s2 _ _ hf, eD, ?_, fun p hp => ?_⟩
        · rw [List.length_map, List.length_map]
          have e1 : es.length = (longP (m + 1) (i + 1)).length := hTe.length
          exact Nat.le_of_lt (sizeK (by omega))
        have s5 := same_new hp (.lst (rs.map V.ref ++ es.map V.ref))
        exact ⟨_, p, D, rs ++ es, es, rfl, sm.trans (s2.trans s5), by rw [upd_same, List.map_append], ((hfT.same s2).same s5).app (hTe.same s5), s5 _ _ eD, hTe.same s5⟩
    · rintro σ H1 ⟨v4, fa, la, rs, qs, rfl, sm, hf, hfT, hq, hqT⟩
      have hfT' : TupsI K H1 rs (foundP (m + 1) (l + 1)) := hfT
      obtain ⟨f1, f2, f3⟩ := pd_facts (m + 1) (by omega) (l + 1) (by omega)
      have hfl : rs.length = _ := hfT'.length
      refine ⟨_, rfl, fa, _, rfl, SqL.of hf, by rw [List.length_map]; omega, fun x hx => ?_, fun ys p pm pw hp => ?_⟩
      · obtain ⟨i, hi⟩ := List.getElem?_of_mem hx
        obtain ⟨a, t, rfl, _, ht, hs⟩ := tupsI_get hfT' hi
        obtain ⟨t1, t2, t3⟩ := f3 t (List.mem_of_getElem? ht)
        exact ⟨t, ⟨a, rfl, hs⟩, t1, t2, t3⟩
      · obtain ⟨rs', M, rfl, hM, pM, sM⟩ := tupsI_perm hfT' pm (fun n k => TM.cod 6 4 n ≤ TM.cod 6 4 k) pw
        have s2 := same_new hp (.lst (rs'.map V.ref))
        refine ⟨p, _, rfl, .inl ⟨SqL.of upd_same, fun z hz => ?_⟩⟩
        have s3 := same_new hz (.tup (rs'.map V.ref))
        exact q _ z rs' M (sm.trans (s2.trans s3)) (SqT.of upd_same) ⟨hM.same (s2.trans s3), pM, sM⟩
end
end K61

namespace K61
open PySem PySem.Spec PyProof.Rows L2 RZ L5 Gv
section
variable {P : Program} {w : World} {K : PySem.W.Frag} {mg : Str → Option Value} {base : Heap}
/-! ### the law's own draws -/
abbrev pailO (g x c : Int) : HO := .lst [.int g, .int x, .int c]
def Pail (p : Addr) (H : Hp) : Prop := ∃ g x c : Int, H p = some (pailO g x c)
def sp_bowl (K : PySem.W.Frag) : Sp := fun vs H Q _ => ∃ (a : Addr) (ns : List Int) (k : Nat), vs = [.ref a, .int ((k : Nat) : Int)] ∧ SqL K H a (ns.map V.int) ∧ k < 1000 ∧ ∀ (H' : Hp) (r : Addr) (g x c : Int), Same H H' → H r = none → H' r = some (pailO g x c) → Q (.ref r) H'
theorem ok_bowl (T : Txt K mg) : FnOk P w K mg base CX0 1 T.a_w_bowl T.d_w_bowl ["_law_script", "_law_spot"] (sp_bowl K) := by
  refine T.F_w_bowl.ok sc_w_bowl (fun vs H Q E h => ?_) (fun cdv A outer s H vs Q E hr h => ?_)
  · obtain ⟨a, ns, k, rfl, _⟩ := h
    rfl
  · obtain ⟨a, ns, k, rfl, hS, hk, q⟩ := h
    refine ⟨_, pss_cons (ps_set (i := 2) sc_w_bowl.nd rfl (Or.inl rfl) (PE.weak (t' := fun σ' H' Q' => σ' = start N_w_bowl [.ref a, .int ((k : Nat) : Int)] ∧ H' = H ∧ ∀ (i : Int), Q' (.int i) H) (pe_ifExp (pt_cmpR op_lt (pv 1) (pe_callB call_len_seq (by rfl) T.z_len boot_len (pa_cons (pv 0) pa_nil)) (nomark _))
        (pe_callTy call_int1 (by rfl) T.z_int boot_int (pa_cons (pe_ix ix_list (pv 0) (pv 1) (fun _ _ => rfl)) pa_nil))
        (pe_op op_add (pe_op op_mul pe_int (pv 1)) pe_int)) ?imp))
      (pss_cons (ps_set (i := 3) sc_w_bowl.nd rfl (Or.inl rfl) (pe_op op_mod (pe_callB call_abs (by rfl) T.z_abs boot_abs (pa_cons (pv 2) pa_nil)) (pe_op op_powW (pe_op op_pow pe_int pe_int) pe_int)))
      (pss_cons (ps_set (i := 4) sc_w_bowl.nd rfl (Or.inl rfl) (pe_op op_mod (pe_callTy call_int1 (by rfl) T.z_int boot_int (pa_cons (pe_op op_add (pe_op op_add (pe_op op_add (pe_op op_mul (pv 3) pe_int) (pe_op op_mul pe_int (pv 1))) (pe_op op_mul pe_int (pe_callTy call_int1 (by rfl) T.z_int boot_int (pa_cons (pe_cmpR op_lt (pv 2) pe_int (nomark _)) pa_nil)))) pe_int) pa_nil)) pe_int))
      (pss_one (ps_ret (pe_lst (pa_cons (pe_callB (call_max2 rfl) (by rfl) T.z_max boot_max (pa_cons pe_int (pa_cons (pe_op op_sub (pv 3) (pe_op op_pow pe_int pe_int)) pa_nil))) (pa_cons (pv 4) (pa_cons pe_int pa_nil)))))))), ?_⟩
    case imp =>
      rintro σ' H' Q' ⟨rfl, rfl, h⟩
      refine ⟨_, rfl, _, rfl, a, _, rfl, .inl hS, _, _, rfl, rfl, _, rfl, ite2 (fun c => ?_) (fun c => ?_)⟩
      · have c' := of_decide_eq_true c
        rw [List.length_map] at c'
        have hlt : k < ns.length := by omega
        refine ⟨_, rfl, _, rfl, a, _, _, .int ns[k], rfl, rfl, hS, atI_nat (by rw [List.getElem?_map, List.getElem?_eq_getElem hlt] <;> rfl), .inl ⟨_, rfl, ?_⟩⟩
        exact h _
      · exact ⟨_, rfl, _, _, rfl, rfl, .inl ⟨by decide, by decide⟩, _, _, rfl, rfl, h _⟩
    refine ⟨rfl, rfl, fun cell => ?_⟩
    refine ⟨_, rfl, _, rfl, _, _, rfl, rfl, ⟨by decide, by decide, by decide⟩, _, _, rfl, rfl, ⟨by decide, by decide +kernel⟩, _, _, rfl, rfl, Int.pow_pos (Int.pow_pos (by decide)), ?_⟩
    refine ⟨_, rfl, _, _, rfl, rfl, .inr ⟨by decide, by decide⟩, _, rfl, _, _, rfl, rfl, .inl ⟨by decide, by decide⟩, _, _, rfl, rfl, _, rfl, _, _, rfl, rfl, .inr ⟨_, rfl, _, _, rfl, rfl, .inl ⟨by decide, by decide⟩, _, _, rfl, rfl, _, _, rfl, rfl, .inl ⟨_, rfl, _, _, rfl, rfl, mpos (by decide), ?_⟩⟩⟩
    refine ⟨_, rfl, _, _, rfl, rfl, ⟨by decide, by decide, by decide⟩, _, _, rfl, rfl, _, _, rfl, _, rfl, by show 3 ≤ sizeLine; decide, fun z hz => ?_⟩
    exact q _ z _ _ _ (same_new hz _) hz upd_same
abbrev rDip (H : Hp) (p : Addr) (m : Int) (Q : VK) : Prop := ∀ g x c r : Int, 0 ≤ r → r < m → Q (.int r) (upd H p (pailO g x c))
def sp_dip : Sp := fun vs H Q _ => ∃ (p : Addr) (m g x c : Int), vs = [.ref p, .int m] ∧ H p = some (pailO g x c) ∧ 0 < m ∧ m < 1073741824 ∧ rDip H p m Q
theorem ok_dip (T : Txt K mg) : FnOk P w K mg base CX0 1 T.a_w_dip T.d_w_dip ["_law_bowl_here", "_law_total"] sp_dip := by
  refine T.F_w_dip.ok sc_w_dip (fun vs H Q E h => ?_) (fun cdv A outer s H vs Q E hr h => ?_)
  · obtain ⟨p, m, g, x, c, rfl, _⟩ := h
    rfl
  · obtain ⟨p, m, g, x, c, rfl, hp, h0, h1, q⟩ := h
    refine ⟨_, pss_cons (ps_if (pt_cmpR op_gt (pe_ix ix_list (pv 0) pe_int (fun _ _ => rfl)) pe_int (nomark _))
        (pss_cons (ps_set (i := 2) sc_w_dip.nd rfl (Or.inl rfl) (pe_op op_mod (pe_callTy call_int1 (by rfl) T.z_int boot_int (pa_cons (pe_ix ix_list (pv 0) pe_int (fun _ _ => rfl)) pa_nil)) (pv 1)))
        (pss_cons (ps_asg (pe_op op_fdiv (pe_ix ix_list (pv 0) pe_int (fun _ _ => rfl)) (pv 1)) (pg_sub (pv 0) pe_int set_list))
        (pss_one (ps_ret (pv 2))))) pss_nil)
      (pss_cons (ps_asg (pe_op op_add (pe_ix ix_list (pv 0) pe_int (fun _ _ => rfl)) pe_int) (pg_sub (pv 0) pe_int set_list))
      (pss_cons (ps_set (i := 3) sc_w_dip.nd rfl (Or.inl rfl) (pe_op op_mod (pe_callTy call_int1 (by rfl) T.z_int boot_int (pa_cons (pe_op op_add (pe_op op_add (pe_op op_mul (pe_ix ix_list (pv 0) pe_int (fun _ _ => rfl)) pe_int) (pe_op op_mul (pe_ix ix_list (pv 0) pe_int (fun _ _ => rfl)) pe_int)) pe_int) pa_nil)) pe_int))
      (pss_cons (ps_set (i := 4) sc_w_dip.nd rfl (Or.inl rfl) (pe_op op_mod (pe_callTy call_int1 (by rfl) T.z_int boot_int (pa_cons (pe_op op_add (pe_op op_mul (pv 3) (pv 3)) (pe_op op_mul pe_int (pe_ix ix_list (pv 0) pe_int (fun _ _ => rfl)))) pa_nil)) pe_int))
      (pss_one (ps_ret (pe_op op_mod (pe_callTy call_int1 (by rfl) T.z_int boot_int (pa_cons (pe_op op_fdiv (pe_op op_mod (pe_callTy call_int1 (by rfl) T.z_int boot_int (pa_cons (pe_op op_add (pe_op op_mul (pv 4) pe_int) (pv 3)) pa_nil)) pe_int) pe_int) pa_nil)) (pv 1))))))), ?_⟩
    have a0 : atI [V.int g, V.int x, V.int c] (0 : Int) = some (.int g) := rfl
    refine ⟨_, rfl, p, _, _, _, rfl, rfl, SqL.of hp, a0, _, _, rfl, rfl, _, rfl, ite2 (fun d => ?_) (fun d => ?_)⟩
    · refine ⟨_, rfl, p, _, _, _, rfl, rfl, SqL.of hp, a0, .inl ⟨_, rfl, _, rfl, _, _, rfl, rfl, h0, ?_⟩⟩
      refine ⟨_, rfl, p, _, _, _, rfl, rfl, SqL.of hp, a0, _, rfl, _, _, rfl, rfl, ⟨h0, h1⟩, ?_⟩
      refine ⟨_, rfl, p, _, _, 0, rfl, rfl, hp, rfl, ?_⟩
      exact ⟨_, rfl, q _ _ _ _ (Int.emod_nonneg _ (by omega)) (Int.emod_lt_of_pos _ h0)⟩
    · have a2 : atI [V.int g, V.int x, V.int c] (2 : Int) = some (.int c) := rfl
      refine ⟨_, rfl, p, _, _, _, rfl, rfl, SqL.of hp, a2, _, _, rfl, rfl, _, rfl, p, _, _, 2, rfl, rfl, hp, rfl, ?_⟩
      have hp' : (upd H p (.lst [V.int g, V.int x, V.int (c + 1)])) p = some (.lst [V.int g, V.int x, V.int (c + 1)]) := upd_same
      have b1 : atI [V.int g, V.int x, V.int (c + 1)] (1 : Int) = some (.int x) := rfl
      have b2 : atI [V.int g, V.int x, V.int (c + 1)] (2 : Int) = some (.int (c + 1)) := rfl
      refine ⟨_, rfl, p, _, _, _, rfl, rfl, SqL.of hp', b1, _, _, rfl, rfl, .inr ⟨by decide, by decide⟩, _, rfl, p, _, _, _, rfl, rfl, SqL.of hp', b2, _, _, rfl, rfl, .inr ⟨by decide, by decide⟩, _, _, rfl, rfl, _, _, rfl, rfl, .inl ⟨_, rfl, _, _, rfl, rfl, mpos (by decide), ?_⟩⟩
      have r0 := Int.emod_nonneg (x * 67867967 + (c + 1) * 49979687 + 401) (show (2305843009213693951 : Int) ≠ 0 by decide)
      have r1 := Int.emod_lt_of_pos (x * 67867967 + (c + 1) * 49979687 + 401) (show (0 : Int) < 2305843009213693951 by decide)
      generalize (x * 67867967 + (c + 1) * 49979687 + 401) % 2305843009213693951 = one at r0 r1 ⊢
      refine ⟨_, rfl, _, rfl, _, _, rfl, rfl, .inl ⟨by omega, by omega⟩, _, rfl, p, _, _, _, rfl, rfl, SqL.of hp', b2, _, _, rfl, rfl, .inl ⟨by decide, by decide⟩, _, _, rfl, rfl, .inl ⟨_, rfl, _, _, rfl, rfl, mpos (by decide), ?_⟩⟩
      refine ⟨_, rfl, _, _, rfl, rfl, .inr ⟨by decide, by decide⟩, _, rfl, _, _, rfl, rfl, .inl ⟨_, rfl, _, _, rfl, rfl, mpos (by decide), _, _, rfl, rfl, ⟨by decide, by decide⟩, .inl ⟨_, rfl, _, rfl, _, _, rfl, rfl, h0, ?_⟩⟩⟩
      exact q _ _ _ _ (Int.emod_nonneg _ (by omega)) (Int.emod_lt_of_pos _ h0)
/-- items[dip(bowl, len(items))] -/
def sp_pick (K : PySem.W.Frag) : Sp := fun vs H Q _ => ∃ (p a : Addr) (xs : List V) (g x c : Int), vs = [.ref p, .ref a] ∧ H p = some (pailO g x c) ∧ a ≠ p ∧ SqL K H a xs ∧ xs ≠ [] ∧ xs.length ≤ 1000 ∧ ∀ g x c v, v ∈ xs → Q v (upd H p (pailO g x c))
theorem ok_pick (T : Txt K mg) : FnOk P w K mg base CX0 2 T.a_w_pick T.d_w_pick ["_law_bowl_here", "_law_items"] (sp_pick K) := by
  refine T.F_w_pick.ok sc_w_pick (fun vs H Q E h => ?_) (fun cdv A outer s H vs Q E hr h => ?_)
  · obtain ⟨p, a, xs, g, x, c, rfl, _⟩ := h
    rfl
  · obtain ⟨p, a, xs, g, x, c, rfl, hp, hne, hS, hn, hz, q⟩ := h
    refine ⟨_, pss_one (ps_ret (pe_ix ix_list (pv 1) (pe_call (ok_dip T) hr (by rfl) T.m_w_dip T.F_w_dip.kp T.b_w_dip .nil pass0 (pa_cons (pv 0) (pa_cons (pe_callB call_len_seq (by rfl) T.z_len boot_len (pa_cons (pv 1) pa_nil)) pa_nil))) (fun _ _ => rfl))), ?_⟩
    have hpos : 0 < xs.length := List.length_pos_iff.mpr hn
    refine ⟨_, rfl, _, rfl, _, rfl, a, _, rfl, .inl hS, p, _, g, x, c, rfl, hp, by omega, by omega, fun g' x' c' r h0 h1 => ?_⟩
    have hlt : r.toNat < xs.length := by omega
    refine ⟨a, xs, r, xs[r.toNat], rfl, rfl, sql_updL hne hS, ?_, q _ _ _ _ (List.getElem_mem hlt)⟩
    have := atI_nat (xs := xs) (List.getElem?_eq_getElem hlt)
    rw [show ((r.toNat : Nat) : Int) = r by omega] at this
    exact this
end
end K61

namespace K61
open PySem PySem.Spec PyProof.Rows L2 RZ L5 Gv
/-! ### degrees, as numbers -/
def bel : List Int → List Int → Bool
  | _, [] => true
  | [], _ :: _ => false
  | a :: t, b :: u => decide (a ≤ b) && bel t u
theorem bel_eq : ∀ t u : List Int, belB t u = bel t u
  | [], [] => rfl
  | [], b :: u => by simp [belB, bel]
  | a :: t, [] => by simp [belB, bel]
  | a :: t, b :: u => by
    have ih := bel_eq t u
    unfold belB at ih ⊢
    show (decide (u.length + 1 ≤ t.length + 1) && (decide (a ≤ b) && (zbI (fun a b => decide (a ≤ b)) t u).all id)) = (decide (a ≤ b) && bel t u)
    rw [← ih, show decide (u.length + 1 ≤ t.length + 1) = decide (u.length ≤ t.length) from decide_eq_decide.mpr ⟨fun h => by omega, fun h => by omega⟩]
    cases decide (a ≤ b) <;> cases decide (u.length ≤ t.length) <;> rfl
theorem bel_refl : ∀ t : List Int, bel t t = true
  | [] => rfl
  | a :: t => by
    show (decide (a ≤ a) && bel t t) = true
    rw [decide_eq_true (Int.le_refl a), bel_refl t]
    rfl
theorem bel_cons {a b : Int} {t u : List Int} : bel (a :: t) (b :: u) = true ↔ a ≤ b ∧ bel t u = true := by
  show (decide (a ≤ b) && bel t u) = true ↔ _
  rw [Bool.and_eq_true, decide_eq_true_iff]
theorem bel_trans : ∀ {t u v : List Int}, bel t u = true → bel u v = true → bel t v = true
  | [], [], [], _, _ => rfl
  | _, _ :: _, [], _, _ => by simp [bel]
  | _ :: _, [], [], _, _ => by simp [bel]
  | [], _ :: _, _ :: _, h, _ => by simp [bel] at h
  | _, [], _ :: _, _, h => by simp [bel] at h
  | a :: t, b :: u, c :: v, h, k => by
    obtain ⟨h1, h2⟩ := bel_cons.mp h
    obtain ⟨k1, k2⟩ := bel_cons.mp k
    exact bel_cons.mpr ⟨by omega, bel_trans h2 k2⟩
theorem bel_anti : ∀ {t u : List Int}, bel t u = true → bel u t = true → t = u
  | [], [], _, _ => rfl
  | [], _ :: _, h, _ => by simp [bel] at h
  | _ :: _, [], _, h => by simp [bel] at h
  | a :: t, b :: u, h, k => by
    obtain ⟨h1, h2⟩ := bel_cons.mp h
    obtain ⟨k1, k2⟩ := bel_cons.mp k
    rw [bel_anti h2 k2, show a = b by omega]
theorem bel_take : ∀ (t : List Int) (k : Nat), bel t (t.take k) = true
  | [], k => by simp [bel]
  | a :: t, 0 => by simp [bel]
  | a :: t, k + 1 => bel_cons.mpr ⟨Int.le_refl a, bel_take t k⟩
theorem asc_cons {a b : Int} {r : List Int} : ascI (a :: b :: r) = true ↔ a < b ∧ ascI (b :: r) = true := by
  show (decide (a < b) && ascI (b :: r)) = true ↔ _
  rw [Bool.and_eq_true, decide_eq_true_iff]
theorem asc_tail {a : Int} : ∀ {r : List Int}, ascI (a :: r) = true → ascI r = true
  | [], _ => rfl
  | _ :: _, h => (asc_cons.mp h).2
theorem asc_take : ∀ {t : List Int} (k : Nat), ascI t = true → ascI (t.take k) = true
  | [], k, _ => by simp [ascI]
  | [a], 0, _ => rfl
  | [a], k + 1, _ => by simp [ascI]
  | a :: b :: r, 0, _ => rfl
  | a :: b :: r, 1, _ => rfl
  | a :: b :: r, k + 2, h => by
    obtain ⟨h1, h2⟩ := asc_cons.mp h
    show ascI (a :: b :: r.take k) = true
    exact asc_cons.mpr ⟨h1, asc_take (k + 1) h2⟩
theorem asc_sorted : ∀ {t : List Int}, t.Pairwise (· ≤ ·) → t.Nodup → ascI t = true
  | [], _, _ => rfl
  | [_], _, _ => rfl
  | a :: b :: r, h, n => by
    obtain ⟨h1, h2⟩ := List.pairwise_cons.mp h
    obtain ⟨n1, n2⟩ := List.nodup_cons.mp n
    refine asc_cons.mpr ⟨?_, asc_sorted h2 n2⟩
    have e1 := h1 b List.mem_cons_self
    have e2 : a ≠ b := fun e => n1 (by rw [e]; exact List.mem_cons_self)
    omega
theorem pure_iff {t : List Int} : Pure t ↔ (∀ e ∈ t, 0 ≤ e ∧ e ≤ 480) ∧ ascI t = true ∧ 1 ≤ t.length ∧ t.length ≤ 9 := by
  show ((((t.map some).all fun e => inB e 0 480) && ascI (intsO (t.map some))) && (decide (1 ≤ (t.map some).length) && decide ((t.map some).length ≤ 9))) = true ↔ _
  rw [ints_back, List.length_map, Bool.and_eq_true, Bool.and_eq_true, Bool.and_eq_true, decide_eq_true_iff, decide_eq_true_iff, List.all_eq_true]
  have e : (∀ x ∈ t.map some, inB x 0 480 = true) ↔ ∀ e ∈ t, 0 ≤ e ∧ e ≤ 480 := by
    constructor
    · intro h e he
      have h' : (decide ((0 : Int) ≤ e) && decide (e ≤ 480)) = true := h (some e) (List.mem_map_of_mem he)
      rw [Bool.and_eq_true, decide_eq_true_iff, decide_eq_true_iff] at h'
      exact h'
    · intro h x hx
      obtain ⟨e, he, rfl⟩ := List.mem_map.mp hx
      show (decide ((0 : Int) ≤ e) && decide (e ≤ 480)) = true
      rw [Bool.and_eq_true, decide_eq_true_iff, decide_eq_true_iff]
      exact h e he
  rw [e]
  constructor
  · rintro ⟨⟨h1, h2⟩, h3⟩
    exact ⟨h1, h2, h3⟩
  · rintro ⟨h1, h2, h3⟩
    exact ⟨⟨h1, h2⟩, h3⟩
theorem pure_take {t : List Int} {k : Nat} (h : Pure t) (hk : 1 ≤ k) : Pure (t.take k) := by
  obtain ⟨h1, h2, h3, h4⟩ := pure_iff.mp h
  exact pure_iff.mpr ⟨fun e he => h1 e (List.mem_of_mem_take he), asc_take k h2, by rw [List.length_take]; omega, by rw [List.length_take]; omega⟩
abbrev ones (c : Nat) : List Int := List.replicate c 1
theorem shaped_intsL (l : List Int) : SeqAt.shaped (.list (l.map PyData.int)) = true := by
  obtain ⟨h1, h2⟩ := can_ints l
  simp [SeqAt.shaped, PyData.canLay0, PyData.depth, h1, h2]
theorem eqv_ones (c : Nat) : PyData.eqv (.list ((ones c).map PyData.int)) (.list []) = decide (c = 0) := by
  rw [eqv_nilL]
  refine decide_eq_decide.mpr ?_
  cases c with
  | zero => simp
  | succ c => simp [List.replicate_succ]
/-- how many of the first pairs break a rule -/
theorem none_broken {l : List Bool} {i c : Nat} {b : Bool} (h : l[i]? = some b) (e : c = 0 ↔ (l.take i).all id = true) : (c + (if b = true then 0 else 1) = 0 ↔ (l.take (i + 1)).all id = true) := by
  rw [all_take_step h, Bool.and_eq_true, ← e]
  cases b <;> simp
section
variable {P : Program} {w : World} {K : PySem.W.Frag} {mg : Str → Option Value} {base : Heap}
def sp_wbel (K : PySem.W.Frag) : Sp := fun vs H Q _ => ∃ p r t u, vs = [.ref p, .ref r] ∧ SqT K H p (iv t) ∧ SqT K H r (iv u) ∧ t.length ≤ 1000 ∧ ∀ H', Same H H' → Q (.bl (bel t u)) H'
theorem ok_wbel (T : Txt K mg) : FnOk P w K mg base CX0 1 T.a_w_is_below T.d_w_is_below ["_law_one", "_law_other"] (sp_wbel K) := by
  refine T.F_w_is_below.ok sc_w_is_below (fun vs H Q E h => ?_) (fun cdv A outer s H vs Q E hr h => ?_)
  · obtain ⟨p, r, t, u, rfl, _⟩ := h
    rfl
  · obtain ⟨p, r, t, u, rfl, hT, hU, hz, q⟩ := h
    refine ⟨_, pss_one (ps_ret (pe_and (pe_cmpR op_ge (pe_callB call_len_seq (by rfl) T.z_len boot_len (pa_cons (pv 0) pa_nil)) (pe_callB call_len_seq (by rfl) T.z_len boot_len (pa_cons (pv 1) pa_nil)) (nomark _))
      (pe_one (pe_cmpR (op_eqD hr.units)
        (pe_lc (own := [("_law_left", 2), ("_law_right_here", 3)]) (g := gTup K 2 (gCons (gName 2) (gCons (gName 3) gNil))) rfl sc_w_is_below.nd (pi_zipA (by rfl) T.z_zip (pa_cons (pv 0) (pa_cons (pv 1) pa_nil)))
          (blkOk_by (own := [("_law_left", 2), ("_law_right_here", 3)]) (N := N_w_is_below) (sc := defScope s_w_is_below) (by decide +kernel))
          (fun _ _ _ _ _ => pg_tup (by rfl) (pgs_cons (pg_name (i := 2) sc_w_is_below.nd rfl (Or.inl rfl)) (pgs_cons (pg_name (i := 3) sc_w_is_below.nd rfl (Or.inl rfl)) pgs_nil)))
          (fun _ _ _ _ _ => pts_one (pt_cmpR op_gt (pv 2) (pv 3) (nomark _)))
          (fun _ _ _ _ _ => pe_int)) (pe_lst pa_nil) (nomark _))))), ?_⟩
    rw [← bel_eq] at q
    refine ⟨_, rfl, p, _, rfl, .inr hT, _, rfl, r, _, rfl, .inr hU, _, _, rfl, rfl, _, rfl, ?_⟩
    rw [iv_len, iv_len]
    have e0 : decide (((t.length : Nat) : Int) ≥ ((u.length : Nat) : Int)) = decide (u.length ≤ t.length) := decide_eq_decide.mpr ⟨fun h => by omega, fun h => by omega⟩
    rw [e0]
    refine ite2 (fun c => ?_) (fun c => ?_)
    · have e1 : belB t u = (zbI (fun a b => decide (a ≤ b)) t u).all id := by
        show (_ && _) = _
        rw [c, Bool.true_and]
      rw [e1] at q
      refine ⟨_, rfl, _, rfl, p, r, iv t, iv u, rfl, .inr ⟨hT, hU, fun D hD => ?_⟩⟩
      have s3 := same_new hD (.lst [])
      refine lc_zipM _ rfl (fun i H3 => Same H H3 ∧ ∃ k : Nat, H3 D = some (.lst (iv (ones k))) ∧ k ≤ i ∧ (k = 0 ↔ ((zbI (fun a b => decide (a ≤ b)) t u).take i).all id = true)) ⟨s3, 0, upd_same, Nat.le_refl _, by simp⟩ (fun i H3 hh => ⟨same_sqt hh.1 hT, same_sqt hh.1 hU⟩) (fun i x y T' H3 hx hy hh hT3 => ?_) (fun H3 hh => ?_)
      · obtain ⟨s4, k, eD4, hk, hall⟩ := hh
        obtain ⟨n1, hn1, rfl⟩ := iv_get hx
        obtain ⟨n2, hn2, rfl⟩ := iv_get hy
        have hlt : i < t.length := (List.getElem?_eq_some_iff.mp hn1).1
        have sT : Same H3 (upd H3 T' (.tup [.int n1, .int n2])) := same_new hT3 _
        have nb := none_broken (zbI_get (f := fun a b => decide (a ≤ b)) hn1 hn2) hall
        refine ⟨T', _, rfl, SqT.of upd_same, rfl, _, _, rfl, _, _, rfl, rfl, ?_⟩
        refine ⟨rfl, _, rfl, _, rfl, _, _, rfl, rfl, _, rfl, ite2 (fun cc => ?_) (fun cc => ?_)⟩
        · have c' := of_decide_eq_true cc
          rw [decide_eq_false (show ¬ n1 ≤ n2 by omega)] at nb
          refine ⟨_, sT _ _ eD4, by rw [iv_len, List.length_replicate]; exact sizeK (by omega), same_updL (s4.trans sT) hD, k + 1, ?_, by omega, nb⟩
          rw [upd_same, show ones (k + 1) = ones k ++ [1] from List.replicate_succ', iv_app]
          rfl
        · have c' : ¬ n1 > n2 := fun z => cc (decide_eq_true z)
          rw [decide_eq_true (show n1 ≤ n2 by omega)] at nb
          exact ⟨s4.trans sT, k, sT _ _ eD4, by omega, nb⟩
      · obtain ⟨s4, k, eD4, hk, hall⟩ := hh
        rw [List.take_of_length_le (by rw [zbI_len, iv_len, iv_len]; exact Nat.le_refl _)] at hall
        refine ⟨Nat.zero_le _, fun z hz0 => ?_⟩
        have s5 := same_new hz0 (.lst [])
        refine ⟨_, .list [], .lst (SqL.of (s5 _ _ eD4)) (dp_ints (ones k)), .lst (SqL.of upd_same) .nil, shaped_intsL _, by decide, ?_⟩
        rw [eqv_ones]
        have e2 : decide (k = 0) = (zbI (fun a b => decide (a ≤ b)) t u).all id := by
          rw [Bool.eq_iff_iff, decide_eq_true_iff]
          exact hall
        rw [e2]
        exact q _ (s4.trans s5)
    · have e1 : belB t u = false := by
        show (_ && _) = _
        rw [Bool.eq_false_iff.mpr c, Bool.false_and]
      rw [e1] at q
      exact q H (Same.refl H)
end
end K61

namespace K61
open PySem PySem.Spec PyProof.Rows L2 RZ L5 Gv
theorem put_keys (kvs : List (Key × V)) (k : Key) (v : V) : (k ∈ kvs.map (·.1) → (putK kvs k v).map (·.1) = kvs.map (·.1)) ∧ (k ∉ kvs.map (·.1) → (putK kvs k v).map (·.1) = kvs.map (·.1) ++ [k]) := by
  unfold putK
  have e : (kvs.any fun kv => decide (kv.1 = k)) = true ↔ k ∈ kvs.map (·.1) := by
    rw [List.any_eq_true, List.mem_map]
    exact ⟨fun ⟨x, hx, h⟩ => ⟨x, hx, of_decide_eq_true h⟩, fun ⟨x, hx, h⟩ => ⟨x, hx, decide_eq_true h⟩⟩
  constructor
  · intro h
    rw [if_pos (e.mpr h), List.map_map]
    refine List.map_congr_left fun kv _ => ?_
    show (if kv.1 = k then (kv.1, v) else kv).1 = kv.1
    split <;> rfl
  · intro h
    rw [if_neg (fun z => h (e.mp z)), List.map_append]
    rfl
section
variable {P : Program} {w : World} {K : PySem.W.Frag} {mg : Str → Option Value} {base : Heap}
def sp_wdeg (K : PySem.W.Frag) : Sp := fun vs H Q _ => ∃ (p : Addr) (size most : Nat), vs = [.ref p, .int ((size : Nat) : Int), .int ((most : Nat) : Int)] ∧ Pail p H ∧ 1 ≤ size ∧ size ≤ 9 ∧ most ≤ 480 ∧
  ∀ H' z t, Bar p H H' → Pail p H' → SqT K H' z (iv t) → Pure t → Q (.ref z) H'
theorem ok_wdeg (T : Txt K mg) : FnOk P w K mg base CX0 2 T.a_w_degrees T.d_w_degrees ["_law_bowl_here", "_law_size", "_law_most"] (sp_wdeg K) := by
  refine T.F_w_degrees.ok sc_w_degrees (fun vs H Q E h => ?_) (fun cdv A outer s H vs Q E hr h => ?_)
  · obtain ⟨p, size, most, rfl, _⟩ := h
    rfl
  · obtain ⟨p, size, most, rfl, ⟨g, x, c, hp⟩, h1, h9, hm, q⟩ := h
    refine ⟨_, pss_cons (ps_set (i := 3) sc_w_degrees.nd rfl (Or.inl rfl) pe_dnewK)
      (pss_cons (ps_for PassesOwn.never rfl (pi_range1 rfl T.z_range (pa_cons (pe_op op_add pe_int (pe_call (ok_dip T) hr (by rfl) T.m_w_dip T.F_w_dip.kp T.b_w_dip .nil pass0 (pa_cons (pv 0) (pa_cons (pv 1) pa_nil)))) pa_nil)) (pg_name (i := 4) sc_w_degrees.nd rfl (Or.inl rfl))
        (pss_one (ps_dput (hu_of hr) (pv 3) (pe_call (ok_dip T) hr (by rfl) T.m_w_dip T.F_w_dip.kp T.b_w_dip .nil pass0 (pa_cons (pv 0) (pa_cons (pe_op op_add (pv 2) pe_int) pa_nil))) pe_bl rfl)))
      (pss_one (ps_ret (pe_callTy call_tuple_of (by rfl) T.z_tuple boot_tuple (pa_cons (pe_callB (call_sortedDI rfl) (by rfl) T.z_sorted (by decide +kernel) (pa_cons (pv 3) pa_nil)) pa_nil))))), ?_⟩
    intro d hd
    have hdp : d ≠ p := fun e => by rw [e, hp] at hd; cases hd
    have sd := same_new hd (.dK [])
    refine ⟨_, rfl, _, rfl, p, _, g, x, c, rfl, sd _ _ hp, by omega, by omega, fun g1 x1 c1 r hr0 hr1 => ?_⟩
    obtain ⟨n, rfl⟩ := nat_of hr0
    have b0 : Bar p H (upd (upd H d (.dK [])) p (pailO g1 x1 c1)) := (Bar.same sd).trans Bar.upd
    have p0 : (upd (upd H d (.dK [])) p (pailO g1 x1 c1)) p = some (pailO g1 x1 c1) := upd_same
    have d0 : (upd (upd H d (.dK [])) p (pailO g1 x1 c1)) d = some (.dK []) := by rw [upd_ne hdp, upd_same]
    generalize (upd (upd H d (.dK [])) p (pailO g1 x1 c1)) = H0 at b0 p0 d0 ⊢
    refine ⟨_, _, rfl, rfl, _, rfl, by omega, by omega, ?_⟩
    refine for_range (lo := 0) (n := ((1 : Int) + ((n : Nat) : Int)).toNat) (fun i σ H' => ∃ (v4 : Option V) (kvs : List (Key × V)) (ks : List Int), σ = [some (.ref p), some (.int ((size : Nat) : Int)), some (.int ((most : Nat) : Int)), some (.ref d), v4] ∧ Bar p H H' ∧ Pail p H' ∧ H' d = some (.dK kvs) ∧ kvs.map (·.1) = ks.map Sum.inl ∧ ks.Nodup ∧ ks.length ≤ i ∧ (0 < i → ks ≠ []) ∧ ∀ k ∈ ks, 0 ≤ k ∧ k ≤ ((most : Nat) : Int))
      ⟨none, [], [], rfl, b0, ⟨_, _, _, p0⟩, d0, rfl, List.nodup_nil, Nat.le_refl _, fun h => absurd h (by decide), fun _ h => nomatch h⟩ ?_ ?_
    · rintro i σ H1 hi ⟨v4, kvs, ks, rfl, b1, ⟨g2, x2, c2, hp1⟩, hd1, hk, hnd, hkl, hne, hb⟩
      have hi9 : i < 1 + n := by
        have : i < ((1 : Int) + ((n : Nat) : Int)).toNat := hi
        omega
      refine ⟨_, rfl, _, rfl, _, rfl, _, _, rfl, rfl, p, _, g2, x2, c2, rfl, hp1, by omega, by omega, fun g3 x3 c3 r2 hr2 hr3 => ?_⟩
      have p2 : (upd H1 p (pailO g3 x3 c3)) p = some (pailO g3 x3 c3) := upd_same
      have d2 : (upd H1 p (pailO g3 x3 c3)) d = some (.dK kvs) := by rw [upd_ne hdp]; exact hd1
      have b2 : Bar p H (upd H1 p (pailO g3 x3 c3)) := b1.trans Bar.upd
      generalize (upd H1 p (pailO g3 x3 c3)) = H2 at p2 d2 b2 ⊢
      have hkl2 : kvs.length = ks.length := by
        have := congrArg List.length hk
        rwa [List.length_map, List.length_map] at this
      refine ⟨d, _, rfl, DPut.k (k := Sum.inl r2) d2 (sizeK (by omega)), ?_⟩
      have hp3 : (upd H2 d (.dK (putK kvs (Sum.inl r2) (.bl true)))) p = some (pailO g3 x3 c3) := by rw [upd_ne (Ne.symm hdp)]; exact p2
      have hmem : (Sum.inl r2 : Key) ∈ kvs.map (·.1) ↔ r2 ∈ ks := by
        rw [hk, List.mem_map]
        exact ⟨fun ⟨a, ha, e⟩ => by cases e; exact ha, fun h => ⟨r2, h, rfl⟩⟩
      have hpk := put_keys kvs (Sum.inl r2) (.bl true)
      by_cases hin : r2 ∈ ks
      · have hpk := hpk.1 (hmem.mpr hin)
        rw [hk] at hpk
        exact ⟨_, _, ks, rfl, bar_updL b2 hd, ⟨_, _, _, hp3⟩, upd_same, hpk, hnd, by omega, (fun _ e => by rw [e] at hin; cases hin), hb⟩
      · have hpk := hpk.2 (fun z => hin (hmem.mp z))
        rw [hk] at hpk
        refine ⟨_, _, ks ++ [r2], rfl, bar_updL b2 hd, ⟨_, _, _, hp3⟩, upd_same, by rw [hpk, List.map_append]; rfl, ?_, by rw [List.length_append]; show _ + 1 ≤ _; omega, fun _ e => by simp at e, fun k hk2 => ?_⟩
        · rw [List.nodup_append]
          refine ⟨hnd, by simp, fun a ha b hb2 => ?_⟩
          rw [List.mem_singleton.mp hb2]
          exact fun e => hin (by rw [← e]; exact ha)
        · rcases List.mem_append.mp hk2 with hk2 | hk2
          · exact hb k hk2
          · rw [List.mem_singleton.mp hk2]
            omega
    · rintro σ H1 ⟨v4, kvs, ks, rfl, b1, ⟨g2, x2, c2, hp1⟩, hd1, hk, hnd, hkl, hne, hb⟩
      have hkl' : ks.length ≤ 1 + n := by
        have : ks.length ≤ ((1 : Int) + ((n : Nat) : Int)).toNat := hkl
        omega
      have hne' : ks ≠ [] := hne (by show 0 < ((1 : Int) + ((n : Nat) : Int)).toNat; omega)
      refine ⟨_, rfl, d, kvs, ks, rfl, .inl hd1, hk, by omega, fun ys z pm pw hz => ?_⟩
      have s2 := same_new hz (.lst (ys.map V.int))
      refine ⟨z, _, rfl, .inl ⟨SqL.of upd_same, fun z2 hz2 => ?_⟩⟩
      have s3 := same_new hz2 (.tup (ys.map V.int))
      have S := s2.trans s3
      refine q _ z2 ys (b1.trans (Bar.same S)) ⟨_, _, _, S _ _ hp1⟩ (SqT.of upd_same) (pure_iff.mpr ⟨fun e he => ?_, asc_sorted pw (pm.nodup_iff.mpr hnd), ?_, ?_⟩)
      · have := hb e (pm.mem_iff.mp he)
        omega
      · rw [pm.length_eq]
        have := List.length_pos_iff.mpr hne'
        omega
      · rw [pm.length_eq]
        omega
end
end K61

namespace K61
open PySem PySem.Spec PyProof.Rows L2 RZ L5 Gv
/-! ### raised degrees -/
/-- what the walk back has made of t from its place k on -/
structure Rsd (t : List Int) (k : Nat) (w : List Int) : Prop where
  len : w.length = t.length - k
  asc : ascI w = true
  top : ∀ e ∈ w, e ≤ 480
  up : bel (t.drop k) w = true
theorem bel_len : ∀ {t u : List Int}, bel t u = true → u.length ≤ t.length
  | _, [], _ => Nat.zero_le _
  | [], _ :: _, h => by simp [bel] at h
  | a :: t, b :: u, h => Nat.succ_le_succ (bel_len (bel_cons.mp h).2)
theorem Rsd.start {t : List Int} : Rsd t t.length [] := ⟨by simp, rfl, (fun _ h => nomatch h), by simp [bel]⟩
theorem asc_push {x : Int} {w : List Int} (h : ascI w = true) (hx : ∀ y, w.head? = some y → x < y) : ascI (x :: w) = true := by
  cases w with
  | nil => rfl
  | cons y w => exact asc_cons.mpr ⟨hx y rfl, h⟩
theorem Rsd.step {t w : List Int} {k : Nat} {a x : Int} (h : Rsd t (k + 1) w) (hk : t[k]? = some a) (hx : a ≤ x) (hx2 : x ≤ 480) (hx3 : ∀ y, w.head? = some y → x < y) : Rsd t k (x :: w) := by
  have hlt : k < t.length := (List.getElem?_eq_some_iff.mp hk).1
  have hd : t.drop k = a :: t.drop (k + 1) := by
    rw [List.drop_eq_getElem_cons hlt]
    congr 1
    exact Option.some.inj ((List.getElem?_eq_getElem hlt).symm.trans hk)
  refine ⟨by rw [List.length_cons, h.len]; omega, asc_push h.asc hx3, fun e he => ?_, by rw [hd]; exact bel_cons.mpr ⟨hx, h.up⟩⟩
  rcases List.mem_cons.mp he with rfl | he
  · exact hx2
  · exact h.top e he
theorem bel_ge : ∀ {t u : List Int}, bel t u = true → (∀ e ∈ t, 0 ≤ e) → ∀ e ∈ u, 0 ≤ e
  | _, [], _, _, _, he => nomatch he
  | [], _ :: _, h, _, _, _ => by simp [bel] at h
  | a :: t, b :: u, h, ht, e, he => by
    obtain ⟨h1, h2⟩ := bel_cons.mp h
    have := ht a List.mem_cons_self
    rcases List.mem_cons.mp he with rfl | he
    · omega
    · exact bel_ge h2 (fun e he => ht e (List.mem_cons_of_mem _ he)) e he
theorem Rsd.done {t w : List Int} (h : Rsd t 0 w) (hp : Pure t) : Pure w ∧ bel t w = true := by
  obtain ⟨p1, p2, p3, p4⟩ := pure_iff.mp hp
  have hu : bel t w = true := h.up
  have hl := h.len
  refine ⟨pure_iff.mpr ⟨fun e he => ⟨bel_ge hu (fun e he => (p1 e he).1) e he, h.top e he⟩, h.asc, by omega, by omega⟩, hu⟩
/-- the head of what was raised is above the entry ahead of it -/
theorem asc_lt {t : List Int} : ∀ {k : Nat} {a b : Int}, ascI t = true → t[k]? = some a → t[k + 1]? = some b → a < b := fun {k} => by
  induction t generalizing k with
  | nil => intro a b _ h _; simp at h
  | cons x r ih =>
    intro a b h h1 h2
    cases k with
    | zero =>
      cases r with
      | nil => simp at h2
      | cons y r =>
        have e1 : x = a := by simpa using h1
        have e2 : y = b := by simpa using h2
        rw [← e1, ← e2]
        exact (asc_cons.mp h).1
    | succ k => exact ih (k := k) (asc_tail h) (by simpa using h1) (by simpa using h2)
theorem Rsd.head {t w : List Int} {k : Nat} {a y : Int} (h : Rsd t (k + 1) w) (ht : ascI t = true) (hk : t[k]? = some a) (hy : w.head? = some y) : a < y := by
  cases w with
  | nil => cases hy
  | cons z w =>
    obtain rfl : z = y := Option.some.inj hy
    have hl := h.len
    rw [List.length_cons] at hl
    have hlt : k + 1 < t.length := by omega
    have hd : t.drop (k + 1) = t[k + 1] :: t.drop (k + 2) := List.drop_eq_getElem_cons hlt
    have hu := h.up
    rw [hd] at hu
    have := (bel_cons.mp hu).1
    have := asc_lt ht hk (List.getElem?_eq_getElem hlt)
    omega
def mostOf (w : List Int) : Int := match w with
  | [] => 481
  | y :: _ => y
theorem set_split {t w : List Int} {k : Nat} {a x : Int} (hk : t[k]? = some a) : (t.take (k + 1) ++ w).set k x = t.take k ++ (x :: w) := by
  have hlt : k < t.length := (List.getElem?_eq_some_iff.mp hk).1
  rw [take_more hk, List.append_assoc, List.set_append, if_neg (by rw [List.length_take]; omega)]
  congr 1
  rw [List.length_take, show k - min k t.length = 0 by omega]
  rfl
theorem ixN_at {n j : Nat} (hj : j < n) : ixN n ((j : Nat) : Int) = some j := by
  unfold ixN
  rw [if_pos (by omega), if_pos (by omega)]
  rfl
theorem most_le {t w : List Int} {k : Nat} (h : Rsd t k w) : mostOf w ≤ 481 := by
  cases w with
  | nil => exact Int.le_refl _
  | cons y w =>
    have := h.top y List.mem_cons_self
    show y ≤ 481
    omega
theorem most_lt {t w : List Int} {k : Nat} {a : Int} (h : Rsd t (k + 1) w) (ht : Pure t) (hk : t[k]? = some a) : a < mostOf w := by
  cases w with
  | nil =>
    have := ((pure_iff.mp ht).1 a (List.mem_of_getElem? hk)).2
    show a < 481
    omega
  | cons y w => exact h.head (pure_iff.mp ht).2.1 hk rfl
theorem most_head {x : Int} {w : List Int} (h : x < mostOf w) : ∀ y, w.head? = some y → x < y := fun y e => by
  cases w with
  | nil => cases e
  | cons z w =>
    obtain rfl : z = y := Option.some.inj e
    exact h
theorem get_mid {t w : List Int} {k : Nat} {x : Int} (hk : k < t.length) : (t.take k ++ (x :: w))[k]? = some x := by
  rw [List.getElem?_append_right (by rw [List.length_take]; omega), List.length_take, show k - min k t.length = 0 by omega]
  rfl
theorem get_split {t w : List Int} {k : Nat} {a : Int} (hk : t[k]? = some a) : (t.take (k + 1) ++ w)[k]? = some a := by
  have hlt : k < t.length := (List.getElem?_eq_some_iff.mp hk).1
  rw [List.getElem?_append_left (by rw [List.length_take]; omega), List.getElem?_take_of_lt (by omega)]
  exact hk
section
variable {P : Program} {w : World} {K : PySem.W.Frag} {mg : Str → Option Value} {base : Heap}
def sp_wrai (K : PySem.W.Frag) : Sp := fun vs H Q _ => ∃ (p a : Addr) (t : List Int), vs = [.ref p, .ref a] ∧ Pail p H ∧ SqT K H a (iv t) ∧ Pure t ∧
  ∀ H' z u, Bar p H H' → Pail p H' → SqT K H' z (iv u) → Pure u → bel t u = true → Q (.ref z) H'
theorem ok_wrai (T : Txt K mg) : FnOk P w K mg base CX0 3 T.a_w_raised T.d_w_raised ["_law_bowl_here", "_law_degrees_here"] (sp_wrai K) := by
  refine T.F_w_raised.ok sc_w_raised (fun vs H Q E h => ?_) (fun cdv A outer s H vs Q E hr h => ?_)
  · obtain ⟨p, a, t, rfl, _⟩ := h
    rfl
  · obtain ⟨p, a, t, rfl, hp, hT, hpu, q⟩ := h
    refine ⟨_, pss_cons (ps_par (i := 2) (j := 3) (by rfl) sc_w_raised.nd rfl rfl (by decide) rfl rfl (pa_cons (pe_callTy call_list_of (by rfl) T.z_list boot_list (pa_cons (pv 1) pa_nil)) (pa_cons pe_int pa_nil)) (by rfl))
      (pss_cons (PS.weak' (t' := fun D σ H1 => ∃ fa, σ = [some (.ref p), some (.ref a), some (.ref fa), some (.int 481), none, none] ∧ H fa = none ∧ Bar p H H1 ∧ Pail p H1 ∧ H1 fa = some (.lst (iv t)) ∧ ∀ H2 t', Bar p H H2 → Pail p H2 → H2 fa = some (.lst (iv t')) → Pure t' → bel t t' = true → D.nx σ H2) (ps_if (PW.pt (pw_and (pt_cmpR op_gt (pe_callB call_len_seq (by rfl) T.z_len boot_len (pa_cons (pv 2) pa_nil)) pe_int (nomark _)) (pw_and1 (pt_cmpR op_eq (pe_call (ok_dip T) (hr.mono (by decide)) (by rfl) T.m_w_dip T.F_w_dip.kp T.b_w_dip .nil pass0 (pa_cons (pv 0) (pa_cons pe_int pa_nil))) pe_int (nomark _)))))
          (pss_one (ps_expr (pe_bm0 PySem.F.plainAttrs_list PySem.F.slot_list_pop PySem.F.type_list_pop mt_pop (pv 2)))) pss_nil) ?i1)
      (pss_cons (ps_for PassesOwn.never rfl (pi_range3 rfl T.z_range (pa_cons (pe_op op_sub (pe_callB call_len_seq (by rfl) T.z_len boot_len (pa_cons (pv 2) pa_nil)) pe_int) (pa_cons (pe_un un_neg pe_int) (pa_cons (pe_un un_neg pe_int) pa_nil)))) (pg_name (i := 4) sc_w_raised.nd rfl (Or.inl rfl))
        (pss_cons (ps_set (i := 5) sc_w_raised.nd rfl (Or.inl rfl) (pe_op op_sub (pe_op op_sub (pv 3) pe_int) (pe_ix ix_list (pv 2) (pv 4) (fun _ _ => rfl))))
        (pss_cons (PS.weak' (t' := fun D σ H1 => ∃ (fa : Addr) (t' w : List Int) (k : Nat) (a0 : Int), σ = [some (.ref p), some (.ref a), some (.ref fa), some (.int (mostOf w)), some (.int ((k : Nat) : Int)), some (.int (mostOf w - 1 - a0))] ∧ H fa = none ∧ Bar p H H1 ∧ Pail p H1 ∧ H1 fa = some (.lst (iv (t'.take (k + 1) ++ w))) ∧ t'[k]? = some a0 ∧ a0 < mostOf w ∧ ∀ H2 x, a0 ≤ x → x < mostOf w → Bar p H H2 → Pail p H2 → H2 fa = some (.lst (iv (t'.take k ++ (x :: w)))) → D.nx σ H2) (ps_if (PW.pt (pw_and (pt_cmpR op_gt (pv 5) pe_int (nomark _)) (pw_and1 (pt_cmpR op_eq (pe_call (ok_dip T) (hr.mono (by decide)) (by rfl) T.m_w_dip T.F_w_dip.kp T.b_w_dip .nil pass0 (pa_cons (pv 0) (pa_cons pe_int pa_nil))) pe_int (nomark _)))))
            (pss_one (ps_asg (pe_op op_add (pe_op op_add (pe_ix ix_list (pv 2) (pv 4) (fun _ _ => rfl)) pe_int) (pe_call (ok_dip T) (hr.mono (by decide)) (by rfl) T.m_w_dip T.F_w_dip.kp T.b_w_dip .nil pass0 (pa_cons (pv 0) (pa_cons (pe_callB (call_min2 rfl) (by rfl) T.z_min (by decide +kernel) (pa_cons (pv 5) (pa_cons (pe_call (ok_pick T) hr (by rfl) T.m_w_pick T.F_w_pick.kp T.b_w_pick .nil pass0 (pa_cons (pv 0) (pa_cons (pe_lst (pa_cons pe_int (pa_cons pe_int (pa_cons pe_int pa_nil)))) pa_nil))) pa_nil))) pa_nil))))
              (pg_sub (pv 2) (pv 4) set_list))) pss_nil) ?i2)
        (pss_one (ps_set (i := 3) sc_w_raised.nd rfl (Or.inl rfl) (pe_ix ix_list (pv 2) (pv 4) (fun _ _ => rfl)))))))
      (pss_one (ps_ret (pe_callTy call_tuple_of (by rfl) T.z_tuple boot_tuple (pa_cons (pv 2) pa_nil)))))), ?_⟩
    case i1 =>
      rintro D σ H1 ⟨fa, rfl, hfa, b1, ⟨g, x, c, hp1⟩, hl, q⟩
      have h9 := (pure_iff.mp hpu).2.2
      have hfp : fa ≠ p := fun e => by
        obtain ⟨_, _, _, hp⟩ := hp
        rw [e, hp] at hfa
        cases hfa
      refine ⟨_, rfl, fa, _, rfl, .inl (SqL.of hl), _, _, rfl, rfl, _, rfl, ?_⟩
      rw [iv_len]
      refine ite2 (fun cc => ?_) (fun cc => ?_)
      · have h2 : 1 < t.length := by have := of_decide_eq_true cc; omega
        refine ⟨_, rfl, p, _, g, x, c, rfl, hp1, by decide, by decide, fun g2 x2 c2 r hr0 hr1 => ?_⟩
        have b2 : Bar p H (upd H1 p (pailO g2 x2 c2)) := b1.trans Bar.upd
        have p2 : Pail p (upd H1 p (pailO g2 x2 c2)) := ⟨_, _, _, upd_same⟩
        have l2 : (upd H1 p (pailO g2 x2 c2)) fa = some (.lst (iv t)) := by rw [upd_ne hfp]; exact hl
        generalize (upd H1 p (pailO g2 x2 c2)) = H2 at b2 p2 l2 ⊢
        refine ⟨rfl, _, rfl, ite2 (fun c3 => ?_) (fun c3 => ?_)⟩
        · have hlast : (iv t)[(iv t).length - 1]? = some (.int (t.getD (t.length - 1) 0)) := by
            rw [iv_len, List.getElem?_map, List.getD_eq_getElem?_getD, List.getElem?_eq_getElem (show t.length - 1 < t.length by omega)]
            rfl
          refine ⟨_, rfl, .inl ⟨rfl, _, SqL.of l2⟩, fa, _, _, rfl, rfl, l2, hlast, ?_⟩
          refine q _ (t.take (t.length - 1)) (bar_updL b2 hfa) ?_ ?_ (pure_take hpu (by omega)) (bel_take _ _)
          · obtain ⟨g3, x3, c3, hp3⟩ := p2
            exact ⟨g3, x3, c3, by rw [upd_ne (Ne.symm hfp)]; exact hp3⟩
          · rw [upd_same, List.dropLast_eq_take, iv_len]
            congr 2
            exact List.map_take.symm
        · exact q H2 t b2 p2 l2 hpu (bel_refl t)
      · exact q H1 t b1 ⟨g, x, c, hp1⟩ hl hpu (bel_refl t)
    case i2 =>
      rintro D σ H1 ⟨fa, t', w', k, a0, rfl, hfa, b1, ⟨g, x, c, hp1⟩, hl, hk, hlt, q⟩
      have hkt : k < t'.length := (List.getElem?_eq_some_iff.mp hk).1
      have hfp : fa ≠ p := fun e => by
        obtain ⟨_, _, _, hp⟩ := hp
        rw [e, hp] at hfa
        cases hfa
      have same : ∀ H2, Bar p H H2 → Pail p H2 → H2 fa = some (.lst (iv (t'.take (k + 1) ++ w'))) → D.nx [some (.ref p), some (.ref a), some (.ref fa), some (.int (mostOf w')), some (.int ((k : Nat) : Int)), some (.int (mostOf w' - 1 - a0))] H2 := fun H2 b2 p2 l2 => by
        refine q H2 a0 (Int.le_refl _) hlt b2 p2 ?_
        rw [take_more hk, List.append_assoc] at l2
        exact l2
      refine ⟨_, rfl, _, _, rfl, rfl, _, rfl, ite2 (fun cc => ?_) (fun cc => ?_)⟩
      · have hroom : 0 < mostOf w' - 1 - a0 := of_decide_eq_true cc
        refine ⟨_, rfl, p, _, g, x, c, rfl, hp1, by decide, by decide, fun g2 x2 c2 r hr0 hr1 => ?_⟩
        have b2 : Bar p H (upd H1 p (pailO g2 x2 c2)) := b1.trans Bar.upd
        have hp2 : (upd H1 p (pailO g2 x2 c2)) p = some (pailO g2 x2 c2) := upd_same
        have l2 : (upd H1 p (pailO g2 x2 c2)) fa = some (.lst (iv (t'.take (k + 1) ++ w'))) := by rw [upd_ne hfp]; exact hl
        generalize (upd H1 p (pailO g2 x2 c2)) = H2 at b2 hp2 l2 ⊢
        refine ⟨rfl, _, rfl, ite2 (fun c3 => ?_) (fun c3 => ?_)⟩
        · refine ⟨_, rfl, _, rfl, fa, _, _, .int a0, rfl, rfl, SqL.of l2, iv_at (get_split hk), _, _, rfl, rfl, _, rfl, _, rfl, _, rfl, by show 3 ≤ sizeLine; decide, fun y hy => ?_⟩
          have hyp : y ≠ p := fun z => by rw [z, hp2] at hy; cases hy
          have sy := same_new hy (.lst [V.int 1, V.int 1, V.int 3])
          refine ⟨p, y, _, g2, x2, c2, rfl, sy _ _ hp2, hyp, SqL.of upd_same, by simp, by simp, fun g3 x3 c3 v hv => ?_⟩
          obtain ⟨n, rfl, hn⟩ : ∃ n : Int, v = .int n ∧ 1 ≤ n ∧ n ≤ 3 := by
            simp only [List.mem_cons, List.not_mem_nil, or_false] at hv
            rcases hv with rfl | rfl | rfl
            · exact ⟨1, rfl, by omega⟩
            · exact ⟨1, rfl, by omega⟩
            · exact ⟨3, rfl, by omega⟩
          have b3 : Bar p H (upd (upd H2 y (.lst [V.int 1, V.int 1, V.int 3])) p (pailO g3 x3 c3)) := b2.trans ((Bar.same sy).trans Bar.upd)
          have hp3 : (upd (upd H2 y (.lst [V.int 1, V.int 1, V.int 3])) p (pailO g3 x3 c3)) p = some (pailO g3 x3 c3) := upd_same
          have l3 : (upd (upd H2 y (.lst [V.int 1, V.int 1, V.int 3])) p (pailO g3 x3 c3)) fa = some (.lst (iv (t'.take (k + 1) ++ w'))) := by rw [upd_ne hfp]; exact sy _ _ l2
          generalize (upd (upd H2 y (.lst [V.int 1, V.int 1, V.int 3])) p (pailO g3 x3 c3)) = H3 at b3 hp3 l3 ⊢
          have hmin : ∀ m : Int, (if n < mostOf w' - 1 - a0 then n else mostOf w' - 1 - a0) = m → 0 < m ∧ m < 1073741824 ∧ m ≤ mostOf w' - 1 - a0 := fun m e => by
            rw [← e]
            split <;> omega
          have hmin2 := hmin _ rfl
          refine ⟨_, _, rfl, p, _, g3, x3, c3, rfl, hp3, hmin2.1, hmin2.2.1, fun g4 x4 c4 r2 hr2 hr3 => ?_⟩
          have l4 : (upd H3 p (pailO g4 x4 c4)) fa = some (.lst (iv (t'.take (k + 1) ++ w'))) := by rw [upd_ne hfp]; exact l3
          have b4 : Bar p H (upd H3 p (pailO g4 x4 c4)) := b3.trans Bar.upd
          have hp4 : (upd H3 p (pailO g4 x4 c4)) p = some (pailO g4 x4 c4) := upd_same
          generalize (upd H3 p (pailO g4 x4 c4)) = H4 at l4 b4 hp4 ⊢
          refine ⟨_, _, rfl, rfl, _, rfl, _, rfl, fa, _, _, k, rfl, rfl, l4, ixN_at (by rw [iv_len, List.length_append, List.length_take]; omega), ?_⟩
          refine q _ (a0 + 1 + r2) (by omega) (by omega) (bar_updL b4 hfa) ⟨g4, x4, c4, by rw [upd_ne (Ne.symm hfp)]; exact hp4⟩ ?_
          rw [upd_same, ← set_split (x := a0 + 1 + r2) hk]
          congr 2
          exact List.map_set.symm
        · exact same H2 b2 ⟨_, _, _, hp2⟩ l2
      · exact same H1 b1 ⟨g, x, c, hp1⟩ hl
    refine ⟨_, rfl, a, _, rfl, .inr hT, fun fa hfa => ?_⟩
    have s1 := same_new hfa (.lst (iv t))
    refine ⟨_, _, rfl, fa, rfl, hfa, Bar.same s1, ?_, upd_same, fun H2 t' b2 p2 l2 hpu2 hbel => ?_⟩
    · obtain ⟨g, x, c, hp⟩ := hp
      exact ⟨g, x, c, s1 _ _ hp⟩
    have h9 := (pure_iff.mp hpu2).2.2
    refine ⟨_, rfl, fa, _, rfl, .inl (SqL.of l2), _, _, rfl, rfl, _, rfl, _, rfl, _, _, _, _, rfl, RgC.neg (by rw [iv_len]; omega) (by rw [iv_len]; omega) (by decide) (by decide), ?_⟩
    rw [iv_len]
    have en : ((((t'.length : Nat) : Int) - 1) - (-1)).toNat = t'.length := by omega
    rw [en]
    refine for_rangeC (n := t'.length) (fun i σ H' => ∃ (v4 v5 : Option V) (w : List Int), σ = [some (.ref p), some (.ref a), some (.ref fa), some (.int (mostOf w)), v4, v5] ∧ i ≤ t'.length ∧ Bar p H H' ∧ Pail p H' ∧ H' fa = some (.lst (iv (t'.take (t'.length - i) ++ w))) ∧ Rsd t' (t'.length - i) w)
      ⟨none, none, [], rfl, Nat.zero_le _, b2, p2, by rw [Nat.sub_zero, List.take_length, List.append_nil]; exact l2, Rsd.start⟩ ?_ ?_
    · rintro i σ H3 hi ⟨v4, v5, w', rfl, _, b3, p3, l3, hw⟩
      obtain ⟨k, hk⟩ : ∃ k, t'.length - i = k + 1 := ⟨t'.length - i - 1, by omega⟩
      rw [hk] at l3 hw
      have hkt : k < t'.length := by omega
      have ek : ((((t'.length : Nat) : Int) - 1) + ((i : Nat) : Int) * (-1)) = ((k : Nat) : Int) := by omega
      rw [ek]
      have hka : t'[k]? = some t'[k] := List.getElem?_eq_getElem hkt
      refine ⟨_, rfl, _, _, rfl, rfl, _, rfl, _, rfl, fa, _, _, .int t'[k], rfl, rfl, SqL.of l3, iv_at (get_split hka), _, _, rfl, rfl, ?_⟩
      refine ⟨fa, t', w', k, t'[k], rfl, hfa, b3, p3, l3, hka, most_lt hw hpu2 hka, fun H4 x hx1 hx2 b4 p4 l4 => ?_⟩
      refine ⟨_, rfl, _, rfl, fa, _, _, .int x, rfl, rfl, SqL.of l4, iv_at (get_mid hkt), ?_⟩
      have hm := most_le hw
      exact ⟨_, _, x :: w', rfl, hi, b4, p4, by rw [show t'.length - (i + 1) = k by omega]; exact l4, by rw [show t'.length - (i + 1) = k by omega]; exact hw.step hka hx1 (by omega) (most_head hx2)⟩
    · rintro σ H3 ⟨v4, v5, w', rfl, _, b3, p3, l3, hw⟩
      rw [Nat.sub_self] at l3 hw
      obtain ⟨hpw, hbw⟩ := hw.done hpu2
      refine ⟨_, rfl, fa, _, rfl, .inl ⟨SqL.of l3, fun z hz => ?_⟩⟩
      have s4 := same_new hz (.tup (iv (t'.take 0 ++ w')))
      obtain ⟨g, x, c, hp3⟩ := p3
      exact q _ z w' (b3.trans (Bar.same s4)) ⟨g, x, c, s4 _ _ hp3⟩ (SqT.of upd_same) hpw (bel_trans hbel hbw)
end
end K61

namespace K61
open PySem PySem.Spec PyProof.Rows L2 RZ L5 Gv
section
variable {K : PySem.W.Frag} {H : Hp}
theorem el_dp {v : V} {o : Option Int} (h : El K H v o) : ∃ d, Dp K H v d ∧ d.canLay0 = true ∧ d.depth ≤ 1 := by
  cases h with
  | int i => exact ⟨.int i, .int i, by simp [PyData.canLay0], by simp [PyData.depth]⟩
  | bl b => exact ⟨.bool b, .bl b, by simp [PyData.canLay0], by simp [PyData.depth]⟩
  | non => exact ⟨.none, .non, by simp [PyData.canLay0], by simp [PyData.depth]⟩
  | str x h => exact ⟨.str x, .str x, by simpa [PyData.canLay0] using h, by simp [PyData.depth]⟩
  | @tup a t h =>
    obtain ⟨h1, h2⟩ := can_ints t
    exact ⟨encI t, dp_tupI h, by simp [PyData.canLay0, h1], by simp [PyData.depth, h2]⟩
theorem els_dp : ∀ {vs : List V}, (∀ v ∈ vs, ∃ o, El K H v o) → ∃ ds : List PyData, DpAll K H vs ds ∧ PyData.canLayAll0 ds = true ∧ PyData.depthAll ds ≤ 1 ∧ ds.length = vs.length
  | [], _ => ⟨[], .nil, by simp [PyData.canLayAll0], by simp [PyData.depthAll], rfl⟩
  | v :: vs, h => by
    obtain ⟨o, ho⟩ := h v List.mem_cons_self
    obtain ⟨d, e1, e2, e3⟩ := el_dp ho
    obtain ⟨ds, d1, d2, d3, d4⟩ := els_dp fun u hu => h u (List.mem_cons_of_mem _ hu)
    refine ⟨d :: ds, .cons e1 d1, by simp [PyData.canLayAll0, e2, d2], ?_, congrArg (· + 1) d4⟩
    rw [PyData.depthAll]
    omega
theorem shaped_some {ds : List PyData} (h1 : PyData.canLayAll0 ds = true) (h2 : PyData.depthAll ds ≤ 1) : SeqAt.shaped (.list ds) = true := by
  simp [SeqAt.shaped, PyData.canLay0, PyData.depth, h1]
  omega
end
theorem el_updL {K : PySem.W.Frag} {H : Hp} {D : Addr} {ys : List V} {o : HO} (hD : H D = some (.lst ys)) {v : V} {i : Option Int} (h : El K H v i) : El K (upd H D o) v i := by
  cases h with
  | int i => exact .int i
  | bl b => exact .bl b
  | non => exact .non
  | str x h => exact .str x h
  | tup h => exact .tup (sqt_updL hD h)
theorem some_ints : ∀ {os : List (Option Int)}, (os.all fun o => o.isSome) = true → os = (intsO os).map some
  | [], _ => rfl
  | none :: os, h => by simp at h
  | some i :: os, h => by
    rw [List.all_cons, Bool.and_eq_true] at h
    show some i :: os = some i :: (intsO os).map some
    rw [← some_ints h.2]
theorem inB_some {o : Option Int} {a b : Int} (h : inB o a b = true) : o.isSome = true := by
  cases o with
  | none => cases h
  | some i => rfl
/-- what the law asks of degrees -/
theorem pure_ends {t : List Int} (h1 : 1 ≤ t.length) (h9 : t.length ≤ 9) : pureB (some (t.map some)) = (ascI t && (decide (0 ≤ t.getD 0 0) && decide (t.getD (t.length - 1) 0 ≤ 480))) := by
  rw [Bool.eq_iff_iff]
  refine pure_iff.trans ?_
  rw [Bool.and_eq_true, Bool.and_eq_true, decide_eq_true_iff, decide_eq_true_iff]
  have key : ∀ {t : List Int}, ascI t = true → ∀ e ∈ t, t.getD 0 0 ≤ e ∧ e ≤ t.getD (t.length - 1) 0 := fun {t} => by
    induction t with
    | nil => intro _ e he; cases he
    | cons x r ih =>
      intro ha e he
      cases r with
      | nil =>
        rw [List.mem_singleton.mp he]
        exact ⟨Int.le_refl _, Int.le_refl _⟩
      | cons y r =>
        obtain ⟨a1, a2⟩ := asc_cons.mp ha
        have e0 : (y :: r).getD 0 0 = y := rfl
        have e1 : (x :: y :: r).getD ((x :: y :: r).length - 1) 0 = (y :: r).getD ((y :: r).length - 1) 0 := rfl
        rw [e1]
        show x ≤ e ∧ _
        rcases List.mem_cons.mp he with rfl | he
        · have := ih a2 y List.mem_cons_self
          exact ⟨Int.le_refl _, by omega⟩
        · have := ih a2 e he
          rw [e0] at this
          exact ⟨by omega, this.2⟩
  have gm : ∀ k, k < t.length → t.getD k 0 ∈ t := fun k hk => by
    rw [List.getD_eq_getElem?_getD, List.getElem?_eq_getElem hk]
    exact List.getElem_mem hk
  constructor
  · rintro ⟨p1, p2, p3⟩
    exact ⟨p2, (p1 _ (gm 0 (by omega))).1, (p1 _ (gm (t.length - 1) (by omega))).2⟩
  · rintro ⟨p1, p2, p3⟩
    exact ⟨fun e he => by have := key p1 e he; omega, p1, h1, h9⟩
section
variable {P : Program} {w : World} {K : PySem.W.Frag} {mg : Str → Option Value} {base : Heap}
def sp_wpu (K : PySem.W.Frag) : Sp := fun vs H Q _ => ∃ v o, vs = [v] ∧ Va K H v o ∧ ∀ H', Same H H' → Q (.bl (pureB o)) H'
theorem ok_wpu (T : Txt K mg) : FnOk P w K mg base CX0 1 T.a_w_is_pure T.d_w_is_pure ["_law_value"] (sp_wpu K) := by
  refine T.F_w_is_pure.ok sc_w_is_pure (fun vs H Q E h => ?_) (fun cdv A outer s H vs Q E hr h => ?_)
  · obtain ⟨v, o, rfl, _⟩ := h
    rfl
  · obtain ⟨v, o, rfl, hv, q⟩ := h
    refine ⟨_, pss_cons (ps_if (PW.pt (pw_or (pt_not (pt_val (pe_callB call_isi (by rfl) T.z_isinstance boot_isinstance (pa_cons (pv 0) (pa_cons (pe_bltn (v := .ty "tuple") (by rfl) T.z_tuple boot_tuple rfl) pa_nil)))))
        (pw_or1 (pt_not (pt_chain op_le op_le pe_int (pe_callB call_len_seq (by rfl) T.z_len boot_len (pa_cons (pv 0) pa_nil)) pe_int))))) (pss_one (ps_ret pe_bl)) pss_nil)
      (pss_cons (ps_if (pt_cmpR (op_neD hr.units)
        (pe_lc (own := [("_law_one", 1)]) (g := gName 1) rfl sc_w_is_pure.nd (pi_tup (pv 0)) (blkOk_by (own := [("_law_one", 1)]) (N := N_w_is_pure) (sc := defScope s_w_is_pure) (by decide +kernel))
          (fun _ _ _ _ _ => pg_name (i := 1) sc_w_is_pure.nd rfl (Or.inl rfl))
          (fun _ _ _ _ _ => pts_one (PW.pt (pw_or (pt_not (pt_val (pe_callB (show CallR _ _ (rIsi K) from call_isi) (by rfl) T.z_isinstance boot_isinstance (pa_cons (pv 1) (pa_cons (pe_bltn (v := .ty "int") (by rfl) T.z_int boot_int rfl) pa_nil)))))
            (pw_or1 (pt_val (pe_callB (show CallR _ _ (rIsi K) from call_isi) (by rfl) T.z_isinstance boot_isinstance (pa_cons (pv 1) (pa_cons (pe_bltn (v := .ty "bool") (by rfl) T.z_bool boot_bool rfl) pa_nil))))))))
          (fun _ _ _ _ _ => pv 1)) (pe_lst pa_nil) (nomark _)) (pss_one (ps_ret pe_bl)) pss_nil)
      (pss_one (ps_ret (pe_and (pe_cmpR (op_eqD hr.units)
        (pe_lc (own := [("_law_one", 1), ("_law_other", 2)]) (g := gTup K 2 (gCons (gName 1) (gCons (gName 2) gNil))) rfl sc_w_is_pure.nd (pi_zipA (by rfl) T.z_zip (pa_cons (pv 0) (pa_cons (pe_slice sl_tupB (pv 0) (po_some pe_int) po_none) pa_nil)))
          (blkOk_by (own := [("_law_one", 1), ("_law_other", 2)]) (N := N_w_is_pure) (sc := defScope s_w_is_pure) (by decide +kernel))
          (fun _ _ _ _ _ => pg_tup (by rfl) (pgs_cons (pg_name (i := 1) sc_w_is_pure.nd rfl (Or.inl rfl)) (pgs_cons (pg_name (i := 2) sc_w_is_pure.nd rfl (Or.inl rfl)) pgs_nil)))
          (fun _ _ _ _ _ => pts_one (pt_cmpR op_ge (pv 1) (pv 2) (nomark _)))
          (fun _ _ _ _ _ => pe_int)) (pe_lst pa_nil) (nomark _))
        (pe_and (pe_cmpR op_ge (pe_ix ix_tup (pv 0) pe_int (fun _ _ => rfl)) pe_int (nomark _))
        (pe_one (pe_cmpR op_le (pe_ix ix_tup (pv 0) (pe_un un_neg pe_int) (fun _ _ => rfl)) pe_int (nomark _)))))))), ?_⟩
    obtain ⟨tt, ty, et⟩ := hv.isi
    refine ⟨_, rfl, _, _, _, _, _, rfl, .ty _, ty, et, _, rfl, ?_⟩
    cases o with
    | none => exact iteT (q H (Same.refl H))
    | some os =>
      obtain ⟨p, xs, rfl, hT, hE, hz⟩ := hv.get
      have hlen := hE.length
      refine iteF ⟨_, rfl, p, _, rfl, .inr hT, _, _, rfl, rfl, _, rfl, ?_⟩
      rw [hlen]
      have e19 : (decide ((1 : Int) ≤ ((os.length : Nat) : Int)) = true ∧ decide (((os.length : Nat) : Int) ≤ 9) = true) ∨ pureB (some os) = false := by
        by_cases h : 1 ≤ os.length ∧ os.length ≤ 9
        · exact .inl ⟨decide_eq_true (by omega), decide_eq_true (by omega)⟩
        · refine .inr ?_
          show (_ && (decide (1 ≤ os.length) && decide (os.length ≤ 9))) = false
          rw [← Bool.decide_and, decide_eq_false h, Bool.and_false]
      have no : pureB (some os) = false → Q (.bl false) H := fun e => by
        have := q H (Same.refl H)
        rw [e] at this
        exact this
      by_cases c1 : decide ((1 : Int) ≤ ((os.length : Nat) : Int)) = true
      · rw [if_pos c1]
        refine ⟨_, _, rfl, rfl, _, rfl, ?_⟩
        by_cases c2 : decide (((os.length : Nat) : Int) ≤ 9) = true
        · have l1 : 1 ≤ os.length := by have := of_decide_eq_true c1; omega
          have l9 : os.length ≤ 9 := by have := of_decide_eq_true c2; omega
          rw [c2]
          refine iteF ⟨_, rfl, p, rfl, ⟨_, hT⟩, fun D hD => ?_⟩
          have sD := same_new hD (.lst [])
          refine lc_tup (K := K) (a := p) (xs := xs) (fun i H' => Same H H' ∧ ∃ kept : List V, H' D = some (.lst kept) ∧ kept.length ≤ i ∧ (∀ v ∈ kept, ∃ o, El K H' v o) ∧ (kept = [] ↔ ((os.take i).all fun o => o.isSome) = true)) ⟨sD, [], upd_same, Nat.le_refl _, (fun _ h => nomatch h), by simp⟩ (fun i H' _ h => same_sqt h.1 hT) (fun i x H' hi h => ?_) (fun H' h => ?_)
          · obtain ⟨sm, kept, eD, hk, hel, hall⟩ := h
            obtain ⟨o, ho, hx⟩ := hE.get hi
            have hlt : i < xs.length := (List.getElem?_eq_some_iff.mp hi).1
            have hx2 := hx.same sm
            obtain ⟨t1, bi, bb, ty1, e1, e2, e3, e4⟩ := hx2.isi
            have stepL : ((os.take (i + 1)).all fun o => o.isSome) = (((os.take i).all fun o => o.isSome) && o.isSome) := by rw [take_more ho, List.all_append]; simp
            have keep : o.isSome = false → ∃ acc, H' D = some (.lst acc) ∧ acc.length < sizeLine ∧ Same H (upd H' D (.lst (acc ++ [x]))) ∧ ∃ kept : List V, (upd H' D (.lst (acc ++ [x]))) D = some (.lst kept) ∧ kept.length ≤ i + 1 ∧ (∀ v ∈ kept, ∃ o, El K (upd H' D (.lst (acc ++ [x]))) v o) ∧ (kept = [] ↔ ((os.take (i + 1)).all fun o => o.isSome) = true) := fun eo => by
              refine ⟨kept, eD, sizeK (by omega), same_updL sm hD, kept ++ [x], upd_same, by rw [List.length_append]; show _ + 1 ≤ _; omega, fun v hv => ?_, ?_⟩
              · rcases List.mem_append.mp hv with hv | hv
                · obtain ⟨o', h'⟩ := hel v hv
                  exact ⟨o', el_updL eD h'⟩
                · rw [List.mem_singleton.mp hv]
                  exact ⟨o, el_updL eD hx2⟩
              · rw [stepL, eo, Bool.and_false]
                simp
            refine ⟨rfl, _, rfl, _, _, _, _, bi, rfl, .ty _, ty1, e1, _, rfl, ?_⟩
            cases bi with
            | false =>
              rw [Bool.false_and] at e3
              exact iteT (iteT ⟨_, rfl, keep e3⟩)
            | true =>
              refine iteF ⟨_, rfl, _, _, _, _, bb, rfl, .ty _, ty1, e2, _, rfl, ?_⟩
              cases bb with
              | true => exact iteT ⟨_, rfl, keep e3⟩
              | false =>
                refine iteF ⟨sm, kept, eD, by omega, hel, ?_⟩
                rw [stepL, e3]
                simpa using hall
          · obtain ⟨sm, kept, eD, hk, hel, hall⟩ := h
            rw [hlen, List.take_length] at hall
            refine ⟨Nat.zero_le _, fun z hz0 => ?_⟩
            have s2 := same_new hz0 (.lst [])
            obtain ⟨ds, d1, d2, d3, d4⟩ := els_dp (K := K) (H := upd H' z (.lst [])) (vs := kept) fun v hv => by
              obtain ⟨o, h⟩ := hel v hv
              exact ⟨o, h.same s2⟩
            refine ⟨_, .list [], .lst (SqL.of (s2 _ _ eD)) d1, .lst (SqL.of upd_same) .nil, shaped_some d2 d3, by decide, _, rfl, ?_⟩
            rw [eqv_nilL]
            have S := sm.trans s2
            by_cases ek : kept = []
            · have ed : ds = [] := List.eq_nil_of_length_eq_zero (by rw [d4, ek]; rfl)
              rw [decide_eq_true ed]
              have hint := some_ints (hall.mp ek)
              have hvs : xs = iv (intsO os) := (els_all (f := fun o => o.isSome) rfl hE (hall.mp ek)).1
              generalize intsO os = t at hint hvs
              subst hint hvs
              rw [List.length_map] at l1 l9
              rw [pure_ends l1 l9] at q
              clear no e19 hE hall c1 c2 hlen
              generalize (upd H' z (.lst [])) = H2 at S
              clear d1 d2 d3 d4 s2 hz0 eD hel hk sm
              refine iteF ?_
              have hT2 := same_sqt S hT
              refine ⟨_, rfl, _, rfl, _, rfl, p, _, rfl, hT2, fun H3 z3 s3 hz3 => ?_⟩
              rw [cut_tailI] at hz3
              refine ⟨p, z3, _, _, rfl, .inr ⟨same_sqt s3 hT2, hz3, fun D2 hD2 => ?_⟩⟩
              have sD2 := same_new hD2 (.lst [])
              refine lc_zipM _ rfl (fun i H4 => Same H3 H4 ∧ ∃ k : Nat, H4 D2 = some (.lst (iv (ones k))) ∧ k ≤ i ∧ (k = 0 ↔ ((zbI (fun a b => decide (a < b)) t (t.drop 1)).take i).all id = true)) ⟨sD2, 0, upd_same, Nat.le_refl _, by simp⟩ (fun i H4 hh => ⟨same_sqt (s3.trans hh.1) hT2, same_sqt hh.1 hz3⟩) (fun i x y T' H4 hx hy hh hT4 => ?_) (fun H4 hh => ?_)
              · obtain ⟨s4, k, eD4, hk4, hall4⟩ := hh
                obtain ⟨n1, hn1, rfl⟩ := iv_get hx
                obtain ⟨n2, hn2, rfl⟩ := iv_get hy
                have hlt : i < t.length := (List.getElem?_eq_some_iff.mp hn1).1
                have sT : Same H4 (upd H4 T' (.tup [.int n1, .int n2])) := same_new hT4 _
                have nb := none_broken (zbI_get (f := fun a b => decide (a < b)) hn1 hn2) hall4
                refine ⟨T', _, rfl, SqT.of upd_same, rfl, _, _, rfl, _, _, rfl, rfl, ?_⟩
                refine ⟨rfl, _, rfl, _, rfl, _, _, rfl, rfl, _, rfl, ite2 (fun cc => ?_) (fun cc => ?_)⟩
                · have c' := of_decide_eq_true cc
                  rw [decide_eq_false (show ¬ n1 < n2 by omega)] at nb
                  refine ⟨_, sT _ _ eD4, by rw [iv_len, List.length_replicate]; exact sizeK (by omega), same_updL (s4.trans sT) hD2, k + 1, ?_, by omega, nb⟩
                  rw [upd_same, show ones (k + 1) = ones k ++ [1] from List.replicate_succ', iv_app]
                  rfl
                · have c' : ¬ n1 ≥ n2 := fun z => cc (decide_eq_true z)
                  rw [decide_eq_true (show n1 < n2 by omega)] at nb
                  exact ⟨s4.trans sT, k, sT _ _ eD4, by omega, nb⟩
              · obtain ⟨s4, k, eD4, hk4, hall4⟩ := hh
                rw [List.take_of_length_le (by rw [zbI_len, iv_len, iv_len]; exact Nat.le_refl _), zb_asc] at hall4
                refine ⟨Nat.zero_le _, fun z5 hz5 => ?_⟩
                have s5 := same_new hz5 (.lst [])
                refine ⟨_, .list [], .lst (SqL.of (s5 _ _ eD4)) (dp_ints (ones k)), .lst (SqL.of upd_same) .nil, shaped_intsL _, by decide, _, rfl, ?_⟩
                rw [eqv_ones]
                have S5 := S.trans (s3.trans (s4.trans s5))
                have e2 : decide (k = 0) = ascI t := by
                  rw [Bool.eq_iff_iff, decide_eq_true_iff]
                  exact hall4
                rw [e2]
                have q5 := q _ S5
                cases ea : ascI t with
                | false =>
                  rw [ea, Bool.false_and] at q5
                  exact iteF q5
                | true =>
                  rw [ea, Bool.true_and] at q5
                  have hT5 := same_sqt S5 hT
                  have g0 : atI (iv t) ((0 : Nat) : Int) = some (.int (t.getD 0 0)) := iv_at (by rw [List.getD_eq_getElem?_getD, List.getElem?_eq_getElem (show 0 < t.length by omega)]; rfl)
                  have gl : atI (iv t) (-1) = some (.int (t.getD (t.length - 1) 0)) := by
                    rcases List.eq_nil_or_concat t with rfl | ⟨r, x, rfl⟩
                    · simp at l1
                    · rw [List.concat_eq_append, iv_app, show (r ++ [x]).getD ((r ++ [x]).length - 1) 0 = x by simp]
                      exact atI_last (iv r) (.int x)
                  refine iteT ⟨_, rfl, p, _, _, _, rfl, rfl, hT5, g0, _, _, rfl, rfl, _, rfl, ?_⟩
                  have e6 : decide (t.getD 0 0 ≥ 0) = decide (0 ≤ t.getD 0 0) := rfl
                  rw [e6]
                  refine ite2 (fun c6 => ?_) (fun c6 => ?_)
                  · rw [c6, Bool.true_and] at q5
                    exact ⟨_, rfl, _, rfl, p, _, _, _, rfl, rfl, hT5, gl, _, _, rfl, rfl, q5⟩
                  · rw [Bool.eq_false_iff.mpr c6, Bool.false_and] at q5
                    exact q5
            · have ed : ds ≠ [] := fun e => ek (List.eq_nil_of_length_eq_zero (by rw [← d4, e]; rfl))
              rw [decide_eq_false ed]
              have e1 : pureB (some os) = false := by
                cases ep : pureB (some os) with
                | false => rfl
                | true =>
                  have ep' : (((os.all fun e => inB e 0 480) && ascI (intsO os)) && _) = true := ep
                  rw [Bool.and_eq_true, Bool.and_eq_true] at ep'
                  refine absurd (hall.mpr ?_) ek
                  rw [List.all_eq_true]
                  exact fun o ho => inB_some (List.all_eq_true.mp ep'.1.1 o ho)
              have := q _ S
              rw [e1] at this
              exact iteT this
        · rcases e19 with ⟨_, e⟩ | e
          · exact absurd e c2
          · rw [Bool.eq_false_iff.mpr c2]
            exact iteT (no e)
      · rcases e19 with ⟨e, _⟩ | e
        · exact absurd e c1
        · rw [if_neg c1]
          exact ⟨_, rfl, iteT (no e)⟩
end
end K61

namespace K61
open PySem PySem.Spec PyProof.Rows L2 RZ L5 Gv
section
variable {K : PySem.W.Frag} {H H' : Hp}
theorem els_updL {D : Addr} {ys : List V} {o : HO} (hD : H D = some (.lst ys)) : ∀ {vs : List V} {os : List (Option Int)}, Els K H vs os → Els K (upd H D o) vs os
  | _, _, .nil => .nil
  | _, _, .cons h t => .cons (el_updL hD h) (els_updL hD t)
theorem va_updL {D : Addr} {ys zs : List V} (hD : H D = some (.lst ys)) {v : V} {o : Option (List (Option Int))} (h : Va K H v o) : Va K (upd H D (.lst zs)) v o := by
  cases h with
  | tup h e hl => exact .tup (sqt_updL hD h) (els_updL hD e) hl
  | @lst a xs h =>
    by_cases z : a = D
    · subst z
      exact .lst (SqL.of upd_same)
    · exact .lst (sql_updL z h)
  | @dic a h =>
    have z : a ≠ D := fun z => by rw [z, hD] at h; cases h
    exact .dic (by rw [upd_ne z]; exact h)
  | non => exact .non
  | int i => exact .int i
  | str x => exact .str x
  | @own a C dx fs h t k =>
    have z : a ≠ D := fun z => by rw [z, hD] at h; cases h
    exact .own (by rw [upd_ne z]; exact h) t k
/-- values that are judged -/
abbrev Vas (K : PySem.W.Frag) (H : Hp) (xs : List V) : Prop := ∀ v ∈ xs, ∃ o, Va K H v o
theorem Vas.same {xs : List V} (s : Same H H') (h : Vas K H xs) : Vas K H' xs := fun v hv => by
  obtain ⟨o, ho⟩ := h v hv
  exact ⟨o, ho.same s⟩
theorem Vas.app {xs ys : List V} (h : Vas K H xs) (k : Vas K H ys) : Vas K H (xs ++ ys) := fun v hv => (List.mem_append.mp hv).elim (h v) (k v)
theorem Vas.updL {D : Addr} {ys zs xs : List V} (hD : H D = some (.lst ys)) (h : Vas K H xs) : Vas K (upd H D (.lst zs)) xs := fun v hv => by
  obtain ⟨o, ho⟩ := h v hv
  exact ⟨o, va_updL hD ho⟩
theorem cut_any (t : List Int) (lo hi : Option Int) : ∃ u, cutV (iv t) lo hi = iv u ∧ u.length ≤ t.length := by
  refine ⟨(t.drop (HT.sIx (iv t).length 0 lo)).take (HT.sIx (iv t).length (iv t).length hi - HT.sIx (iv t).length 0 lo), ?_, ?_⟩
  · unfold cutV
    show _ = List.map _ _
    rw [List.map_take, List.map_drop]
  · rw [List.length_take, List.length_drop]
    omega
theorem at_end {t : List Int} (h : 1 ≤ t.length) : atI (iv t) (-1) = some (.int (t.getD (t.length - 1) 0)) := by
  rcases List.eq_nil_or_concat t with rfl | ⟨r, x, rfl⟩
  · simp at h
  · rw [List.concat_eq_append, iv_app, show (r ++ [x]).getD ((r ++ [x]).length - 1) 0 = x by simp]
    exact atI_last (iv r) (.int x)
theorem va_els {a : Addr} {vs : List V} {os : List (Option Int)} (h : SqT K H a vs) (e : Els K H vs os) (hl : vs.length ≤ 1000) : ∃ o, Va K H (.ref a) o := ⟨_, .tup h e hl⟩
theorem rg_iv (a b : Int) : rgV a b = iv ((List.range (b - a).toNat).map fun i => a + ((i : Nat) : Int)) := by
  unfold rgV
  show _ = List.map _ _
  rw [List.map_map]
  rfl
end
section
variable {P : Program} {w : World} {K : PySem.W.Frag} {mg : Str → Option Value} {base : Heap}
def sp_near (K : PySem.W.Frag) : Sp := fun vs H Q _ => ∃ (p a : Addr) (t : List Int), vs = [.ref p, .ref a] ∧ Pail p H ∧ SqT K H a (iv t) ∧ Pure t ∧
  ∀ H' z xs, Bar p H H' → Pail p H' → H' z = some (.lst xs) → xs.length ≤ 100 → Vas K H' xs → Q (.ref z) H'
theorem bar_sqt {p a : Addr} {H H' : Hp} {xs : List V} (hp : Pail p H) (b : Bar p H H') (h : SqT K H a xs) : SqT K H' a xs := by
  obtain ⟨g, x, c, hp⟩ := hp
  exact sqt_but hp (fun c o n h => b c o n h) h
abbrev σN (p a : Addr) (k : Nat) (v3 : Option L2.V) : L2.St := [some (.ref p), some (.ref a), some (.int ((k : Nat) : Int)), v3]
theorem ok_near (T : Txt K mg) : FnOk P w K mg base CX0 3 T.a_w_near T.d_w_near ["_law_bowl_here", "_law_degrees_here"] (sp_near K) := by
  refine T.F_w_near.ok sc_w_near (fun vs H Q E h => ?_) (fun cdv A outer s H vs Q E hr h => ?_)
  · obtain ⟨p, a, t, rfl, _⟩ := h
    rfl
  · obtain ⟨p, a, t, rfl, hp, hT, hpu, q⟩ := h
    have hl := hpu.len
    refine ⟨_, pss_cons (ps_set (i := 2) sc_w_near.nd rfl (Or.inl rfl) (pe_call (ok_dip T) (hr.mono (by decide)) (by rfl) T.m_w_dip T.F_w_dip.kp T.b_w_dip .nil pass0 (pa_cons (pv 0) (pa_cons (pe_callB call_len_seq (by rfl) T.z_len boot_len (pa_cons (pv 1) pa_nil)) pa_nil))))
      (pss_cons (PS.weak' (t' := fun D σ H1 => ∃ k, σ = σN p a k none ∧ SqT K H1 a (iv t) ∧ ∀ H2 fa xs, Same H1 H2 → H1 fa = none → H2 fa = some (.lst xs) → xs.length ≤ 10 → Vas K H2 xs → D.nx (σN p a k (some (.ref fa))) H2)
        (ps_set (i := 3) sc_w_near.nd rfl (Or.inl rfl) (pe_lst (pa_cons (pe_callTy call_list_of (by rfl) T.z_list boot_list (pa_cons (pv 1) pa_nil))
          (pa_cons (W7.pe_revT (pv 1)) (pa_cons (pe_op op_catB (pv 1) (pe_tup (pa_cons pe_int pa_nil))) (pa_cons (pe_op op_catB (pv 1) (pe_slice sl_tupB (pv 1) (po_some (pe_un un_neg pe_int)) po_none))
          (pa_cons pe_non (pa_cons pe_int (pa_cons pe_str (pa_cons (pe_tup pa_nil) (pa_cons (pe_tup (pa_cons (pv 1) pa_nil)) (pa_cons pe_dnewK pa_nil)))))))))))) ?i1)
      (pss_cons (PS.weak' (t' := fun D σ H1 => ∃ k fa xs, σ = σN p a k (some (.ref fa)) ∧ SqT K H1 a (iv t) ∧ Pail p H1 ∧ k < t.length ∧ H1 fa = some (.lst xs) ∧ fa ≠ p ∧ xs.length ≤ 10 ∧ Vas K H1 xs ∧ ∀ H2 fa xs, Bar p H1 H2 → Pail p H2 → H2 fa = some (.lst xs) → xs.length ≤ 12 → Vas K H2 xs → D.nx (σN p a k (some (.ref fa))) H2)
        (ps_set (i := 3) sc_w_near.nd rfl (Or.inl rfl) (pe_op op_cat (pv 3) (pe_lst (pa_cons (pe_op op_catB (pe_op op_catB (pe_slice sl_tupB (pv 1) po_none (po_some (pv 2))) (pe_tup (pa_cons (pe_call (ok_pick T) hr (by rfl) T.m_w_pick T.F_w_pick.kp T.b_w_pick .nil pass0 (pa_cons (pv 0) (pa_cons (pe_lst (pa_cons (pe_un un_neg pe_int) (pa_cons pe_non (pa_cons pe_bl (pa_cons pe_str (pa_cons pe_int (pa_cons pe_int pa_nil))))))) pa_nil))) pa_nil)))
            (pe_slice sl_tupB (pv 1) (po_some (pe_op op_add (pv 2) pe_int)) po_none))
          (pa_cons (pe_slice sl_tupB (pv 1) po_none (po_some (pe_un un_neg pe_int))) pa_nil))))) ?i2)
      (pss_cons (PS.weak' (t' := fun D σ H1 => ∃ k fa xs, σ = σN p a k (some (.ref fa)) ∧ SqT K H1 a (iv t) ∧ H1 fa = some (.lst xs) ∧ xs.length ≤ 12 ∧ Vas K H1 xs ∧ ∀ H2 fa xs, Same H1 H2 → H1 fa = none → H2 fa = some (.lst xs) → xs.length ≤ 14 → Vas K H2 xs → D.nx (σN p a k (some (.ref fa))) H2)
        (ps_set (i := 3) sc_w_near.nd rfl (Or.inl rfl) (pe_op op_cat (pv 3) (pe_lst (pa_cons (pe_op op_catB (pv 1) (pe_tup (pa_cons (pe_callB (call_min2 rfl) (by rfl) T.z_min (by decide +kernel) (pa_cons pe_int (pa_cons (pe_op op_add (pe_ix ix_tup (pv 1) (pe_un un_neg pe_int) (fun _ _ => rfl)) pe_int) pa_nil))) pa_nil)))
          (pa_cons (pe_op op_catB (pe_tup (pa_cons pe_int pa_nil)) (pv 1)) pa_nil))))) ?i3)
      (pss_cons (PS.weak' (t' := fun D σ H1 => ∃ k fa xs H0, σ = σN p a k (some (.ref fa)) ∧ k < t.length ∧ Same H0 H1 ∧ H0 fa = none ∧ SqT K H1 a (iv t) ∧ H1 fa = some (.lst xs) ∧ xs.length ≤ 14 ∧ Vas K H1 xs ∧ ∀ H2 xs, Same H0 H2 → H2 fa = some (.lst xs) → xs.length ≤ 15 → Vas K H2 xs → D.nx (σN p a k (some (.ref fa))) H2)
        (ps_expr (pe_bm PySem.F.plainAttrs_list PySem.F.slot_list_append PySem.F.type_list_append mt_append (pv 3) (pa_cons (pe_op op_catB (pe_op op_catB (pe_slice sl_tupB (pv 1) po_none (po_some (pv 2))) (pe_tup (pa_cons (pe_op op_sub (pe_ix ix_tup (pv 1) (pv 2) (fun _ _ => rfl)) pe_int) pa_nil)))
            (pe_slice sl_tupB (pv 1) (po_some (pe_op op_add (pv 2) pe_int)) po_none)) pa_nil))) ?i4)
      (pss_one (PS.weak' (t' := fun D σ H1 => ∃ k fa xs, σ = σN p a k (some (.ref fa)) ∧ H1 fa = some (.lst xs) ∧ xs.length ≤ 15 ∧ Vas K H1 xs ∧ ∀ H2 z xs, Same H1 H2 → H2 z = some (.lst xs) → xs.length ≤ 19 → Vas K H2 xs → D.rt (.ref z) H2)
        (ps_ret (pe_op op_cat (pv 3) (pe_lst (pa_cons (pe_tupRg rfl (by rfl) T.z_tuple (prg_1 (by rfl) T.z_range pe_int)) (pa_cons (pe_tupRg rfl (by rfl) T.z_tuple (prg_1 (by rfl) T.z_range pe_int)) (pa_cons (pe_tup (pa_cons pe_bl pa_nil)) (pa_cons (pe_tup (pa_cons pe_int (pa_cons (pe_op op_pow pe_int pe_int) pa_nil))) pa_nil))))))) ?i5)))))), ?_⟩
    case i1 =>
      rintro D σ H1 ⟨k, rfl, hT1, q⟩
      refine ⟨_, rfl, a, _, rfl, .inr hT1, fun z1 hz1 => ?_⟩
      have t1 := same_new hz1 (.lst (iv t))
      refine ⟨_, rfl, a, _, rfl, same_sqt t1 hT1, fun z2 hz2 => ?_⟩
      have t2 := same_new hz2 (.tup (iv t).reverse)
      have S2 := t1.trans t2
      refine ⟨_, rfl, by show 1 ≤ sizeLine; decide, fun z3 hz3 => ?_⟩
      have t3 := same_new hz3 (.tup [V.int 481])
      have S3 := S2.trans t3
      refine ⟨a, z3, _, _, rfl, rfl, same_sqt S3 hT1, SqT.of upd_same, by rw [iv_len]; exact Nat.le_of_lt (sizeK (by show _ + 1 ≤ _; omega)), fun H4 y4 t4 hy4 => ?_⟩
      have S4 := S3.trans t4
      refine ⟨_, rfl, _, rfl, _, rfl, _, rfl, a, _, rfl, same_sqt S4 hT1, fun H5 z5 t5 hz5 => ?_⟩
      obtain ⟨u5, e5, l5⟩ := cut_any t (some (-1)) none
      rw [e5] at hz5
      have S5 := S4.trans t5
      refine ⟨a, z5, _, _, rfl, rfl, same_sqt S5 hT1, hz5, by rw [iv_len, iv_len]; exact Nat.le_of_lt (sizeK (by omega)), fun H6 y6 t6 hy6 => ?_⟩
      have S6 := S5.trans t6
      refine ⟨by show 0 ≤ sizeLine; exact Nat.zero_le _, fun z7 hz7 => ?_⟩
      have t7 := same_new hz7 (.tup [])
      refine ⟨_, rfl, by show 1 ≤ sizeLine; decide, fun z8 hz8 => ?_⟩
      have t8 := same_new hz8 (.tup [V.ref a])
      intro z9 hz9
      have t9 := same_new hz9 (.dK [])
      refine ⟨by show 10 ≤ sizeLine; decide, fun fa hfa => ?_⟩
      have tF := same_new hfa (.lst [V.ref z1, V.ref z2, V.ref y4, V.ref y6, V.non, V.int 3, V.str "", V.ref z7, V.ref z8, V.ref z9])
      have T9 := t9.trans tF
      have T8 := t8.trans T9
      have T7 := t7.trans T8
      have T5 := t5.trans (t6.trans T7)
      have T3 := t3.trans (t4.trans T5)
      have T2 := t2.trans T3
      have S := S6.trans T7
      refine q _ fa _ S ((S6.trans (t7.trans (t8.trans t9))).free hfa) upd_same (Nat.le_refl 10) fun v hv => ?_
      simp only [List.mem_cons, List.not_mem_nil, or_false] at hv
      rcases hv with rfl | rfl | rfl | rfl | rfl | rfl | rfl | rfl | rfl | rfl
      · exact ⟨_, .lst (SqL.of (T2 _ _ upd_same))⟩
      · exact ⟨_, va_iv (t := t.reverse) (by rw [show iv t.reverse = (iv t).reverse from List.map_reverse]; exact SqT.of (T3 _ _ upd_same)) (by rw [List.length_reverse]; omega)⟩
      · have h4 : SqT K H4 y4 (iv (t ++ [481])) := by rw [iv_app]; exact hy4
        exact ⟨_, va_iv (same_sqt T5 h4) (by rw [List.length_append]; show _ + 1 ≤ _; omega)⟩
      · have h6 : SqT K H6 y6 (iv (t ++ u5)) := by rw [iv_app]; exact hy6
        exact ⟨_, va_iv (same_sqt T7 h6) (by rw [List.length_append]; omega)⟩
      · exact ⟨_, .non⟩
      · exact ⟨_, .int 3⟩
      · exact ⟨_, .str ""⟩
      · exact ⟨_, .tup (SqT.of (T8 _ _ upd_same)) .nil (Nat.zero_le _)⟩
      · exact ⟨_, .tup (SqT.of (T9 _ _ upd_same)) (.cons (.tup (t := t) (same_sqt S hT1)) .nil) (by show 1 ≤ 1000; decide)⟩
      · exact ⟨_, .dic (tF _ _ upd_same)⟩
    case i2 =>
      rintro D σ H1 ⟨k, fa, xs, rfl, hT1, ⟨g, x, c, hp1⟩, hk, hfa, hfp, hxl, hV, q⟩
      refine ⟨_, rfl, _, rfl, _, rfl, _, rfl, a, _, rfl, hT1, fun H2 z2 t2 hz2 => ?_⟩
      obtain ⟨u2, e2, l2⟩ := cut_any t none (some ((k : Nat) : Int))
      rw [e2] at hz2
      refine ⟨_, rfl, _, rfl, by show 6 ≤ sizeLine; decide, fun y hy => ?_⟩
      have ty := same_new hy (.lst [V.int (-1), V.non, V.bl true, V.str "1", V.int 481, V.int 0])
      have hp2 := ty _ _ (t2 _ _ hp1)
      have hyp : y ≠ p := fun z => by rw [z, t2 _ _ hp1] at hy; cases hy
      refine ⟨p, y, _, g, x, c, rfl, hp2, hyp, SqL.of upd_same, by simp, by simp, fun g2 x2 c2 v hv => ?_⟩
      obtain ⟨ov, hov⟩ : ∃ ov, ∀ H', El K H' v ov := by
        simp only [List.mem_cons, List.not_mem_nil, or_false] at hv
        rcases hv with rfl | rfl | rfl | rfl | rfl | rfl
        · exact ⟨_, fun _ => .int _⟩
        · exact ⟨_, fun _ => .non⟩
        · exact ⟨_, fun _ => .bl _⟩
        · exact ⟨_, fun _ => .str _ (by decide +kernel)⟩
        · exact ⟨_, fun _ => .int _⟩
        · exact ⟨_, fun _ => .int _⟩
      have b3 : Bar p H1 (upd (upd H2 y (.lst [V.int (-1), V.non, V.bl true, V.str "1", V.int 481, V.int 0])) p (pailO g2 x2 c2)) := (Bar.same (t2.trans ty)).trans Bar.upd
      have hp3 : (upd (upd H2 y (.lst [V.int (-1), V.non, V.bl true, V.str "1", V.int 481, V.int 0])) p (pailO g2 x2 c2)) p = some (pailO g2 x2 c2) := upd_same
      have hz3 : SqT K (upd (upd H2 y (.lst [V.int (-1), V.non, V.bl true, V.str "1", V.int 481, V.int 0])) p (pailO g2 x2 c2)) z2 (iv u2) := sqt_updL hp2 (same_sqt ty hz2)
      have hV3 : Vas K (upd (upd H2 y (.lst [V.int (-1), V.non, V.bl true, V.str "1", V.int 481, V.int 0])) p (pailO g2 x2 c2)) xs := Vas.updL hp2 (hV.same (t2.trans ty))
      generalize (upd (upd H2 y (.lst [V.int (-1), V.non, V.bl true, V.str "1", V.int 481, V.int 0])) p (pailO g2 x2 c2)) = H3 at b3 hp3 hz3 hV3 ⊢
      have hT3 := bar_sqt ⟨g, x, c, hp1⟩ b3 hT1
      have hfa3 := b3 _ _ hfp hfa
      refine ⟨by show 1 ≤ sizeLine; decide, fun z4 hz4 => ?_⟩
      have t4 := same_new hz4 (.tup [v])
      refine ⟨z2, z4, _, _, rfl, rfl, same_sqt t4 hz3, SqT.of upd_same, by rw [iv_len]; exact Nat.le_of_lt (sizeK (by show _ + 1 ≤ _; omega)), fun H5 z5 t5 hz5 => ?_⟩
      have S5 := t4.trans t5
      refine ⟨_, rfl, _, rfl, _, _, rfl, rfl, _, rfl, a, _, rfl, same_sqt S5 hT3, fun H6 z6 t6 hz6 => ?_⟩
      obtain ⟨u6, e6, l6⟩ := cut_any t (some (((k : Nat) : Int) + 1)) none
      rw [e6] at hz6
      refine ⟨z5, z6, _, _, rfl, rfl, same_sqt t6 hz5, hz6, by rw [List.length_append, iv_len, iv_len]; exact Nat.le_of_lt (sizeK (by show _ + 1 + _ ≤ _; omega)), fun H7 z7 t7 hz7 => ?_⟩
      have S7 := S5.trans (t6.trans t7)
      refine ⟨_, rfl, _, rfl, _, rfl, a, _, rfl, same_sqt S7 hT3, fun H8 z8 t8 hz8 => ?_⟩
      obtain ⟨u8, e8, l8⟩ := cut_any t none (some (-1))
      rw [e8] at hz8
      refine ⟨by show 2 ≤ sizeLine; decide, fun z9 hz9 => ?_⟩
      have t9 := same_new hz9 (.lst [V.ref z7, V.ref z8])
      have S9 := S7.trans (t8.trans t9)
      refine ⟨fa, z9, _, _, rfl, rfl, S9 _ _ hfa3, upd_same, Nat.le_of_lt (sizeK (by show _ + 2 ≤ _; omega)), fun z10 hz10 => ?_⟩
      have t10 := same_new hz10 (.lst (xs ++ [V.ref z7, V.ref z8]))
      have S10 := S9.trans t10
      have T8 := t8.trans (t9.trans t10)
      refine q _ z10 _ (b3.trans (Bar.same S10)) ⟨_, _, _, S10 _ _ hp3⟩ upd_same (by rw [List.length_append]; show _ + 2 ≤ _; omega) ((hV3.same S10).app fun v' hv' => ?_)
      simp only [List.mem_cons, List.not_mem_nil, or_false] at hv'
      rcases hv' with rfl | rfl
      · exact va_els (same_sqt T8 hz7) ((Els.app (els_iv u2) (.cons (hov _) .nil)).app (els_iv u6)) (by rw [List.length_append, List.length_append, iv_len, iv_len]; show _ + 1 + _ ≤ _; omega)
      · exact ⟨_, va_iv (same_sqt (t9.trans t10) hz8) (by omega)⟩
    case i3 =>
      rintro D σ H1 ⟨k, fa, xs, rfl, hT1, hfa, hxl, hV, q⟩
      have gl : atI (iv t) (-1) = some (.int (t.getD (t.length - 1) 0)) := at_end (by omega)
      refine ⟨_, rfl, _, rfl, _, rfl, _, rfl, a, _, _, _, rfl, rfl, hT1, gl, _, _, rfl, rfl, _, _, rfl, by show 1 ≤ sizeLine; decide, fun z2 hz2 => ?_⟩
      have t2 := same_new hz2 (.tup [V.int (if t.getD (t.length - 1) 0 + 1 < 480 then t.getD (t.length - 1) 0 + 1 else 480)])
      refine ⟨a, z2, _, _, rfl, rfl, same_sqt t2 hT1, SqT.of upd_same, by rw [iv_len]; exact Nat.le_of_lt (sizeK (by show _ + 1 ≤ _; omega)), fun H3 z3 t3 hz3 => ?_⟩
      have S3 := t2.trans t3
      refine ⟨by show 1 ≤ sizeLine; decide, fun z4 hz4 => ?_⟩
      have t4 := same_new hz4 (.tup [V.int 0])
      have S4 := S3.trans t4
      refine ⟨_, rfl, z4, a, _, _, rfl, rfl, SqT.of upd_same, same_sqt S4 hT1, by rw [iv_len]; exact Nat.le_of_lt (sizeK (by show 1 + _ ≤ _; omega)), fun H5 z5 t5 hz5 => ?_⟩
      refine ⟨by show 2 ≤ sizeLine; decide, fun z9 hz9 => ?_⟩
      have t9 := same_new hz9 (.lst [V.ref z3, V.ref z5])
      have S9 := S4.trans (t5.trans t9)
      refine ⟨fa, z9, _, _, rfl, rfl, S9 _ _ hfa, upd_same, Nat.le_of_lt (sizeK (by show _ + 2 ≤ _; omega)), fun z10 hz10 => ?_⟩
      have t10 := same_new hz10 (.lst (xs ++ [V.ref z3, V.ref z5]))
      have S10 := S9.trans t10
      refine q _ z10 _ S10 (S9.free hz10) upd_same (by rw [List.length_append]; show _ + 2 ≤ _; omega) ((hV.same S10).app fun v' hv' => ?_)
      simp only [List.mem_cons, List.not_mem_nil, or_false] at hv'
      rcases hv' with rfl | rfl
      · have h3 : SqT K H3 z3 (iv (t ++ [if t.getD (t.length - 1) 0 + 1 < 480 then t.getD (t.length - 1) 0 + 1 else 480])) := by rw [iv_app]; exact hz3
        exact ⟨_, va_iv (same_sqt (t4.trans (t5.trans (t9.trans t10))) h3) (by rw [List.length_append]; show _ + 1 ≤ _; omega)⟩
      · have h5 : SqT K H5 z5 (iv ([0] ++ t)) := by rw [iv_app]; exact hz5
        exact ⟨_, va_iv (same_sqt (t9.trans t10) h5) (by rw [List.length_append]; show 1 + _ ≤ _; omega)⟩
    case i4 =>
      rintro D σ H1 ⟨k, fa, xs, H0, rfl, hk, s01, h0, hT1, hfa, hxl, hV, q⟩
      refine ⟨_, rfl, .inl ⟨rfl, _, SqL.of hfa⟩, _, rfl, _, rfl, _, rfl, a, _, rfl, hT1, fun H2 z2 t2 hz2 => ?_⟩
      obtain ⟨u2, e2, l2⟩ := cut_any t none (some ((k : Nat) : Int))
      rw [e2] at hz2
      have gk : atI (iv t) ((k : Nat) : Int) = some (.int t[k]) := iv_at (List.getElem?_eq_getElem hk)
      refine ⟨_, rfl, _, rfl, a, _, _, _, rfl, rfl, same_sqt t2 hT1, gk, _, _, rfl, rfl, by show 1 ≤ sizeLine; decide, fun z4 hz4 => ?_⟩
      have t4 := same_new hz4 (.tup [V.int (t[k] - 1)])
      refine ⟨z2, z4, _, _, rfl, rfl, same_sqt t4 hz2, SqT.of upd_same, by rw [iv_len]; exact Nat.le_of_lt (sizeK (by show _ + 1 ≤ _; omega)), fun H5 z5 t5 hz5 => ?_⟩
      have S5 := t2.trans (t4.trans t5)
      refine ⟨_, rfl, _, rfl, _, _, rfl, rfl, _, rfl, a, _, rfl, same_sqt S5 hT1, fun H6 z6 t6 hz6 => ?_⟩
      obtain ⟨u6, e6, l6⟩ := cut_any t (some (((k : Nat) : Int) + 1)) none
      rw [e6] at hz6
      refine ⟨z5, z6, _, _, rfl, rfl, same_sqt t6 hz5, hz6, by rw [List.length_append, iv_len, iv_len]; exact Nat.le_of_lt (sizeK (by show _ + 1 + _ ≤ _; omega)), fun H7 z7 t7 hz7 => ?_⟩
      have S7 := S5.trans (t6.trans t7)
      have hfa7 := S7 _ _ hfa
      refine ⟨fa, _, _, rfl, rfl, hfa7, sizeK (by omega), ?_⟩
      have h7 : SqT K H7 z7 (iv (u2 ++ [t[k] - 1] ++ u6)) := by rw [iv_app, iv_app]; exact hz7
      refine q _ _ (same_updL (s01.trans S7) h0) upd_same (by rw [List.length_append]; show _ + 1 ≤ _; omega) ((Vas.updL hfa7 (hV.same S7)).app fun v' hv' => ?_)
      rw [List.mem_singleton.mp hv']
      exact ⟨_, va_updL hfa7 (va_iv h7 (by rw [List.length_append, List.length_append]; show _ + 1 + _ ≤ _; omega))⟩
    case i5 =>
      rintro D σ H1 ⟨k, fa, xs, rfl, hfa, hxl, hV, q⟩
      refine ⟨_, rfl, 10, rfl, RgOk.of_le (by decide) (by decide) (by decide) (by decide), fun z1 hz1 => ?_⟩
      have t1 := same_new hz1 (.tup (rgV 0 10))
      refine ⟨9, rfl, RgOk.of_le (by decide) (by decide) (by decide) (by decide), fun z2 hz2 => ?_⟩
      have t2 := same_new hz2 (.tup (rgV 0 9))
      refine ⟨by show 1 ≤ sizeLine; decide, fun z3 hz3 => ?_⟩
      have t3 := same_new hz3 (.tup [V.bl false])
      refine ⟨_, _, rfl, rfl, ⟨by decide, by decide, by decide⟩, by show 2 ≤ sizeLine; decide, fun z4 hz4 => ?_⟩
      have t4 := same_new hz4 (.tup [V.int 0, V.int (10 ^ 60)])
      refine ⟨by show 4 ≤ sizeLine; decide, fun z9 hz9 => ?_⟩
      have t9 := same_new hz9 (.lst [V.ref z1, V.ref z2, V.ref z3, V.ref z4])
      have S9 := t1.trans (t2.trans (t3.trans (t4.trans t9)))
      refine ⟨fa, z9, _, _, rfl, rfl, S9 _ _ hfa, upd_same, Nat.le_of_lt (sizeK (by show _ + 4 ≤ _; omega)), fun z10 hz10 => ?_⟩
      have t10 := same_new hz10 (.lst (xs ++ [V.ref z1, V.ref z2, V.ref z3, V.ref z4]))
      have S10 := S9.trans t10
      have T9 := t9.trans t10
      have T4 := t4.trans T9
      have T3 := t3.trans T4
      refine q _ z10 _ S10 upd_same (by rw [List.length_append]; show _ + 4 ≤ _; omega) ((hV.same S10).app fun v' hv' => ?_)
      simp only [List.mem_cons, List.not_mem_nil, or_false] at hv'
      rcases hv' with rfl | rfl | rfl | rfl
      · exact ⟨_, va_iv (t := (List.range ((10 : Int) - 0).toNat).map fun i => 0 + ((i : Nat) : Int)) (by rw [← rg_iv]; exact SqT.of ((t2.trans T3) _ _ upd_same)) (by rw [List.length_map, List.length_range]; decide)⟩
      · exact ⟨_, va_iv (t := (List.range ((9 : Int) - 0).toNat).map fun i => 0 + ((i : Nat) : Int)) (by rw [← rg_iv]; exact SqT.of (T3 _ _ upd_same)) (by rw [List.length_map, List.length_range]; decide)⟩
      · exact ⟨_, .tup (SqT.of (T4 _ _ upd_same)) (.cons (.bl false) .nil) (by show 1 ≤ 1000; decide)⟩
      · exact ⟨_, .tup (SqT.of (T9 _ _ upd_same)) (.cons (.int 0) (.cons (.int _) .nil)) (by show 2 ≤ 1000; decide)⟩
    obtain ⟨g, x, c, hp⟩ := hp
    refine ⟨_, rfl, _, rfl, a, _, rfl, .inr hT, p, _, g, x, c, rfl, hp, by rw [iv_len]; omega, by rw [iv_len]; omega, fun g1 x1 c1 r hr0 hr1 => ?_⟩
    rw [iv_len] at hr1
    obtain ⟨k, rfl⟩ := nat_of hr0
    have hk : k < t.length := by omega
    have b1 : Bar p H (upd H p (pailO g1 x1 c1)) := Bar.upd
    have p1 : Pail p (upd H p (pailO g1 x1 c1)) := ⟨_, _, _, upd_same⟩
    have hT1 := bar_sqt ⟨g, x, c, hp⟩ b1 hT
    generalize (upd H p (pailO g1 x1 c1)) = H1 at b1 p1 hT1 ⊢
    refine ⟨k, rfl, hT1, fun H2 fa xs s2 hn2 hfa hl2 hV2 => ?_⟩
    have p2 : Pail p H2 := by
      obtain ⟨g, x, c, h⟩ := p1
      exact ⟨g, x, c, s2 _ _ h⟩
    have hfp : fa ≠ p := fun e => by
      obtain ⟨g, x, c, h⟩ := p1
      rw [e, h] at hn2
      cases hn2
    refine ⟨k, fa, xs, rfl, same_sqt s2 hT1, p2, hk, hfa, hfp, hl2, hV2, fun H3 fb ys b3 p3 hfb hl3 hV3 => ?_⟩
    have hT3 := bar_sqt p2 b3 (same_sqt s2 hT1)
    refine ⟨k, fb, ys, rfl, hT3, hfb, hl3, hV3, fun H4 fc zs s4 hn4 hfc hl4 hV4 => ?_⟩
    refine ⟨k, fc, zs, H3, rfl, hk, s4, hn4, same_sqt s4 hT3, hfc, hl4, hV4, fun H5 xs5 s5 h5 hl5 hV5 => ?_⟩
    refine ⟨k, fc, xs5, rfl, h5, hl5, hV5, fun H6 z xs6 s6 hz6 hl6 hV6 => ?_⟩
    obtain ⟨g3, x3, c3, hp3⟩ := p3
    exact q H6 z xs6 (b1.trans ((Bar.same s2).trans (b3.trans (Bar.same (s5.trans s6))))) ⟨g3, x3, c3, s6 _ _ (s5 _ _ hp3)⟩ hz6 (by omega) hV6
end
end K61

namespace K61
open PySem PySem.Spec PyProof.Rows L2 RZ L5 Gv
def putW (l k : Nat) (L : List (List Int)) : List (List Int) := (L.filter fun t => decide (t.length ≤ l)).map fun t => t ++ [((k : Nat) : Int)]
def winW (l : Nat) : Nat → List (List Int)
  | 0 => [[]]
  | k + 1 => winW l k ++ putW l k (winW l k)
theorem win_len : ∀ l, l < 4 → ∀ k, k < 7 → (winW l k).length < 60 ∧ (∀ t ∈ winW l k, t.length ≤ 4) := by decide +kernel
theorem win_perm : ∀ l, l < 4 → ∀ m, m < 6 → ((winW l (m + 1)).filter fun t => decide (t ≠ [])).Perm (foundP (m + 1) (l + 1)) := by decide +kernel
theorem filtI_yes {f : List Int → Bool} {A : List (List Int)} {i : Nat} {t : List Int} (h : A[i]? = some t) (e : f t = true) : (A.take (i + 1)).filter f = (A.take i).filter f ++ [t] := by
  rw [take_more h, List.filter_append]
  simp [e]
theorem filtI_no {f : List Int → Bool} {A : List (List Int)} {i : Nat} {t : List Int} (h : A[i]? = some t) (e : f t = false) : (A.take (i + 1)).filter f = (A.take i).filter f := by
  rw [take_more h, List.filter_append]
  simp [e]
section
variable {P : Program} {w : World} {K : PySem.W.Frag} {mg : Str → Option Value} {base : Heap}
def sp_win (K : PySem.W.Frag) : Sp := fun vs H Q _ => ∃ l m : Nat, vs = [.int ((l : Nat) : Int), .int ((m : Nat) : Int)] ∧ l ≤ 3 ∧ m ≤ 5 ∧ ∀ H' z rs M, Same H H' → SqT K H' z (rs.map V.ref) → SortedP K H' rs (foundP (m + 1) (l + 1)) M → Q (.ref z) H'
theorem ok_win (T : Txt K mg) : FnOk P w K mg base CX0 1 T.a_w_window T.d_w_window ["_law_last", "_law_most"] (sp_win K) := by
  refine T.F_w_window.ok sc_w_window (fun vs H Q E h => ?_) (fun cdv A outer s H vs Q E hr h => ?_)
  · obtain ⟨l, m, rfl, _⟩ := h
    rfl
  · obtain ⟨l, m, rfl, hl, hm, q⟩ := h
    refine ⟨_, pss_cons (ps_set (i := 2) sc_w_window.nd rfl (Or.inl rfl) (pe_lst (pa_cons (pe_tup pa_nil) pa_nil)))
      (pss_cons (ps_for PassesOwn.never rfl (pi_range1 rfl T.z_range (pa_cons (pe_op op_add (pv 1) pe_int) pa_nil)) (pg_name (i := 3) sc_w_window.nd rfl (Or.inr rfl))
        (pss_one (ps_set (i := 2) sc_w_window.nd rfl (Or.inl rfl) (pe_op op_cat (pv 2)
          (pe_lc (own := [("_law_one", 4)]) (g := gName 4) rfl sc_w_window.nd (pi_list (pv 2)) (blkOk_by (own := [("_law_one", 4)]) (N := N_w_window) (sc := defScope s_w_window) (by decide +kernel))
            (fun _ _ _ _ _ => pg_name (i := 4) sc_w_window.nd rfl (Or.inl rfl))
            (fun _ _ _ _ _ => pts_one (pt_cmpR op_le (pe_callB (show CallR _ _ (fun xs H Q => ∃ p ys, xs = [V.ref p] ∧ (SqL K H p ys ∨ SqT K H p ys) ∧ Q (V.int ((ys.length : Nat) : Int)) H) from call_len_seq) (by rfl) T.z_len boot_len (pa_cons (pv 4) pa_nil)) (pv 0) (nomark _)))
            (fun _ _ _ _ _ => pe_op (show OpR _ _ (rCatB K) from op_catB) (pv 4) (pe_tup (pa_cons (pv 3) pa_nil))))))))
      (pss_one (ps_ret (pe_callTy call_tuple_of (by rfl) T.z_tuple boot_tuple (pa_cons (pe_callB (cr_sortM (m := 4) (B := 6) (by decide)) (by rfl) T.z_sorted (by decide +kernel) (pa_cons
        (pe_lc (own := [("_law_one", 4)]) (g := gName 4) rfl sc_w_window.nd (pi_list (pv 2)) (blkOk_by (own := [("_law_one", 4)]) (N := N_w_window) (sc := defScope s_w_window) (by decide +kernel))
            (fun _ _ _ _ _ => pg_name (i := 4) sc_w_window.nd rfl (Or.inl rfl))
            (fun _ _ _ _ _ => pts_one (pt_cmpR (show OpR _ _ (rNeD K) from op_neD hr.units) (pv 4) (pe_tup pa_nil) (nomark _)))
            (fun _ _ _ _ _ => pv 4)) pa_nil)) pa_nil))))), ?_⟩
    refine ⟨by show 0 ≤ sizeLine; exact Nat.zero_le _, fun z0 hz0 => ?_⟩
    have s2 := same_new hz0 (.tup [])
    refine ⟨by show 1 ≤ sizeLine; decide, fun la hla => ?_⟩
    have s3 := same_new hla (.lst [V.ref z0])
    refine ⟨_, rfl, _, _, rfl, rfl, _, rfl, by omega, by omega, ?_⟩
    refine for_range (lo := 0) (n := (((m : Nat) : Int) + 1).toNat) (fun i σ H' => ∃ (v3 : Option V) (fa : Addr) (rs : List Addr), σ = [some (.int ((l : Nat) : Int)), some (.int ((m : Nat) : Int)), some (.ref fa), v3, none] ∧ Same H H' ∧ H' fa = some (.lst (rs.map V.ref)) ∧ TupsI K H' rs (winW l i))
      ⟨none, la, [z0], rfl, s2.trans s3, upd_same, .cons (same_sqt s3 (SqT.of upd_same)) .nil⟩ ?_ ?_
    · rintro i σ H1 hi ⟨v3, fa, rs, rfl, sm, hf, hfT⟩
      have hi6 : i < m + 1 := hi
      have w1 := win_len l (by omega) i (by omega)
      have w2 := win_len l (by omega) (i + 1) (by omega)
      have hrl : rs.length = _ := hfT.length
      rw [show (0 : Int) + ((i : Nat) : Int) = ((i : Nat) : Int) from Int.zero_add _]
      refine ⟨_, rfl, _, rfl, fa, rfl, ⟨_, SqL.of hf⟩, fun D hD => ?_⟩
      have sD := same_new hD (.lst [])
      refine lc_list (K := K) (a := fa) (xs := rs.map V.ref) (fun i2 H' => Same H1 H' ∧ ∃ es : List Addr, H' D = some (.lst (es.map V.ref)) ∧ TupsI K H' es (putW l i ((winW l i).take i2))) ⟨sD, [], upd_same, .nil⟩ (fun i2 H' _ hh => SqL.of (hh.1 _ _ hf)) (fun i2 x H2 hx hh => ?_) (fun H2 hh => ?_)
      · obtain ⟨s4, es, eD, hTe⟩ := hh
        obtain ⟨c, t, rfl, _, ht, hs⟩ := tupsI_get hfT hx
        have ht4 := w1.2 t (List.mem_of_getElem? ht)
        have hel : es.length ≤ 1000 := by
          have e1 : es.length = _ := hTe.length
          unfold putW at e1
          rw [List.length_map] at e1
          have e2 := List.length_filter_le (fun t : List Int => decide (t.length ≤ l)) ((winW l i).take i2)
          rw [List.length_take] at e2
          omega
        refine ⟨rfl, _, rfl, c, _, rfl, .inr (same_sqt s4 hs), _, rfl, _, _, rfl, rfl, _, rfl, ?_⟩
        rw [iv_len]
        have ed : decide (((t.length : Nat) : Int) ≤ ((l : Nat) : Int)) = decide (t.length ≤ l) := decide_eq_decide.mpr ⟨fun h => by omega, fun h => by omega⟩
        rw [ed]
        refine ite2 (fun cb => ?_) (fun cb => ?_)
        · refine ⟨_, rfl, _, rfl, by show 1 ≤ sizeLine; decide, fun z1 hz1 => ?_⟩
          have s5 := same_new hz1 (.tup [V.int ((i : Nat) : Int)])
          refine ⟨c, z1, _, _, rfl, rfl, same_sqt (s4.trans s5) hs, SqT.of upd_same, by rw [iv_len]; exact Nat.le_of_lt (sizeK (by show _ + 1 ≤ _; omega)), fun H5 z5 s6 hz5 => ?_⟩
          have S6 := s5.trans s6
          have hz5' : SqT K H5 z5 (iv (t ++ [((i : Nat) : Int)])) := by rw [iv_app]; exact hz5
          refine ⟨_, S6 _ _ eD, by rw [List.length_map]; exact sizeK (by omega), same_updL (s4.trans S6) hD, es ++ [z5], by rw [upd_same, List.map_append]; rfl, ?_⟩
          unfold putW at hTe ⊢
          rw [filtI_yes (f := fun t : List Int => decide (t.length ≤ l)) ht cb, List.map_append]
          exact ((hTe.same S6).updL (S6 _ _ eD)).app (.cons (sqt_updL (S6 _ _ eD) hz5') .nil)
        · refine ⟨s4, es, eD, ?_⟩
          unfold putW at hTe ⊢
          rw [filtI_no (f := fun t : List Int => decide (t.length ≤ l)) ht (Bool.eq_false_iff.mpr cb)]
          exact hTe
      · obtain ⟨s4, es, eD, hTe⟩ := hh
        rw [List.length_map, hrl, List.take_length] at hTe
        have hel : es.length = (putW l i (winW l i)).length := hTe.length
        have hw2 : (winW l i).length + (putW l i (winW l i)).length < 60 := by
          have := w2.1
          show _ < _
          rw [← List.length_append]
          exact this
        refine ⟨fa, D, _, _, rfl, rfl, s4 _ _ hf, eD, by rw [List.length_map, List.length_map]; exact Nat.le_of_lt (sizeK (by omega)), fun p hp => ?_⟩
        have s5 := same_new hp (.lst (rs.map V.ref ++ es.map V.ref))
        exact ⟨_, p, rs ++ es, rfl, sm.trans (s4.trans s5), by rw [upd_same, List.map_append], ((hfT.same s4).same s5).app (hTe.same s5)⟩
    · rintro σ H1 ⟨v3, fa, rs, rfl, sm, hf, hfT⟩
      have hfT' : TupsI K H1 rs (winW l (m + 1)) := hfT
      have w1 := win_len l (by omega) (m + 1) (by omega)
      have hrl : rs.length = _ := hfT'.length
      refine ⟨_, rfl, fa, rfl, ⟨_, SqL.of hf⟩, fun D hD => ?_⟩
      have sD := same_new hD (.lst [])
      refine lc_list (K := K) (a := fa) (xs := rs.map V.ref) (fun i2 H' => Same H1 H' ∧ ∃ es : List Addr, H' D = some (.lst (es.map V.ref)) ∧ TupsI K H' es (((winW l (m + 1)).take i2).filter fun t => decide (t ≠ []))) ⟨sD, [], upd_same, .nil⟩ (fun i2 H' _ hh => SqL.of (hh.1 _ _ hf)) (fun i2 x H2 hx hh => ?_) (fun H2 hh => ?_)
      · obtain ⟨s4, es, eD, hTe⟩ := hh
        obtain ⟨c, t, rfl, _, ht, hs⟩ := tupsI_get hfT' hx
        have hel : es.length ≤ 1000 := by
          have e1 : es.length = _ := hTe.length
          have e2 := List.length_filter_le (fun t : List Int => decide (t ≠ [])) ((winW l (m + 1)).take i2)
          rw [List.length_take] at e2
          omega
        refine ⟨rfl, _, rfl, by show 0 ≤ sizeLine; exact Nat.zero_le _, fun z1 hz1 => ?_⟩
        have s5 := same_new hz1 (.tup [])
        have hs5 := same_sqt (s4.trans s5) hs
        refine ⟨_, _, dp_tupI hs5, dp_tupI (t := []) (SqT.of upd_same), shaped_intsT _, shaped_intsT _, _, rfl, ?_⟩
        have ee : (!PyData.eqv (encI t) (encI [])) = decide (t ≠ []) := by
          rw [eqv_tupIE, ← decide_not]
        rw [ee]
        refine ite2 (fun cb => ?_) (fun cb => ?_)
        · refine ⟨_, rfl, _, s5 _ _ eD, by rw [List.length_map]; exact sizeK (by omega), same_updL (s4.trans s5) hD, es ++ [c], by rw [upd_same, List.map_append]; rfl, ?_⟩
          rw [filtI_yes (f := fun t : List Int => decide (t ≠ [])) ht cb]
          exact ((hTe.same s5).updL (s5 _ _ eD)).app (.cons (sqt_updL (s5 _ _ eD) hs5) .nil)
        · refine ⟨s4.trans s5, es, s5 _ _ eD, ?_⟩
          rw [filtI_no (f := fun t : List Int => decide (t ≠ [])) ht (Bool.eq_false_iff.mpr cb)]
          exact hTe.same s5
      · obtain ⟨s4, es, eD, hTe⟩ := hh
        rw [List.length_map, hrl, List.take_length] at hTe
        have pm0 := win_perm l (by omega) m (by omega)
        obtain ⟨f1, f2, f3⟩ := pd_facts (m + 1) (by omega) (l + 1) (by omega)
        have hel : es.length = _ := hTe.length
        rw [pm0.length_eq] at hel
        refine ⟨D, _, rfl, SqL.of eD, by rw [List.length_map]; omega, fun x hx => ?_, fun ys p pm pw hp => ?_⟩
        · obtain ⟨i, hi⟩ := List.getElem?_of_mem hx
          obtain ⟨a, t, rfl, _, ht, hs⟩ := tupsI_get hTe hi
          obtain ⟨t1, t2, t3⟩ := f3 t (pm0.mem_iff.mp (List.mem_of_getElem? ht))
          exact ⟨t, ⟨a, rfl, hs⟩, t1, t2, t3⟩
        · obtain ⟨rs', M, rfl, hM, pM, sM⟩ := tupsI_perm hTe pm (fun n k => TM.cod 6 4 n ≤ TM.cod 6 4 k) pw
          have s2 := same_new hp (.lst (rs'.map V.ref))
          refine ⟨p, _, rfl, .inl ⟨SqL.of upd_same, fun z hz => ?_⟩⟩
          have s3 := same_new hz (.tup (rs'.map V.ref))
          exact q _ z rs' M (sm.trans (s4.trans (s2.trans s3))) (SqT.of upd_same) ⟨hM.same (s2.trans s3), pM.trans pm0, sM⟩
end
end K61

namespace K61
open PySem PySem.Spec PyProof.Rows L2 RZ L5 Gv
section
variable {P : Program} {w : World} {K : PySem.W.Frag} {mg : Str → Option Value} {base : Heap}
theorem belO_iv (t u : List Int) : belO (some (t.map some)) u = bel t u := by
  show belB (intsO _) u = _
  rw [ints_back, bel_eq]
structure InQ (K : PySem.W.Frag) (H : Hp) (a b c d : Addr) (t u v y : List Int) : Prop where
  ha : SqT K H a (iv t)
  hb : SqT K H b (iv u)
  hc : SqT K H c (iv v)
  hd : SqT K H d (iv y)
theorem InQ.same {H H' : Hp} {a b c d : Addr} {t u v y : List Int} (s : Same H H') (h : InQ K H a b c d t u v y) : InQ K H' a b c d t u v y := ⟨same_sqt s h.ha, same_sqt s h.hb, same_sqt s h.hc, same_sqt s h.hd⟩
theorem InQ.bar {H H' : Hp} {p a b c d : Addr} {t u v y : List Int} (hp : Pail p H) (s : Bar p H H') (h : InQ K H a b c d t u v y) : InQ K H' a b c d t u v y := ⟨bar_sqt hp s h.ha, bar_sqt hp s h.hb, bar_sqt hp s h.hc, bar_sqt hp s h.hd⟩
theorem Pail.same {p : Addr} {H H' : Hp} (s : Same H H') : Pail p H → Pail p H' := fun ⟨g, x, c, h⟩ => ⟨g, x, c, s _ _ h⟩
abbrev σQ (p a b c d : Addr) (v5 v6 : Option L2.V) : L2.St := [some (.ref p), some (.ref a), some (.ref b), some (.ref c), some (.ref d), v5, v6]
theorem ne_pail {p y : Addr} {H : Hp} (hp : Pail p H) (hy : H y = none) : y ≠ p := fun z => by
  obtain ⟨g, x, c, hp⟩ := hp
  rw [z, hp] at hy
  cases hy
theorem shaped_bool (b : Bool) : SeqAt.shaped (.bool b) = true := by cases b <;> decide +kernel
theorem eqv_bool (b : Bool) : PyData.eqv (.bool b) (.bool b) = true := by cases b <;> decide +kernel
def sp_right (K : PySem.W.Frag) : Sp := fun vs H Q _ => ∃ p : Addr, vs = [.ref p] ∧ Pail p H ∧ ∀ H', Bar p H H' → Pail p H' → Q (.bl true) H'
theorem ok_right (T : Txt K mg) : FnOk P w K mg base CX0 7 T.a_w_right T.d_w_right ["_law_bowl_here"] (sp_right K) := by
  refine T.F_w_right.ok sc_w_right (fun vs H Q E h => ?_) (fun cdv A outer s H vs Q E hr h => ?_)
  · obtain ⟨p, rfl, _⟩ := h
    rfl
  · obtain ⟨p, rfl, hp, q⟩ := h
    refine ⟨_, pss_cons (ps_set (i := 1) sc_w_right.nd rfl (Or.inl rfl) (pe_call (ok_wdeg T) (hr.mono (by decide)) (by rfl) T.m_w_degrees T.F_w_degrees.kp T.b_w_degrees .nil pass0 (pa_cons (pv 0)
        (pa_cons (pe_call (ok_pick T) (hr.mono (by decide)) (by rfl) T.m_w_pick T.F_w_pick.kp T.b_w_pick .nil pass0 (pa_cons (pv 0) (pa_cons (pe_lst (pa_cons pe_int (pa_cons pe_int (pa_cons pe_int pa_nil)))) pa_nil)))
        (pa_cons (pe_call (ok_pick T) (hr.mono (by decide)) (by rfl) T.m_w_pick T.F_w_pick.kp T.b_w_pick .nil pass0 (pa_cons (pv 0) (pa_cons (pe_lst (pa_cons pe_int (pa_cons pe_int (pa_cons pe_int (pa_cons pe_int pa_nil))))) pa_nil))) pa_nil)))))
      (pss_cons (ps_par (i := 2) (j := 3) (by rfl) sc_w_right.nd rfl rfl (by decide) rfl rfl (pa_cons (pe_call (ok_wrai T) (hr.mono (by decide)) (by rfl) T.m_w_raised T.F_w_raised.kp T.b_w_raised .nil pass0 (pa_cons (pv 0) (pa_cons (pv 1) pa_nil)))
          (pa_cons (pe_call (ok_wdeg T) (hr.mono (by decide)) (by rfl) T.m_w_degrees T.F_w_degrees.kp T.b_w_degrees .nil pass0 (pa_cons (pv 0) (pa_cons pe_int (pa_cons pe_int pa_nil)))) pa_nil)) (by rfl))
      (pss_cons (ps_set (i := 4) sc_w_right.nd rfl (Or.inl rfl) (pe_call (ok_wrai T) (hr.mono (by decide)) (by rfl) T.m_w_raised T.F_w_raised.kp T.b_w_raised .nil pass0 (pa_cons (pv 0) (pa_cons (pv 2) pa_nil))))
      (pss_cons (ps_for PassesOwn.never rfl (pi_tup (pe_tup (pa_cons (pv 1) (pa_cons (pv 2) (pa_cons (pv 4) (pa_cons (pv 3) pa_nil)))))) (pg_name (i := 5) sc_w_right.nd rfl (Or.inl rfl))
        (pss_one (ps_for PassesOwn.never rfl (pi_list (pe_op op_cat (pe_lst (pa_cons (pv 1) (pa_cons (pv 2) (pa_cons (pv 4) (pa_cons (pv 3) pa_nil))))) (pe_call (ok_near T) (hr.mono (by decide)) (by rfl) T.m_w_near T.F_w_near.kp T.b_w_near .nil pass0 (pa_cons (pv 0) (pa_cons (pv 1) pa_nil))))) (pg_name (i := 6) sc_w_right.nd rfl (Or.inl rfl))
          (pss_one (ps_if (pt_cmpR (op_neD hr.units) (pe_call (ok_isb T) hr (by rfl) T.m_is_below T.F_is_below.kp T.b_is_below .nil pass0 (pa_cons (pv 6) (pa_cons (pv 5) pa_nil)))
            (pe_and (pe_call (ok_wpu T) (hr.mono (by decide)) (by rfl) T.m_w_is_pure T.F_w_is_pure.kp T.b_w_is_pure .nil pass0 (pa_cons (pv 6) pa_nil)) (pe_one (pe_call (ok_wbel T) (hr.mono (by decide)) (by rfl) T.m_w_is_below T.F_w_is_below.kp T.b_w_is_below .nil pass0 (pa_cons (pv 6) (pa_cons (pv 5) pa_nil))))) (nomark _)) (pss_one (ps_ret pe_bl)) pss_nil)))))
      (pss_cons (ps_if (PW.pt (pw_or (pt_not (pt_val (pe_call (ok_isb T) hr (by rfl) T.m_is_below T.F_is_below.kp T.b_is_below .nil pass0 (pa_cons (pv 1) (pa_cons (pv 2) pa_nil)))))
          (pw_or (pt_not (pt_val (pe_call (ok_isb T) hr (by rfl) T.m_is_below T.F_is_below.kp T.b_is_below .nil pass0 (pa_cons (pv 2) (pa_cons (pv 4) pa_nil)))))
          (pw_or1 (pt_not (pt_val (pe_call (ok_isb T) hr (by rfl) T.m_is_below T.F_is_below.kp T.b_is_below .nil pass0 (pa_cons (pv 1) (pa_cons (pv 4) pa_nil))))))))) (pss_one (ps_ret pe_bl)) pss_nil)
      (pss_cons (ps_if (pt_not (pt_val (pe_call (ok_isb T) hr (by rfl) T.m_is_below T.F_is_below.kp T.b_is_below .nil pass0 (pa_cons (pv 3) (pa_cons (pv 3) pa_nil))))) (pss_one (ps_ret pe_bl)) pss_nil)
      (pss_one (ps_ret (pe_or (pe_cmpR (op_eqD hr.units) (pv 1) (pv 2) (nomark _)) (pe_one (pe_not (pe_call (ok_isb T) hr (by rfl) T.m_is_below T.F_is_below.kp T.b_is_below .nil pass0 (pa_cons (pv 2) (pa_cons (pv 1) pa_nil)))))))))))))  , ?_⟩
    obtain ⟨g, x, c, hp⟩ := hp
    refine ⟨_, rfl, _, rfl, by show 3 ≤ sizeLine; decide, fun y1 hy1 => ?_⟩
    have t1 := same_new hy1 (.lst [V.int 2, V.int 5, V.int 9])
    refine ⟨p, y1, _, g, x, c, rfl, t1 _ _ hp, ne_pail ⟨g, x, c, hp⟩ hy1, SqL.of upd_same, by simp, by simp, fun g1 x1 c1 v1 hv1 => ?_⟩
    obtain ⟨n1, rfl, hn1⟩ : ∃ n : Nat, v1 = .int ((n : Nat) : Int) ∧ 1 ≤ n ∧ n ≤ 9 := by
      simp only [List.mem_cons, List.not_mem_nil, or_false] at hv1
      rcases hv1 with rfl | rfl | rfl
      · exact ⟨2, rfl, by omega⟩
      · exact ⟨5, rfl, by omega⟩
      · exact ⟨9, rfl, by omega⟩
    have b1 : Bar p H (upd (upd H y1 (.lst [V.int 2, V.int 5, V.int 9])) p (pailO g1 x1 c1)) := (Bar.same t1).trans Bar.upd
    have hp1 : (upd (upd H y1 (.lst [V.int 2, V.int 5, V.int 9])) p (pailO g1 x1 c1)) p = some (pailO g1 x1 c1) := upd_same
    generalize (upd (upd H y1 (.lst [V.int 2, V.int 5, V.int 9])) p (pailO g1 x1 c1)) = H1 at b1 hp1 ⊢
    refine ⟨_, rfl, by show 4 ≤ sizeLine; decide, fun y2 hy2 => ?_⟩
    have t2 := same_new hy2 (.lst [V.int 6, V.int 20, V.int 60, V.int 480])
    refine ⟨p, y2, _, g1, x1, c1, rfl, t2 _ _ hp1, ne_pail ⟨g1, x1, c1, hp1⟩ hy2, SqL.of upd_same, by simp, by simp, fun g2 x2 c2 v2 hv2 => ?_⟩
    obtain ⟨n2, rfl, hn2⟩ : ∃ n : Nat, v2 = .int ((n : Nat) : Int) ∧ n ≤ 480 := by
      simp only [List.mem_cons, List.not_mem_nil, or_false] at hv2
      rcases hv2 with rfl | rfl | rfl | rfl
      · exact ⟨6, rfl, by omega⟩
      · exact ⟨20, rfl, by omega⟩
      · exact ⟨60, rfl, by omega⟩
      · exact ⟨480, rfl, by omega⟩
    have b2 : Bar p H (upd (upd H1 y2 (.lst [V.int 6, V.int 20, V.int 60, V.int 480])) p (pailO g2 x2 c2)) := b1.trans ((Bar.same t2).trans Bar.upd)
    have p2 : Pail p (upd (upd H1 y2 (.lst [V.int 6, V.int 20, V.int 60, V.int 480])) p (pailO g2 x2 c2)) := ⟨_, _, _, upd_same⟩
    generalize (upd (upd H1 y2 (.lst [V.int 6, V.int 20, V.int 60, V.int 480])) p (pailO g2 x2 c2)) = H2 at b2 p2 ⊢
    refine ⟨p, n1, n2, rfl, p2, hn1.1, hn1.2, hn2, fun H3 a t b3 p3 ha pt => ?_⟩
    refine ⟨_, rfl, _, rfl, p, a, t, rfl, p3, ha, pt, fun H4 b u b4 p4 hb pu tu => ?_⟩
    refine ⟨_, rfl, p, 5, 12, rfl, p4, by decide, by decide, by decide, fun H5 c' v b5 p5 hc pv' => ?_⟩
    refine ⟨_, _, rfl, ?_⟩
    have hb5 := bar_sqt p4 b5 hb
    refine ⟨_, rfl, _, rfl, p, b, u, rfl, p5, hb5, pu, fun H6 d y b6 p6 hd py uy => ?_⟩
    have Q6 : InQ K H6 a b c' d t u v y := ⟨bar_sqt p5 b6 (bar_sqt p4 b5 (bar_sqt p3 b4 ha)), bar_sqt p5 b6 hb5, bar_sqt p5 b6 hc, hd⟩
    have B6 := b2.trans (b3.trans (b4.trans (b5.trans b6)))
    refine ⟨_, rfl, _, rfl, _, rfl, _, rfl, by show 4 ≤ sizeLine; decide, fun z hz => ?_⟩
    have tz := same_new hz (.tup [V.ref a, V.ref b, V.ref d, V.ref c'])
    have Q7 := Q6.same tz
    have p7 := p6.same tz
    have hzz : (upd H6 z (.tup [V.ref a, V.ref b, V.ref d, V.ref c'])) z = some (.tup [V.ref a, V.ref b, V.ref d, V.ref c']) := upd_same
    have B7 := B6.trans (Bar.same tz)
    generalize (upd H6 z (.tup [V.ref a, V.ref b, V.ref d, V.ref c'])) = H7 at Q7 p7 hzz B7 ⊢
    refine ⟨z, rfl, ⟨_, SqT.of hzz⟩, for_tup (K := K) (a := z) (xs := [V.ref a, V.ref b, V.ref d, V.ref c']) (fun i σ H' => (∃ v5 v6, σ = σQ p a b c' d v5 v6) ∧ Bar p H7 H' ∧ Pail p H') ⟨⟨none, none, rfl⟩, (fun _ _ _ h => h), p7⟩ (fun i σ H' _ hh => bar_sqt p7 hh.2.1 (SqT.of hzz)) ?_ ?_⟩
    · rintro i w5 σ H8 hi ⟨⟨v5, v6, rfl⟩, b8, p8⟩
      have Q8 := Q7.bar p7 b8
      obtain ⟨r, ρ, rfl, hr8, pr⟩ : ∃ r ρ, w5 = .ref r ∧ SqT K H8 r (iv ρ) ∧ Pure ρ := by
        have hm := List.mem_of_getElem? hi
        simp only [List.mem_cons, List.not_mem_nil, or_false] at hm
        rcases hm with rfl | rfl | rfl | rfl
        · exact ⟨a, t, rfl, Q8.ha, pt⟩
        · exact ⟨b, u, rfl, Q8.hb, pu⟩
        · exact ⟨d, y, rfl, Q8.hd, py⟩
        · exact ⟨c', v, rfl, Q8.hc, pv'⟩
      refine ⟨_, rfl, _, rfl, _, rfl, _, rfl, by show 4 ≤ sizeLine; decide, fun z4 hz4 => ?_⟩
      have t4 := same_new hz4 (.lst [V.ref a, V.ref b, V.ref d, V.ref c'])
      have p9 := p8.same t4
      have hz4p := ne_pail p8 hz4
      refine ⟨_, rfl, _, rfl, p, a, t, rfl, p9, same_sqt t4 Q8.ha, pt, fun H10 zl xs b10 p10 hzl hxl hxs => ?_⟩
      have h4 := b10 _ _ hz4p (show (upd H8 z4 (.lst [V.ref a, V.ref b, V.ref d, V.ref c'])) z4 = some (.lst [V.ref a, V.ref b, V.ref d, V.ref c']) from upd_same)
      refine ⟨z4, zl, _, _, rfl, rfl, h4, hzl, Nat.le_of_lt (sizeK (by show 4 + _ ≤ _; omega)), fun zA hzA => ?_⟩
      have tA := same_new hzA (.lst ([V.ref a, V.ref b, V.ref d, V.ref c'] ++ xs))
      have B10 := (Bar.same t4).trans (b10.trans (Bar.same tA))
      have Q11 := Q8.bar p8 B10
      have hr11 := bar_sqt p8 B10 hr8
      have p11 := p10.same tA
      have hV11 : Vas K (upd H10 zA (.lst ([V.ref a, V.ref b, V.ref d, V.ref c'] ++ xs))) ([V.ref a, V.ref b, V.ref d, V.ref c'] ++ xs) := by
        refine Vas.app (fun w6 hw6 => ?_) (hxs.same tA)
        have l1 := pt.len
        have l2 := pu.len
        have l3 := py.len
        have l4 := pv'.len
        simp only [List.mem_cons, List.not_mem_nil, or_false] at hw6
        rcases hw6 with rfl | rfl | rfl | rfl
        · exact ⟨_, va_iv Q11.ha (by omega)⟩
        · exact ⟨_, va_iv Q11.hb (by omega)⟩
        · exact ⟨_, va_iv Q11.hd (by omega)⟩
        · exact ⟨_, va_iv Q11.hc (by omega)⟩
      have hA : (upd H10 zA (.lst ([V.ref a, V.ref b, V.ref d, V.ref c'] ++ xs))) zA = some (.lst ([V.ref a, V.ref b, V.ref d, V.ref c'] ++ xs)) := upd_same
      have B11 := b8.trans B10
      generalize (upd H10 zA (.lst ([V.ref a, V.ref b, V.ref d, V.ref c'] ++ xs))) = H11 at B11 Q11 hr11 p11 hV11 hA ⊢
      refine ⟨zA, rfl, ⟨_, SqL.of hA⟩, for_list (K := K) (a := zA) (xs := [V.ref a, V.ref b, V.ref d, V.ref c'] ++ xs) (fun i σ H' => (∃ v6, σ = σQ p a b c' d (some (.ref r)) v6) ∧ Same H11 H') ⟨⟨v6, rfl⟩, Same.refl _⟩ (fun i σ H' _ hh => SqL.of (hh.2 _ _ hA)) ?_ ?_⟩
      · rintro i2 w6 σ H12 hi2 ⟨⟨v6', rfl⟩, s12⟩
        obtain ⟨o, ho⟩ := (hV11.same s12) w6 (List.mem_of_getElem? hi2)
        have hr12 := same_sqt s12 hr11
        refine ⟨_, rfl, _, rfl, w6, o, r, ρ, rfl, ho, hr12, pr, fun H13 s13 => ?_⟩
        refine ⟨_, rfl, w6, o, rfl, ho.same s13, fun H14 s14 => ⟨_, rfl, ?_⟩⟩
        cases eo : pureB o with
        | false =>
          refine iteF ⟨.bool false, .bool false, by rw [Bool.false_and]; exact .bl _, .bl _, shaped_bool _, shaped_bool _, _, rfl, ?_⟩
          rw [eqv_bool]
          exact iteF ⟨⟨_, rfl⟩, s12.trans (s13.trans s14)⟩
        | true =>
          obtain ⟨p', τ, rfl, hτ, rfl⟩ := pure_get ho eo
          have lτ := Pure.len (t := τ) eo
          refine iteT ⟨_, rfl, _, rfl, p', r, τ, ρ, rfl, same_sqt (s13.trans s14) hτ, same_sqt (s13.trans s14) hr12, by omega, fun H15 s15 => ?_⟩
          refine ⟨.bool (bel τ ρ), .bool (bel τ ρ), by rw [Bool.true_and, belO_iv]; exact .bl _, .bl _, shaped_bool _, shaped_bool _, _, rfl, ?_⟩
          rw [eqv_bool]
          exact iteF ⟨⟨_, rfl⟩, s12.trans (s13.trans (s14.trans s15))⟩
      · rintro σ H12 ⟨⟨v6', rfl⟩, s12⟩
        exact ⟨⟨_, _, rfl⟩, B11.trans (Bar.same s12), p11.same s12⟩
    · rintro σ H8 ⟨⟨v5, v6, rfl⟩, b8, p8⟩
      have Q8 := Q7.bar p7 b8
      have l1 := pt.len
      have l2 := pu.len
      have l3 := py.len
      have l4 := pv'.len
      have yes : ∀ {t1 t2 : List Int}, Pure t1 → bel t1 t2 = true → (pureB (some (t1.map some)) && belO (some (t1.map some)) t2) = true := fun {t1 t2} h1 h2 => by
        rw [h1, belO_iv, h2]
        rfl
      refine ⟨_, rfl, _, rfl, .ref a, _, b, u, rfl, va_iv Q8.ha (by omega), Q8.hb, pu, fun H9 s9 => ⟨_, rfl, ?_⟩⟩
      rw [yes pt tu]
      have Q9 := Q8.same s9
      refine iteF ⟨_, rfl, _, rfl, .ref b, _, d, y, rfl, va_iv Q9.hb (by omega), Q9.hd, py, fun H10 s10 => ⟨_, rfl, ?_⟩⟩
      rw [yes pu uy]
      have Q10 := Q9.same s10
      refine iteF ⟨_, rfl, _, rfl, .ref a, _, d, y, rfl, va_iv Q10.ha (by omega), Q10.hd, py, fun H11 s11 => ⟨_, rfl, ?_⟩⟩
      rw [yes pt (bel_trans tu uy)]
      have Q11 := Q10.same s11
      refine iteF ⟨_, rfl, _, rfl, .ref c', _, c', v, rfl, va_iv Q11.hc (by omega), Q11.hc, pv', fun H12 s12 => ⟨_, rfl, ?_⟩⟩
      rw [yes pv' (bel_refl v)]
      have Q12 := Q11.same s12
      have S12 := s9.trans (s10.trans (s11.trans s12))
      have B12 := B7.trans (b8.trans (Bar.same S12))
      refine iteF ⟨_, rfl, _, rfl, encI t, encI u, dp_tupI Q12.ha, dp_tupI Q12.hb, shaped_intsT _, shaped_intsT _, _, rfl, ?_⟩
      rw [eqv_tupIE]
      refine ite2 (fun cc => ?_) (fun cc => ?_)
      · exact q _ B12 (p8.same S12)
      · refine ⟨_, rfl, _, rfl, .ref b, _, a, t, rfl, va_iv Q12.hb (by omega), Q12.ha, pt, fun H13 s13 => ⟨_, rfl, ?_⟩⟩
        have e0 : bel u t = false := by
          cases e : bel u t with
          | false => rfl
          | true => exact absurd (decide_eq_true (bel_anti tu e)) cc
        rw [belO_iv, e0, Bool.and_false]
        exact q _ (B12.trans (Bar.same s13)) (p8.same (S12.trans s13))
end
end K61

namespace K61
open PySem PySem.Spec PyProof.Rows L2 RZ L5 Gv
section
variable {P : Program} {w : World} {K : PySem.W.Frag} {mg : Str → Option Value} {base : Heap}
theorem pd_bd : ∀ m, m < 7 → ∀ k, k < 5 → ∀ t ∈ foundP m k, TS.Bd 6 t ∧ t.length ≤ 4 := fun m hm k hk t ht => by
  obtain ⟨_, _, f3⟩ := pd_facts m hm k hk
  obtain ⟨_, t2, t3⟩ := f3 t ht
  exact ⟨t3, t2⟩
theorem sorted_is {H : Hp} {rs qs : List Addr} {L M N : List (List Int)} (hb : ∀ t ∈ L, TS.Bd 6 t ∧ t.length ≤ 4) (h : SortedP K H rs L M) (k : SortedP K H qs L N) : M = N :=
  cod_one (by decide) (h.2.1.trans k.2.1.symm) (fun t ht => hb t (h.2.1.mem_iff.mp ht)) h.2.2 k.2.2
theorem pd_56 : (foundP 6 4).length = 56 := by decide +kernel
theorem pure_a : Pure [0, 2, 3] := by decide +kernel
theorem pure_b : Pure [0, 2] := by decide +kernel
def sp_law (K : PySem.W.Frag) : Sp := fun vs H Q _ => ∃ (a : Addr) (ns : List Int), vs = [.ref a] ∧ SqL K H a (ns.map V.int) ∧ ns.length ≤ 63 ∧ ∀ H', Q (.bl true) H'
theorem bar_back {z : Addr} {H A B : Hp} (s : Same H A) (b : Bar z A B) (hz : H z = none) : Same H B := fun c o h => b c o (ne_of_none h hz) (s c o h)
theorem ok_law (T : Txt K mg) : FnOk P w K mg base CX0 8 T.a_law T.d_law ["_law_script"] (sp_law K) := by
  refine T.F_law.ok sc_law (fun vs H Q E h => ?_) (fun cdv A outer s H vs Q E hr h => ?_)
  · obtain ⟨a, ns, rfl, _⟩ := h
    rfl
  · obtain ⟨a, ns, rfl, hS, hn, q⟩ := h
    refine ⟨_, pss_cons (ps_for PassesOwn.never rfl (pi_range1 rfl T.z_range (pa_cons (pe_callB (call_max2 rfl) (by rfl) T.z_max boot_max (pa_cons pe_int (pa_cons (pe_callB (call_min2 rfl) (by rfl) T.z_min (by decide +kernel) (pa_cons pe_int (pa_cons (pe_callB call_len_seq (by rfl) T.z_len boot_len (pa_cons (pv 0) pa_nil)) pa_nil))) pa_nil))) pa_nil)) (pg_name (i := 1) sc_law.nd rfl (Or.inl rfl))
        (pss_cons (ps_set (i := 2) sc_law.nd rfl (Or.inl rfl) (pe_call (ok_bowl T) (hr.mono (by decide)) (by rfl) T.m_w_bowl T.F_w_bowl.kp T.b_w_bowl .nil pass0 (pa_cons (pv 0) (pa_cons (pv 1) pa_nil))))
        (pss_cons (ps_if (PW.pt (pw_or (pt_not (pt_val (pe_call (ok_right T) hr (by rfl) T.m_w_right T.F_w_right.kp T.b_w_right .nil pass0 (pa_cons (pv 2) pa_nil))))
          (pw_or1 (pt_not (pt_val (pe_call (ok_right T) hr (by rfl) T.m_w_right T.F_w_right.kp T.b_w_right .nil pass0 (pa_cons (pv 2) pa_nil))))))) (pss_one (ps_ret pe_bl)) pss_nil)
        (pss_cons (ps_par (i := 3) (j := 4) (by rfl) sc_law.nd rfl rfl (by decide) rfl rfl (pa_cons (pe_call (ok_dip T) (hr.mono (by decide)) (by rfl) T.m_w_dip T.F_w_dip.kp T.b_w_dip .nil pass0 (pa_cons (pv 2) (pa_cons pe_int pa_nil))) (pa_cons (pe_call (ok_dip T) (hr.mono (by decide)) (by rfl) T.m_w_dip T.F_w_dip.kp T.b_w_dip .nil pass0 (pa_cons (pv 2) (pa_cons pe_int pa_nil))) pa_nil)) (by rfl))
        (pss_one (ps_if (pt_cmpR (op_neD hr.units) (pe_call (ok_pds T) (hr.mono (by decide)) (by rfl) T.m_pure_degrees T.F_pure_degrees.kp T.b_pure_degrees .nil pass0 (pa_cons (pv 3) (pa_cons (pv 4) pa_nil)))
          (pe_call (ok_win T) (hr.mono (by decide)) (by rfl) T.m_w_window T.F_w_window.kp T.b_w_window .nil pass0 (pa_cons (pv 3) (pa_cons (pv 4) pa_nil))) (nomark _)) (pss_one (ps_ret pe_bl)) pss_nil))))))
      (pss_cons (ps_set (i := 5) sc_law.nd rfl (Or.inl rfl) (pe_lst (pa_cons (pe_call (ok_isb T) (hr.mono (by decide)) (by rfl) T.m_is_below T.F_is_below.kp T.b_is_below .nil pass0 (pa_cons (pe_tup (pa_cons pe_int (pa_cons pe_int (pa_cons pe_int pa_nil)))) (pa_cons (pe_tup (pa_cons pe_int (pa_cons pe_int pa_nil))) pa_nil)))
        (pa_cons (pe_call (ok_isb T) (hr.mono (by decide)) (by rfl) T.m_is_below T.F_is_below.kp T.b_is_below .nil pass0 (pa_cons (pe_tup (pa_cons pe_int (pa_cons pe_int pa_nil))) (pa_cons (pe_tup (pa_cons pe_int (pa_cons pe_int (pa_cons pe_int pa_nil)))) pa_nil))) pa_nil))))
      (pss_one (ps_ret (pe_and (pe_cmpR op_eq (pe_callB call_len_seq (by rfl) T.z_len boot_len (pa_cons (pe_call (ok_pds T) (hr.mono (by decide)) (by rfl) T.m_pure_degrees T.F_pure_degrees.kp T.b_pure_degrees .nil pass0 (pa_cons pe_int (pa_cons pe_int pa_nil))) pa_nil)) pe_int (nomark _))
        (pe_one (pe_cmpR (op_eqD hr.units) (pv 5) (pe_lst (pa_cons pe_bl (pa_cons pe_bl pa_nil))) (nomark _))))))), ?_⟩
    have hm1 : ∀ m : Int, (if (if ((ns.map V.int).length : Int) < 3 then ((ns.map V.int).length : Int) else 3) > 1 then (if ((ns.map V.int).length : Int) < 3 then ((ns.map V.int).length : Int) else 3) else 1) = m → 1 ≤ m ∧ m ≤ 3 := fun m e => by
      rw [← e]
      split <;> split <;> omega
    refine ⟨_, rfl, a, _, rfl, .inl hS, _, _, rfl, _, _, rfl, _, rfl, ?_⟩
    have hb := hm1 _ rfl
    refine ⟨Int.le_trans (by decide) hb.1, Int.lt_of_le_of_lt hb.2 (by decide), ?_⟩
    refine for_range (lo := 0) (n := _) (fun i σ H' => ∃ v1 v2 v3 v4 : Option V, σ = [some (.ref a), v1, v2, v3, v4, none] ∧ Same H H') ⟨none, none, none, none, rfl, Same.refl H⟩ ?_ ?_
    · rintro i σ H1 hi ⟨v1, v2, v3, v4, rfl, s1⟩
      have hi3 : i < 1000 := by
        have := hb.2
        omega
      refine ⟨_, rfl, _, rfl, a, ns, i, by rw [Int.zero_add]; rfl, s1.seq hS, hi3, fun H2 z g x c s2 hz hz2 => ?_⟩
      have hzn : H z = none := Same.free s1 hz
      refine ⟨_, rfl, z, rfl, ⟨g, x, c, hz2⟩, fun H3 b3 hz3 => ⟨true, rfl, iteF ?_⟩⟩
      refine ⟨_, rfl, z, rfl, hz3, fun H4 b4 hz4 => ⟨true, rfl, iteF ?_⟩⟩
      obtain ⟨g4, x4, c4, hp4⟩ := hz4
      refine ⟨_, rfl, z, _, g4, x4, c4, rfl, hp4, by decide, by decide, fun g5 x5 c5 r1 h10 h11 => ?_⟩
      obtain ⟨l, rfl⟩ := nat_of h10
      refine ⟨_, rfl, z, _, g5, x5, c5, rfl, upd_same, by decide, by decide, fun g6 x6 c6 r2 h20 h21 => ?_⟩
      obtain ⟨m, rfl⟩ := nat_of h20
      have b6 : Bar z H4 (upd (upd H4 z (pailO g5 x5 c5)) z (pailO g6 x6 c6)) := Bar.upd.trans Bar.upd
      have S6 : Same H (upd (upd H4 z (pailO g5 x5 c5)) z (pailO g6 x6 c6)) := bar_back (s1.trans s2) (b3.trans (b4.trans b6)) hzn
      generalize (upd (upd H4 z (pailO g5 x5 c5)) z (pailO g6 x6 c6)) = H6 at S6 ⊢
      refine ⟨_, _, rfl, ?_⟩
      refine ⟨_, rfl, _, rfl, l, m, rfl, by omega, by omega, fun H7 z7 rs M s7 hz7 hM => ?_⟩
      refine ⟨_, rfl, _, rfl, l, m, rfl, by omega, by omega, fun H8 z8 qs N s8 hz8 hN => ?_⟩
      have e : M = N := sorted_is (H := H8) (pd_bd (m + 1) (by omega) (l + 1) (by omega)) ⟨hM.1.same s8, hM.2⟩ hN
      subst e
      refine ⟨_, _, .tup (same_sqt s8 hz7) (dp_tupsI (hM.1.same s8)), .tup hz8 (dp_tupsI hN.1), shaped_tupsIT _, shaped_tupsIT _, _, rfl, ?_⟩
      rw [eqv_tupsIT]
      exact iteF ⟨_, _, _, _, rfl, S6.trans (s7.trans s8)⟩
    · rintro σ H1 ⟨v1, v2, v3, v4, rfl, s1⟩
      refine ⟨by show 3 ≤ sizeLine; decide, fun q0 qk0 => ⟨by show 2 ≤ sizeLine; decide, fun q1 qk1 => ?_⟩⟩
      have t0 := same_new qk0 (.tup [V.int 0, V.int 2, V.int 3])
      have t1 := same_new qk1 (.tup [V.int 0, V.int 2])
      refine ⟨.ref q0, _, q1, [0, 2], rfl, va_iv (t := [0, 2, 3]) (SqT.of (t1 _ _ upd_same)) (by decide), SqT.of upd_same, pure_b, fun H2 s2 => ?_⟩
      refine ⟨by show 2 ≤ sizeLine; decide, fun q2 qk2 => ⟨by show 3 ≤ sizeLine; decide, fun q3 qk3 => ?_⟩⟩
      have t2 := same_new qk2 (.tup [V.int 0, V.int 2])
      have t3 := same_new qk3 (.tup [V.int 0, V.int 2, V.int 3])
      refine ⟨.ref q2, _, q3, [0, 2, 3], rfl, va_iv (t := [0, 2]) (SqT.of (t3 _ _ upd_same)) (by decide), SqT.of upd_same, pure_a, fun H3 s3 => ?_⟩
      refine ⟨by show 2 ≤ sizeLine; decide, fun o ho => ?_⟩
      refine ⟨3, 5, rfl, by decide, by decide, fun H4 z4 rs M s4 hz4 hM => ?_⟩
      have hl : rs.length = 56 := by
        have e1 : rs.length = M.length := hM.1.length
        rw [e1, hM.2.1.length_eq]
        exact pd_56
      refine ⟨z4, _, rfl, .inr hz4, rfl, _, rfl, ?_⟩
      rw [List.length_map, hl]
      refine iteT ⟨_, rfl, by show 2 ≤ sizeLine; decide, fun o2 ho2 => ?_⟩
      have t6 := same_new ho2 (.lst [V.bl true, V.bl false])
      refine ⟨.list [.bool true, .bool false], .list [.bool true, .bool false], .lst (SqL.of (t6 _ _ (s4 _ _ upd_same))) (.cons (.bl _) (.cons (.bl _) .nil)), .lst (SqL.of upd_same) (.cons (.bl _) (.cons (.bl _) .nil)), by decide +kernel, by decide +kernel, ?_⟩
      rw [show PyData.eqv (.list [.bool true, .bool false]) (.list [.bool true, .bool false]) = true by decide +kernel]
      exact q _
end
end K61

namespace K61
open PySem PySem.Spec PyProof.Rows L2 RZ L5 Gv
/-! ### the end -/
theorem all_mk {l : PySem.W.OpenLaw} {w : World} {K : PySem.W.Frag} {h : Heap} {mg : Str → Option Value} {fa : Addr} (X : K.In h) (G : h.Ns mainGlobals mg) (hfa : mg "law" = some (.ref fa))
    {od_is_number an_is_number : Option Addr} {sl_is_number : Array (Option Value)} {oc_is_number kV_is_number dc_is_number pm_is_number cd_is_number ct_is_number : Value} {f_is_number : Addr}
    (a_is_number : PySem.W.nsIn K mainGlobals "is_number" = some (some (.ref f_is_number))) (l_is_number : K.lookup f_is_number = some ⟨oc_is_number, od_is_number, .func (PySem.W.fnOf "is_number" "is_number" (defArgs s_is_number) (defBody s_is_number) (defScope s_is_number) .none kV_is_number dc_is_number pm_is_number an_is_number cd_is_number ct_is_number), sl_is_number⟩) (c_is_number : PySem.W.codeIn K cd_is_number "is_number" = true) (k_is_number : PySem.W.keepIn K (.ref f_is_number) = true)
    {od_is_within an_is_within : Option Addr} {sl_is_within : Array (Option Value)} {oc_is_within kV_is_within dc_is_within pm_is_within cd_is_within ct_is_within : Value} {f_is_within : Addr}
    (a_is_within : PySem.W.nsIn K mainGlobals "is_within" = some (some (.ref f_is_within))) (l_is_within : K.lookup f_is_within = some ⟨oc_is_within, od_is_within, .func (PySem.W.fnOf "is_within" "is_within" (defArgs s_is_within) (defBody s_is_within) (defScope s_is_within) .none kV_is_within dc_is_within pm_is_within an_is_within cd_is_within ct_is_within), sl_is_within⟩) (c_is_within : PySem.W.codeIn K cd_is_within "is_within" = true) (k_is_within : PySem.W.keepIn K (.ref f_is_within) = true)
    {od_check_within an_check_within : Option Addr} {sl_check_within : Array (Option Value)} {oc_check_within kV_check_within dc_check_within pm_check_within cd_check_within ct_check_within : Value} {f_check_within : Addr}
    (a_check_within : PySem.W.nsIn K mainGlobals "check_within" = some (some (.ref f_check_within))) (l_check_within : K.lookup f_check_within = some ⟨oc_check_within, od_check_within, .func (PySem.W.fnOf "check_within" "check_within" (defArgs s_check_within) (defBody s_check_within) (defScope s_check_within) .none kV_check_within dc_check_within pm_check_within an_check_within cd_check_within ct_check_within), sl_check_within⟩) (c_check_within : PySem.W.codeIn K cd_check_within "check_within" = true) (k_check_within : PySem.W.keepIn K (.ref f_check_within) = true)
    {od_is_set an_is_set : Option Addr} {sl_is_set : Array (Option Value)} {oc_is_set kV_is_set dc_is_set pm_is_set cd_is_set ct_is_set : Value} {f_is_set : Addr}
    (a_is_set : PySem.W.nsIn K mainGlobals "is_set" = some (some (.ref f_is_set))) (l_is_set : K.lookup f_is_set = some ⟨oc_is_set, od_is_set, .func (PySem.W.fnOf "is_set" "is_set" (defArgs s_is_set) (defBody s_is_set) (defScope s_is_set) .none kV_is_set dc_is_set pm_is_set an_is_set cd_is_set ct_is_set), sl_is_set⟩) (c_is_set : PySem.W.codeIn K cd_is_set "is_set" = true) (k_is_set : PySem.W.keepIn K (.ref f_is_set) = true)
    {od_is_pure an_is_pure : Option Addr} {sl_is_pure : Array (Option Value)} {oc_is_pure kV_is_pure dc_is_pure pm_is_pure cd_is_pure ct_is_pure : Value} {f_is_pure : Addr}
    (a_is_pure : PySem.W.nsIn K mainGlobals "is_pure" = some (some (.ref f_is_pure))) (l_is_pure : K.lookup f_is_pure = some ⟨oc_is_pure, od_is_pure, .func (PySem.W.fnOf "is_pure" "is_pure" (defArgs s_is_pure) (defBody s_is_pure) (defScope s_is_pure) .none kV_is_pure dc_is_pure pm_is_pure an_is_pure cd_is_pure ct_is_pure), sl_is_pure⟩) (c_is_pure : PySem.W.codeIn K cd_is_pure "is_pure" = true) (k_is_pure : PySem.W.keepIn K (.ref f_is_pure) = true)
    {od_check_degrees an_check_degrees : Option Addr} {sl_check_degrees : Array (Option Value)} {oc_check_degrees kV_check_degrees dc_check_degrees pm_check_degrees cd_check_degrees ct_check_degrees : Value} {f_check_degrees : Addr}
    (a_check_degrees : PySem.W.nsIn K mainGlobals "check_degrees" = some (some (.ref f_check_degrees))) (l_check_degrees : K.lookup f_check_degrees = some ⟨oc_check_degrees, od_check_degrees, .func (PySem.W.fnOf "check_degrees" "check_degrees" (defArgs s_check_degrees) (defBody s_check_degrees) (defScope s_check_degrees) .none kV_check_degrees dc_check_degrees pm_check_degrees an_check_degrees cd_check_degrees ct_check_degrees), sl_check_degrees⟩) (c_check_degrees : PySem.W.codeIn K cd_check_degrees "check_degrees" = true) (k_check_degrees : PySem.W.keepIn K (.ref f_check_degrees) = true)
    {od_is_below an_is_below : Option Addr} {sl_is_below : Array (Option Value)} {oc_is_below kV_is_below dc_is_below pm_is_below cd_is_below ct_is_below : Value} {f_is_below : Addr}
    (a_is_below : PySem.W.nsIn K mainGlobals "is_below" = some (some (.ref f_is_below))) (l_is_below : K.lookup f_is_below = some ⟨oc_is_below, od_is_below, .func (PySem.W.fnOf "is_below" "is_below" (defArgs s_is_below) (defBody s_is_below) (defScope s_is_below) .none kV_is_below dc_is_below pm_is_below an_is_below cd_is_below ct_is_below), sl_is_below⟩) (c_is_below : PySem.W.codeIn K cd_is_below "is_below" = true) (k_is_below : PySem.W.keepIn K (.ref f_is_below) = true)
    {od_stands_below an_stands_below : Option Addr} {sl_stands_below : Array (Option Value)} {oc_stands_below kV_stands_below dc_stands_below pm_stands_below cd_stands_below ct_stands_below : Value} {f_stands_below : Addr}
    (a_stands_below : PySem.W.nsIn K mainGlobals "stands_below" = some (some (.ref f_stands_below))) (l_stands_below : K.lookup f_stands_below = some ⟨oc_stands_below, od_stands_below, .func (PySem.W.fnOf "stands_below" "stands_below" (defArgs s_stands_below) (defBody s_stands_below) (defScope s_stands_below) .none kV_stands_below dc_stands_below pm_stands_below an_stands_below cd_stands_below ct_stands_below), sl_stands_below⟩) (c_stands_below : PySem.W.codeIn K cd_stands_below "stands_below" = true) (k_stands_below : PySem.W.keepIn K (.ref f_stands_below) = true)
    {od_check_window an_check_window : Option Addr} {sl_check_window : Array (Option Value)} {oc_check_window kV_check_window dc_check_window pm_check_window cd_check_window ct_check_window : Value} {f_check_window : Addr}
    (a_check_window : PySem.W.nsIn K mainGlobals "check_window" = some (some (.ref f_check_window))) (l_check_window : K.lookup f_check_window = some ⟨oc_check_window, od_check_window, .func (PySem.W.fnOf "check_window" "check_window" (defArgs s_check_window) (defBody s_check_window) (defScope s_check_window) .none kV_check_window dc_check_window pm_check_window an_check_window cd_check_window ct_check_window), sl_check_window⟩) (c_check_window : PySem.W.codeIn K cd_check_window "check_window" = true) (k_check_window : PySem.W.keepIn K (.ref f_check_window) = true)
    {od_pure_degrees an_pure_degrees : Option Addr} {sl_pure_degrees : Array (Option Value)} {oc_pure_degrees kV_pure_degrees dc_pure_degrees pm_pure_degrees cd_pure_degrees ct_pure_degrees : Value} {f_pure_degrees : Addr}
    (a_pure_degrees : PySem.W.nsIn K mainGlobals "pure_degrees" = some (some (.ref f_pure_degrees))) (l_pure_degrees : K.lookup f_pure_degrees = some ⟨oc_pure_degrees, od_pure_degrees, .func (PySem.W.fnOf "pure_degrees" "pure_degrees" (defArgs s_pure_degrees) (defBody s_pure_degrees) (defScope s_pure_degrees) .none kV_pure_degrees dc_pure_degrees pm_pure_degrees an_pure_degrees cd_pure_degrees ct_pure_degrees), sl_pure_degrees⟩) (c_pure_degrees : PySem.W.codeIn K cd_pure_degrees "pure_degrees" = true) (k_pure_degrees : PySem.W.keepIn K (.ref f_pure_degrees) = true)
    {od_is_behind an_is_behind : Option Addr} {sl_is_behind : Array (Option Value)} {oc_is_behind kV_is_behind dc_is_behind pm_is_behind cd_is_behind ct_is_behind : Value} {f_is_behind : Addr}
    (a_is_behind : PySem.W.nsIn K mainGlobals "is_behind" = some (some (.ref f_is_behind))) (l_is_behind : K.lookup f_is_behind = some ⟨oc_is_behind, od_is_behind, .func (PySem.W.fnOf "is_behind" "is_behind" (defArgs s_is_behind) (defBody s_is_behind) (defScope s_is_behind) .none kV_is_behind dc_is_behind pm_is_behind an_is_behind cd_is_behind ct_is_behind), sl_is_behind⟩) (c_is_behind : PySem.W.codeIn K cd_is_behind "is_behind" = true) (k_is_behind : PySem.W.keepIn K (.ref f_is_behind) = true)
    {od_w_bowl an_w_bowl : Option Addr} {sl_w_bowl : Array (Option Value)} {oc_w_bowl kV_w_bowl dc_w_bowl pm_w_bowl cd_w_bowl ct_w_bowl : Value} {f_w_bowl : Addr}
    (a_w_bowl : PySem.W.nsIn K mainGlobals "_law_bowl" = some (some (.ref f_w_bowl))) (l_w_bowl : K.lookup f_w_bowl = some ⟨oc_w_bowl, od_w_bowl, .func (PySem.W.fnOf "_law_bowl" "_law_bowl" (defArgs s_w_bowl) (defBody s_w_bowl) (defScope s_w_bowl) .none kV_w_bowl dc_w_bowl pm_w_bowl an_w_bowl cd_w_bowl ct_w_bowl), sl_w_bowl⟩) (c_w_bowl : PySem.W.codeIn K cd_w_bowl "_law_bowl" = true) (k_w_bowl : PySem.W.keepIn K (.ref f_w_bowl) = true)
    {od_w_dip an_w_dip : Option Addr} {sl_w_dip : Array (Option Value)} {oc_w_dip kV_w_dip dc_w_dip pm_w_dip cd_w_dip ct_w_dip : Value} {f_w_dip : Addr}
    (a_w_dip : PySem.W.nsIn K mainGlobals "_law_dip" = some (some (.ref f_w_dip))) (l_w_dip : K.lookup f_w_dip = some ⟨oc_w_dip, od_w_dip, .func (PySem.W.fnOf "_law_dip" "_law_dip" (defArgs s_w_dip) (defBody s_w_dip) (defScope s_w_dip) .none kV_w_dip dc_w_dip pm_w_dip an_w_dip cd_w_dip ct_w_dip), sl_w_dip⟩) (c_w_dip : PySem.W.codeIn K cd_w_dip "_law_dip" = true) (k_w_dip : PySem.W.keepIn K (.ref f_w_dip) = true)
    {od_w_pick an_w_pick : Option Addr} {sl_w_pick : Array (Option Value)} {oc_w_pick kV_w_pick dc_w_pick pm_w_pick cd_w_pick ct_w_pick : Value} {f_w_pick : Addr}
    (a_w_pick : PySem.W.nsIn K mainGlobals "_law_pick" = some (some (.ref f_w_pick))) (l_w_pick : K.lookup f_w_pick = some ⟨oc_w_pick, od_w_pick, .func (PySem.W.fnOf "_law_pick" "_law_pick" (defArgs s_w_pick) (defBody s_w_pick) (defScope s_w_pick) .none kV_w_pick dc_w_pick pm_w_pick an_w_pick cd_w_pick ct_w_pick), sl_w_pick⟩) (c_w_pick : PySem.W.codeIn K cd_w_pick "_law_pick" = true) (k_w_pick : PySem.W.keepIn K (.ref f_w_pick) = true)
    {od_w_is_below an_w_is_below : Option Addr} {sl_w_is_below : Array (Option Value)} {oc_w_is_below kV_w_is_below dc_w_is_below pm_w_is_below cd_w_is_below ct_w_is_below : Value} {f_w_is_below : Addr}
    (a_w_is_below : PySem.W.nsIn K mainGlobals "_law_is_below" = some (some (.ref f_w_is_below))) (l_w_is_below : K.lookup f_w_is_below = some ⟨oc_w_is_below, od_w_is_below, .func (PySem.W.fnOf "_law_is_below" "_law_is_below" (defArgs s_w_is_below) (defBody s_w_is_below) (defScope s_w_is_below) .none kV_w_is_below dc_w_is_below pm_w_is_below an_w_is_below cd_w_is_below ct_w_is_below), sl_w_is_below⟩) (c_w_is_below : PySem.W.codeIn K cd_w_is_below "_law_is_below" = true) (k_w_is_below : PySem.W.keepIn K (.ref f_w_is_below) = true)
    {od_w_degrees an_w_degrees : Option Addr} {sl_w_degrees : Array (Option Value)} {oc_w_degrees kV_w_degrees dc_w_degrees pm_w_degrees cd_w_degrees ct_w_degrees : Value} {f_w_degrees : Addr}
    (a_w_degrees : PySem.W.nsIn K mainGlobals "_law_degrees" = some (some (.ref f_w_degrees))) (l_w_degrees : K.lookup f_w_degrees = some ⟨oc_w_degrees, od_w_degrees, .func (PySem.W.fnOf "_law_degrees" "_law_degrees" (defArgs s_w_degrees) (defBody s_w_degrees) (defScope s_w_degrees) .none kV_w_degrees dc_w_degrees pm_w_degrees an_w_degrees cd_w_degrees ct_w_degrees), sl_w_degrees⟩) (c_w_degrees : PySem.W.codeIn K cd_w_degrees "_law_degrees" = true) (k_w_degrees : PySem.W.keepIn K (.ref f_w_degrees) = true)
    {od_w_raised an_w_raised : Option Addr} {sl_w_raised : Array (Option Value)} {oc_w_raised kV_w_raised dc_w_raised pm_w_raised cd_w_raised ct_w_raised : Value} {f_w_raised : Addr}
    (a_w_raised : PySem.W.nsIn K mainGlobals "_law_raised" = some (some (.ref f_w_raised))) (l_w_raised : K.lookup f_w_raised = some ⟨oc_w_raised, od_w_raised, .func (PySem.W.fnOf "_law_raised" "_law_raised" (defArgs s_w_raised) (defBody s_w_raised) (defScope s_w_raised) .none kV_w_raised dc_w_raised pm_w_raised an_w_raised cd_w_raised ct_w_raised), sl_w_raised⟩) (c_w_raised : PySem.W.codeIn K cd_w_raised "_law_raised" = true) (k_w_raised : PySem.W.keepIn K (.ref f_w_raised) = true)
    {od_w_is_pure an_w_is_pure : Option Addr} {sl_w_is_pure : Array (Option Value)} {oc_w_is_pure kV_w_is_pure dc_w_is_pure pm_w_is_pure cd_w_is_pure ct_w_is_pure : Value} {f_w_is_pure : Addr}
    (a_w_is_pure : PySem.W.nsIn K mainGlobals "_law_is_pure" = some (some (.ref f_w_is_pure))) (l_w_is_pure : K.lookup f_w_is_pure = some ⟨oc_w_is_pure, od_w_is_pure, .func (PySem.W.fnOf "_law_is_pure" "_law_is_pure" (defArgs s_w_is_pure) (defBody s_w_is_pure) (defScope s_w_is_pure) .none kV_w_is_pure dc_w_is_pure pm_w_is_pure an_w_is_pure cd_w_is_pure ct_w_is_pure), sl_w_is_pure⟩) (c_w_is_pure : PySem.W.codeIn K cd_w_is_pure "_law_is_pure" = true) (k_w_is_pure : PySem.W.keepIn K (.ref f_w_is_pure) = true)
    {od_w_near an_w_near : Option Addr} {sl_w_near : Array (Option Value)} {oc_w_near kV_w_near dc_w_near pm_w_near cd_w_near ct_w_near : Value} {f_w_near : Addr}
    (a_w_near : PySem.W.nsIn K mainGlobals "_law_near" = some (some (.ref f_w_near))) (l_w_near : K.lookup f_w_near = some ⟨oc_w_near, od_w_near, .func (PySem.W.fnOf "_law_near" "_law_near" (defArgs s_w_near) (defBody s_w_near) (defScope s_w_near) .none kV_w_near dc_w_near pm_w_near an_w_near cd_w_near ct_w_near), sl_w_near⟩) (c_w_near : PySem.W.codeIn K cd_w_near "_law_near" = true) (k_w_near : PySem.W.keepIn K (.ref f_w_near) = true)
    {od_w_right an_w_right : Option Addr} {sl_w_right : Array (Option Value)} {oc_w_right kV_w_right dc_w_right pm_w_right cd_w_right ct_w_right : Value} {f_w_right : Addr}
    (a_w_right : PySem.W.nsIn K mainGlobals "_law_right" = some (some (.ref f_w_right))) (l_w_right : K.lookup f_w_right = some ⟨oc_w_right, od_w_right, .func (PySem.W.fnOf "_law_right" "_law_right" (defArgs s_w_right) (defBody s_w_right) (defScope s_w_right) .none kV_w_right dc_w_right pm_w_right an_w_right cd_w_right ct_w_right), sl_w_right⟩) (c_w_right : PySem.W.codeIn K cd_w_right "_law_right" = true) (k_w_right : PySem.W.keepIn K (.ref f_w_right) = true)
    {od_w_window an_w_window : Option Addr} {sl_w_window : Array (Option Value)} {oc_w_window kV_w_window dc_w_window pm_w_window cd_w_window ct_w_window : Value} {f_w_window : Addr}
    (a_w_window : PySem.W.nsIn K mainGlobals "_law_window" = some (some (.ref f_w_window))) (l_w_window : K.lookup f_w_window = some ⟨oc_w_window, od_w_window, .func (PySem.W.fnOf "_law_window" "_law_window" (defArgs s_w_window) (defBody s_w_window) (defScope s_w_window) .none kV_w_window dc_w_window pm_w_window an_w_window cd_w_window ct_w_window), sl_w_window⟩) (c_w_window : PySem.W.codeIn K cd_w_window "_law_window" = true) (k_w_window : PySem.W.keepIn K (.ref f_w_window) = true)
    {od_law an_law : Option Addr} {sl_law : Array (Option Value)} {oc_law kV_law dc_law pm_law cd_law ct_law : Value} {f_law : Addr}
    (a_law : PySem.W.nsIn K mainGlobals "law" = some (some (.ref f_law))) (l_law : K.lookup f_law = some ⟨oc_law, od_law, .func (PySem.W.fnOf "law" "law" (defArgs s_law) (defBody s_law) (defScope s_law) .none kV_law dc_law pm_law an_law cd_law ct_law), sl_law⟩) (c_law : PySem.W.codeIn K cd_law "law" = true) (k_law : PySem.W.keepIn K (.ref f_law) = true)
    (z_isinstance : PySem.W.nsIn K mainGlobals "isinstance" = some none)
    (z_int : PySem.W.nsIn K mainGlobals "int" = some none)
    (z_bool : PySem.W.nsIn K mainGlobals "bool" = some none)
    (z_tuple : PySem.W.nsIn K mainGlobals "tuple" = some none)
    (z_all : PySem.W.nsIn K mainGlobals "all" = some none)
    (z_zip : PySem.W.nsIn K mainGlobals "zip" = some none)
    (z_len : PySem.W.nsIn K mainGlobals "len" = some none)
    (z_range : PySem.W.nsIn K mainGlobals "range" = some none)
    (z_sorted : PySem.W.nsIn K mainGlobals "sorted" = some none)
    (z_abs : PySem.W.nsIn K mainGlobals "abs" = some none)
    (z_max : PySem.W.nsIn K mainGlobals "max" = some none)
    (z_list : PySem.W.nsIn K mainGlobals "list" = some none)
    (z_min : PySem.W.nsIn K mainGlobals "min" = some none)
    {t_MAX_STEP : Nat} (g_MAX_STEP : PySem.W.nsIn K mainGlobals "MAX_STEP" = some (some (.int 8 t_MAX_STEP)))
    {t_MAX_PLACE : Nat} (g_MAX_PLACE : PySem.W.nsIn K mainGlobals "MAX_PLACE" = some (some (.int 480 t_MAX_PLACE)))
    {t_MOST_LAST : Nat} (g_MOST_LAST : PySem.W.nsIn K mainGlobals "MOST_LAST" = some (some (.int 3 t_MOST_LAST)))
    {t_MOST_DEGREE : Nat} (g_MOST_DEGREE : PySem.W.nsIn K mainGlobals "MOST_DEGREE" = some (some (.int 5 t_MOST_DEGREE)))
    : ∃ fd : FuncData, (∀ (s : Shared) (v : Value), BindsTo s fd ⟨[v], []⟩ [("_law_script", v)]) ∧ ∀ base : Heap, K.In base → base.Ns mainGlobals mg → FnOk l.prog w K mg base CX0 8 fa fd ["_law_script"] (sp_law K) := by
  have e := hfa.symm.trans (PySem.W.mg_of X G a_law)
  cases e
  have F_is_number := fun_mk (st := s_is_number) l_is_number c_is_number k_is_number
  have b_is_number := F_is_number.binds (ps := ["value"]) fun _ _ _ _ _ _ us hl => match us, hl with | [_], _ => rfl
  have F_is_within := fun_mk (st := s_is_within) l_is_within c_is_within k_is_within
  have b_is_within := F_is_within.binds (ps := ["value", "least", "most"]) fun _ _ _ _ _ _ us hl => match us, hl with | [_, _, _], _ => rfl
  have F_check_within := fun_mk (st := s_check_within) l_check_within c_check_within k_check_within
  have b_check_within := F_check_within.binds (ps := ["value", "least", "most"]) fun _ _ _ _ _ _ us hl => match us, hl with | [_, _, _], _ => rfl
  have F_is_set := fun_mk (st := s_is_set) l_is_set c_is_set k_is_set
  have b_is_set := F_is_set.binds (ps := ["value", "many"]) fun _ _ _ _ _ _ us hl => match us, hl with | [_, _], _ => rfl
  have F_is_pure := fun_mk (st := s_is_pure) l_is_pure c_is_pure k_is_pure
  have b_is_pure := F_is_pure.binds (ps := ["value"]) fun _ _ _ _ _ _ us hl => match us, hl with | [_], _ => rfl
  have F_check_degrees := fun_mk (st := s_check_degrees) l_check_degrees c_check_degrees k_check_degrees
  have b_check_degrees := F_check_degrees.binds (ps := ["value"]) fun _ _ _ _ _ _ us hl => match us, hl with | [_], _ => rfl
  have F_is_below := fun_mk (st := s_is_below) l_is_below c_is_below k_is_below
  have b_is_below := F_is_below.binds (ps := ["value", "other"]) fun _ _ _ _ _ _ us hl => match us, hl with | [_, _], _ => rfl
  have F_stands_below := fun_mk (st := s_stands_below) l_stands_below c_stands_below k_stands_below
  have b_stands_below := F_stands_below.binds (ps := ["one", "other"]) fun _ _ _ _ _ _ us hl => match us, hl with | [_, _], _ => rfl
  have F_check_window := fun_mk (st := s_check_window) l_check_window c_check_window k_check_window
  have b_check_window := F_check_window.binds (ps := ["last", "most"]) fun _ _ _ _ _ _ us hl => match us, hl with | [_, _], _ => rfl
  have F_pure_degrees := fun_mk (st := s_pure_degrees) l_pure_degrees c_pure_degrees k_pure_degrees
  have b_pure_degrees := F_pure_degrees.binds (ps := ["last", "most"]) fun _ _ _ _ _ _ us hl => match us, hl with | [_, _], _ => rfl
  have F_is_behind := fun_mk (st := s_is_behind) l_is_behind c_is_behind k_is_behind
  have b_is_behind := F_is_behind.binds (ps := ["degree", "chosen"]) fun _ _ _ _ _ _ us hl => match us, hl with | [_, _], _ => rfl
  have F_w_bowl := fun_mk (st := s_w_bowl) l_w_bowl c_w_bowl k_w_bowl
  have b_w_bowl := F_w_bowl.binds (ps := ["_law_script", "_law_spot"]) fun _ _ _ _ _ _ us hl => match us, hl with | [_, _], _ => rfl
  have F_w_dip := fun_mk (st := s_w_dip) l_w_dip c_w_dip k_w_dip
  have b_w_dip := F_w_dip.binds (ps := ["_law_bowl_here", "_law_total"]) fun _ _ _ _ _ _ us hl => match us, hl with | [_, _], _ => rfl
  have F_w_pick := fun_mk (st := s_w_pick) l_w_pick c_w_pick k_w_pick
  have b_w_pick := F_w_pick.binds (ps := ["_law_bowl_here", "_law_items"]) fun _ _ _ _ _ _ us hl => match us, hl with | [_, _], _ => rfl
  have F_w_is_below := fun_mk (st := s_w_is_below) l_w_is_below c_w_is_below k_w_is_below
  have b_w_is_below := F_w_is_below.binds (ps := ["_law_one", "_law_other"]) fun _ _ _ _ _ _ us hl => match us, hl with | [_, _], _ => rfl
  have F_w_degrees := fun_mk (st := s_w_degrees) l_w_degrees c_w_degrees k_w_degrees
  have b_w_degrees := F_w_degrees.binds (ps := ["_law_bowl_here", "_law_size", "_law_most"]) fun _ _ _ _ _ _ us hl => match us, hl with | [_, _, _], _ => rfl
  have F_w_raised := fun_mk (st := s_w_raised) l_w_raised c_w_raised k_w_raised
  have b_w_raised := F_w_raised.binds (ps := ["_law_bowl_here", "_law_degrees_here"]) fun _ _ _ _ _ _ us hl => match us, hl with | [_, _], _ => rfl
  have F_w_is_pure := fun_mk (st := s_w_is_pure) l_w_is_pure c_w_is_pure k_w_is_pure
  have b_w_is_pure := F_w_is_pure.binds (ps := ["_law_value"]) fun _ _ _ _ _ _ us hl => match us, hl with | [_], _ => rfl
  have F_w_near := fun_mk (st := s_w_near) l_w_near c_w_near k_w_near
  have b_w_near := F_w_near.binds (ps := ["_law_bowl_here", "_law_degrees_here"]) fun _ _ _ _ _ _ us hl => match us, hl with | [_, _], _ => rfl
  have F_w_right := fun_mk (st := s_w_right) l_w_right c_w_right k_w_right
  have b_w_right := F_w_right.binds (ps := ["_law_bowl_here"]) fun _ _ _ _ _ _ us hl => match us, hl with | [_], _ => rfl
  have F_w_window := fun_mk (st := s_w_window) l_w_window c_w_window k_w_window
  have b_w_window := F_w_window.binds (ps := ["_law_last", "_law_most"]) fun _ _ _ _ _ _ us hl => match us, hl with | [_, _], _ => rfl
  have F_law := fun_mk (st := s_law) l_law c_law k_law
  have b_law := F_law.binds (ps := ["_law_script"]) fun _ _ _ _ _ _ us hl => match us, hl with | [_], _ => rfl
  let T : Txt K mg := ⟨_, _, F_is_number, b_is_number, PySem.W.mg_of X G a_is_number, _, _, F_is_within, b_is_within, PySem.W.mg_of X G a_is_within, _, _, F_check_within, b_check_within, PySem.W.mg_of X G a_check_within, _, _, F_is_set, b_is_set, PySem.W.mg_of X G a_is_set, _, _, F_is_pure, b_is_pure, PySem.W.mg_of X G a_is_pure, _, _, F_check_degrees, b_check_degrees, PySem.W.mg_of X G a_check_degrees, _, _, F_is_below, b_is_below, PySem.W.mg_of X G a_is_below, _, _, F_stands_below, b_stands_below, PySem.W.mg_of X G a_stands_below, _, _, F_check_window, b_check_window, PySem.W.mg_of X G a_check_window, _, _, F_pure_degrees, b_pure_degrees, PySem.W.mg_of X G a_pure_degrees, _, _, F_is_behind, b_is_behind, PySem.W.mg_of X G a_is_behind, _, _, F_w_bowl, b_w_bowl, PySem.W.mg_of X G a_w_bowl, _, _, F_w_dip, b_w_dip, PySem.W.mg_of X G a_w_dip, _, _, F_w_pick, b_w_pick, PySem.W.mg_of X G a_w_pick, _, _, F_w_is_below, b_w_is_below, PySem.W.mg_of X G a_w_is_below, _, _, F_w_degrees, b_w_degrees, PySem.W.mg_of X G a_w_degrees, _, _, F_w_raised, b_w_raised, PySem.W.mg_of X G a_w_raised, _, _, F_w_is_pure, b_w_is_pure, PySem.W.mg_of X G a_w_is_pure, _, _, F_w_near, b_w_near, PySem.W.mg_of X G a_w_near, _, _, F_w_right, b_w_right, PySem.W.mg_of X G a_w_right, _, _, F_w_window, b_w_window, PySem.W.mg_of X G a_w_window, _, _, F_law, b_law, PySem.W.mg_of X G a_law, PySem.W.mg_none_of X G z_isinstance, PySem.W.mg_none_of X G z_int, PySem.W.mg_none_of X G z_bool, PySem.W.mg_none_of X G z_tuple, PySem.W.mg_none_of X G z_all, PySem.W.mg_none_of X G z_zip, PySem.W.mg_none_of X G z_len, PySem.W.mg_none_of X G z_range, PySem.W.mg_none_of X G z_sorted, PySem.W.mg_none_of X G z_abs, PySem.W.mg_none_of X G z_max, PySem.W.mg_none_of X G z_list, PySem.W.mg_none_of X G z_min, _, PySem.W.mg_of X G g_MAX_STEP, _, PySem.W.mg_of X G g_MAX_PLACE, _, PySem.W.mg_of X G g_MOST_LAST, _, PySem.W.mg_of X G g_MOST_DEGREE⟩
  exact ⟨_, fun s v => .of_eq rfl, fun base _ _ => ok_law T⟩
end K61
open PySem PySem.W PyProof.Rows
set_option maxRecDepth 100000 in
set_option maxHeartbeats 0 in
theorem PySem.Challenge.cw_pureladders_k61_whole_degrees_below_othe_holds : PySem.Challenge.rw_pureladders_k61_whole_degrees_below_othe.Holds := by
  w_on; o_law; k_head; (case hw => w_witness2)
  k_fill
  refine L2.walk_of (l := PySem.Challenge.rw_pureladders_k61_whole_degrees_below_othe) (n := 63) (k := 8) (x := "_law_script") (CX := fun _ => L2.CX0) (sp := fun w => K61.sp_law _) rfl (by decide) rfl ⟨rfl, by decide, by decide⟩ (fun w h Y => PySem.W.kIn_of Y) ?F (fun _ _ a ns hl _ hS => ⟨a, ns, rfl, hS, hl, fun _ => rfl⟩) (fun _ _ _ _ _ h => h)
  case F =>
    intro w mg fa h KX G hmg
    refine' K61.all_mk KX G hmg ?a_is_number ?l_is_number ?c_is_number ?k_is_number ?a_is_within ?l_is_within ?c_is_within ?k_is_within ?a_check_within ?l_check_within ?c_check_within ?k_check_within ?a_is_set ?l_is_set ?c_is_set ?k_is_set ?a_is_pure ?l_is_pure ?c_is_pure ?k_is_pure ?a_check_degrees ?l_check_degrees ?c_check_degrees ?k_check_degrees ?a_is_below ?l_is_below ?c_is_below ?k_is_below ?a_stands_below ?l_stands_below ?c_stands_below ?k_stands_below ?a_check_window ?l_check_window ?c_check_window ?k_check_window ?a_pure_degrees ?l_pure_degrees ?c_pure_degrees ?k_pure_degrees ?a_is_behind ?l_is_behind ?c_is_behind ?k_is_behind ?a_w_bowl ?l_w_bowl ?c_w_bowl ?k_w_bowl ?a_w_dip ?l_w_dip ?c_w_dip ?k_w_dip ?a_w_pick ?l_w_pick ?c_w_pick ?k_w_pick ?a_w_is_below ?l_w_is_below ?c_w_is_below ?k_w_is_below ?a_w_degrees ?l_w_degrees ?c_w_degrees ?k_w_degrees ?a_w_raised ?l_w_raised ?c_w_raised ?k_w_raised ?a_w_is_pure ?l_w_is_pure ?c_w_is_pure ?k_w_is_pure ?a_w_near ?l_w_near ?c_w_near ?k_w_near ?a_w_right ?l_w_right ?c_w_right ?k_w_right ?a_w_window ?l_w_window ?c_w_window ?k_w_window ?a_law ?l_law ?c_law ?k_law ?z_isinstance ?z_int ?z_bool ?z_tuple ?z_all ?z_zip ?z_len ?z_range ?z_sorted ?z_abs ?z_max ?z_list ?z_min ?g_MAX_STEP ?g_MAX_PLACE ?g_MOST_LAST ?g_MOST_DEGREE
    (case a_is_number => k_is)
    (case l_is_number => k_is)
    (case c_is_number => k_is)
    (case k_is_number => k_is)
    (case a_is_within => k_is)
    (case l_is_within => k_is)
    (case c_is_within => k_is)
    (case k_is_within => k_is)
    (case a_check_within => k_is)
    (case l_check_within => k_is)
    (case c_check_within => k_is)
    (case k_check_within => k_is)
    (case a_is_set => k_is)
    (case l_is_set => k_is)
    (case c_is_set => k_is)
    (case k_is_set => k_is)
    (case a_is_pure => k_is)
    (case l_is_pure => k_is)
    (case c_is_pure => k_is)
    (case k_is_pure => k_is)
    (case a_check_degrees => k_is)
    (case l_check_degrees => k_is)
    (case c_check_degrees => k_is)
    (case k_check_degrees => k_is)
    (case a_is_below => k_is)
    (case l_is_below => k_is)
    (case c_is_below => k_is)
    (case k_is_below => k_is)
    (case a_stands_below => k_is)
    (case l_stands_below => k_is)
    (case c_stands_below => k_is)
    (case k_stands_below => k_is)
    (case a_check_window => k_is)
    (case l_check_window => k_is)
    (case c_check_window => k_is)
    (case k_check_window => k_is)
    (case a_pure_degrees => k_is)
    (case l_pure_degrees => k_is)
    (case c_pure_degrees => k_is)
    (case k_pure_degrees => k_is)
    (case a_is_behind => k_is)
    (case l_is_behind => k_is)
    (case c_is_behind => k_is)
    (case k_is_behind => k_is)
    (case a_w_bowl => k_is)
    (case l_w_bowl => k_is)
    (case c_w_bowl => k_is)
    (case k_w_bowl => k_is)
    (case a_w_dip => k_is)
    (case l_w_dip => k_is)
    (case c_w_dip => k_is)
    (case k_w_dip => k_is)
    (case a_w_pick => k_is)
    (case l_w_pick => k_is)
    (case c_w_pick => k_is)
    (case k_w_pick => k_is)
    (case a_w_is_below => k_is)
    (case l_w_is_below => k_is)
    (case c_w_is_below => k_is)
    (case k_w_is_below => k_is)
    (case a_w_degrees => k_is)
    (case l_w_degrees => k_is)
    (case c_w_degrees => k_is)
    (case k_w_degrees => k_is)
    (case a_w_raised => k_is)
    (case l_w_raised => k_is)
    (case c_w_raised => k_is)
    (case k_w_raised => k_is)
    (case a_w_is_pure => k_is)
    (case l_w_is_pure => k_is)
    (case c_w_is_pure => k_is)
    (case k_w_is_pure => k_is)
    (case a_w_near => k_is)
    (case l_w_near => k_is)
    (case c_w_near => k_is)
    (case k_w_near => k_is)
    (case a_w_right => k_is)
    (case l_w_right => k_is)
    (case c_w_right => k_is)
    (case k_w_right => k_is)
    (case a_w_window => k_is)
    (case l_w_window => k_is)
    (case c_w_window => k_is)
    (case k_w_window => k_is)
    (case a_law => k_is)
    (case l_law => k_is)
    (case c_law => k_is)
    (case k_law => k_is)
    (case z_isinstance => k_is)
    (case z_int => k_is)
    (case z_bool => k_is)
    (case z_tuple => k_is)
    (case z_all => k_is)
    (case z_zip => k_is)
    (case z_len => k_is)
    (case z_range => k_is)
    (case z_sorted => k_is)
    (case z_abs => k_is)
    (case z_max => k_is)
    (case z_list => k_is)
    (case z_min => k_is)
    (case g_MAX_STEP => k_is)
    (case g_MAX_PLACE => k_is)
    (case g_MOST_LAST => k_is)
    (case g_MOST_DEGREE => k_is)
