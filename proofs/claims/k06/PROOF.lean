import PyProof.Rows.All
import Wide.All
import OpenK.AllK
import Wide.FinOn
import HandS.Base
import HandS.Call
import HandS.List
import HandS.Comp
import HandS.Ends
import HandS.Iter
import HandS.Words
import HandS.WordsList
import HandS.TupMul
import HandS.TupAny
import HandS.IsInst
import HandS.Zip
import HandS.Style
import HandS.Wide
import HandS.GenList
import KE.KTupSum
import KE.KEqSeq
import HandS.TupSets
import PyProof.WalksMore
import HandS.Property
import KE.KOpsOwn
import HandS.OwnEq
import HandS.WordsExc
import KE.KCallOwn
import OpenK.KOps
import OpenK.KMeth
import HandS.IterVal
import KE.KOwnIter
import KE.GoesMore
import HandS.Small
import PyProof.Rows.TupMore
import HandS.OwnIter
import KE.KRevSl
import PyProof.Conv_bool
import KE.KTupTruth
import HandS.Defaults
import HandS.FStr
import HandS.Text
import HandS.Flow
import HandS.RaiseMore
import HandS.Deep
import PySem.Challenge.RW_pureladders_k06_whole_lots_by_their_leas
set_option Elab.async false
set_option linter.all false
set_option maxRecDepth 100000
set_option maxHeartbeats 4000000
/-! rules that the layer lacks -/
namespace L5
open PySem PySem.Spec PyProof.Rows L2
/-! ### powers of great numbers -/
def CPowW (i j : Int) : Prop := 0 ≤ j ∧ (Builtin.Int.intBits i : Int) * j ≤ 2 ^ 27
theorem op_powW {X : Cx} : OpR X (binaryOp .Pow) (rI CPowW fun i j => .int (i ^ j.toNat)) := opI fun _ _ _ _ _ _ _ hc q => pow_int hc.1 hc.2 q
/-! ### sum and max of a tuple of ints -/
section
variable {pr : Program} {wd : World} {A : Around} {E : Value → Shared → Prop} {s : Shared} {tp : Addr} {us : List Value} {ms : List Int} {G : Value → Shared → Prop}
/-- a row of ints, as the library's walks want it -/
theorem items_of (hi : IntsAre us ms) : ∃ ws : Array (Int × Tok), us.toArray = intItems ws ∧ ws.toList.map (·.1) = ms := by
  obtain ⟨ws, ew⟩ := hi.allInts.items
  refine ⟨ws, ew, ?_⟩
  rw [← nums_intItems, ← ew]
  exact hi.numsOf
abbrev Stays (s : Shared) (h : Heap) : Prop := ∀ b o, s.heap.get? b = some o → h.get? b = some o
theorem sum_of_tuple (hh : A.handled = none) (ht : s.heap.IsTuple tp us.toArray) (hi : IntsAre us ms) (q : ∀ h n t, Stays s h → G (.int ms.sum t) { s with heap := h, toks := n }) :
    wpAny (model pr wd) A (call (.builtin "sum") [.ref tp]) G E s := by
  obtain ⟨ws, ew, en⟩ := items_of hi
  rw [ew] at ht
  refine PySem.W.ktm_sumG hh ht fun h n t kept => ?_
  have g := q h n t kept
  rw [← en] at g
  rw [preSum_eq, List.take_of_length_le (by rw [List.length_map, Array.length_toList]; exact Nat.le_refl _)]
  exact g
theorem max_of_tuple (hh : A.handled = none) (ht : s.heap.IsTuple tp us.toArray) (hi : IntsAre us ms) (some1 : 0 < ms.length) (q : ∀ h n M t, Stays s h → M ∈ ms → (∀ a, a ∈ ms → a ≤ M) → G (.int M t) { s with heap := h, toks := n }) :
    wpAny (model pr wd) A (call (.builtin "max") [.ref tp]) G E s := by
  obtain ⟨ws, ew, en⟩ := items_of hi
  subst en
  rw [ew] at ht
  have pos : 0 < ws.size := by simpa using some1
  have esz : (intItems ws).size = ws.size := by simp [intItems]
  obtain ⟨ob, hob, _⟩ := id ht
  have apart : tp ≠ s.heap.objs.size := Nat.ne_of_lt (Heap.lt_size hob)
  refine call_max_walk (wpAny_pyIter_tuple ht ?_)
  refine ⟨_, _, _, _, _, _, _, rfl, Walks.tuple (A := A.in1) hh s.heap.objs.size tp apart (intItems ws), ⟨⟨_, Heap.get?_push_size _ rfl, rfl, rfl⟩, ht.at fun o e => Heap.get?_push_of_some _ e⟩, fun b hb => ?_, by rw [esz]; exact pos, CmpOf.ints_gt (numAt ws) (fun _ _ => intItems_at), fun v h n hv kept => ?_⟩
  · have two : b = s.heap.objs.size ∨ b = tp := by simpa using hb
    rcases two with rfl | rfl
    · exact Heap.lt_size (o := _) (Heap.get?_push_size _ rfl)
    · exact Heap.lt_size (o := ob) (Heap.get?_push_of_some _ hob)
  · obtain ⟨t, rfl⟩ := intItems_at hv
    rw [esz] at *
    obtain ⟨top1, top2⟩ := argBest_gt (numAt ws) (ws.size - 1)
    have at_of : ∀ i, numAt ws i = (ws.toList.map (·.1)).getD i 0 := fun i => numAt_eq ..
    refine q h n _ t (fun b o e => kept b o (fun hb => ?_) (Heap.get?_push_of_some _ e)) ?_ fun a ha => ?_
    · rw [List.mem_singleton.mp hb] at e
      exact Nat.lt_irrefl _ (Heap.lt_size e)
    · rw [at_of]
      refine PySem.getD_mem ?_
      rw [List.length_map, Array.length_toList]
      omega
    · obtain ⟨i, less, rfl⟩ := mem_getD ha
      rw [List.length_map, Array.length_toList] at less
      rw [← at_of]
      exact top2 i (by omega)
end
section
variable {X : Cx}
def rSumT (K : PySem.W.Frag) : List V → Hp → VK → Prop := fun vs H Q => ∃ (a : Addr) (ns : List Int), vs = [V.ref a] ∧ SqT K H a (ns.map V.int) ∧ Q (.int ns.sum) H
theorem cr_sumT (calm : X.calm = true) : CallR X (.builtin "sum") (rSumT X.K) := fun _ _ _ _ _ _ _ I r h => by
  obtain ⟨_, _, rfl, ht, q⟩ := h
  obtain ⟨_, rv, plain, _⟩ := I.tuple ht
  rw [Vals.ref1 r]
  exact sum_of_tuple (I.ok.hd calm) plain rv.ints fun _ _ _ kept => ⟨.int _, _, I.kept kept, ⟨_, rfl⟩, q⟩
def rMaxT (K : PySem.W.Frag) : List V → Hp → VK → Prop := fun vs H Q => ∃ (a : Addr) (ns : List Int), vs = [V.ref a] ∧ SqT K H a (ns.map V.int) ∧ 0 < ns.length ∧ ∀ m, m ∈ ns → (∀ y, y ∈ ns → y ≤ m) → Q (.int m) H
theorem cr_maxT (calm : X.calm = true) : CallR X (.builtin "max") (rMaxT X.K) := fun _ _ _ _ _ _ _ I r h => by
  obtain ⟨_, _, rfl, ht, some1, q⟩ := h
  obtain ⟨_, rv, plain, _⟩ := I.tuple ht
  rw [Vals.ref1 r]
  exact max_of_tuple (I.ok.hd calm) plain rv.ints some1 fun _ _ m _ kept g1 g2 => ⟨.int m, _, I.kept kept, ⟨_, rfl⟩, q m g1 g2⟩
end
/-! ### tuple * int, any int: the tuple itself, the empty one, or a longer one -/
abbrev tupObj (items : Array Value) (n : Nat) (dd : Option Addr) (sl : Array (Option Value)) : Obj := { cls := .type "tuple", dict := dd, data := .seq items n, slots := sl }
theorem off_of {b : Bool} (h : b = false) : decide (b = true) = false := decide_eq_false (Bool.eq_false_iff.mp h)
theorem mul_same (tp : Addr) (items : Array Value) (n : Nat) (dd : Option Addr) (sl : Array (Option Value)) (x : Int) (u : Tok) (fits : (decide (x < -(2 ^ 63)) || decide (x ≥ 2 ^ 63)) = false) (same : (items.isEmpty || x == 1) = true) :
    Meets (Builtin.«tuple.__mul__» ⟨[.ref tp, .int x u], []⟩) (fun _ R s => s.heap.get? tp = some (tupObj items n dd sl) ∧ R (.ok (.ret (Value.ref tp))) { s with heap := s.heap, toks := s.toks }) :=
  .of_wp fun _ _ _ _ st both => by
    obtain ⟨_, _, _, _, _⟩ := st
    obtain ⟨at1, q⟩ := both
    have ix := AutoSeq1.idx_int
    wp_walk using wpAny_loadPart' at1
    repeat (first
      | (refine wpAny_ite_false (off_of fits) ?_; wp_walk using wpAny_loadPart' at1)
      | (refine wpAny_ite_true (decide_eq_true same) ?_; wp_walk using wpAny_loadPart' at1))
    exact ⟨_, rfl, q⟩
theorem mul_none (tp : Addr) (items : Array Value) (n : Nat) (dd : Option Addr) (sl : Array (Option Value)) (x : Int) (u : Tok) (fits : (decide (x < -(2 ^ 63)) || decide (x ≥ 2 ^ 63)) = false) (other : (items.isEmpty || x == 1) = false) (less : (decide (x ≤ 0) || items.isEmpty) = true) :
    Meets (Builtin.«tuple.__mul__» ⟨[.ref tp, .int x u], []⟩) (fun _ R s => s.heap.get? tp = some (tupObj items n dd sl) ∧
      R (.ok (.ret (Value.ref s.heap.objs.size))) { s with heap := s.heap.push { cls := Value.type "tuple", data := Data.seq #[] }, toks := s.toks }) :=
  .of_wp fun _ _ _ _ st both => by
    obtain ⟨_, _, _, _, _⟩ := st
    obtain ⟨at1, q⟩ := both
    have ix := AutoSeq1.idx_int
    wp_walk using wpAny_loadPart' at1
    repeat (first
      | (refine wpAny_ite_false (off_of fits) ?_; wp_walk using wpAny_loadPart' at1)
      | (refine wpAny_ite_false (off_of other) ?_; wp_walk using wpAny_loadPart' at1)
      | (refine wpAny_ite_true (decide_eq_true less) ?_; wp_walk using wpAny_loadPart' at1))
    exact ⟨_, rfl, q⟩
def rRepA (K : PySem.W.Frag) : R2 := fun x y H Q => ∃ l k xs, x = .ref l ∧ y = .int k ∧ SqT K H l xs ∧ xs ≠ [] ∧ -1000 ≤ k ∧ k ≤ 1000 ∧ xs.length ≤ 1000 ∧
  (k = 1 → Q (.ref l) H) ∧ (k ≠ 1 → ∀ p, H p = none → Q (.ref p) (upd H p (.tup (List.replicate k.toNat xs).flatten)))
section
variable {X : Cx}
theorem op_repA : OpR X (binaryOp .Mult) (rRepA X.K) := fun pins s σ H x y v u Q I rx ry h => by
  obtain ⟨tp, k, xs, rfl, rfl, isT, full, lo, hi, short, qa, qb⟩ := h
  by_cases two : 2 ≤ k
  · exact op_repT pins s σ H _ _ v u Q I rx ry ⟨tp, k, xs, rfl, rfl, isT, full, two, hi, short, qb (by omega)⟩
  cases rx
  obtain ⟨tk, rfl⟩ := ry
  obtain ⟨its, r, ⟨⟨c, dd, dt, sl⟩, ho, hc, n, hd⟩, _⟩ := I.tuple isT
  simp only at hc hd
  subst hc hd
  have filled : its.toArray.isEmpty = false := by
    cases its with
    | nil =>
      cases r
      exact absurd rfl full
    | cons _ _ => rfl
  have fits : (decide (k < -(2 ^ 63)) || decide (k ≥ 2 ^ 63)) = false := Bool.or_eq_false_iff.mpr ⟨decide_eq_false (by omega), decide_eq_false (by omega)⟩
  by_cases one : k = 1
  · subst one
    refine wpAny_binaryOp_repeat_ref (T := "tuple") (U := "int") (by decide) ⟨_, ho, rfl⟩ (fun z => typeIs_int z _ tk) noFill_tuple_mul F.fills_int_mul F.slot_int_rmul repeat_tuple F.slot_int_index.lookup
      (call_meets F.slot_int_rmul (typeIs_int s _ tk) F.entry_int_rmul (F.args_int_rmul_2 _ _) (int_rmul_tuple _ tk tp its.toArray n dd sl)
        ⟨ho, rfl, ⟨_, ho, rfl⟩, call_meets F.slot_tuple_mul ⟨_, ho, rfl⟩ F.entry_tuple_mul (F.args_tuple_mul_2 _ _) (mul_same tp its.toArray n dd sl 1 tk fits (by rw [filled]; rfl)) ⟨ho, ?_⟩⟩)
    exact ⟨.ref tp, H, I, rfl, qa rfl⟩
  · have other : (its.toArray.isEmpty || k == 1) = false := Bool.or_eq_false_iff.mpr ⟨filled, beq_eq_false_iff_ne.mpr one⟩
    have less : (decide (k ≤ 0) || its.toArray.isEmpty) = true := Bool.or_eq_true_iff.mpr (.inl (decide_eq_true (by omega)))
    refine wpAny_binaryOp_repeat_ref (T := "tuple") (U := "int") (by decide) ⟨_, ho, rfl⟩ (fun z => typeIs_int z k tk) noFill_tuple_mul F.fills_int_mul F.slot_int_rmul repeat_tuple F.slot_int_index.lookup
      (call_meets F.slot_int_rmul (typeIs_int s k tk) F.entry_int_rmul (F.args_int_rmul_2 _ _) (int_rmul_tuple k tk tp its.toArray n dd sl)
        ⟨ho, rfl, ⟨_, ho, rfl⟩, call_meets F.slot_tuple_mul ⟨_, ho, rfl⟩ F.entry_tuple_mul (F.args_tuple_mul_2 _ _) (mul_none tp its.toArray n dd sl k tk fits other less) ⟨ho, ?_⟩⟩)
    have e0 : (List.replicate k.toNat xs).flatten = [] := by
      rw [show k.toNat = 0 by omega]
      rfl
    have q := qb one s.heap.objs.size (I.hok.fresh (Nat.le_refl _))
    rw [e0] at q
    exact ⟨.ref s.heap.objs.size, _, I.laid (t' := s.toks) (o := .tup []) (fun _ _ e => Heap.get?_push_of_some _ e) (Nat.le_refl _) ⟨Nat.zero_le _, [], .nil, IsTup.new _ _⟩, rfl, q⟩
end
/-! ### words for what stands in the heap -/
section
variable {K : PySem.W.Frag} {H H' : Hp}
abbrev nv (t : List Nat) : List V := t.map fun n => V.int ((n : Nat) : Int)
theorem nv_ints (t : List Nat) : nv t = (t.map fun n => ((n : Nat) : Int)).map V.int := by
  rw [List.map_map]
  rfl
theorem nv_len (t : List Nat) : (nv t).length = t.length := List.length_map _
theorem nv_app (t u : List Nat) : nv (t ++ u) = nv t ++ nv u := List.map_append
theorem nv_get {t : List Nat} {i : Nat} {x : V} (h : (nv t)[i]? = some x) : ∃ n, t[i]? = some n ∧ x = .int ((n : Nat) : Int) := by
  rw [List.getElem?_map] at h
  cases e : t[i]? with
  | none =>
    rw [e] at h
    cases h
  | some n =>
    rw [e] at h
    exact ⟨n, rfl, (Option.some.inj h).symm⟩
theorem nv_at {t : List Nat} {i n : Nat} (h : t[i]? = some n) : atI (nv t) (i : Int) = some (.int ((n : Nat) : Int)) := atI_nat (by rw [List.getElem?_map, h] <;> rfl)
theorem sizeK {n : Nat} (h : n ≤ 1000000) : n < sizeLine := Nat.lt_of_le_of_lt h (by decide)
theorem same_updL {p : Addr} {o : HO} (s : Same H H') (hp : H p = none) : Same H (upd H' p o) := fun b u q => by
  rw [upd_ne (ne_of_none q hp)]
  exact s b u q
theorem sqt_updL {a p : Addr} {xs ys : List V} {o : HO} (hp : H p = some (.lst ys)) (h : SqT K H a xs) : SqT K (upd H p o) a xs := by
  have ne : ∀ u, H a = some u → u ≠ .lst ys → a ≠ p := fun u e n z => by
    rw [z, hp] at e
    exact n (Option.some.inj e).symm
  rcases h with (h | ⟨o, h⟩) | h
  · exact .inl (.inl (by rw [upd_ne (ne _ h (by intro z; cases z))]; exact h))
  · exact .inl (.inr ⟨o, by rw [upd_ne (ne _ h (by intro z; cases z))]; exact h⟩)
  · exact .inr h
theorem sql_updL {a p : Addr} {xs : List V} {o : HO} (hne : a ≠ p) (h : SqL K H a xs) : SqL K (upd H p o) a xs := by
  rcases h with (h | ⟨o, h⟩) | h
  · exact .inl (.inl (by rw [upd_ne hne]; exact h))
  · exact .inl (.inr ⟨o, by rw [upd_ne hne]; exact h⟩)
  · exact .inr h
theorem sum_cast (t : List Nat) : (t.map fun n => ((n : Nat) : Int)).sum = ((t.sum : Nat) : Int) := by
  induction t with
  | nil => rfl
  | cons x r ih => rw [List.map_cons, List.sum_cons, List.sum_cons, ih]; omega
theorem same_sqt {a : Addr} {xs : List V} (e : Same H H') (h : SqT K H a xs) : SqT K H' a xs := by
  rcases h with (h | ⟨o, h⟩) | h
  · exact .inl (.inl (e _ _ h))
  · exact .inl (.inr ⟨o, e _ _ h⟩)
  · exact .inr h
theorem same_new {p : Addr} (h : H p = none) (o : HO) : Same H (upd H p o) := fun b u q => by rw [upd_ne (ne_of_none q h)]; exact q
def Tups (K : PySem.W.Frag) (H : Hp) : List Addr → List (List Nat) → Prop := Paired fun a t => SqT K H a (nv t)
theorem Tups.same (e : Same H H') : ∀ {rs : List Addr} {L : List (List Nat)}, Tups K H rs L → Tups K H' rs L
  | _, _, .nil => .nil
  | _, _, .cons h t => .cons (same_sqt e h) (Tups.same e t)
theorem Tups.updL {p : Addr} {ys : List V} {o : HO} (hp : H p = some (.lst ys)) : ∀ {rs : List Addr} {L : List (List Nat)}, Tups K H rs L → Tups K (upd H p o) rs L
  | _, _, .nil => .nil
  | _, _, .cons h t => .cons (sqt_updL hp h) (Tups.updL hp t)
theorem Tups.length : ∀ {rs : List Addr} {L : List (List Nat)}, Tups K H rs L → rs.length = L.length
  | _, _, .nil => rfl
  | _, _, .cons _ t => congrArg (· + 1) (Tups.length t)
theorem Tups.app : ∀ {rs qs : List Addr} {L M : List (List Nat)}, Tups K H rs L → Tups K H qs M → Tups K H (rs ++ qs) (L ++ M)
  | _, _, _, _, .nil, s => s
  | _, _, _, _, .cons r t, s => .cons r (Tups.app t s)
theorem Tups.rev {rs : List Addr} {L : List (List Nat)} (h : Tups K H rs L) : Tups K H rs.reverse L.reverse := by
  induction h with
  | nil => exact .nil
  | cons r t ih =>
    rw [List.reverse_cons, List.reverse_cons]
    exact ih.app (.cons r .nil)
theorem Tups.get : ∀ {rs : List Addr} {L : List (List Nat)} {i : Nat} {a : Addr}, Tups K H rs L → rs[i]? = some a → ∃ t, L[i]? = some t ∧ SqT K H a (nv t)
  | _, _, _, _, .nil, e => by simp at e
  | _, _, 0, _, .cons r _, e => by simp at e; subst e; exact ⟨_, rfl, r⟩
  | _, _, i + 1, a, .cons _ t, e => by
    obtain ⟨u, h1, h2⟩ := Tups.get (i := i) (a := a) t (by simpa using e)
    exact ⟨u, by simpa using h1, h2⟩
theorem sqt_ty {a : Addr} {xs : List V} (h : SqT K H a xs) : TyX K H (.ref a) (.type "tuple") := by
  rcases h with (h | ⟨o, h⟩) | ⟨o, its, n, e, c, _⟩
  · exact .base (.tup h)
  · exact .fTuple h
  · exact .kTuple e c
/-- as data -/
abbrev encT (t : List Nat) : PyData := .tuple (t.map fun n => PyData.int ((n : Nat) : Int))
theorem dp_nats : ∀ (t : List Nat), DpAll K H (nv t) (t.map fun n => PyData.int ((n : Nat) : Int))
  | [] => .nil
  | n :: t => .cons (.int _) (dp_nats t)
theorem dp_tup {a : Addr} {t : List Nat} (h : SqT K H a (nv t)) : Dp K H (.ref a) (encT t) := .tup h (dp_nats t)
theorem dp_tups : ∀ {rs : List Addr} {L : List (List Nat)}, Tups K H rs L → DpAll K H (rs.map V.ref) (L.map encT)
  | _, _, .nil => .nil
  | _, _, .cons h t => .cons (dp_tup h) (dp_tups t)
theorem can_nats : ∀ t : List Nat, PyData.canLayAll0 (t.map fun n => PyData.int ((n : Nat) : Int)) = true ∧ PyData.depthAll (t.map fun n => PyData.int ((n : Nat) : Int)) = 0
  | [] => by simp [PyData.canLayAll0, PyData.depthAll]
  | n :: t => by
    have h := can_nats t
    simp only [List.map_cons, PyData.canLayAll0, PyData.depthAll, h.1, h.2, PyData.canLay0, PyData.depth]
    simp
theorem can_tups : ∀ L : List (List Nat), PyData.canLayAll0 (L.map encT) = true ∧ PyData.depthAll (L.map encT) ≤ 1
  | [] => by simp [PyData.canLayAll0, PyData.depthAll]
  | t :: L => by
    have h := can_tups L
    have g := can_nats t
    simp only [List.map_cons, PyData.canLayAll0, PyData.depthAll, h.1, PyData.canLay0, PyData.depth, g.1, g.2]
    exact ⟨by simp, by omega⟩
theorem shaped_tups (L : List (List Nat)) : SeqAt.shaped (.list (L.map encT)) = true := by
  have h := can_tups L
  unfold SeqAt.shaped
  simp only [PyData.canLay0, PyData.depth, h.1, Bool.true_and]
  exact decide_eq_true (by omega)
theorem eqv_tups (L : List (List Nat)) : PyData.eqv (.list (L.map encT)) (.list (L.map encT)) = true := SeqAt.eqv_refl _ (by
  simp only [PyData.canLay0]
  exact (can_tups L).1)
theorem shaped_tup (t : List Nat) : SeqAt.shaped (encT t) = true := by
  have g := can_nats t
  unfold SeqAt.shaped
  simp only [encT, PyData.canLay0, PyData.depth, g.1, g.2, Bool.true_and]
  exact decide_eq_true (by omega)
theorem eqv_tup (t : List Nat) : PyData.eqv (encT t) (encT t) = true := SeqAt.eqv_refl _ (by
  simp only [encT, PyData.canLay0]
  exact (can_nats t).1)
end
end L5

/-! plain mathematics: lists of tuples of numbers, in the order of their entries; least ones -/
namespace M7
/-- entry by entry at most -/
def fitB : List Nat → List Nat → Bool
  | a :: t, b :: u => decide (a ≤ b) && fitB t u
  | _, _ => true
/-- before, at the first entry that is unlike -/
def ltN : List Nat → List Nat → Bool
  | a :: t, b :: u => decide (a < b) || (decide (a = b) && ltN t u)
  | _, _ => false
theorem fit_refl : ∀ t, fitB t t = true
  | [] => rfl
  | a :: t => by
    show (decide (a ≤ a) && fitB t t) = true
    rw [fit_refl t, decide_eq_true (Nat.le_refl a)]
    rfl
theorem fit_cons {a b : Nat} {t u : List Nat} : fitB (a :: t) (b :: u) = true ↔ a ≤ b ∧ fitB t u = true := by
  show (decide (a ≤ b) && fitB t u) = true ↔ _
  rw [Bool.and_eq_true, decide_eq_true_iff]
theorem fit_trans : ∀ {t u v : List Nat}, u.length = t.length → fitB t u = true → fitB u v = true → fitB t v = true
  | [], _, _, _, _, _ => by simp [fitB]
  | _ :: _, [], _, h, _, _ => by simp at h
  | _ :: _, _ :: _, [], _, _, _ => by simp [fitB]
  | a :: t, b :: u, c :: v, h, h1, h2 => by
    rw [fit_cons] at h1 h2 ⊢
    exact ⟨Nat.le_trans h1.1 h2.1, fit_trans (by simpa using h) h1.2 h2.2⟩
theorem fit_anti : ∀ {t u : List Nat}, u.length = t.length → fitB t u = true → fitB u t = true → t = u
  | [], [], _, _, _ => rfl
  | [], _ :: _, h, _, _ => by simp at h
  | _ :: _, [], h, _, _ => by simp at h
  | a :: t, b :: u, h, h1, h2 => by
    rw [fit_cons] at h1 h2
    rw [Nat.le_antisymm h1.1 h2.1, fit_anti (by simpa using h) h1.2 h2.2]
theorem lt_cons {a b : Nat} {t u : List Nat} : ltN (a :: t) (b :: u) = true ↔ a < b ∨ (a = b ∧ ltN t u = true) := by
  show (decide (a < b) || (decide (a = b) && ltN t u)) = true ↔ _
  rw [Bool.or_eq_true, Bool.and_eq_true, decide_eq_true_iff, decide_eq_true_iff]
theorem lt_irr : ∀ t, ltN t t = false
  | [] => rfl
  | a :: t => by
    cases h : ltN (a :: t) (a :: t) with
    | false => rfl
    | true =>
      rcases lt_cons.mp h with z | ⟨_, z⟩
      · omega
      · rw [lt_irr t] at z
        cases z
theorem lt_trans : ∀ {t u v : List Nat}, ltN t u = true → ltN u v = true → ltN t v = true
  | [], _, _, h, _ => by simp [ltN] at h
  | _ :: _, [], _, h, _ => by simp [ltN] at h
  | _ :: _, _ :: _, [], _, h => by simp [ltN] at h
  | a :: t, b :: u, c :: v, h1, h2 => by
    rw [lt_cons] at h1 h2 ⊢
    rcases h1 with h1 | ⟨h1, k1⟩ <;> rcases h2 with h2 | ⟨h2, k2⟩
    · exact .inl (by omega)
    · exact .inl (by omega)
    · exact .inl (by omega)
    · exact .inr ⟨by omega, lt_trans k1 k2⟩
theorem lt_tri : ∀ {t u : List Nat}, u.length = t.length → t ≠ u → ltN t u = true ∨ ltN u t = true
  | [], [], _, h => absurd rfl h
  | [], _ :: _, h, _ => by simp at h
  | _ :: _, [], h, _ => by simp at h
  | a :: t, b :: u, hl, h => by
    rw [lt_cons, lt_cons]
    rcases Nat.lt_trichotomy a b with z | z | z
    · exact .inl (.inl z)
    · subst z
      rcases lt_tri (t := t) (u := u) (by simpa using hl) (fun e => h (by rw [e])) with k | k
      · exact .inl (.inr ⟨rfl, k⟩)
      · exact .inr (.inr ⟨rfl, k⟩)
    · exact .inr (.inl z)
theorem fit_lt : ∀ {t u : List Nat}, u.length = t.length → fitB t u = true → t ≠ u → ltN t u = true
  | [], [], _, _, h => absurd rfl h
  | [], _ :: _, h, _, _ => by simp at h
  | _ :: _, [], h, _, _ => by simp at h
  | a :: t, b :: u, hl, hf, h => by
    rw [fit_cons] at hf
    rw [lt_cons]
    rcases Nat.lt_or_eq_of_le hf.1 with z | z
    · exact .inl z
    · subst z
      exact .inr ⟨rfl, fit_lt (by simpa using hl) hf.2 fun e => h (by rw [e])⟩
theorem fit_sum : ∀ {t u : List Nat}, u.length = t.length → fitB t u = true → t.sum ≤ u.sum ∧ (t ≠ u → t.sum < u.sum)
  | [], [], _, _ => ⟨Nat.le_refl _, fun h => absurd rfl h⟩
  | [], _ :: _, h, _ => by simp at h
  | _ :: _, [], h, _ => by simp at h
  | a :: t, b :: u, hl, hf => by
    rw [fit_cons] at hf
    obtain ⟨h1, h2⟩ := fit_sum (t := t) (u := u) (by simpa using hl) hf.2
    simp only [List.sum_cons]
    refine ⟨by omega, fun h => ?_⟩
    rcases Nat.lt_or_eq_of_le hf.1 with z | z
    · omega
    · subst z
      have := h2 fun e => h (by rw [e])
      omega
/-! ### lists that ascend -/
abbrev Asc (A : List (List Nat)) : Prop := A.Pairwise fun t u => ltN t u = true
theorem asc_unique : ∀ {A B : List (List Nat)}, Asc A → Asc B → (∀ x, x ∈ A ↔ x ∈ B) → A = B
  | [], [], _, _, _ => rfl
  | [], b :: B, _, _, h => by simpa using (h b).mpr List.mem_cons_self
  | a :: A, [], _, _, h => by simpa using (h a).mp List.mem_cons_self
  | a :: A, b :: B, h1, h2, h => by
    obtain ⟨a1, a2⟩ := List.pairwise_cons.mp h1
    obtain ⟨b1, b2⟩ := List.pairwise_cons.mp h2
    have e : a = b := by
      rcases List.mem_cons.mp ((h a).mp List.mem_cons_self) with z | z
      · exact z
      · rcases List.mem_cons.mp ((h b).mpr List.mem_cons_self) with k | k
        · exact k.symm
        · have := lt_trans (b1 a z) (a1 b k)
          rw [lt_irr] at this
          cases this
    subst e
    rw [asc_unique a2 b2 fun x => ?_]
    constructor
    · intro hx
      rcases List.mem_cons.mp ((h x).mp (List.mem_cons_of_mem _ hx)) with z | z
      · subst z
        have := a1 x hx
        rw [lt_irr] at this
        cases this
      · exact z
    · intro hx
      rcases List.mem_cons.mp ((h x).mpr (List.mem_cons_of_mem _ hx)) with z | z
      · subst z
        have := b1 x hx
        rw [lt_irr] at this
        cases this
      · exact z
def insN (x : List Nat) : List (List Nat) → List (List Nat)
  | [] => [x]
  | y :: r => if x = y then y :: r else if ltN x y = true then x :: y :: r else y :: insN x r
theorem mem_ins {x z : List Nat} : ∀ {L : List (List Nat)}, z ∈ insN x L ↔ z = x ∨ z ∈ L
  | [] => by simp [insN]
  | y :: r => by
    unfold insN
    split
    · rename_i h
      subst h
      simp
    · split
      · simp
      · rw [List.mem_cons, mem_ins, List.mem_cons]
        constructor
        · rintro (h | h | h)
          · exact .inr (.inl h)
          · exact .inl h
          · exact .inr (.inr h)
        · rintro (h | h | h)
          · exact .inr (.inl h)
          · exact .inl h
          · exact .inr (.inr h)
theorem asc_ins {x : List Nat} : ∀ {L : List (List Nat)}, (∀ y ∈ L, y.length = x.length) → Asc L → Asc (insN x L)
  | [], _, _ => List.pairwise_cons.mpr ⟨fun _ h => by simp at h, .nil⟩
  | y :: r, hl, h => by
    obtain ⟨h1, h2⟩ := List.pairwise_cons.mp h
    unfold insN
    split
    · exact h
    · rename_i hne
      split
      · rename_i hlt
        refine List.pairwise_cons.mpr ⟨fun z hz => ?_, h⟩
        rcases List.mem_cons.mp hz with e | e
        · rw [e]
          exact hlt
        · exact lt_trans hlt (h1 z e)
      · rename_i hn
        refine List.pairwise_cons.mpr ⟨fun z hz => ?_, asc_ins (fun y hy => hl y (List.mem_cons_of_mem _ hy)) h2⟩
        rcases mem_ins.mp hz with e | e
        · rw [e]
          rcases lt_tri (t := x) (u := y) (hl y List.mem_cons_self) hne with k | k
          · exact absurd k hn
          · exact k
        · exact h1 z e
def canonN (L : List (List Nat)) : List (List Nat) := L.foldr insN []
theorem mem_canon {z : List Nat} : ∀ {L : List (List Nat)}, z ∈ canonN L ↔ z ∈ L
  | [] => Iff.rfl
  | x :: L => by
    show z ∈ insN x (canonN L) ↔ _
    rw [mem_ins, mem_canon, List.mem_cons]
theorem asc_canon {d : Nat} : ∀ {L : List (List Nat)}, (∀ y ∈ L, y.length = d) → Asc (canonN L)
  | [], _ => .nil
  | x :: L, h => asc_ins (fun y hy => by rw [h y (List.mem_cons_of_mem _ (mem_canon.mp hy)), h x List.mem_cons_self]) (asc_canon fun y hy => h y (List.mem_cons_of_mem _ hy))
theorem canon_len : ∀ L : List (List Nat), (canonN L).length ≤ L.length
  | [] => Nat.le_refl _
  | x :: L => by
    have h := canon_len L
    have k : ∀ M : List (List Nat), (insN x M).length ≤ M.length + 1 := fun M => by
      induction M with
      | nil => exact Nat.le_refl _
      | cons y r ih =>
        unfold insN
        split
        · exact Nat.le_succ _
        · split
          · exact Nat.le_refl _
          · exact Nat.succ_le_succ ih
    exact Nat.le_trans (k _) (Nat.succ_le_succ h)
theorem canon_of {d : Nat} {A L : List (List Nat)} (hA : Asc A) (hd : ∀ y ∈ L, y.length = d) (h : ∀ x, x ∈ A ↔ x ∈ L) : A = canonN L :=
  asc_unique hA (asc_canon hd) fun x => (h x).trans mem_canon.symm
/-! ### least ones -/
abbrev takeN (kept : List (List Nat)) (p : List Nat) : List (List Nat) := if (kept.any fun k => fitB k p) = true then kept else kept ++ [p]
def keepN (A : List (List Nat)) : List (List Nat) := A.foldl takeN []
def minB (A : List (List Nat)) (p : List Nat) : Bool := !(A.any fun q => decide (q ≠ p) && fitB q p)
def leastN (L : List (List Nat)) : List (List Nat) := (canonN L).filter (minB (canonN L))
theorem min_false {A : List (List Nat)} {p : List Nat} : minB A p = false ↔ ∃ q ∈ A, q ≠ p ∧ fitB q p = true := by
  unfold minB
  rw [Bool.not_eq_false', List.any_eq_true]
  constructor
  · rintro ⟨q, h1, h2⟩
    rw [Bool.and_eq_true, decide_eq_true_iff] at h2
    exact ⟨q, h1, h2⟩
  · rintro ⟨q, h1, h2⟩
    exact ⟨q, h1, by rw [Bool.and_eq_true, decide_eq_true_iff]; exact h2⟩
theorem below {d : Nat} {A : List (List Nat)} (hd : ∀ y ∈ A, y.length = d) : ∀ (n : Nat) (q : List Nat), q.sum ≤ n → q ∈ A → ∃ m ∈ A, minB A m = true ∧ fitB m q = true
  | n, q, hn, hq => by
    cases h : minB A q with
    | true => exact ⟨q, hq, h, fit_refl q⟩
    | false =>
      obtain ⟨r, hr, hne, hf⟩ := min_false.mp h
      have hl : q.length = r.length := by rw [hd q hq, hd r hr]
      have hs := (fit_sum hl hf).2 hne
      cases n with
      | zero => omega
      | succ n =>
        obtain ⟨m, hm, h1, h2⟩ := below hd n r (by omega) hr
        exact ⟨m, hm, h1, fit_trans (by rw [hd r hr, hd m hm]) h2 hf⟩
theorem keep_from {d : Nat} {A : List (List Nat)} (hA : Asc A) (hd : ∀ y ∈ A, y.length = d) : ∀ (S P : List (List Nat)), A = P ++ S → S.foldl takeN (P.filter (minB A)) = A.filter (minB A)
  | [], P, e => by rw [e, List.append_nil]; rfl
  | p :: S, P, e => by
    have hp : p ∈ A := by rw [e]; exact List.mem_append_right _ List.mem_cons_self
    have asc := hA
    rw [e] at asc
    obtain ⟨_, a2, a3⟩ := List.pairwise_append.mp asc
    obtain ⟨b1, _⟩ := List.pairwise_cons.mp a2
    have key : ((P.filter (minB A)).any fun k => fitB k p) = !minB A p := by
      cases hm : minB A p with
      | true =>
        cases hk : (P.filter (minB A)).any fun k => fitB k p with
        | false => rfl
        | true =>
          obtain ⟨k, k1, k2⟩ := List.any_eq_true.mp hk
          have kP := (List.mem_filter.mp k1).1
          have kA : k ∈ A := by rw [e]; exact List.mem_append_left _ kP
          have kne : k ≠ p := fun z => by
            have := a3 k kP p List.mem_cons_self
            rw [z, lt_irr] at this
            cases this
          have := min_false.mpr ⟨k, kA, kne, k2⟩
          rw [hm] at this
          cases this
      | false =>
        obtain ⟨q, q1, q2, q3⟩ := min_false.mp hm
        obtain ⟨m, m1, m2, m3⟩ := below hd q.sum q (Nat.le_refl _) q1
        have lq : p.length = q.length := by rw [hd p hp, hd q q1]
        have lm : q.length = m.length := by rw [hd q q1, hd m m1]
        have mp := fit_trans lm m3 q3
        have mne : m ≠ p := fun z => by
          subst z
          exact q2 (fit_anti lq q3 m3)
        have mlt := fit_lt (by rw [lq, lm]) mp mne
        have mP : m ∈ P := by
          rw [e] at m1
          rcases List.mem_append.mp m1 with z | z
          · exact z
          · rcases List.mem_cons.mp z with k | k
            · exact absurd k mne
            · have := lt_trans mlt (b1 m k)
              rw [lt_irr] at this
              cases this
        exact List.any_eq_true.mpr ⟨m, List.mem_filter.mpr ⟨mP, m2⟩, mp⟩
    have step : takeN (P.filter (minB A)) p = (P ++ [p]).filter (minB A) := by
      show (if ((P.filter (minB A)).any fun k => fitB k p) = true then _ else _) = _
      rw [key, List.filter_append]
      cases hm : minB A p with
      | true =>
        rw [if_neg (by decide), List.filter_cons, if_pos hm]
        rfl
      | false =>
        rw [if_pos (show (!false) = true from rfl), List.filter_cons, if_neg (by rw [hm]; decide)]
        exact (List.append_nil _).symm
    show S.foldl takeN (takeN (P.filter (minB A)) p) = _
    rw [step]
    exact keep_from hA hd S (P ++ [p]) (by rw [e, List.append_assoc]; rfl)
theorem keep_least {d : Nat} {L : List (List Nat)} (hd : ∀ y ∈ L, y.length = d) : keepN (canonN L) = leastN L :=
  keep_from (asc_canon hd) (fun y hy => hd y (mem_canon.mp hy)) (canonN L) [] rfl
end M7

/-! what a list of tuples tells: the tuples above it; the least ones of lists that tell the same are the same -/
namespace M7
/-- above one of them -/
abbrev Up (L : List (List Nat)) (t : List Nat) : Prop := ∃ k ∈ L, fitB k t = true
abbrev Len (d : Nat) (L : List (List Nat)) : Prop := ∀ t ∈ L, t.length = d
theorem min_true {A : List (List Nat)} {p : List Nat} : minB A p = true ↔ ∀ q ∈ A, fitB q p = true → q = p := by
  constructor
  · intro h q hq hf
    cases e : decide (q = p) with
    | true => exact of_decide_eq_true e
    | false =>
      have := min_false.mpr ⟨q, hq, of_decide_eq_false e, hf⟩
      rw [h] at this
      cases this
  · intro h
    cases e : minB A p with
    | true => rfl
    | false =>
      obtain ⟨q, h1, h2, h3⟩ := min_false.mp e
      exact absurd (h q h1 h3) h2
theorem mem_least {L : List (List Nat)} {x : List Nat} : x ∈ leastN L ↔ x ∈ L ∧ ∀ q ∈ L, fitB q x = true → q = x := by
  unfold leastN
  rw [List.mem_filter, mem_canon, min_true]
  constructor
  · rintro ⟨h1, h2⟩
    exact ⟨h1, fun q hq => h2 q (mem_canon.mpr hq)⟩
  · rintro ⟨h1, h2⟩
    exact ⟨h1, fun q hq => h2 q (mem_canon.mp hq)⟩
theorem asc_least {d : Nat} {L : List (List Nat)} (h : Len d L) : Asc (leastN L) := (asc_canon h).filter _
theorem len_least {d : Nat} {L : List (List Nat)} (h : Len d L) : Len d (leastN L) := fun t ht => h t (mem_least.mp ht).1
theorem up_least {d : Nat} {L : List (List Nat)} (h : Len d L) {t : List Nat} : Up (leastN L) t ↔ Up L t := by
  constructor
  · rintro ⟨k, hk, hf⟩
    exact ⟨k, (mem_least.mp hk).1, hf⟩
  · rintro ⟨k, hk, hf⟩
    have hd : ∀ y ∈ canonN L, y.length = d := fun y hy => h y (mem_canon.mp hy)
    obtain ⟨m, h1, h2, h3⟩ := below hd k.sum k (Nat.le_refl _) (mem_canon.mpr hk)
    exact ⟨m, List.mem_filter.mpr ⟨h1, h2⟩, fit_trans (by rw [h k hk, hd m h1]) h3 hf⟩
theorem least_sub {d : Nat} {L M : List (List Nat)} (hL : Len d L) (hM : Len d M) (h : ∀ t, t.length = d → (Up L t ↔ Up M t)) {x : List Nat} (hx : x ∈ leastN L) : x ∈ leastN M := by
  obtain ⟨h1, h2⟩ := mem_least.mp hx
  have hxd := hL x h1
  -- whatever of M lies below x is x
  have key : ∀ m ∈ M, fitB m x = true → m = x := fun m hm hf => by
    obtain ⟨l, hl, hlm⟩ := (h m (hM m hm)).mpr ⟨m, hm, fit_refl m⟩
    have e := h2 l hl (fit_trans (by rw [hM m hm, hL l hl]) hlm hf)
    subst e
    exact (fit_anti (by rw [hM m hm, hxd]) hlm hf).symm
  obtain ⟨m, hm, hf⟩ := (h x hxd).mp ⟨x, h1, fit_refl x⟩
  have e := key m hm hf
  subst e
  exact mem_least.mpr ⟨hm, key⟩
/-- lists that tell the same have the same least ones -/
theorem least_ext {d : Nat} {L M : List (List Nat)} (hL : Len d L) (hM : Len d M) (h : ∀ t, t.length = d → (Up L t ↔ Up M t)) : leastN L = leastN M :=
  asc_unique (asc_least hL) (asc_least hM) fun x => ⟨least_sub hL hM h, least_sub hM hL fun t ht => (h t ht).symm⟩
theorem up_app {L M : List (List Nat)} {t : List Nat} : Up (L ++ M) t ↔ Up L t ∨ Up M t := by
  constructor
  · rintro ⟨k, hk, hf⟩
    rcases List.mem_append.mp hk with h | h
    · exact .inl ⟨k, h, hf⟩
    · exact .inr ⟨k, h, hf⟩
  · rintro (⟨k, hk, hf⟩ | ⟨k, hk, hf⟩)
    · exact ⟨k, List.mem_append_left _ hk, hf⟩
    · exact ⟨k, List.mem_append_right _ hk, hf⟩
/-- each of the one with each of the other -/
abbrev eachF (f : Nat → Nat → Nat) (L M : List (List Nat)) : List (List Nat) := L.flatMap fun t => M.map fun u => List.zipWith f t u
theorem up_each {f : Nat → Nat → Nat} {L M : List (List Nat)} {t : List Nat} : Up (eachF f L M) t ↔ ∃ a ∈ L, ∃ b ∈ M, fitB (List.zipWith f a b) t = true := by
  constructor
  · rintro ⟨k, hk, hf⟩
    obtain ⟨a, ha, h2⟩ := List.mem_flatMap.mp hk
    obtain ⟨b, hb, rfl⟩ := List.mem_map.mp h2
    exact ⟨a, ha, b, hb, hf⟩
  · rintro ⟨a, ha, b, hb, hf⟩
    exact ⟨_, List.mem_flatMap.mpr ⟨a, ha, List.mem_map.mpr ⟨b, hb, rfl⟩⟩, hf⟩
theorem len_each {f : Nat → Nat → Nat} {d : Nat} {L M : List (List Nat)} (hL : Len d L) (hM : Len d M) : Len d (eachF f L M) := fun t ht => by
  obtain ⟨a, ha, h2⟩ := List.mem_flatMap.mp ht
  obtain ⟨b, hb, rfl⟩ := List.mem_map.mp h2
  rw [List.length_zipWith, hL a ha, hM b hb, Nat.min_self]
/-- f grows in both places -/
structure Grows (f : Nat → Nat → Nat) : Prop where
  mono : ∀ a b c e, a ≤ c → b ≤ e → f a b ≤ f c e
theorem grows_add : Grows (· + ·) := ⟨fun _ _ _ _ h k => Nat.add_le_add h k⟩
theorem grows_max : Grows max := ⟨fun a b c e h k => by omega⟩
theorem zip_fit {f : Nat → Nat → Nat} (g : Grows f) : ∀ {a b c e : List Nat}, c.length = a.length → b.length = a.length → e.length = a.length → fitB a c = true → fitB b e = true → fitB (List.zipWith f a b) (List.zipWith f c e) = true
  | [], _, _, _, _, _, _, _, _ => by simp [fitB]
  | _ :: _, [], _, _, _, h, _, _, _ => by simp at h
  | _ :: _, _ :: _, [], _, h, _, _, _, _ => by simp at h
  | _ :: _, _ :: _, _ :: _, [], _, _, h, _, _ => by simp at h
  | x :: a, y :: b, z :: c, v :: e, h1, h2, h3, k1, k2 => by
    rw [fit_cons] at k1 k2
    show fitB (f x y :: List.zipWith f a b) (f z v :: List.zipWith f c e) = true
    rw [fit_cons]
    exact ⟨g.mono _ _ _ _ k1.1 k2.1, zip_fit g (by simpa using h1) (by simpa using h2) (by simpa using h3) k1.2 k2.2⟩
/-- least ones may be taken before or behind -/
theorem each_least {f : Nat → Nat → Nat} (g : Grows f) {d : Nat} {L M : List (List Nat)} (hL : Len d L) (hM : Len d M) : leastN (eachF f (leastN L) (leastN M)) = leastN (eachF f L M) := by
  refine least_ext (len_each (len_least hL) (len_least hM)) (len_each hL hM) fun t ht => ?_
  rw [up_each, up_each]
  constructor
  · rintro ⟨a, ha, b, hb, hf⟩
    exact ⟨a, (mem_least.mp ha).1, b, (mem_least.mp hb).1, hf⟩
  · rintro ⟨a, ha, b, hb, hf⟩
    obtain ⟨a', ha', fa⟩ := (up_least hL).mpr ⟨a, ha, fit_refl a⟩
    obtain ⟨b', hb', fb⟩ := (up_least hM).mpr ⟨b, hb, fit_refl b⟩
    have la := len_least hL a' ha'
    have lb := len_least hM b' hb'
    have l1 := hL a ha
    have l2 := hM b hb
    exact ⟨a', ha', b', hb', fit_trans (by rw [List.length_zipWith, List.length_zipWith, la, lb, l1, l2]) (zip_fit g (by rw [la, l1]) (by rw [la, lb]) (by rw [la, l2]) fa fb) hf⟩
theorem app_least {d : Nat} {L M : List (List Nat)} (hL : Len d L) (hM : Len d M) : leastN (leastN L ++ leastN M) = leastN (L ++ M) := by
  refine least_ext (d := d) (fun t ht => ?_) (fun t ht => ?_) fun t ht => ?_
  · rcases List.mem_append.mp ht with h | h
    · exact len_least hL t h
    · exact len_least hM t h
  · rcases List.mem_append.mp ht with h | h
    · exact hL t h
    · exact hM t h
  · rw [up_app, up_app, up_least hL, up_least hM]
theorem least_least {d : Nat} {L : List (List Nat)} (hL : Len d L) : leastN (leastN L) = leastN L := least_ext (len_least hL) hL fun t _ => up_least hL
end M7

/-! sums, meets and products of what lists tell: laws of arithmetic -/
namespace M7
theorem zip_comm {f : Nat → Nat → Nat} (h : ∀ a b, f a b = f b a) : ∀ a b : List Nat, List.zipWith f a b = List.zipWith f b a
  | [], [] => rfl
  | [], _ :: _ => rfl
  | _ :: _, [] => rfl
  | x :: a, y :: b => by
    show f x y :: List.zipWith f a b = f y x :: List.zipWith f b a
    rw [h x y, zip_comm h a b]
theorem zip_assoc {f : Nat → Nat → Nat} (h : ∀ a b c, f (f a b) c = f a (f b c)) : ∀ a b c : List Nat, List.zipWith f (List.zipWith f a b) c = List.zipWith f a (List.zipWith f b c)
  | [], _, _ => rfl
  | _ :: _, [], _ => rfl
  | _ :: _, _ :: _, [] => rfl
  | x :: a, y :: b, z :: c => by
    show f (f x y) z :: List.zipWith f (List.zipWith f a b) c = f x (f y z) :: List.zipWith f a (List.zipWith f b c)
    rw [h x y z, zip_assoc h a b c]
theorem each_comm {f : Nat → Nat → Nat} (h : ∀ a b, f a b = f b a) {d : Nat} {L M : List (List Nat)} (hL : Len d L) (hM : Len d M) : leastN (eachF f L M) = leastN (eachF f M L) := by
  refine least_ext (len_each hL hM) (len_each hM hL) fun t _ => ?_
  rw [up_each, up_each]
  constructor
  · rintro ⟨a, ha, b, hb, hf⟩
    exact ⟨b, hb, a, ha, by rw [zip_comm h b a]; exact hf⟩
  · rintro ⟨a, ha, b, hb, hf⟩
    exact ⟨b, hb, a, ha, by rw [zip_comm h b a]; exact hf⟩
theorem each_assoc {f : Nat → Nat → Nat} (h : ∀ a b c, f (f a b) c = f a (f b c)) {d : Nat} {L M N : List (List Nat)} (hL : Len d L) (hM : Len d M) (hN : Len d N) : leastN (eachF f (eachF f L M) N) = leastN (eachF f L (eachF f M N)) := by
  refine least_ext (len_each (len_each hL hM) hN) (len_each hL (len_each hM hN)) fun t _ => ?_
  rw [up_each, up_each]
  constructor
  · rintro ⟨p, hp, c, hc, hf⟩
    obtain ⟨a, ha, h2⟩ := List.mem_flatMap.mp hp
    obtain ⟨b, hb, rfl⟩ := List.mem_map.mp h2
    exact ⟨a, ha, _, List.mem_flatMap.mpr ⟨b, hb, List.mem_map.mpr ⟨c, hc, rfl⟩⟩, by rw [← zip_assoc h]; exact hf⟩
  · rintro ⟨a, ha, p, hp, hf⟩
    obtain ⟨b, hb, h2⟩ := List.mem_flatMap.mp hp
    obtain ⟨c, hc, rfl⟩ := List.mem_map.mp h2
    exact ⟨_, List.mem_flatMap.mpr ⟨a, ha, List.mem_map.mpr ⟨b, hb, rfl⟩⟩, c, hc, by rw [zip_assoc h]; exact hf⟩
theorem each_dist {f : Nat → Nat → Nat} {d : Nat} {L M N : List (List Nat)} (hL : Len d L) (hM : Len d M) (hN : Len d N) : leastN (eachF f L (M ++ N)) = leastN (eachF f L M ++ eachF f L N) := by
  have hMN : Len d (M ++ N) := fun t ht => (List.mem_append.mp ht).elim (hM t) (hN t)
  refine least_ext (len_each hL hMN) (fun t ht => (List.mem_append.mp ht).elim (len_each hL hM t) (len_each hL hN t)) fun t _ => ?_
  rw [up_app, up_each, up_each, up_each]
  constructor
  · rintro ⟨a, ha, b, hb, hf⟩
    rcases List.mem_append.mp hb with hb | hb
    · exact .inl ⟨a, ha, b, hb, hf⟩
    · exact .inr ⟨a, ha, b, hb, hf⟩
  · rintro (⟨a, ha, b, hb, hf⟩ | ⟨a, ha, b, hb, hf⟩)
    · exact ⟨a, ha, b, List.mem_append_left _ hb, hf⟩
    · exact ⟨a, ha, b, List.mem_append_right _ hb, hf⟩
theorem app_comm {d : Nat} {L M : List (List Nat)} (hL : Len d L) (hM : Len d M) : leastN (L ++ M) = leastN (M ++ L) :=
  least_ext (fun t ht => (List.mem_append.mp ht).elim (hL t) (hM t)) (fun t ht => (List.mem_append.mp ht).elim (hM t) (hL t)) fun t _ => by
    rw [up_app, up_app]
    exact Or.comm
theorem app_self {d : Nat} {L : List (List Nat)} (hL : Len d L) : leastN (L ++ L) = leastN L :=
  least_ext (fun t ht => (List.mem_append.mp ht).elim (hL t) (hL t)) hL fun t _ => by
    rw [up_app]
    exact or_self_iff
/-- above both -/
theorem max_fit : ∀ {a b t : List Nat}, b.length = a.length → t.length = a.length → (fitB (List.zipWith max a b) t = true ↔ fitB a t = true ∧ fitB b t = true)
  | [], [], [], _, _ => by simp [fitB]
  | [], _ :: _, _, h, _ => by simp at h
  | [], [], _ :: _, _, h => by simp at h
  | _ :: _, [], _, h, _ => by simp at h
  | _ :: _, _ :: _, [], _, h => by simp at h
  | x :: a, y :: b, z :: t, h1, h2 => by
    show fitB (max x y :: List.zipWith max a b) (z :: t) = true ↔ _
    rw [fit_cons, fit_cons, fit_cons, max_fit (by simpa using h1) (by simpa using h2)]
    constructor
    · rintro ⟨h, h3, h4⟩
      exact ⟨⟨by omega, h3⟩, by omega, h4⟩
    · rintro ⟨⟨h3, h4⟩, h5, h6⟩
      exact ⟨by omega, h4, h6⟩
/-- what a meet tells is what both tell -/
theorem up_meet {d : Nat} {L M : List (List Nat)} (hL : Len d L) (hM : Len d M) {t : List Nat} (ht : t.length = d) : Up (eachF max L M) t ↔ Up L t ∧ Up M t := by
  rw [up_each]
  constructor
  · rintro ⟨a, ha, b, hb, hf⟩
    obtain ⟨h1, h2⟩ := (max_fit (by rw [hM b hb, hL a ha]) (by rw [ht, hL a ha])).mp hf
    exact ⟨⟨a, ha, h1⟩, b, hb, h2⟩
  · rintro ⟨⟨a, ha, h1⟩, b, hb, h2⟩
    exact ⟨a, ha, b, hb, (max_fit (by rw [hM b hb, hL a ha]) (by rw [ht, hL a ha])).mpr ⟨h1, h2⟩⟩
end M7

/-! lots whose members are least: few, low, of one length; the laws in that form -/
namespace M7
structure Lt (d n m : Nat) (L : List (List Nat)) : Prop where
  len : Len d L
  low : ∀ t ∈ L, ∀ e ∈ t, e ≤ m
  few : L.length ≤ n
  own : leastN L = L
variable {d n m k j : Nat} {L M N : List (List Nat)} {f : Nat → Nat → Nat}
theorem least_short (L : List (List Nat)) : (leastN L).length ≤ L.length := Nat.le_trans (List.length_filter_le _ _) (canon_len L)
theorem Lt.of (h1 : Len d L) (h2 : ∀ t ∈ L, ∀ e ∈ t, e ≤ m) (h3 : L.length ≤ n) : Lt d n m (leastN L) := ⟨len_least h1, fun t ht => h2 t (mem_least.mp ht).1, Nat.le_trans (least_short L) h3, least_least h1⟩
theorem len_app (a : Len d L) (b : Len d M) : Len d (L ++ M) := fun t ht => (List.mem_append.mp ht).elim (a t) (b t)
theorem low_app (a : ∀ t ∈ L, ∀ e ∈ t, e ≤ m) (b : ∀ t ∈ M, ∀ e ∈ t, e ≤ m) : ∀ t ∈ L ++ M, ∀ e ∈ t, e ≤ m := fun t ht => (List.mem_append.mp ht).elim (a t) (b t)
theorem Lt.add (a : Lt d n m L) (b : Lt d k m M) : Lt d (n + k) m (leastN (L ++ M)) := .of (len_app a.len b.len) (low_app a.low b.low) (by
  rw [List.length_append]
  exact Nat.add_le_add a.few b.few)
structure Op (f : Nat → Nat → Nat) : Prop where
  grows : Grows f
  comm : ∀ a b, f a b = f b a
  assoc : ∀ a b c, f (f a b) c = f a (f b c)
  low : ∀ a b, f a b ≤ a + b
  zero : ∀ a, f a 0 = a
theorem op_add : Op (· + ·) := ⟨grows_add, Nat.add_comm, Nat.add_assoc, fun _ _ => Nat.le_refl _, fun _ => rfl⟩
theorem op_max : Op max := ⟨grows_max, Nat.max_comm, Nat.max_assoc, fun a b => by omega, fun a => by omega⟩
theorem zip_low (hf : Op f) : ∀ {t u : List Nat}, (∀ e ∈ t, e ≤ m) → (∀ e ∈ u, e ≤ k) → ∀ e ∈ List.zipWith f t u, e ≤ m + k
  | [], _, _, _, e, h => by simp at h
  | _ :: _, [], _, _, e, h => by simp at h
  | a :: t, b :: u, h1, h2, e, h => by
    rcases List.mem_cons.mp (show e ∈ f a b :: List.zipWith f t u from h) with h | h
    · have := hf.low a b
      have := h1 a List.mem_cons_self
      have := h2 b List.mem_cons_self
      omega
    · exact zip_low hf (fun e h => h1 e (List.mem_cons_of_mem _ h)) (fun e h => h2 e (List.mem_cons_of_mem _ h)) e h
theorem low_each (hf : Op f) (a : ∀ t ∈ L, ∀ e ∈ t, e ≤ m) (b : ∀ t ∈ M, ∀ e ∈ t, e ≤ k) : ∀ t ∈ eachF f L M, ∀ e ∈ t, e ≤ m + k := fun t ht => by
  obtain ⟨p, hp, h2⟩ := List.mem_flatMap.mp ht
  obtain ⟨u, hu, rfl⟩ := List.mem_map.mp h2
  exact zip_low hf (a p hp) (b u hu)
theorem count_each : ∀ L : List (List Nat), (eachF f L M).length = L.length * M.length
  | [] => by simp [eachF]
  | t :: L => by
    have := count_each L
    simp only [eachF] at this ⊢
    rw [List.flatMap_cons, List.length_append, this, List.length_map, List.length_cons, Nat.succ_mul, Nat.add_comm]
theorem Lt.each (hf : Op f) (a : Lt d n m L) (b : Lt d k j M) : Lt d (n * k) (m + j) (leastN (eachF f L M)) := .of (len_each a.len b.len) (low_each hf a.low b.low) (by
  rw [count_each]
  exact Nat.mul_le_mul a.few b.few)
theorem Lt.more {n' m' : Nat} (a : Lt d n m L) (h : n ≤ n') (h2 : m ≤ m') : Lt d n' m' L := ⟨a.len, fun t ht e he => Nat.le_trans (a.low t ht e he) h2, Nat.le_trans a.few h, a.own⟩
/-! ### the laws -/
theorem l_add_assoc {n1 n2 n3 m1 m2 m3 : Nat} (a : Lt d n1 m1 L) (b : Lt d n2 m2 M) (c : Lt d n3 m3 N) : leastN (leastN (L ++ M) ++ N) = leastN (L ++ leastN (M ++ N)) := by
  have h1 := app_least (len_app a.len b.len) c.len
  have h2 := app_least a.len (len_app b.len c.len)
  rw [c.own] at h1
  rw [a.own] at h2
  rw [h1, h2, List.append_assoc]
theorem l_each_assoc {n1 n2 n3 m1 m2 m3 : Nat} (hf : Op f) (a : Lt d n1 m1 L) (b : Lt d n2 m2 M) (c : Lt d n3 m3 N) : leastN (eachF f (leastN (eachF f L M)) N) = leastN (eachF f L (leastN (eachF f M N))) := by
  have h1 := each_least hf.grows (len_each (f := f) a.len b.len) c.len
  have h2 := each_least hf.grows a.len (len_each (f := f) b.len c.len)
  rw [c.own] at h1
  rw [a.own] at h2
  rw [h1, h2, each_assoc hf.assoc a.len b.len c.len]
theorem l_dist {n1 n2 n3 m1 m2 m3 : Nat} (hf : Op f) (a : Lt d n1 m1 L) (b : Lt d n2 m2 M) (c : Lt d n3 m3 N) : leastN (eachF f L (leastN (M ++ N))) = leastN (leastN (eachF f L M) ++ leastN (eachF f L N)) := by
  have h1 := each_least hf.grows a.len (len_app b.len c.len)
  rw [a.own] at h1
  rw [h1, app_least (len_each a.len b.len) (len_each a.len c.len), each_dist a.len b.len c.len]
theorem l_none {n1 m1 : Nat} (a : Lt d n1 m1 L) : leastN (L ++ leastN []) = L := by
  show leastN (L ++ []) = L
  rw [List.append_nil]
  exact a.own
abbrev z0 (d : Nat) : List Nat := List.replicate d 0
theorem least_z (d : Nat) : leastN [z0 d] = [z0 d] := by
  have e : minB [z0 d] (z0 d) = true := min_true.mpr fun q hq _ => List.mem_singleton.mp hq
  show List.filter (minB [z0 d]) [z0 d] = _
  rw [List.filter_cons_of_pos e]
  rfl
theorem zip_z (hf : Op f) : ∀ t : List Nat, List.zipWith f t (z0 t.length) = t
  | [] => rfl
  | a :: t => by
    show f a 0 :: List.zipWith f t (z0 t.length) = _
    rw [hf.zero, zip_z hf t]
theorem each_z (hf : Op f) : ∀ {L : List (List Nat)}, Len d L → eachF f L [z0 d] = L
  | [], _ => rfl
  | t :: L, h => by
    show List.zipWith f t (z0 d) :: eachF f L [z0 d] = _
    rw [each_z hf fun t ht => h t (List.mem_cons_of_mem _ ht)]
    have e := h t List.mem_cons_self
    subst e
    rw [zip_z hf]
theorem l_every {n1 m1 : Nat} (hf : Op f) (a : Lt d n1 m1 L) : leastN (eachF f L (leastN [z0 d])) = L := by
  rw [least_z, each_z hf a.len]
  exact a.own
theorem fit_z : ∀ t : List Nat, fitB (z0 t.length) t = true
  | [] => rfl
  | a :: t => fit_cons.mpr ⟨Nat.zero_le _, fit_z t⟩
theorem len_z (d : Nat) : Len d [z0 d] := fun t ht => by
  rw [List.mem_singleton.mp ht]
  exact List.length_replicate
theorem l_all {n1 m1 : Nat} (a : Lt d n1 m1 L) : leastN (L ++ leastN [z0 d]) = leastN [z0 d] := by
  rw [least_z]
  refine (least_ext (len_app a.len (len_z d)) (len_z d) fun t ht => ?_).trans (least_z d)
  have h : Up [z0 d] t := ⟨z0 d, List.mem_singleton.mpr rfl, by rw [← ht]; exact fit_z t⟩
  rw [up_app]
  exact ⟨fun _ => h, fun _ => .inr h⟩
theorem each_nil : ∀ L : List (List Nat), eachF f L [] = []
  | [] => rfl
  | _ :: L => each_nil L
theorem l_nothing (L : List (List Nat)) : leastN (eachF f L (leastN [])) = leastN [] := by
  show leastN (eachF f L []) = _
  rw [each_nil]
theorem l_twice {n1 m1 : Nat} (a : Lt d n1 m1 L) : leastN (L ++ L) = L := by
  rw [app_self a.len]
  exact a.own
theorem l_self {n1 m1 : Nat} (a : Lt d n1 m1 L) : leastN (eachF max L L) = L := by
  rw [show leastN (eachF max L L) = leastN L from least_ext (len_each a.len a.len) a.len fun t ht => by rw [up_meet a.len a.len ht, and_self]]
  exact a.own
/-! ### members -/
abbrev inB (L : List (List Nat)) (t : List Nat) : Bool := L.any fun k => fitB k t
theorem in_up {L : List (List Nat)} {t : List Nat} : inB L t = true ↔ Up L t := by
  rw [inB, List.any_eq_true]
theorem in_add (hL : Len d L) (hM : Len d M) (t : List Nat) : inB (leastN (L ++ M)) t = (inB L t || inB M t) := by
  rw [Bool.eq_iff_iff, Bool.or_eq_true, in_up, in_up, in_up, up_least (len_app hL hM), up_app]
theorem in_meet (hL : Len d L) (hM : Len d M) {t : List Nat} (ht : t.length = d) : inB (leastN (eachF max L M)) t = (inB L t && inB M t) := by
  rw [Bool.eq_iff_iff, Bool.and_eq_true, in_up, in_up, in_up, up_least (len_each hL hM), up_meet hL hM ht]
theorem fit_left : ∀ {a b : List Nat}, b.length = a.length → fitB a (List.zipWith (· + ·) a b) = true
  | [], _, _ => by simp [fitB]
  | _ :: _, [], h => by simp at h
  | x :: a, y :: b, h => fit_cons.mpr ⟨Nat.le_add_right _ _, fit_left (by simpa using h)⟩
theorem fit_right : ∀ {a b : List Nat}, b.length = a.length → fitB b (List.zipWith (· + ·) a b) = true
  | [], [], _ => rfl
  | [], _ :: _, h => by simp at h
  | _ :: _, [], h => by simp at h
  | x :: a, y :: b, h => fit_cons.mpr ⟨Nat.le_add_left _ _, fit_right (by simpa using h)⟩
theorem in_made (hL : Len d L) (hM : Len d M) {t : List Nat} (ht : t ∈ leastN (eachF (· + ·) L M)) : inB (leastN (eachF max L M)) t = true := by
  have h := (mem_least.mp ht).1
  have hl := len_each hL hM t h
  rw [in_meet hL hM hl, Bool.and_eq_true, in_up, in_up]
  obtain ⟨p, hp, h2⟩ := List.mem_flatMap.mp h
  obtain ⟨u, hu, rfl⟩ := List.mem_map.mp h2
  exact ⟨⟨p, hp, fit_left (by rw [hL p hp, hM u hu])⟩, u, hu, fit_right (by rw [hL p hp, hM u hu])⟩
end M7

namespace W7
open PySem PySem.Spec PyProof.Rows L2
section
variable {P : Program} {w : World} {A : Around} {E : Value → Shared → Prop} {s : Shared}
theorem set_of_tuple {l : Addr} {items9 : Array Value} (ks9 : List (Addr × List Int)) {Q : Value → Shared → Prop} (hh9 : A.handled = none) (hl9 : s.heap.IsTuple l items9) (hit9 : items9.toList = ks9.map fun p => Value.ref p.1)
    (hk9 : ∀ p ∈ ks9, IsT P w s.heap p.2 p.1) (hfew9 : ks9.length < 64) (hu9 : A.units + 3 < cLine)
    (h : ∀ (h' : Heap) (tk9 : Nat) L es9 ep9 t, SetTR P w h' s.heap.objs.size L es9 ep9 t → Got ks9 ks9.length L → (∀ b o, s.heap.get? b = some o → h'.get? b = some o) → Q (.ref s.heap.objs.size) { s with heap := h', toks := tk9 }) :
    wpAny (model P w) A (call (.type "set") [.ref l]) Q E s := by
  have hisz9 : items9.size = ks9.length := by
    have q9 := congrArg List.length hit9
    rw [Array.length_toList, List.length_map] at q9
    exact q9
  obtain ⟨c9, tl9, hmro9⟩ := F.called_set.mro
  have hmade9 := F.called_set.made
  have hsub9 := F.called_set.sub
  refine wpAny_call (codeAny_of_tree ?_)
  show wpAny _ _ (callAny (.type "set") _) _ _ _
  refine wpAny_pure ⟨Code.quiet_builtin _ (by decide +kernel), codeAny_builtin F.entry_type_call ?_⟩
  rw [Around.under_plain (weight_type_call_type "set" [.ref l] []) rfl]
  have h19 := F.called_set.notType
  have h29 := F.called_set.canCreate
  have hct9 := F.typeCall_set_1 (.ref l)
  repeat (any_goals (first | assumption | wp_step))

  refine codeAny_mono (code_set_led1 (.ref l) (E := E) (Q₁ := fun obj9 sa9 => obj9 = .ref s.heap.objs.size ∧ sa9 = { s with heap := s.heap.push { cls := .type "set", dict := none, data := .set #[] 0 (.fresh 0 0 (!w.params.followText "set-order")) } }) ⟨rfl, rfl⟩) fun r sa9 hr9 => ?_
  cases r with
  | error e => exact hr9
  | ok fl9 =>
    cases fl9 with
    | ret obj9 =>
      obtain ⟨rfl, rfl⟩ := hr9
      have hS9 : (s.heap.push { cls := .type "set", dict := none, data := .set #[] 0 (.fresh 0 0 (!w.params.followText "set-order")) }).get? s.heap.objs.size = some { cls := .type "set", dict := none, data := .set #[] 0 (.fresh 0 0 (!w.params.followText "set-order")) } := Heap.get?_push_size _ rfl
      have hT9 : Shared.TypeIs { s with heap := s.heap.push { cls := .type "set", dict := none, data := .set #[] 0 (.fresh 0 0 (!w.params.followText "set-order")) } } (.ref s.heap.objs.size) "set" := ⟨_, hS9, rfl⟩
      have hli9 := F.called_set.init.lookup
      have hbi9 := F.called_set.init.bind (.ref s.heap.objs.size)
      repeat (any_goals (first | assumption | wp_step))

      refine codeAny_mono (codeAny_call_builtin (R := wants (fun r sb9 => r = .none ∧ ∃ h' tk9 L es9 ep9 t, sb9 = { s with heap := h', toks := tk9 } ∧ SetTR P w h' s.heap.objs.size L es9 ep9 t ∧ Got ks9 ks9.length L ∧
          (∀ b o, s.heap.get? b = some o → h'.get? b = some o)) E) F.called_set.init.plain F.entry_set_init (check_set_init_1 hT9 ?_)) fun rb9 sb9 hrb9 => ?_
      · obtain ⟨ol9, hol9, hcl9, nl9, hdl9⟩ := hl9
        obtain ⟨ocls9, odict9, odata9, oslots9⟩ := ol9
        simp only at hcl9 hdl9
        subst hcl9; subst hdl9
        have hol' : (s.heap.push { cls := .type "set", dict := none, data := .set #[] 0 (.fresh 0 0 (!w.params.followText "set-order")) }).get? l = some { cls := .type "tuple", dict := odict9, data := .seq items9 nl9, slots := oslots9 } := Heap.get?_push_of_some _ hol9
        have hsls9 := F.sub_tuple_set
        have hslf9 := F.sub_tuple_frozenset
        have hne9 : (Value.type "tuple" == Value.type "dict") = false := by decide
        have hl19 : (s.heap.push { cls := .type "set", dict := none, data := .set #[] 0 (.fresh 0 0 (!w.params.followText "set-order")) }).IsTuple l items9 := ⟨_, hol', rfl, nl9, rfl⟩
        unfold Builtin.«set.__init__» noKeywords Builtin.Frozenset.updateFrom
        generalize hPI9 : pyIter = PI9
        wp_walk
        subst hPI9

        refine wpAny_pyIter_tuple hl19 ?_
        refine wpAny_bind (wpAny_runValue ?_)
        have hlS9 : l < s.heap.objs.size := Heap.lt_size hol9
        have hh39 : A.in1.in1.in1.handled = none := by simp [hh9]
        have hz19 : (s.heap.push { cls := .type "set", dict := none, data := .set #[] 0 (.fresh 0 0 (!w.params.followText "set-order")) }).objs.size = s.heap.objs.size + 1 := Heap.size_push ..
        have hneI9 : l ≠ (s.heap.push { cls := .type "set", dict := none, data := .set #[] 0 (.fresh 0 0 (!w.params.followText "set-order")) }).objs.size := by
          rw [Heap.size_push]; exact Nat.ne_of_lt (Nat.lt_succ_of_lt hlS9)
        have hSf9 : s.heap.objs.size ∉ [(s.heap.push { cls := .type "set", dict := none, data := .set #[] 0 (.fresh 0 0 (!w.params.followText "set-order")) }).objs.size, l] := by
          rw [Heap.size_push]; simp only [List.mem_cons, List.mem_singleton, List.not_mem_nil, or_false, not_or]
          exact ⟨Nat.ne_of_lt (Nat.lt_succ_self _), Nat.ne_of_gt hlS9⟩
        have hval9 : ∀ (i : Nat) (v : Value), items9[i]? = some v → ∃ p, ks9[i]? = some p ∧ v = .ref p.1 := fun i v hv => by
          have q9 : items9.toList[i]? = some v := by rw [Array.getElem?_toList]; exact hv
          rw [hit9, List.getElem?_map] at q9
          cases hq : ks9[i]? with
          | none => rw [hq] at q9; cases q9
          | some p =>
            rw [hq] at q9
            exact ⟨p, rfl, (Option.some.inj q9).symm⟩
        have none_of9 : ∀ b, s.heap.objs.size ≤ b → s.heap.get? b = none := fun b hb => by
          cases q9 : s.heap.get? b with
          | none => rfl
          | some o => exact absurd (Nat.lt_of_lt_of_le (Heap.lt_size q9) hb) (Nat.lt_irrefl _)
        refine set_update_tups ((Walks.tuple hh39 _ l hneI9 items9).toS) s.heap.objs.size
          hSf9 ks9 hisz9 hfew9 hval9 s.heap hk9 (none_of9 _ (Nat.le_refl _)) (fun b hb => none_of9 b (by
            rw [List.mem_singleton.mp hb, Heap.size_push]
            exact Nat.le_succ _)) hu9 (items9.size - 0) 0 _ (by omega) (Nat.zero_le _)
          ⟨⟨_, Heap.get?_push_size _ rfl, rfl, rfl⟩, (hl19.at fun o e => Heap.get?_push_of_some _ e)⟩ (fun b o e => Heap.get?_push_of_some _ (Heap.get?_push_of_some _ e)) ?hS0 ?hR
        case hS0 =>
          have hget9 : ((s.heap.push { cls := .type "set", dict := none, data := .set #[] 0 (.fresh 0 0 (!w.params.followText "set-order")) }).push { cls := .type "tuple_iterator", data := .fields #[.ref l, .int 0 0] }).get? s.heap.objs.size
              = some { cls := .type "set", dict := none, data := .set #[] 0 (.fresh 0 0 (!w.params.followText "set-order")) } := Heap.get?_push_of_some _ hS9
          exact ⟨[], #[], 0, _, setTR_fresh hget9, Got.zero ks9⟩
        case hR =>
          intro s' L es9 ep9 t hm9 hSq9 gq9 hkp9
          obtain ⟨h', g29, dq9, tkq9, osq9⟩ := s'
          have eg9 : g29 = s.gens := hm9.gens
          have ed9 : dq9 = s.drawn := hm9.drawn
          have eo9 : osq9 = s.os := hm9.os
          subst eg9; subst ed9; subst eo9
          show wpAny _ _ _ _ _ _
          refine wpAny_pure ?_
          show wpAny _ _ (ret Value.none) _ _ _
          rw [hisz9] at gq9
          exact wpAny_pure ⟨rfl, h', tkq9, L, es9, ep9, t, rfl, hSq9, gq9, hkp9⟩

      · cases rb9 with
        | error e => exact hrb9
        | ok flb9 =>
          cases flb9 with
          | ret r =>
            obtain ⟨rfl, h', tk9, L, es9, ep9, t, rfl, hSq9, gq9, hkq9⟩ := hrb9
            repeat (any_goals (first | assumption | wp_step))
            exact h _ _ _ _ _ _ hSq9 gq9 hkq9
          | _ => exact hrb9.elim
    | _ => exact hr9.elim

end
end W7

/-! sorted(set(x)), x a list or a tuple of tuples of numbers -/
namespace R7
open PySem PySem.Spec PyProof.Rows L2 L5 M7
abbrev zN (t : List Nat) : List Int := t.map fun n => ((n : Nat) : Int)
theorem zN_inj {t u : List Nat} (h : zN t = zN u) : t = u := (List.map_inj_right (f := fun n : Nat => ((n : Nat) : Int)) (fun a b e => by omega)).mp h
theorem bd_of {B : Nat} {t : List Nat} (h : ∀ e ∈ t, e < B) : TS.Bd (B : Int) (zN t) := fun m hm => by
  obtain ⟨n, hn, rfl⟩ := List.mem_map.mp hm
  have := h n hn
  omega
theorem lt_code {B : Nat} : ∀ {t u : List Nat}, u.length = t.length → (∀ e ∈ t, e < B) → (∀ e ∈ u, e < B) → ltN t u = true → TS.code (B : Int) (zN t) < TS.code (B : Int) (zN u)
  | [], _, _, _, _, h => by simp [ltN] at h
  | _ :: _, [], _, _, _, h => by simp [ltN] at h
  | a :: t, b :: u, hl, h1, h2, h => by
    have hl' : u.length = t.length := by simpa using hl
    have k1 : ∀ e ∈ t, e < B := fun e he => h1 e (List.mem_cons_of_mem _ he)
    have k2 : ∀ e ∈ u, e < B := fun e he => h2 e (List.mem_cons_of_mem _ he)
    rcases lt_cons.mp h with z | ⟨rfl, z⟩
    · exact TS.code_lt (by rw [List.length_map, List.length_map, hl']) (bd_of k1) (bd_of k2) (show ((a : Nat) : Int) < ((b : Nat) : Int) by omega)
    · have := lt_code hl' k1 k2 z
      show ((a : Nat) : Int) * (B : Int) ^ (zN t).length + TS.code (B : Int) (zN t) < ((a : Nat) : Int) * (B : Int) ^ (zN u).length + TS.code (B : Int) (zN u)
      rw [show (zN u).length = (zN t).length by rw [List.length_map, List.length_map, hl']]
      omega
theorem code_ltN {B : Nat} {t u : List Nat} (hl : u.length = t.length) (h1 : ∀ e ∈ t, e < B) (h2 : ∀ e ∈ u, e < B) (hc : TS.code (B : Int) (zN t) ≤ TS.code (B : Int) (zN u)) (hne : t ≠ u) : ltN t u = true := by
  rcases lt_tri hl hne with z | z
  · exact z
  · have := lt_code hl.symm h2 h1 z
    omega
section
variable {K : PySem.W.Frag} {H : Hp}
/-- addresses with what stands at them -/
theorem tups_pairs : ∀ {rs : List Addr} {L : List (List Nat)}, Tups K H rs L → ∃ ks : List (Addr × List Nat), ks.map (·.1) = rs ∧ ks.map (·.2) = L ∧ ∀ p ∈ ks, SqT K H p.1 (nv p.2)
  | _, _, .nil => ⟨[], rfl, rfl, fun _ h => nomatch h⟩
  | _, _, .cons (a := a) (b := t) h r => by
    obtain ⟨ks, e1, e2, e3⟩ := tups_pairs r
    refine ⟨(a, t) :: ks, by rw [List.map_cons, e1], by rw [List.map_cons, e2], fun p hp => ?_⟩
    rcases List.mem_cons.mp hp with rfl | hp
    · exact h
    · exact e3 p hp
theorem pairs_tups : ∀ {ks : List (Addr × List Nat)}, (∀ p ∈ ks, SqT K H p.1 (nv p.2)) → Tups K H (ks.map (·.1)) (ks.map (·.2))
  | [], _ => .nil
  | p :: ks, h => .cons (h p List.mem_cons_self) (pairs_tups fun q hq => h q (List.mem_cons_of_mem _ hq))
end
section
variable {X : Cx}
/-- set(x), x a tuple of tuples of ints -/
def rSetTT (K : PySem.W.Frag) (P : Program) (w : World) : List V → Hp → VK → Prop := fun xs H Q => ∃ (l : Addr) (ks : List (Addr × List Int)), xs = [V.ref l] ∧ SqT K H l (ks.map fun p => V.ref p.1) ∧ (∀ p ∈ ks, SqT K H p.1 (p.2.map V.int)) ∧ ks.length < 64 ∧
  ∀ a L, H a = none → (∀ p ∈ L, p ∈ ks) → (∀ p ∈ ks, p.2 ∈ L.map (·.2)) → Q (.ref a) (upd H a (SetTO P w a L))
theorem cr_setTT (calm : X.calm = true) (room : X.A.units + 64 < cLine) : CallR X (.type "set") (rSetTT X.K X.prog X.w) := by
  intro pins s σ H xs us Q I r h
  obtain ⟨l, ks, rfl, at_, each, few, q⟩ := h
  rw [Vals.ref1 r]
  obtain ⟨_, rv, plain, _⟩ := I.tuple at_
  have free : H s.heap.objs.size = none := I.hok.fresh (Nat.le_refl _)
  refine W7.set_of_tuple (P := X.prog) (w := X.w) ks (I.ok.hd calm) plain (by simpa using refs_of_vals rv) (fun p hp => I.isT (each p hp)) few (by omega) fun h' tk L es ep t R g k => ?_
  exact ⟨.ref s.heap.objs.size, upd H s.heap.objs.size (SetTO X.prog X.w s.heap.objs.size L), I.laid (t' := tk) k (Nat.le_refl _) (setTO_new R.t0), rfl, q _ L free (fun p hp => List.mem_of_mem_take (g.sub p hp)) fun p hp => g.all p (by rw [List.take_length]; exact hp)⟩
theorem cr_setAny (calm : X.calm = true) (room : X.A.units + 64 < cLine) : CallR X (.type "set") (fun xs H Q => rSetOfT X.K X.prog X.w xs H Q ∨ rSetTT X.K X.prog X.w xs H Q) := fun pins s σ H xs us Q I r h =>
  h.elim (fun h => cr_setOfT calm room pins s σ H xs us Q I r h) fun h => cr_setTT calm room pins s σ H xs us Q I r h
theorem weakE {e : Expr} {t t' : TE} (h : PE X e t) (i : ∀ σ H Q, t' σ H Q → t σ H Q) : PE X e t' := ⟨fun pins s σ H Q I h' => h.run pins s σ H Q I (i σ H Q h')⟩
/-- sorted(set(x)) -/
def tSS (K : PySem.W.Frag) (te : TE) : TE := fun σ H Q => te σ H fun x H1 => ∃ (l : Addr) (rs : List Addr) (L : List (List Nat)) (d B : Nat), x = .ref l ∧ (SqL K H1 l (rs.map V.ref) ∨ SqT K H1 l (rs.map V.ref)) ∧ Tups K H1 rs L ∧ L.length < 64 ∧ 1 ≤ d ∧ (∀ t ∈ L, t.length = d) ∧ (∀ t ∈ L, ∀ e ∈ t, e < B) ∧
  ∀ H' q rs', Same H1 H' → H1 q = none → H' q = some (.lst (rs'.map V.ref)) → Tups K H' rs' (canonN L) → Q (.ref q) H'
theorem pe_sset {e : Expr} {te : TE} {p1 p2 q1 q2 : Pos} (calm : X.calm = true) (room : X.A.units + 64 < cLine) (g1 : Gl X "sorted") (m1 : X.mg "sorted" = none) (g2 : Gl X "set") (m2 : X.mg "set" = none) (he : PE X e te)
    (t1 : starEach [.Call (.Name "set" p2) [e] [] q2] X.env = (false, eval (.Call (.Name "set" p2) [e] [] q2) X.env) :: starEach [] X.env := by rfl) (t2 : starEach [e] X.env = (false, eval e X.env) :: starEach [] X.env := by rfl)  :
    PE X (.Call (.Name "sorted" p1) [.Call (.Name "set" p2) [e] [] q2] [] q1) (tSS X.K te) := by
  have he' : PE X e (fun σ H Q => ∃ P : VK, te σ H P ∧ ∀ x H1, P x H1 → Q x H1) := ⟨fun pins s σ H Q I ⟨P, h, m⟩ => thn (he.run pins s σ H P I h) fun u s1 ⟨v, H1, I1, r, q⟩ => ⟨v, H1, I1, r, m v H1 q⟩⟩
  refine weakE (pe_callB (cr_sortedT calm) g1 m1 (by decide +kernel) (pa_cons (pe_callTy (cr_setAny calm room) g2 m2 (by decide +kernel) (pa_cons he' pa_nil (hs := t2)) (he := t2)) pa_nil (hs := t1)) (he := t1)) ?_
  intro σ H Q h
  refine ⟨_, h, ?_⟩
  rintro x H1 ⟨l, rs, L, d, B, rfl, at_, hT, few, hd, hlen, hB, q⟩
  obtain ⟨ks, e1, e2, e3⟩ := tups_pairs hT
  have nvz : ∀ t : List Nat, (zN t).map V.int = nv t := fun t => (nv_ints t).symm
  have ks3 : ∀ p ∈ ks.map (fun p => (p.1, zN p.2)), SqT X.K H1 p.1 (p.2.map V.int) := fun p hp => by
    obtain ⟨k, hk, rfl⟩ := List.mem_map.mp hp
    show SqT X.K H1 k.1 ((zN k.2).map V.int)
    rw [nvz]
    exact e3 k hk
  have refs : (ks.map fun p => (p.1, zN p.2)).map (fun p => V.ref p.1) = rs.map V.ref := by
    rw [List.map_map, ← e1, List.map_map]
    rfl
  have few' : (ks.map fun p => (p.1, zN p.2)).length < 64 := by
    rw [List.length_map, ← List.length_map (f := (·.2)) (as := ks), e2]
    exact few
  have go : ∀ a Ls, H1 a = none → (∀ p ∈ Ls, p ∈ ks.map fun p => (p.1, zN p.2)) → (∀ p ∈ ks.map (fun p => (p.1, zN p.2)), p.2 ∈ Ls.map (·.2)) → rSortedT X.K X.prog X.w [.ref a] (upd H1 a (SetTO X.prog X.w a Ls)) Q := by
    intro a Ls ha sub all
    have sa := same_new ha (SetTO X.prog X.w a Ls)
    have memL : ∀ p ∈ Ls, ∃ k ∈ ks, p = (k.1, zN k.2) := fun p hp => by
      obtain ⟨k, hk, e⟩ := List.mem_map.mp (sub p hp)
      exact ⟨k, hk, e.symm⟩
    have inL : ∀ k ∈ ks, k.2 ∈ L := fun k hk => by
      rw [← e2]
      exact List.mem_map_of_mem hk
    refine ⟨a, Ls, d, (B : Int), rfl, upd_same, fun p hp => same_sqt sa (ks3 p (sub p hp)), hd, fun p hp => ?_, fun L' p pm nd _ pw hp => ?_⟩
    · obtain ⟨k, hk, rfl⟩ := memL p hp
      exact ⟨by rw [List.length_map]; exact hlen _ (inL k hk), bd_of (hB _ (inL k hk))⟩
    · -- what stands in the sorted list
      have mem' : ∀ r ∈ L', ∃ k ∈ ks, r = (k.1, zN k.2) := fun r hr => memL r (pm.mem_iff.mp hr)
      have back : ∀ k : Addr × List Nat, (zN k.2).map Int.toNat = k.2 := fun k => by
        rw [List.map_map]
        exact (List.map_congr_left fun n _ => by show (((n : Nat) : Int)).toNat = n; omega).trans (List.map_id _)
      have asc : Asc (L'.map fun r => r.2.map Int.toNat) := by
        have nd' : L'.Pairwise fun q r => q.2 ≠ r.2 := List.pairwise_map.mp nd
        have both := pw.and nd'
        rw [Asc, List.pairwise_map]
        refine both.imp_of_mem fun {q r} hq hr hqr => ?_
        obtain ⟨k1, hk1, rfl⟩ := mem' q hq
        obtain ⟨k2, hk2, rfl⟩ := mem' r hr
        show ltN ((zN k1.2).map Int.toNat) ((zN k2.2).map Int.toNat) = true
        rw [back, back]
        exact code_ltN (by rw [hlen _ (inL k1 hk1), hlen _ (inL k2 hk2)]) (hB _ (inL k1 hk1)) (hB _ (inL k2 hk2)) hqr.1 fun z => hqr.2 (by show zN k1.2 = zN k2.2; rw [z])
      have canon : (L'.map fun r => r.2.map Int.toNat) = canonN L := by
        refine canon_of asc hlen fun t => ⟨fun ht => ?_, fun ht => ?_⟩
        · obtain ⟨r, hr, rfl⟩ := List.mem_map.mp ht
          obtain ⟨k, hk, rfl⟩ := mem' r hr
          show (zN k.2).map Int.toNat ∈ L
          rw [back]
          exact inL k hk
        · rw [← e2] at ht
          obtain ⟨k, hk, rfl⟩ := List.mem_map.mp ht
          obtain ⟨r, hr, e⟩ := List.mem_map.mp (all (k.1, zN k.2) (List.mem_map_of_mem (f := fun p : Addr × List Nat => (p.1, zN p.2)) hk))
          refine List.mem_map.mpr ⟨r, pm.mem_iff.mpr hr, ?_⟩
          show r.2.map Int.toNat = k.2
          rw [e]
          exact back k
      have sp := same_new hp (.lst (L'.map fun q => V.ref q.1))
      have tl : Tups X.K (upd (upd H1 a (SetTO X.prog X.w a Ls)) p (.lst (L'.map fun q => V.ref q.1))) ((L'.map fun r => (r.1, r.2.map Int.toNat)).map (·.1)) ((L'.map fun r => (r.1, r.2.map Int.toNat)).map (·.2)) := pairs_tups fun r hr => by
        obtain ⟨r0, hr0, rfl⟩ := List.mem_map.mp hr
        obtain ⟨k, hk, rfl⟩ := mem' r0 hr0
        show SqT X.K _ k.1 (nv ((zN k.2).map Int.toNat))
        rw [back]
        exact same_sqt (sa.trans sp) (e3 k hk)
      rw [List.map_map, List.map_map] at tl
      have tl2 : Tups X.K (upd (upd H1 a (SetTO X.prog X.w a Ls)) p (.lst (L'.map fun q => V.ref q.1))) (L'.map (·.1)) (L'.map fun r => r.2.map Int.toNat) := tl
      rw [canon] at tl2
      refine q _ p (L'.map (·.1)) (sa.trans sp) (sa.free hp) ?_ tl2
      rw [upd_same, List.map_map]
      rfl
  rcases at_ with at_ | at_
  · exact .inl ⟨l, _, rfl, by rw [refs]; exact at_, ks3, few', go⟩
  · exact .inr ⟨l, _, rfl, by rw [refs]; exact at_, ks3, few', go⟩
end
end R7

/-! a for over a list or a tuple, whichever it is -/
namespace R7
open PySem PySem.Spec PyProof.Rows L2 L5 M7
section
variable {X : Cx} {tg : Expr}
def iAny (K : PySem.W.Frag) (tl : TE) : TI := fun σ H R => tl σ H fun x H1 => ∃ a, x = .ref a ∧ (((∃ xs, SqL K H1 a xs) ∧ R (Itl K a) H1) ∨ ((∃ xs, SqT K H1 a xs) ∧ R (Itt K a) H1))
theorem pi_any {l : Expr} {tl : TE} (hl : PE X l tl) : PI X tg l (iAny X.K tl) := by
  refine ⟨fun pins s σ H R I h => thn (hl.run pins s σ H _ I h) fun v s1 ⟨x, H1, I1, r1, q1⟩ => ?_⟩
  obtain ⟨a, ea, ⟨⟨xs, at_⟩, q⟩ | ⟨⟨xs, at_⟩, q⟩⟩ := q1
  · subst ea; cases r1
    obtain ⟨_, _, plain, _⟩ := I1.list at_
    refine wpAny_pyIter_list plain.isList ⟨s1.heap.objs.size, [s1.heap.objs.size], _, _, H1, rfl, I1.kept (t' := s1.toks) fun b o e => Heap.get?_push_of_some _ e, turn_list a _, ⟨_, Heap.get?_push_size _ rfl, rfl, rfl⟩, fun b hb => ?_, q⟩
    obtain rfl : b = s1.heap.objs.size := List.mem_singleton.mp hb
    exact I1.fpOk (Nat.le_refl _) (I1.hok.fresh (Nat.le_refl _))
  · subst ea; cases r1
    obtain ⟨its, _, plain, _⟩ := I1.tuple at_
    refine wpAny_pyIter_tuple (show s1.heap.IsTuple a its.toArray from plain) ⟨s1.heap.objs.size, [s1.heap.objs.size], _, _, H1, rfl, I1.kept (t' := s1.toks) fun b o e => Heap.get?_push_of_some _ e, turn_tuple a _, ⟨_, Heap.get?_push_size _ rfl, rfl, rfl⟩, fun b hb => ?_, q⟩
    obtain rfl : b = s1.heap.objs.size := List.mem_singleton.mp hb
    exact I1.fpOk (Nat.le_refl _) (I1.hok.fresh (Nat.le_refl _))
end
def SqA (K : PySem.W.Frag) (H : Hp) (a : Addr) (xs : List V) : Prop := SqL K H a xs ∨ SqT K H a xs
section
variable {K : PySem.W.Frag} {H H' : Hp}
theorem sql_same {a : Addr} {xs : List V} (e : Same H H') (h : SqL K H a xs) : SqL K H' a xs := e.seq h
theorem SqA.same {a : Addr} {xs : List V} (e : Same H H') (h : SqA K H a xs) : SqA K H' a xs := h.imp (e.seq ·) (same_sqt e ·)
abbrev Turns (J : It) (g : TG) (tb : TS) (D : Ends) (σ : L2.St) (H : Hp) : Prop := ∃ W : Nat → Nat → L2.St → Hp → Prop, (∃ m, W 0 m σ H) ∧ ∀ i m σ H, W i m σ H →
  (J.stop i H ∧ D.nx σ H) ∨ (J.go i H ∧ ∃ N : L2.St → Hp → Prop, (∀ σ' H', N σ' H' → ∃ m', m' < m ∧ W (i + 1) m' σ' H') ∧ ∀ x H', J.yld i H x H' → g x σ H' fun σ2 H2 => tb { D with nx := N, ct := N, bk := D.nx } σ2 H2)
theorem for_any {a : Addr} {xs : List V} {g : TG} {tb : TS} {D : Ends} {σ : L2.St} (at_ : SqA K H a xs) (Pv : Nat → L2.St → Hp → Prop) (h0 : Pv 0 σ H) (keep : ∀ i σ' H', Pv i σ' H' → Same H H')
    (step : ∀ i x σ H, xs[i]? = some x → Pv i σ H → g x σ H fun σ2 H2 => tb { D with nx := Pv (i + 1), ct := Pv (i + 1), bk := D.nx } σ2 H2) (done : ∀ σ H, Pv xs.length σ H → D.nx σ H) :
    ((∃ xs, SqL K H a xs) ∧ Turns (Itl K a) g tb D σ H) ∨ ((∃ xs, SqT K H a xs) ∧ Turns (Itt K a) g tb D σ H) :=
  at_.elim (fun h => .inl ⟨⟨_, h⟩, for_list Pv h0 (fun i σ' H' _ p => (keep i σ' H' p).seq h) step done⟩) fun h => .inr ⟨⟨_, h⟩, for_tup Pv h0 (fun i σ' H' _ p => same_sqt (keep i σ' H' p) h) step done⟩
end
end R7

/-! [e for a in t for b in u], t and u tuples: the turns of both walks -/
namespace R7
open PySem PySem.Spec PyProof.Rows L2 L5 M7
section
variable {K : PySem.W.Frag} {g g1 : TG} {tt tt1 : TT} {te : TE} {vs vs1 : List Nat} {D : Addr}
abbrev In2 (J1 : It) (g1 : TG) (tt1 : TT) (te : TE) (vs1 : List Nat) (D : Addr) (σ2 : L2.St) (H4 : Hp) (Nx : Hp → Prop) : Prop := ∃ W1 : Nat → Nat → Hp → Prop, (∃ m, W1 0 m H4) ∧ ∀ j k H, W1 j k H →
  (J1.stop j H ∧ Nx H) ∨ (J1.go j H ∧ ∃ Nx1 : Hp → Prop, (∀ H', Nx1 H' → ∃ k', k' < k ∧ W1 (j + 1) k' H') ∧ ∀ x H', J1.yld j H x H' → g1 x (wipe σ2 vs1) H' fun σ3 H5 => wipe σ3 vs1 = wipe σ2 vs1 ∧ tt1 σ3 H5 fun b H6 =>
    if b = true then te σ3 H6 fun y H7 => ∃ acc, H7 D = some (.lst acc) ∧ acc.length < sizeLine ∧ Nx1 (upd H7 D (.lst (acc ++ [y]))) else Nx1 H6)
theorem in2_tup {b : Addr} {ys : List V} {σ2 : L2.St} {H4 : Hp} {Nx : Hp → Prop} (Pj : Nat → Hp → Prop) (h0 : Pj 0 H4) (at_ : ∀ j H, Pj j H → SqT K H b ys)
    (step : ∀ j y H, ys[j]? = some y → Pj j H → g1 y (wipe σ2 vs1) H fun σ3 H5 => wipe σ3 vs1 = wipe σ2 vs1 ∧ tt1 σ3 H5 fun c H6 => if c = true then te σ3 H6 fun z H7 => ∃ acc, H7 D = some (.lst acc) ∧ acc.length < sizeLine ∧ Pj (j + 1) (upd H7 D (.lst (acc ++ [z]))) else Pj (j + 1) H6)
    (done : ∀ H, Pj ys.length H → Nx H) : In2 (Itt K b) g1 tt1 te vs1 D σ2 H4 Nx := by
  refine ⟨fun j k H => j + k = ys.length ∧ Pj j H, ⟨ys.length, Nat.zero_add _, h0⟩, fun j k H0 hw => ?_⟩
  obtain ⟨e, pj⟩ := hw
  have here := at_ j H0 pj
  cases k with
  | zero =>
    obtain rfl : j = ys.length := e
    exact .inl ⟨⟨ys, here, Nat.le_refl _⟩, done H0 pj⟩
  | succ k =>
    have lt : j < ys.length := by omega
    refine .inr ⟨⟨ys, ys[j], here, List.getElem?_eq_getElem lt⟩, Pj (j + 1), fun H' p' => ⟨k, Nat.lt_succ_self k, by omega, p'⟩, fun x H' out => ?_⟩
    obtain ⟨same, val⟩ := out
    subst same
    exact step j x _ (val ys here) pj
theorem out2_tup {a : Addr} {xs : List V} {wi1 : TI} {σ : L2.St} {H1 : Hp} {Qd : Hp → Prop} (Pi : Nat → Hp → Prop) (h0 : Pi 0 (upd H1 D (.lst []))) (at_ : ∀ i H, Pi i H → SqT K H a xs)
    (step : ∀ i x H, xs[i]? = some x → Pi i H → g x (wipe σ vs) H fun σ2 H2 => wipe σ2 vs = wipe σ vs ∧ tt σ2 H2 fun c H3 => if c = true then wi1 σ2 H3 fun J1 H4 => In2 J1 g1 tt1 te vs1 D σ2 H4 (Pi (i + 1)) else Pi (i + 1) H3)
    (done : ∀ H, Pi xs.length H → Qd H) :
    ∃ W : Nat → Nat → Hp → Prop, (∃ m, W 0 m (upd H1 D (.lst []))) ∧ ∀ i m H, W i m H →
      ((Itt K a).stop i H ∧ Qd H) ∨ ((Itt K a).go i H ∧ ∃ Nx : Hp → Prop, (∀ H', Nx H' → ∃ m', m' < m ∧ W (i + 1) m' H') ∧ ∀ x H', (Itt K a).yld i H x H' → g x (wipe σ vs) H' fun σ2 H2 => wipe σ2 vs = wipe σ vs ∧ tt σ2 H2 fun c H3 =>
        if c = true then wi1 σ2 H3 fun J1 H4 => In2 J1 g1 tt1 te vs1 D σ2 H4 Nx else Nx H3) := by
  refine ⟨fun i m H => i + m = xs.length ∧ Pi i H, ⟨xs.length, Nat.zero_add _, h0⟩, fun i m H0 hw => ?_⟩
  obtain ⟨e, pi⟩ := hw
  have here := at_ i H0 pi
  cases m with
  | zero =>
    obtain rfl : i = xs.length := e
    exact .inl ⟨⟨xs, here, Nat.le_refl _⟩, done H0 pi⟩
  | succ m =>
    have lt : i < xs.length := by omega
    refine .inr ⟨⟨xs, xs[i], here, List.getElem?_eq_getElem lt⟩, Pi (i + 1), fun H' p' => ⟨m, Nat.lt_succ_self m, by omega, p'⟩, fun x H' out => ?_⟩
    obtain ⟨same, val⟩ := out
    subst same
    exact step i x _ (val xs here) pi
end
end R7

/-! an operator between two objects of one own class -/
namespace W7
open PySem PySem.W PySem.Calls PyProof.Rows
section
variable {prog : Program} {w : World} {A : Around} {E : Value → Shared → Prop} {s : Shared} {K : Frag} {x y C f : Addr} {ox oy : Obj} {od oe : Option Obj}
theorem fills_own {M : Model} {h : Heap} {cd : ClassData} {rest : List Value} {nm : String} (kin : K.In h) (hc : clsIn K C = some cd) (hm : cd.mro = .ref C :: rest) (hs : findIn K (.ref C) (PySem.dunder nm) = some (some (.ref f))) : Looks M h (fillsNumberSlot (.ref C) nm) true := fills_K kin hc hm hs
theorem bin_same {op : Operator} {Q : Value → Shared → Prop} (kin : K.In s.heap) (I : InstAt s.heap x ox C od) (J : InstAt s.heap y oy C oe) (first : selfFirst K C = true)
    (at_ : findIn K (.ref C) (PySem.dunder op.info.2) = some (some (.ref f))) (fn : isFn K (.ref f) = true) (h : wpAny (model prog w) A (call (.ref f) [.ref x, .ref y]) (PySem.W.CmpBack Q) E s) : wpAny (model prog w) A (binaryOp op (.ref x) (.ref y)) Q E s := by
  obtain ⟨cd, rest, known, mro⟩ := ksp_first first
  rcases info : op.info with ⟨sign, word⟩
  rw [info] at at_
  dsimp only at at_
  have tried := ksp_try kin I at_ fn h
  obtain ⟨hp, g, d, t, os⟩ := s
  have T1 : Looks (model prog w) hp (typeOf (.ref x)) (.ref C) := I.type
  have T2 : Looks (model prog w) hp (typeOf (.ref y)) (.ref C) := J.type
  have T3 : Looks (model prog w) hp (fillsNumberSlot (.ref C) word) true := fills_own kin known mro at_
  have same : (Value.ref C == Value.ref C) = true := beq_self_eq_true _
  simp only [binaryOp, info]
  refine wpAny_holding (wpAny_bind ?_)
  unfold binaryOp1
  refine wpAny_bind (T1.at (wpAny_bind (T2.at (wpAny_bind (T3.at ?_)))))
  simp only [same, if_true]
  ksp_lk
  refine wpAny_mono tried (fun r s' got => ?_) fun _ _ e => e
  obtain ⟨v, rfl, q⟩ := got
  ksp_lk
  exact q
end
end W7

namespace W7
open PySem PySem.Spec PyProof.Rows L2
section
variable {X : Cx} {CX : CXT} {C f : Addr} {fd : FuncData} {ps : List Str} {sp : Sp} {k : Nat} {op : Operator}
/-- a op b, both of the own class at C; sp: the method's promise -/
def rOwn (C : Addr) (sp : Sp) : R2 := fun x y H Q => ∃ (a b dx dy : Addr) (fs gs : List (Str × V)), x = .ref a ∧ y = .ref b ∧ H a = some (.ins C dx fs) ∧ H b = some (.ins C dy gs) ∧ sp [.ref a, .ref b] H Q E0
theorem no_notimpl {x : V} (h : RelV x .notImplemented) : False := by
  cases x <;> first | exact h.elim | (obtain ⟨_, e⟩ := h; cases e) | cases h
theorem op_own (first : PySem.W.selfFirst X.K C = true) (at_ : PySem.W.findIn X.K (.ref C) (PySem.dunder op.info.2) = some (some (.ref f))) (fn : PySem.W.isFn X.K (.ref f) = true) (F : FnOk X.prog X.w X.K X.mg X.base CX k f fd ps sp) (hr : Room k X.A) (hb : Binds X.K fd ps []) (hx : Passes CX X E0) : OpR X (binaryOp op) (rOwn C sp) := by
  intro pins s σ H x y v u Q I rx ry h
  obtain ⟨a, b, dx, dy, fs, gs, rfl, rfl, ha, hb2, q⟩ := h
  obtain rfl : v = Value.ref a := rx
  obtain rfl : u = Value.ref b := ry
  obtain ⟨_, Oa, _⟩ := ins_get I.hok ha
  obtain ⟨_, Ja, _⟩ := Oa.look
  obtain ⟨_, Ob, _⟩ := ins_get I.hok hb2
  obtain ⟨_, Jb, _⟩ := Ob.look
  refine bin_same I.kIn Ja Jb first at_ fn (wpAny_mono (run_fn (dvs := []) (ds := []) (vs := [.ref a, .ref b]) (us := [.ref a, .ref b]) (Q := Q) F hr hb .nil hx I (.cons rfl (.cons rfl .nil)) q) (fun r s' z => ?_) fun _ _ z => z)
  cases r with
  | notImplemented =>
    obtain ⟨_, _, _, rel, _⟩ := z
    exact no_notimpl rel
  | _ => exact z
end
end W7

/-! == between two objects of one own class -/
namespace W7
open PySem PySem.W PySem.Calls PyProof.Rows
section
variable {prog : Program} {w : World} {A : Around} {E : Value → Shared → Prop} {s : Shared} {K : Frag} {x y C f : Addr} {ox oy : Obj} {od oe : Option Obj}
theorem cmp_same {op : CmpOp} {Q : Value → Shared → Prop} (room : A.units < cLine) (kin : K.In s.heap) (I : InstAt s.heap x ox C od) (J : InstAt s.heap y oy C oe)
    (at_ : findIn K (.ref C) (cmpInfo op).2.1 = some (some (.ref f))) (fn : isFn K (.ref f) = true) (h : wpAny (model prog w) A (call (.ref f) [.ref x, .ref y]) (PySem.W.CmpBack Q) E s) : wpAny (model prog w) A (richCompare op (.ref x) (.ref y)) Q E s := by
  have tried : wpAny (model prog w) A (tryCompare (.ref x) (cmpInfo op).2.1 (.ref y)) (fun r s' => ∃ v, r = some v ∧ Q v s') E s := by
    unfold tryCompare
    refine wpAny_bind (ifBound_K kin I at_ fn (wpAny_mono h (fun v s' hv => ?_) fun _ _ e => e))
    cases v <;> first | exact hv.elim | exact wpAny_pure ⟨_, rfl, hv⟩
  unfold richCompare
  simp only [oneThing_ref]
  refine wpAny_holding (wpAny_bind (wpAny_cRoomFor room (wpAny_bind (I.type.here (wpAny_bind (J.type.here ?_))))))
  have same : (Value.ref C != Value.ref C) = false := by simp
  simp only [same, Bool.false_eq_true, if_false]
  refine wpAny_bind (wpAny_pure ?_)
  simp only [Bool.false_eq_true, if_false]
  refine wpAny_bind (wpAny_mono tried (fun r s' got => ?_) fun _ _ e => e)
  obtain ⟨v, rfl, q⟩ := got
  exact wpAny_pure q
end
end W7
namespace W7
open PySem PySem.Spec PyProof.Rows L2
section
variable {X : Cx} {CX : CXT} {C f : Addr} {fd : FuncData} {ps : List Str} {sp : Sp} {k : Nat}
theorem op_eqOwn (at_ : PySem.W.findIn X.K (.ref C) "__eq__" = some (some (.ref f))) (fn : PySem.W.isFn X.K (.ref f) = true) (F : FnOk X.prog X.w X.K X.mg X.base CX k f fd ps sp) (hr : Room k X.A) (hb : Binds X.K fd ps []) (hx : Passes CX X E0) : OpR X (compareOp .Eq) (rOwn C sp) := by
  intro pins s σ H x y v u Q I rx ry h
  obtain ⟨a, b, dx, dy, fs, gs, rfl, rfl, ha, hb2, q⟩ := h
  obtain rfl : v = Value.ref a := rx
  obtain rfl : u = Value.ref b := ry
  obtain ⟨_, Oa, _⟩ := ins_get I.hok ha
  obtain ⟨_, Ja, _⟩ := Oa.look
  obtain ⟨_, Ob, _⟩ := ins_get I.hok hb2
  obtain ⟨_, Jb, _⟩ := Ob.look
  refine cmp_same (op := .Eq) (Nat.lt_of_le_of_lt (Nat.le_add_right _ _) hr.units) I.kIn Ja Jb at_ fn (wpAny_mono (run_fn (dvs := []) (ds := []) (vs := [.ref a, .ref b]) (us := [.ref a, .ref b]) (Q := Q) F hr hb .nil hx I (.cons rfl (.cons rfl .nil)) q) (fun r s' z => ?_) fun _ _ z => z)
  cases r with
  | notImplemented =>
    obtain ⟨_, _, _, rel, _⟩ := z
    exact no_notimpl rel
  | _ => exact z
end
end W7

/-! in, not in, len, str, != of objects of one own class -/
namespace W7
open PySem PySem.W PySem.Calls PyProof.Rows Builtin
section
variable {M : Model} {prog : Program} {w : World} {A : Around} {E : Value → Shared → Prop} {s : Shared} {K : Frag} {x y C f : Addr} {ox oy : Obj} {od oe : Option Obj} {v : Value}
theorem contains_in {Q : Bool → Shared → Prop} (X : K.In s.heap) (I : InstAt s.heap x ox C od) (hs : findIn K (.ref C) "__contains__" = some (some (.ref f))) (hf : isFn K (.ref f) = true)
    (h : wpAny M A (call (.ref f) [.ref x, v]) (PySem.W.BoolBack Q) E s) : wpAny M A (contains (.ref x) v) Q E s := by
  unfold contains
  refine wpAny_holding (wpAny_bind (wpAny_bind (I.type.here ((looks_findIn X hs).here ?_))))
  rw [if_neg (by simp)]
  refine wpAny_bind (unlessNone_K X I hs hf (wpAny_mono h (fun r s' z => ?_) fun _ _ e => e))
  cases r <;> first | exact z.elim | exact wpAny_truthy_bool z
theorem len_in {Q : Value → Shared → Prop} (X : K.In s.heap) (I : InstAt s.heap x ox C od) (hs : findIn K (.ref C) "__len__" = some (some (.ref f))) (hf : isFn K (.ref f) = true)
    (h : wpAny (model prog w) A.in1 (call (.ref f) [.ref x]) (PySem.W.LenBack Q) E s) : wpAny (model prog w) A (call (.builtin "len") [.ref x]) Q E s := by
  refine Calls.call_function_entry kind_len plain_len entry_len (args_len1 _) ?_
  unfold Builtin.«len»
  refine wpAny_bind (m := oneArg "len" _) (wpAny_pure ?_)
  refine wpAny_bind (m := callSpecial? (.ref x) (Str.ofString "__len__")) (special_fn X I hs (beq_iff_eq.mp hf) (wpAny_mono h (fun r s' hr => ?_) fun _ _ y => y))
  cases r <;> first | exact hr.elim | skip
  rename_i n u
  obtain ⟨⟨h0, h1⟩, hq⟩ := hr
  refine wpAny_bind (wpAny_holding (wpAny_pure ?_))
  refine wpAny_bind (wpAny_letGo ?_)
  show wpAny _ _ (if n < 0 then _ else _) _ _ _
  rw [if_neg (by omega)]
  show wpAny _ _ (if n ≥ 2 ^ 63 then _ else _) _ _ _
  rw [if_neg (by omega)]
  exact wpAny_bind (wpAny_mkInt (wpAny_pure ⟨_, rfl, hq⟩))
theorem ifBound_B {name : Str} {id : String} {args : List Value} {Q : Option Value → Shared → Prop} (X : K.In s.heap) (I : InstAt s.heap x ox C od) (hs : findIn K (.ref C) name = some (some (.builtin id)))
    (hb : ∀ self, bindSpecial (.builtin id) self = pure (.builtin id, [self])) (h : wpAny M A (call (.builtin id) (.ref x :: args)) (fun v => Q (some v)) E s) : wpAny M A (callSpecialIfBound? (.ref x) name args) Q E s := by
  simp only [callSpecialIfBound?, bindSpecialIfBound?]
  refine wpAny_holding (wpAny_bind (wpAny_bind (wpAny_bind (I.type.here ((looks_findIn X hs).here ?_)))))
  refine wpAny_bind (wpAny_askSetting (wpAny_ite ?_))
  have fin : wpAny M A (call (.builtin id) ([.ref x] ++ args) >>= fun v => pure (some v)) Q E s := wpAny_bind (wpAny_mono h (fun v s' h' => wpAny_pure h') fun _ _ h' => h')
  split
  · exact wpAny_bind ((Looks.of_pure (hb _)).here (wpAny_pure (by exact fin)))
  · exact wpAny_tryCatch (wpAny_bind ((Looks.of_pure (hb _)).here (wpAny_pure (by exact fin))))
theorem object_ne_own {Q : Value → Shared → Prop} (hu : A.in1.units < cLine) (X : K.In s.heap) (I : InstAt s.heap x ox C od) (hm : mroIn K C (.type "object") = some true) (hr : findIn K (.ref C) "__eq__" = some (some (.ref f))) (hf : isFn K (.ref f) = true)
    (h : wpAny (model prog w) A.in1 (call (.ref f) [.ref x, .ref y]) (PySem.W.BoolBack fun b => Q (.bool (!b))) E s) : wpAny (model prog w) A (call (.builtin "object.__ne__") [.ref x, .ref y]) Q E s := by
  refine wpAny_call (codeAny_call_builtin PySem.F.slot_object_ne.plain PySem.F.entry_object_ne (check_slot (i := "object.__ne__") (owner := "object") (n := "__ne__") (by decide +kernel) (by decide +kernel) (I.type.andThen (looks_mroIn X hm)) (PySem.F.args_object_ne_2 _ _) ?_))
  unfold Builtin.«object.__ne__»
  refine wpAny_bind (m := slotArgs "__ne__" 1 _) (wpAny_pure ?_)
  refine wpAny_bind (m := cRoomFor _ _) (wpAny_cRoomFor hu ?_)
  refine wpAny_bind (m := callSpecialIfBound? (.ref x) (Str.ofString "__eq__") _) (ifBound_K X I hr hf (wpAny_mono h (fun r s' hq => ?_) fun _ _ y => y))
  cases r <;> first | exact hq.elim | skip
  rename_i b
  exact wpAny_bind (wpAny_truthy_bool (wpAny_pure hq))
theorem ne_same {Q : Value → Shared → Prop} (room : A.units < cLine) (room1 : A.in1.units < cLine) (kin : K.In s.heap) (I : InstAt s.heap x ox C od) (J : InstAt s.heap y oy C oe) (hm : mroIn K C (.type "object") = some true)
    (hn : findIn K (.ref C) (cmpInfo .NotEq).2.1 = some (some (.builtin "object.__ne__"))) (at_ : findIn K (.ref C) "__eq__" = some (some (.ref f))) (fn : isFn K (.ref f) = true)
    (h : wpAny (model prog w) A.in1 (call (.ref f) [.ref x, .ref y]) (PySem.W.BoolBack fun b => Q (.bool (!b))) E s) : wpAny (model prog w) A (richCompare .NotEq (.ref x) (.ref y)) Q E s := by
  have tried : wpAny (model prog w) A (tryCompare (.ref x) (cmpInfo .NotEq).2.1 (.ref y)) (fun r s' => ∃ v, r = some v ∧ Q v s') E s := by
    unfold tryCompare
    refine wpAny_bind (ifBound_B kin I hn PySem.F.slot_object_ne.bind (object_ne_own room1 kin I hm at_ fn (wpAny_mono h (fun r s' z => ?_) fun _ _ e => e)))
    cases r <;> first | exact z.elim | skip
    exact wpAny_pure ⟨_, rfl, z⟩
  unfold richCompare
  simp only [oneThing_ref]
  refine wpAny_holding (wpAny_bind (wpAny_cRoomFor room (wpAny_bind (I.type.here (wpAny_bind (J.type.here ?_))))))
  have same : (Value.ref C != Value.ref C) = false := by simp
  simp only [same, Bool.false_eq_true, if_false]
  refine wpAny_bind (wpAny_pure ?_)
  simp only [Bool.false_eq_true, if_false]
  refine wpAny_bind (wpAny_mono tried (fun r s' got => ?_) fun _ _ e => e)
  obtain ⟨v, rfl, q⟩ := got
  exact wpAny_pure q
end
end W7
namespace W7
open PySem PySem.Spec PyProof.Rows L2
section
variable {X : Cx} {CX : CXT} {C f : Addr} {fd : FuncData} {ps : List Str} {sp : Sp} {k : Nat}
/-- v in o, o of the own class at C -/
def rInOwn (C : Addr) (sp : Sp) (g : Bool → Bool) : R2 := fun x y H Q => ∃ (a dx : Addr) (fs : List (Str × V)), y = .ref a ∧ H a = some (.ins C dx fs) ∧ sp [.ref a, x] H (fun v H' => ∃ b, v = .bl b ∧ Q (.bl (g b)) H') E0
theorem run_in {pins : List (Addr × Obj)} {s : Shared} {σ : L2.St} {H : Hp} {x : V} {v : Value} {Q : Bool → Shared → Prop} {R : Bool → Hp → Prop} {a dx : Addr} {fs : List (Str × V)} (at_ : PySem.W.findIn X.K (.ref C) "__contains__" = some (some (.ref f))) (fn : PySem.W.isFn X.K (.ref f) = true) (F : FnOk X.prog X.w X.K X.mg X.base CX k f fd ps sp) (hr : Room k X.A) (hb : Binds X.K fd ps []) (hx : Passes CX X E0)
    (I : Inv X pins σ H s) (rx : RelV x v) (ha : H a = some (.ins C dx fs)) (q : sp [.ref a, x] H (fun v H' => ∃ b, v = .bl b ∧ R b H') E0) (hQ : ∀ b H' s', Inv X pins σ H' s' → R b H' → Q b s') : wpAny (model X.prog X.w) X.A (contains (.ref a) v) Q X.xe s := by
  obtain ⟨_, Oa, _⟩ := ins_get I.hok ha
  obtain ⟨_, Ja, _⟩ := Oa.look
  refine contains_in I.kIn Ja at_ fn (wpAny_mono (run_fn (dvs := []) (ds := []) (vs := [.ref a, x]) (us := [.ref a, v]) F hr hb .nil hx I (.cons rfl (.cons rx .nil)) q) (fun r s' z => ?_) fun _ _ z => z)
  obtain ⟨u, H', I', ru, b, rfl, hR⟩ := z
  cases (show r = Value.bool b from ru)
  exact hQ b H' s' I' hR
theorem op_inOwn (at_ : PySem.W.findIn X.K (.ref C) "__contains__" = some (some (.ref f))) (fn : PySem.W.isFn X.K (.ref f) = true) (F : FnOk X.prog X.w X.K X.mg X.base CX k f fd ps sp) (hr : Room k X.A) (hb : Binds X.K fd ps []) (hx : Passes CX X E0) : OpR X (compareOp .In) (rInOwn C sp id) := by
  intro pins s σ H x y v u Q I rx ry h
  obtain ⟨a, dx, fs, rfl, ha, q⟩ := h
  obtain rfl : u = Value.ref a := ry
  exact wpAny_bind (run_in at_ fn F hr hb hx I rx ha q fun b H' s' I' hR => wpAny_pure ⟨.bl b, H', I', rfl, hR⟩)
theorem op_notinOwn (at_ : PySem.W.findIn X.K (.ref C) "__contains__" = some (some (.ref f))) (fn : PySem.W.isFn X.K (.ref f) = true) (F : FnOk X.prog X.w X.K X.mg X.base CX k f fd ps sp) (hr : Room k X.A) (hb : Binds X.K fd ps []) (hx : Passes CX X E0) : OpR X (compareOp .NotIn) (rInOwn C sp not) := by
  intro pins s σ H x y v u Q I rx ry h
  obtain ⟨a, dx, fs, rfl, ha, q⟩ := h
  obtain rfl : u = Value.ref a := ry
  exact wpAny_bind (run_in at_ fn F hr hb hx I rx ha q fun b H' s' I' hR => wpAny_pure ⟨.bl (!b), H', I', rfl, hR⟩)
/-- a run somewhere below the running body -/
theorem run_sub {pins : List (Addr × Obj)} {σ : L2.St} {H : Hp} {s : Shared} {Q : VK} {us : List Value} {vs : List V} {A1 : Around} {E : XK} (F : FnOk X.prog X.w X.K X.mg X.base CX k f fd ps sp) (sb : Sub X k A1) (hb : Binds X.K fd ps []) (hx : Passes CX X E)
    (I : Inv X pins σ H s) (r : Vals vs us) (h : sp vs H Q E) : wpAny (model X.prog X.w) A1 (call (.ref f) us) (EP X pins σ Q) X.xe s := by
  have e0 : Env0 X.prog X.w X.K X.mg X.base A1 X.stack s H := by
    have e := I.env0
    exact ⟨by rw [sb.fr]; exact e.frames, e.mod, e.bs, e.bsz, e.funs, e.frf, e.hok, e.bare⟩
  have hl := F.len _ _ _ _ h
  have hl2 : us.length = ps.length := by rw [← r.length]; exact hl
  refine wpAny_call (codeAny_mono (F.run A1 X.stack s H ⟨us, []⟩ us vs Q E sb.room e0 (by
    have := hb s us I.kIn (by rw [List.append_nil]; exact hl2)
    rw [List.append_nil] at this
    exact this) r h) fun r s' hq => ?_)
  cases r with
  | error e => exact hx pins σ H s e s' I hq
  | ok fl =>
    cases fl with
    | ret u => exact I.after hq
    | next => exact False.elim hq
    | brk => exact False.elim hq
    | cont => exact False.elim hq
def rLenOwn (C : Addr) (sp : Sp) : List V → Hp → VK → Prop := fun vs H Q => ∃ (a dx : Addr) (fs : List (Str × V)), vs = [.ref a] ∧ H a = some (.ins C dx fs) ∧ sp [.ref a] H (fun v H' => ∃ n : Nat, v = .int ((n : Nat) : Int) ∧ n < 1000000 ∧ Q (.int ((n : Nat) : Int)) H') E0
theorem call_lenOwn1 (at_ : PySem.W.findIn X.K (.ref C) "__len__" = some (some (.ref f))) (fn : PySem.W.isFn X.K (.ref f) = true) (F : FnOk X.prog X.w X.K X.mg X.base CX k f fd ps sp) (hr : Room (k + 1) X.A) (hb : Binds X.K fd ps []) (hx : Passes CX X E0) : CallR X (.builtin "len") (rLenOwn C sp) := by
  intro pins s σ H vs us Q I r h
  obtain ⟨a, dx, fs, rfl, ha, q⟩ := h
  cases r with
  | cons r0 rr =>
    cases rr
    cases r0
    obtain ⟨_, Oa, _⟩ := ins_get I.hok ha
    obtain ⟨_, Ja, _⟩ := Oa.look
    refine len_in I.kIn Ja at_ fn (wpAny_mono (run_sub (vs := [.ref a]) (us := [.ref a]) F ⟨hr.in1, rfl⟩ hb hx I (.cons rfl .nil) q) (fun r s' z => ?_) fun _ _ z => z)
    obtain ⟨v, H', I', rv, n, rfl, hn, hQ⟩ := z
    obtain ⟨t, rfl⟩ := rv
    exact ⟨⟨by omega, by omega⟩, .int _, H', I'.tok _, ⟨_, rfl⟩, hQ⟩
def rStrOwn (C : Addr) (sp : Sp) : List V → Hp → VK → Prop := fun vs H Q => ∃ (a dx : Addr) (fs : List (Str × V)), vs = [.ref a] ∧ H a = some (.ins C dx fs) ∧ sp [.ref a] H (fun v H' => ∃ x : Str, v = .str x ∧ Q (.str x) H') E0
theorem call_strOwn1 (at_ : PySem.W.findIn X.K (.ref C) "__str__" = some (some (.ref f))) (fn : PySem.W.isFn X.K (.ref f) = true) (F : FnOk X.prog X.w X.K X.mg X.base CX k f fd ps sp) (hr : Room (k + 2) X.A) (hb : Binds X.K fd ps []) (hx : Passes CX X E0) : CallR X (.type "str") (rStrOwn C sp) := by
  intro pins s σ H vs us Q I r h
  obtain ⟨a, dx, fs, rfl, ha, q⟩ := h
  cases r with
  | cons r0 rr =>
    cases rr
    cases r0
    obtain ⟨_, Oa, _⟩ := ins_get I.hok ha
    obtain ⟨_, Ja, _⟩ := Oa.look
    have sb : Sub X k X.A.in1.in1 := ⟨(hr.in1).in1, rfl⟩
    refine PySem.W.kso_call (Nat.lt_of_le_of_lt (Nat.le_add_right _ 64) sb.room.units) I.kIn Ja at_ fn (wpAny_mono (run_sub (vs := [.ref a]) (us := [.ref a]) F sb hb hx I (.cons rfl .nil) q) (fun r s' z => ?_) fun _ _ z => z)
    obtain ⟨v, H', I', rv, x, rfl, hQ⟩ := z
    obtain ⟨t, rfl⟩ := rv
    exact ⟨.str x, H', I', ⟨_, rfl⟩, hQ⟩
def rNeOwn (C : Addr) (sp : Sp) : R2 := fun x y H Q => ∃ (a b dx dy : Addr) (fs gs : List (Str × V)), x = .ref a ∧ y = .ref b ∧ H a = some (.ins C dx fs) ∧ H b = some (.ins C dy gs) ∧ sp [.ref a, .ref b] H (fun v H' => ∃ c, v = .bl c ∧ Q (.bl (!c)) H') E0
theorem op_neOwn (hm : PySem.W.mroIn X.K C (.type "object") = some true) (hn : PySem.W.findIn X.K (.ref C) "__ne__" = some (some (.builtin "object.__ne__"))) (at_ : PySem.W.findIn X.K (.ref C) "__eq__" = some (some (.ref f))) (fn : PySem.W.isFn X.K (.ref f) = true) (F : FnOk X.prog X.w X.K X.mg X.base CX k f fd ps sp) (hr : Room (k + 1) X.A) (hb : Binds X.K fd ps []) (hx : Passes CX X E0) : OpR X (compareOp .NotEq) (rNeOwn C sp) := by
  intro pins s σ H x y v u Q I rx ry h
  obtain ⟨a, b, dx, dy, fs, gs, rfl, rfl, ha, hb2, q⟩ := h
  obtain rfl : v = Value.ref a := rx
  obtain rfl : u = Value.ref b := ry
  obtain ⟨_, Oa, _⟩ := ins_get I.hok ha
  obtain ⟨_, Ja, _⟩ := Oa.look
  obtain ⟨_, Ob, _⟩ := ins_get I.hok hb2
  obtain ⟨_, Jb, _⟩ := Ob.look
  have sb : Sub X k X.A.in1 := ⟨hr.in1, rfl⟩
  refine ne_same (Nat.lt_of_le_of_lt (Nat.le_add_right _ _) hr.units) (Nat.lt_of_le_of_lt (Nat.le_add_right _ _) sb.room.units) I.kIn Ja Jb hm hn at_ fn (wpAny_mono (run_sub (vs := [.ref a, .ref b]) (us := [.ref a, .ref b]) F sb hb hx I (.cons rfl (.cons rfl .nil)) q) (fun r s' z => ?_) fun _ _ z => z)
  obtain ⟨v, H', I', rv, c, rfl, hQ⟩ := z
  cases (show r = Value.bool c from rv)
  exact ⟨.bl (!c), H', I', rfl, hQ⟩
end
end W7

/-! iteration over an object whose own __iter__ gives an iterator over a tuple -/
namespace W7
open PySem PySem.Spec PyProof.Rows L2 ItX
/-- at it a new iterator over the tuple at m -/
def ItTO (m it : Addr) : HO := .ext fun h => h.IsTupleIter it m 0
section
variable {X : Cx}
theorem itT_ok {P : Program} {w : World} {H : Hp} {h : Heap} {m it : Addr} (e : h.IsTupleIter it m 0) : ObjOk P w H h it (ItTO m it) := ⟨e, (by obtain ⟨o, ho, _⟩ := e; exact ⟨o, ho⟩), fun h1 h2 q k => q.at fun o z => k o z⟩
def rIterTN (K : PySem.W.Frag) (n : Nat) : List V → Hp → VK → Prop := fun xs H Q => ∃ (l : Addr) (zs : List V), xs = [.ref l] ∧ SqT K H l zs ∧ ∀ it, H it = Option.none → n ≤ it → Q (.ref it) (upd H it (ItTO l it))
open Builtin in
theorem call_iterTN : CallR X (.builtin "iter") (rIterTN X.K X.s_0.heap.objs.size) := by
  intro pins s σ H xs us Q I r h
  obtain ⟨l, zs, rfl, hq, q⟩ := h
  obtain ⟨u, rfl, ru⟩ := vals1 r
  cases ru
  obtain ⟨its, rv, pl, hz⟩ := I.tuple hq
  refine Calls.call_function_entry (by decide +kernel) (by decide +kernel) PySem.W.kdk_entry_iter (PySem.W.kdk_args_iter _) ?_
  unfold Builtin.«iter»
  refine wpAny_bind (m := someArgs "iter" 1 2 _) (wpAny_of_eq (a := [Value.ref l]) (by first | rfl | kernel_rfl!) ?_)
  show wpAny _ _ (pyIter (.ref l) >>= _) _ _ _
  refine wpAny_bind (wpAny_pyIter_tuple pl ?_)
  refine wpAny_pure ⟨_, rfl, ?_⟩
  exact ⟨.ref s.heap.objs.size, _, I.laid (t' := s.toks) (fun b u e => Heap.get?_push_of_some _ e) (Nat.le_refl _) (itT_ok ⟨_, Heap.get?_push_size _ rfl, rfl, rfl⟩), rfl, q _ (I.hok.fresh (Nat.le_refl _)) I.sz⟩
end
/-- a call of an own def in one state: what is promised may speak of the state -/
theorem fn_at {CX : CXT} {P : Program} {w : World} {K : PySem.W.Frag} {mg : Str → Option Value} {base : Heap} {k : Nat} {f : Addr} {name qual : Str} {params : Arguments} {body : List Stmt} {scope : Scope} {dV kV doc pm cdv ct oc : Value} {an od : Option Addr}
    {osl : Array (Option Value)} {N ps : List Str} (lk : K.lookup f = some ⟨oc, od, .func (PySem.W.fnOf name qual params body scope dV kV doc pm an cdv ct), osl⟩) (hcd : PySem.W.codeIn K cdv qual = true) (S : FnScope N ps scope)
    {A : Around} {outer : List Env} {s : Shared} {H : Hp} {args : Args} {us : List Value} {vs : List V} {Q : VK} {E : XK} (hr : Room (k + 1) A) (e0 : Env0 P w K mg base A outer s H) (hb : BindsTo s (PySem.W.fnOf name qual params body scope dV kV doc pm an cdv ct) args (ps.zip us)) (r : Vals vs us) (hl : vs.length = ps.length)
    (hbody : Room k (A.deeper (envOfC qual scope s.heap.objs.size f cdv)) → ∃ t, PSs (cxOf CX P w K mg base N qual scope f cdv A outer s H E) body t ∧ t { nx := fun _ H' => Q .non H', rt := Q } (start N vs) H) :
    codeAny (model P w) A (.call (.ref f) args) (CR CX outer P w H s Q E) s := by
  have KX : K.In s.heap := e0.mod.kin.keeps fun b o e => (e0.bs b o e).1
  have lim : s.heap.NoLimit := e0.mod.nolimit.keeps fun b o e => (e0.bs b o e).1
  have kinds : ∀ y ∈ ps.zip us, scope.names.lookup y.1 = some .local ∨ (scope.names.lookup y.1 = some .cell ∧ ((cellsFrom (s.heap.objs.size + 1) scope.names []).lookup y.1).isSome = true) := fun ⟨n, v⟩ hy => by
    rcases S.par n (List.of_mem_zip hy).1 with q | q
    · exact .inl q
    · exact .inr ⟨q, PySem.W.cellsFrom_some _ _ _ (.inl q)⟩
  obtain ⟨t, ht, hq⟩ := hbody (hr.deeper _)
  refine codeAny_call_function hr.depth (KX _ _ lk) rfl S.co S.gen rfl (PySem.W.codeRec_of KX hcd) (hb _ _ _ _ (wpAny_newFunctionEnv_cells S.kind kinds fun env he s1 x => ?_))
  subst he
  refine ⟨lim.keeps x.toInCall.keep, codeAny_func ?_⟩
  have I : Inv (cxOf CX P w K mg base N qual scope f cdv A outer s H E) [] (start N vs) H s1 := inv_start S hr.hd e0 hl r x
  refine wpAny_mono (ht.run [] s1 (start N vs) H _ I hq) (fun fl s' hs => ?_) fun e s' hs => hs
  cases fl with
  | ret u =>
    obtain ⟨v, σ', H', J, rv, q⟩ := hs
    exact ⟨v, H', J.os, J.bare, J.base, J.hok, rv, q⟩
  | next =>
    obtain ⟨σ', H', J, q⟩ := hs
    exact ⟨V.non, H', J.os, J.bare, J.base, J.hok, rfl, q⟩
  | brk =>
    obtain ⟨_, _, _, q⟩ := hs
    exact q.elim
  | cont =>
    obtain ⟨_, _, _, q⟩ := hs
    exact q.elim
/-- what the method __iter__ of the class at C does: m is where the tuple stands, R says which objects are meant -/
def ItM (X : Cx) (C f : Addr) (R : Addr → Addr → Hp → Prop) : Prop :=
  ∀ (pins : List (Addr × Obj)) (s : Shared) (σ : L2.St) (H : Hp) (a m : Addr), Inv X pins σ H s → R a m H → wpAny (model X.prog X.w) X.A (call (.ref f) [.ref a]) (fun v s' => ∃ it, v = .ref it ∧ Inv X pins σ (upd H it (ItTO m it)) s' ∧ H it = none ∧ X.s_0.heap.objs.size ≤ it) X.xe s
def iOwn (C : Addr) (R : Addr → Addr → Hp → Prop) (K : PySem.W.Frag) (te : TE) : TI := fun σ H Q => te σ H fun x H1 => ∃ (a m dx : Addr) (fs : List (Str × V)), x = .ref a ∧ H1 a = some (.ins C dx fs) ∧ R a m H1 ∧ Q (Itt K m) H1
theorem pi_own {X : Cx} {tg e : Expr} {te : TE} {C f : Addr} {R : Addr → Addr → Hp → Prop} (he : PE X e te) (at_ : PySem.W.findIn X.K (.ref C) "__iter__" = some (some (.ref f))) (fn : PySem.W.isFn X.K (.ref f) = true) (M : ItM X C f R) : PI X tg e (iOwn C R X.K te) := by
  refine ⟨fun pins s σ H Q I h => ?_⟩
  refine thn (he.run pins s σ H _ I h) fun u s1 ⟨x, H1, I1, rx, q1⟩ => ?_
  obtain ⟨a, m, dx, fs, rfl, ha, hR, q⟩ := q1
  obtain rfl : u = Value.ref a := rx
  obtain ⟨_, Oa, _⟩ := ins_get I1.hok ha
  obtain ⟨_, Ja, _⟩ := Oa.look
  obtain ⟨mm, hF⟩ := I1.fr
  refine PySem.W.owit_iter hF I1.ok.mod.kin Ja at_ fn (wpAny_mono (M pins s1 σ H1 a m I1 hR) (fun v s2 z => ?_) fun _ _ z => z)
  obtain ⟨it, rfl, I2, hit, hsz⟩ := z
  have hi := (I2.hok it _ upd_same).1
  obtain ⟨o, ho, hc, hd⟩ := id hi
  have hT : s2.TypeIs (.ref it) "tuple_iterator" := ⟨o, ho, hc⟩
  have I3 := inv_drop I2 (a := it) (show (upd H1 it (ItTO m it)) it = some (.ext _) from upd_same)
  rw [dropH_upd hit] at I3
  have fp := inv_fp I2 (a := it) (u := ItTO m it) upd_same hsz
  rw [dropH_upd hit] at fp
  unfold PySem.W.OwitIt
  refine wpAny_specialOf (name := Str.ofString "__next__") hT PySem.F.slot_tuple_iterator_next.lookup ?_
  exact ⟨it, [it], _, _, H1, rfl, I3, turn_tuple m it, hi, fun b hb => (by
    have e : b = it := by simpa using hb
    subst e
    exact fp), q⟩
end W7

/-! enumerate of a tuple -/
namespace PySem
open Sem (wp)
open AutoSeq1 (wpAny_loadPart')
theorem meets_enumerate_newT (l : Addr) (items : Array Value) :
    Meets (Builtin.«enumerate.__new__» ⟨[.type "enumerate", .ref l], []⟩) (fun _ R s => s.heap.IsTuple l items ∧
      R (.ok (.ret (.ref (s.heap.push { cls := .type "tuple_iterator", data := .fields #[.ref l, .int 0 0] }).objs.size)))
        { s with heap := (s.heap.push { cls := .type "tuple_iterator", data := .fields #[.ref l, .int 0 0] }).push { cls := .type "enumerate", data := .fields #[.none, .bool false, .ref s.heap.objs.size, rawInt 0, .none, .none] } }) :=
  .of_wp fun prog w A R s h => by
    obtain ⟨hp, g, d, tk, os⟩ := s; obtain ⟨hl, h⟩ := h
    have hsub := sub_enumerate
    have q1 : ∀ {A' : Around} {E : Value → Shared → Prop} {Q : Value → Shared → Prop}, Q (.ref hp.objs.size) ⟨(hp.push { cls := .type "tuple_iterator", data := .fields #[.ref l, .int 0 0] }), g, d, tk, os⟩ → wpAny (model prog w) A' (pyIter (.ref l)) Q E ⟨hp, g, d, tk, os⟩ :=
      fun q => wpAny_pyIter_tuple hl q
    wp_walk using q1
    refine wpAny_stack_any fun st => wpAny_pure ?_
    split
    · rename_i c _ _ _ _ _
      cases (c == Value.type "enumerate")
      · wp_walk using q1
        exact ⟨_, rfl, h⟩
      · wp_walk using q1
        exact ⟨_, rfl, h⟩
    · wp_walk using q1
      exact ⟨_, rfl, h⟩
section
variable {prog : Program} {w : World} {A : Around} {E : Value → Shared → Prop} {s : Shared}
theorem call_enumerate_tuple {l : Addr} {items : Array Value} {Q : Value → Shared → Prop} (hL : s.heap.IsTuple l items)
    (h : ∀ h', IsEnum h' (s.heap.objs.size + 1) s.heap.objs.size 0 .none → h'.IsTupleIter s.heap.objs.size l 0 → h'.objs.size = s.heap.objs.size + 2 →
      (∀ b o, s.heap.get? b = some o → h'.get? b = some o) → Q (.ref (s.heap.objs.size + 1)) { s with heap := h' }) :
    wpAny (model prog w) A (call (.type "enumerate") [.ref l]) Q E s := by
  refine callType_new F.called_enumerate (by decide) (F.typeCall_enumerate_1 _) (F.newCall_enumerate_1 _) (fun obj => F.args_object_init_2 obj _) F.entry_enumerate_new
    (meets_enumerate_newT l items) ⟨hL, ?_⟩
  have hz : (s.heap.push { cls := .type "tuple_iterator", data := .fields #[.ref l, .int 0 0] }).objs.size = s.heap.objs.size + 1 := Heap.size_push ..
  show _ ∧ _
  rw [hz]
  have he : IsEnum ((s.heap.push { cls := .type "tuple_iterator", data := .fields #[.ref l, .int 0 0] }).push
      { cls := .type "enumerate", data := .fields #[.none, .bool false, .ref s.heap.objs.size, rawInt 0, .none, .none] }) (s.heap.objs.size + 1) s.heap.objs.size 0 .none := by
    have := Heap.get?_push_size (s.heap.push { cls := .type "tuple_iterator", data := .fields #[.ref l, .int 0 0] })
      (o := { cls := .type "enumerate", data := .fields #[.none, .bool false, .ref s.heap.objs.size, rawInt 0, .none, .none] }) rfl
    rw [hz] at this; exact this
  refine ⟨⟨_, he, rfl⟩, h _ he ⟨_, Heap.get?_push_of_some _ (Heap.get?_push_size _ rfl), rfl, rfl⟩ (by rw [Heap.size_push, hz]) fun b o x => Heap.get?_push_of_some _ (Heap.get?_push_of_some _ x)⟩
end
end PySem
namespace L2
open PySem PySem.Spec PyProof.Rows
/-- the tuple at a, each item in a new pair -/
def IteT (K : PySem.W.Frag) (a : Addr) : It :=
  ⟨fun i H => ∃ (xs : List V) (x : V), SqT K H a xs ∧ xs[i]? = some x, fun i H v H' => ∃ T x, v = .ref T ∧ H T = none ∧ H' = upd H T (.tup [.int (i : Nat), x]) ∧ ∀ xs, SqT K H a xs → xs[i]? = some x, fun i H => ∃ xs : List V, SqT K H a xs ∧ xs.length ≤ i⟩
theorem turn_enumT {P : Program} {w : World} {K : PySem.W.Frag} {elts : List Expr} {kk : Nat} {tpos : Pos} (a e it : Addr) :
    Turn P w K (.Tuple elts kk tpos) (IteT K a) [e, it] e (fun i h => (∃ old, IsEnum h e it ((i : Nat) : Int) old) ∧ h.IsTupleIter it a i ∧ e ≠ it ∧ a < it) where
  mem := by simp
  obj := fun i h st b hb => by
    obtain ⟨⟨old, he⟩, ⟨o, ho, hc, hd⟩, _⟩ := st
    have e' : b = e ∨ b = it := by simpa using hb
    rcases e' with z | z
    · rw [z]; exact ⟨_, he, fun v q => nomatch q⟩
    · rw [z]; exact ⟨o, ho, fun v q => by rw [hd] at q; cases q⟩
  keep := fun i h h' st k => let ⟨⟨old, he⟩, hi, hne⟩ := st; ⟨⟨old, k e (by simp) _ he⟩, hi.at fun o q => k it (by simp) o q, hne⟩
  item := by
    intro X hP hw hK hc i pins s σ H E I hf st hg
    subst hP hw hK
    obtain ⟨⟨old, he⟩, hit, hne, hlt⟩ := st
    obtain ⟨xs, x, hq, hx⟩ := hg
    obtain ⟨its, rv, p, hz⟩ := I.tuple hq
    obtain ⟨u, hu, ru⟩ := rv.get hx
    have hel : e < s.heap.objs.size := Heap.lt_size he
    have hil : it < s.heap.objs.size := by obtain ⟨_, q, _⟩ := hit; exact Heap.lt_size q
    have hai : a ≠ it := Nat.ne_of_lt hlt
    have hae : a ≠ e := fun z => by
      obtain ⟨o, ho, hc', _⟩ := p
      rw [z, he] at ho
      rw [← Option.some.inj ho] at hc'
      injection hc' with q
      exact absurd q (by decide)
    have hi : i < its.toArray.size := by
      rcases Nat.lt_or_ge i its.toArray.size with z | z
      · exact z
      · rw [List.getElem?_eq_none (by simpa using z)] at hu
        cases hu
    refine wpAny_pyNext_enum_itemD (Draws.tuple (show X.A.in1.handled = none from I.ok.hd hc) it a hai its.toArray) he ⟨hit, p⟩ hi hne (by simp [hne, Ne.symm hae]) fun x' h' tk hx' ho hst hT hsz hk => ?_
    have ex : x' = u := by
      have : its.toArray[i]? = some u := by simpa using hu
      rw [this] at hx'
      exact (Option.some.inj hx').symm
    subst ex
    refine ⟨_, rfl, wpAny_letOwnedTupleGo_enum (s := { s with heap := h', toks := tk + 1 }) ho fun h'' he' sb => ?_⟩
    have hT2 : h''.get? s.heap.objs.size = some { cls := .type "tuple", data := .seq #[.int i tk, x'] } := (sb.2 _ (Nat.ne_of_gt hel)).trans hT
    have new : ObjOk X.prog X.w (upd H s.heap.objs.size (.tup [.int (i : Nat), x])) h'' s.heap.objs.size (.tup [.int (i : Nat), x]) :=
      ⟨by show 2 ≤ sizeLine; decide, [.int i tk, x'], .cons ⟨_, rfl⟩ (.cons ru .nil), ⟨_, hT2, rfl, _, rfl⟩⟩
    have I1 : Inv X pins σ (upd H s.heap.objs.size (.tup [.int (i : Nat), x])) { s with heap := h'', toks := tk + 1 } :=
      I.turnedNew (ch := [e, it]) (fun b ob hb q => (sb.2 b (fun z => hb (by simp [z]))).trans (hk b ob (fun z => hb (by simp [z])) (fun z => hb (by simp [z])) q)) hf (Nat.le_refl _) new
    refine ⟨.ref s.heap.objs.size, _, I1, rfl, ⟨_, x, rfl, I.hok.fresh (Nat.le_refl _), rfl, fun ys hy => by rw [I.tuple_inj hy hq]; exact hx⟩, ⟨⟨x', ?_⟩, hst.1.at fun o q => (sb.2 it (Ne.symm hne)).trans q, hne, hlt⟩, fun b hb => ?_⟩
    · have e1 : ((i + 1 : Nat) : Int) = (i : Int) + 1 := by omega
      rw [e1]; exact he'
    · have hb' : b < s.heap.objs.size := by
        have e' : b = e ∨ b = it := by simpa using hb
        rcases e' with z | z
        · rw [z]; exact hel
        · rw [z]; exact hil
      rw [upd_ne (Nat.ne_of_lt hb')]
      exact (hf b hb).1
  done := by
    intro X hP hw hK hc i pins s σ H E I hf st hg
    subst hP hw hK
    obtain ⟨⟨old, he⟩, hit, hne, hlt⟩ := st
    obtain ⟨xs, hq, hx⟩ := hg
    obtain ⟨its, rv, p, hz⟩ := I.tuple hq
    obtain ⟨f0, f1, f2, f3, f4, f5⟩ := hf it (by simp)
    have hl := rv.length
    have hd : X.A.handled = none := I.ok.hd hc
    have hx' : its.toArray[i]? = none := by simp; omega
    have hT : s.TypeIs (.ref e) "enumerate" := ⟨_, he, rfl⟩
    unfold pyNext
    refine wpAny_bind (wpAny_attempt (wpAny_callSpecial?_slot (name := Str.ofString "__next__") hT F.slot_enumerate_next
      (wpAny_call_entry F.slot_enumerate_next hT F.entry_enumerate_next ?_ (F.args_enumerate_next_1 _))))
    show wpAny _ _ (field (.ref e) 2 >>= _) _ _ _
    refine wpAny_bind (wpAny_field he rfl (x := .ref it) rfl ?_)
    refine wpAny_bind (wpAny_nextOf_tuple_end hd hit p hx' fun h' x he' hx2 => ?_)
    obtain ⟨o, ho, hc2⟩ := hx2
    refine wpAny_bind (wpAny_isInstance (T := "StopIteration") (b := true) ⟨o, ho, hc2⟩ isSubtype_stop ?_)
    exact wpAny_pure ⟨rfl, I.turned (t' := s.toks) (fun b o hb q => he' b o hb q) f0 f1 f3 f4 f5⟩
  self := fun A i s Q E st h => let ⟨⟨_, he⟩, _⟩ := st; wpAny_pyIter_enum he h
def iEnumT (K : PySem.W.Frag) (ta : TA) : TI := fun σ H R => ta σ H fun vs H1 => ∃ a xs, vs = [.ref a] ∧ SqT K H1 a xs ∧ R (IteT K a) H1
theorem pi_enumT {X : Cx} {e : Expr} {ta : TA} {p pos tpos : Pos} {elts : List Expr} {kk : Nat} (hg : Gl X "enumerate") (hm : X.mg "enumerate" = none) (ha : PA X [e] ta) (hs : starEach [e] X.env = [(false, eval e X.env)] := by rfl) :
    PI X (.Tuple elts kk tpos) (.Call (.Name "enumerate" p) [e] [] pos) (iEnumT X.K ta) := by
  refine ⟨fun pins s σ H R I h => ?_⟩
  refine Call_ (ld_blt I hg hm boot_enumerate (PyProof.Rows.callWith_type1 (thn (ha.run pos pins s σ H _ I h) fun us s1 ⟨vs, H1, I1, r1, q1⟩ => ?_) hs rfl))
  obtain ⟨a, xs, ex, hq, q⟩ := q1
  subst ex
  cases r1 with
  | cons r rr =>
    cases rr
    cases r
    obtain ⟨its, rv, p', hz⟩ := I1.tuple hq
    have hlt : a < s1.heap.objs.size := by obtain ⟨o, ho, _⟩ := id p'; exact Heap.lt_size ho
    refine call_enumerate_tuple p' fun h' he hit hsz hk => wpAny_pyIter_enum he ?_
    have I2 : Inv X pins σ H1 { s1 with heap := h' } := I1.kept (t' := s1.toks) hk
    refine ⟨s1.heap.objs.size + 1, [s1.heap.objs.size + 1, s1.heap.objs.size], _, _, H1, rfl, I2, turn_enumT a (s1.heap.objs.size + 1) s1.heap.objs.size, ⟨⟨.none, he⟩, hit, Nat.succ_ne_self _, hlt⟩, fun b hb => ?_, q⟩
    have e' : b = s1.heap.objs.size + 1 ∨ b = s1.heap.objs.size := by simpa using hb
    have hle : s1.heap.objs.size ≤ b := by
      rcases e' with z | z
      · rw [z]; exact Nat.le_add_right _ _
      · rw [z]; exact Nat.le_refl _
    exact I1.fpOk hle (I1.hok.fresh hle)
end L2

/-! bool(a tuple) -/
namespace W7
open PySem PySem.Spec PyProof.Rows L2
abbrev NewB (l : Addr) (items : Array Value) (R : Result → Shared → Prop) (s : Shared) : Prop := IsTup s.heap l items ∧ R (.ok (.ret (.bool (!items.isEmpty)))) { s with toks := s.toks + 1 + 1 }
theorem boolT_new (l : Addr) (items : Array Value) (fit : (items.size : Int) < 2 ^ 63) : Meets (Builtin.«bool.__new__» ⟨[.type "bool", .ref l], []⟩) (fun _ R s => NewB l items R s) :=
  Meets.of_wp fun prog w A R s z => by
    rcases z with ⟨tup, fin⟩
    rcases s with ⟨hp, g, d, tk, os⟩
    have sub1 := F.conv_sub_bool
    repeat (any_goals (first | assumption | (with_reducible refine truthy_tuple tup fit ?_) | wp_step))
    all_goals first | exact ⟨_, rfl, fin⟩ | exact fin | skip
section
variable {X : Cx}
/-- bool(a tuple) -/
theorem call_boolTup : CallR X (.type "bool") (fun xs H Q => ∃ (a : Addr) (zs : List V), xs = [.ref a] ∧ SqT X.K H a zs ∧ Q (.bl (!zs.isEmpty)) H) := by
  intro pins s σ H xs us Q I r h
  obtain ⟨a, zs, rfl, hq, q⟩ := h
  obtain ⟨u, rfl, ru⟩ := vals1 r
  cases ru
  obtain ⟨its, rv, pl, hz⟩ := I.tuple hq
  have hlen := rv.length
  have hl := line63
  refine call_bool_1 (boolT_new a its.toArray (by simp only [List.size_toArray]; omega)) ⟨pl, rfl, ?_⟩
  refine ⟨.bl (!zs.isEmpty), H, I.tok _, ?_, q⟩
  cases rv <;> rfl
end
end W7

/-! != of an object of an own class and a value of a built-in type -/
namespace W7
open PySem PySem.W PySem.Calls PyProof.Rows Builtin
section
variable {prog : Program} {w : World} {A : Around} {E : Value → Shared → Prop} {s : Shared} {K : Frag} {x C f : Addr} {yv : Value} {ox : Obj} {od : Option Obj}
theorem slot_ne_any {Q : Value → Shared → Prop} (hu : A.in1.units < cLine) (kin : K.In s.heap) (I : InstAt s.heap x ox C od) (hm : mroIn K C (.type "object") = some true) (at_ : findIn K (.ref C) "__eq__" = some (some (.ref f))) (fn : isFn K (.ref f) = true)
    (h : wpAny (model prog w) A.in1 (call (.ref f) [.ref x, yv]) (PySem.W.BoolBack fun b => Q (.bool (!b))) E s) : wpAny (model prog w) A (call (.builtin "object.__ne__") [.ref x, yv]) Q E s := by
  refine wpAny_call (codeAny_call_builtin PySem.F.slot_object_ne.plain PySem.F.entry_object_ne (check_slot (i := "object.__ne__") (owner := "object") (n := "__ne__") (by decide +kernel) (by decide +kernel) (I.type.andThen (looks_mroIn kin hm)) (PySem.F.args_object_ne_2 _ _) ?_))
  unfold Builtin.«object.__ne__»
  refine wpAny_bind (m := slotArgs "__ne__" 1 _) (wpAny_pure ?_)
  refine wpAny_bind (m := cRoomFor _ _) (wpAny_cRoomFor hu ?_)
  refine wpAny_bind (m := callSpecialIfBound? (.ref x) (Str.ofString "__eq__") _) (ifBound_K kin I at_ fn (wpAny_mono h (fun r s' hq => ?_) fun _ _ y => y))
  cases r <;> first | exact hq.elim | skip
  rename_i b
  exact wpAny_bind (wpAny_truthy_bool (wpAny_pure hq))
theorem ne_unlike {n : String} {Q : Value → Shared → Prop} (room : A.units < cLine) (room1 : A.in1.units < cLine) (kin : K.In s.heap) (I : InstAt s.heap x ox C od) (ty : s.TypeIs yv n) (sub : subIn K (.type n) (.ref C) = some false) (hm : mroIn K C (.type "object") = some true)
    (hn : findIn K (.ref C) (cmpInfo .NotEq).2.1 = some (some (.builtin "object.__ne__"))) (at_ : findIn K (.ref C) "__eq__" = some (some (.ref f))) (fn : isFn K (.ref f) = true)
    (h : wpAny (model prog w) A.in1 (call (.ref f) [.ref x, yv]) (PySem.W.BoolBack fun b => Q (.bool (!b))) E s) : wpAny (model prog w) A (richCompare .NotEq (.ref x) yv) Q E s := by
  have tried : wpAny (model prog w) A (tryCompare (.ref x) (cmpInfo .NotEq).2.1 yv) (fun r s' => ∃ v, r = some v ∧ Q v s') E s := by
    unfold tryCompare
    refine wpAny_bind (ifBound_B kin I hn PySem.F.slot_object_ne.bind (slot_ne_any room1 kin I hm at_ fn (wpAny_mono h (fun r s' z => ?_) fun _ _ e => e)))
    cases r <;> first | exact z.elim | skip
    exact wpAny_pure ⟨_, rfl, z⟩
  unfold richCompare
  simp only [oneThing_ref]
  refine wpAny_holding (wpAny_bind (wpAny_cRoomFor room (wpAny_bind (I.type.here (wpAny_bind (wpAny_typeOf ty ?_))))))
  have unlike : (Value.ref C != Value.type n) = true := rfl
  simp only [unlike, if_true]
  refine wpAny_bind ((looks_subIn kin sub).here ?_)
  simp only [Bool.false_eq_true, if_false]
  refine wpAny_bind (wpAny_mono tried (fun r s' got => ?_) fun _ _ e => e)
  obtain ⟨v, rfl, q⟩ := got
  exact wpAny_pure q
end
end W7
namespace W7
open PySem PySem.Spec PyProof.Rows L2
section
variable {X : Cx} {CX : CXT} {C f : Addr} {fd : FuncData} {ps : List Str} {sp : Sp} {k : Nat}
/-- o != t, t a tuple; o != z, z a text -/
def rNeUnlike (K : PySem.W.Frag) (C : Addr) (sp : Sp) : R2 := fun x y H Q => ∃ (a dx : Addr) (fs : List (Str × V)), x = .ref a ∧ ((∃ b ys, y = .ref b ∧ SqT K H b ys) ∨ ∃ z, y = .str z) ∧ H a = some (.ins C dx fs) ∧ sp [.ref a, y] H (fun v H' => ∃ c, v = .bl c ∧ Q (.bl (!c)) H') E0
theorem op_neUnlike (hm : PySem.W.mroIn X.K C (.type "object") = some true) (s1 : PySem.W.subIn X.K (.type "tuple") (.ref C) = some false) (s2 : PySem.W.subIn X.K (.type "str") (.ref C) = some false) (hn : PySem.W.findIn X.K (.ref C) "__ne__" = some (some (.builtin "object.__ne__"))) (at_ : PySem.W.findIn X.K (.ref C) "__eq__" = some (some (.ref f))) (fn : PySem.W.isFn X.K (.ref f) = true) (F : FnOk X.prog X.w X.K X.mg X.base CX k f fd ps sp) (hr : Room (k + 1) X.A) (hb : Binds X.K fd ps []) (hx : Passes CX X E0) : OpR X (compareOp .NotEq) (rNeUnlike X.K C sp) := by
  intro pins s σ H x y v u Q I rx ry h
  obtain ⟨a, dx, fs, rfl, hy, ha, q⟩ := h
  obtain rfl : v = Value.ref a := rx
  obtain ⟨_, Oa, _⟩ := ins_get I.hok ha
  obtain ⟨_, Ja, _⟩ := Oa.look
  have sb : Sub X k X.A.in1 := ⟨hr.in1, rfl⟩
  have go : ∀ n, s.TypeIs u n → PySem.W.subIn X.K (.type n) (.ref C) = some false → wpAny (model X.prog X.w) X.A (compareOp .NotEq (.ref a) u) (EP X pins σ Q) X.xe s := fun n ty sub =>
    ne_unlike (Nat.lt_of_le_of_lt (Nat.le_add_right _ _) hr.units) (Nat.lt_of_le_of_lt (Nat.le_add_right _ _) sb.room.units) I.kIn Ja ty sub hm hn at_ fn (wpAny_mono (run_sub (vs := [.ref a, y]) (us := [.ref a, u]) F sb hb hx I (.cons rfl (.cons ry .nil)) q) (fun r s' z => by
      obtain ⟨v, H', I', rv, c, rfl, hQ⟩ := z
      cases (show r = Value.bool c from rv)
      exact ⟨.bl (!c), H', I', rfl, hQ⟩) fun _ _ z => z)
  rcases hy with ⟨b, ys, rfl, hT⟩ | ⟨z, rfl⟩
  · obtain rfl : u = Value.ref b := ry
    obtain ⟨its, rv, pl, hz⟩ := I.tuple hT
    exact go "tuple" pl.typeIs s1
  · obtain ⟨t, rfl⟩ := ry
    exact go "str" rfl s2
end
end W7

/-! list(o) of an object of an own class with __iter__ (an iterator over a tuple) and __len__ -/
namespace W7
open PySem PySem.Spec PyProof.Rows L2 RZ L5 R7
section
variable {X : Cx} {pins : List (Addr × Obj)} {σ : L2.St} {H : Hp} {A1 : Around} {Rs : Result → Shared → Prop} {q it m : Addr} {xs : List V}
theorem fp_ne {K : PySem.W.Frag} {o : HO} (f : FpOk X pins (upd H q o) it) : it ≠ q := fun z => by
  have := f.1
  rw [z, upd_same] at this
  cases this
theorem tup_loop (hh : A1.in1.handled = none) (hT : SqT X.K H m xs) (hq0 : ∃ ys, H q = some (.lst ys)) (hz : xs.length ≤ 1000)
    (hdone : ∀ s, Inv X pins σ (upd H q (.lst xs)) s → Rs (.ok (.ret .none)) s) :
    ∀ (n i : Nat) (s : Shared), n + i = xs.length → Inv X pins σ (upd H q (.lst (xs.take i))) s → FpOk X pins (upd H q (.lst (xs.take i))) it → s.heap.IsTupleIter it m i →
      codeAny (model X.prog X.w) A1 (.builtin "list.extend.loop" ⟨[.ref q, .ref it, .none], []⟩) Rs s := by
  obtain ⟨ys, hq0⟩ := hq0
  have hTi : ∀ i, SqT X.K (upd H q (.lst (xs.take i))) m xs := fun i => sqt_updL hq0 hT
  intro n
  induction n with
  | zero =>
    intro i s hn I hf st
    have hi : i = xs.length := by omega
    refine codeAny_builtin PySem.F.entry_extend_loop ?_
    rw [Around.under_plainId PySem.F.plain_extend_loop _]
    show wpAny _ A1.in1 (pyNext (.ref it) >>= _) _ _ s
    obtain ⟨its, rv, pl, hzz⟩ := I.tuple (hTi i)
    have hl := rv.length
    obtain ⟨f0, f1, f2, f3, f4, f5⟩ := hf
    refine wpAny_bind (wpAny_pyNext_tuple_end hh st pl (by simp; omega) fun h' eb => ?_)
    have I1 := I.turned (t' := s.toks) (fun b o hb e => eb b o hb e) f0 f1 f3 f4 f5
    rw [hi, List.take_length] at I1
    exact wpAny_pure (hdone _ I1)
  | succ n ih =>
    intro i s hn I hf st
    have hi : i < xs.length := by omega
    refine codeAny_builtin PySem.F.entry_extend_loop ?_
    rw [Around.under_plainId PySem.F.plain_extend_loop _]
    show wpAny _ A1.in1 (pyNext (.ref it) >>= _) _ _ s
    obtain ⟨its, rv, pl, hzz⟩ := I.tuple (hTi i)
    have hx : xs[i]? = some xs[i] := List.getElem?_eq_getElem hi
    obtain ⟨u, hu, ru⟩ := rv.get hx
    have hne : it ≠ q := fp_ne (K := X.K) hf
    obtain ⟨f0, f1, f2, f3, f4, f5⟩ := hf
    refine wpAny_bind (wpAny_pyNext_tuple_item st pl (x := u) (by simpa using hu) fun h' st' sb => ?_)
    have I1 := I.turned (t' := s.toks) (fun b o hb e => (sb.2 b hb).trans e) f0 f1 f3 f4 f5
    show wpAny _ A1.in1 (updateSeq q (·.push u) >>= _) _ _ _
    obtain ⟨z, its2, k, r2, hl, e⟩ := I1.lstM upd_same
    have hl2 : its2.length = i := by
      rw [← hl, List.length_take]
      omega
    refine wpAny_bind (wpAny_updateSeq e rfl (wpAny_pure ⟨plainId_quiet PySem.F.plain_extend_loop _, ?_⟩) (by rw [List.size_toArray, hl2]; exact Nat.le_of_lt (sizeK (by omega))) (by show (its2.toArray.push u).size ≤ sizeLine + 1; rw [Array.size_push, List.size_toArray, hl2]; exact Nat.le_trans (Nat.le_of_lt (sizeK (n := i + 1) (by omega))) (Nat.le_succ _)))
    have I2 := I1.lset (its' := its2 ++ [u]) (ys := xs.take i ++ [xs[i]]) (t' := s.toks) upd_same e (f := (·.push u)) (by simp) (r2.append (.cons ru .nil)) (by rw [List.length_append, List.length_take, List.length_singleton]; exact Nat.le_of_lt (sizeK (by omega)))
    have tk : xs.take (i + 1) = xs.take i ++ [xs[i]] := by
      rw [List.take_add_one, hx]
      rfl
    rw [upd_upd, ← tk] at I2
    refine ih (i + 1) _ (by omega) I2 ⟨?_, f1, f2, f3, f4, f5⟩ ?_
    · rw [upd_ne hne] at f0 ⊢
      exact f0
    · exact st'.at fun o e => by rw [Heap.get?_update_other _ _ (Ne.symm hne)]; exact e
end
end W7

/-! list(o): the length hint by the own len -/
namespace W7
open PySem PySem.Spec PyProof.Rows L2 RZ L5 R7 Builtin
section
variable {prog : Program} {w : World} {A : Around} {E : Value → Shared → Prop} {s : Shared} {K : PySem.W.Frag} {a C f : Addr} {ox : Obj} {od : Option Obj}
theorem own_hint2 {Q : Bool → Shared → Prop} (kin : K.In s.heap) (J : PySem.W.InstAt s.heap a ox C od) (at_ : PySem.W.findIn K (.ref C) "__len__" = some (some (.ref f))) (fn : PySem.W.isFn K (.ref f) = true)
    (h : wpAny (model prog w) A.in1 (call (.ref f) [.ref a]) (PySem.W.LenBack fun v s' => ∀ n t, v = .int n t → n.toNat ≤ 1000000 ∧ Q (n != 0) s') (fun _ _ => False) s) :
    wpAny (model prog w) A (List.listLengthHint (.ref a)) Q E s := by
  unfold List.listLengthHint
  refine wpAny_bind (wpAny_bind (J.type.here ((PySem.W.looks_findIn kin at_).here ?_)))
  refine PySem.W.KFB.if_not rfl ?_
  show wpAny _ _ (if (some (Value.ref f)).isSome = true then _ else _) _ _ _
  refine wpAny_ite_true (decide_eq_true rfl) ?_
  refine wpAny_bind (wpAny_rule ?_)
  refine wpAny_bind (wpAny_attempt (len_in kin J at_ fn (wpAny_mono h (fun v s' z => ?_) fun _ _ e => False.elim e)))
  cases v <;> first | exact z.elim | skip
  rename_i n t
  obtain ⟨z1, z2⟩ := z
  obtain ⟨z3, z4⟩ := z2 n _ rfl
  refine ⟨z1, ?_⟩
  refine wpAny_bind (wpAny_pure ?_)
  refine wpAny_ite_false (decide_eq_false (by rw [notLongL (Nat.le_trans z3 (by decide))]; decide)) ?_
  exact wpAny_pure z4
end
end W7

/-! list(o), o of an own class with __iter__ and __len__ -/
namespace W7
open PySem PySem.Spec PyProof.Rows L2 RZ L5 R7 Builtin ItX
/-- __iter__ of the class, run at A2: as ItM -/
def ItMs (X : Cx) (A2 : Around) (f : Addr) (R : Addr → Addr → Hp → Prop) : Prop :=
  ∀ (pins : List (Addr × Obj)) (s : Shared) (σ : L2.St) (H : Hp) (a m : Addr), Inv X pins σ H s → R a m H → wpAny (model X.prog X.w) A2 (call (.ref f) [.ref a]) (fun v s' => ∃ it, v = .ref it ∧ Inv X pins σ (upd H it (ItTO m it)) s' ∧ H it = none ∧ X.s_0.heap.objs.size ≤ it) X.xe s
section
variable {X : Cx} {pins : List (Addr × Obj)} {σ : L2.St} {H : Hp} {s : Shared} {A1 : Around} {Rs : Result → Shared → Prop} {q a m C fi fl : Addr} {xs : List V} {k : Nat} {fd : FuncData} {ps : List Str} {sp : Sp} {CX : CXT} {R : Addr → Addr → Hp → Prop}
theorem own_ext (hh : A1.in1.handled = none) (noerr : ∀ e s', X.xe e s' → False) (atI : PySem.W.findIn X.K (.ref C) "__iter__" = some (some (.ref fi))) (fnI : PySem.W.isFn X.K (.ref fi) = true) (MI : ItMs X A1.in1 fi R)
    (atL : PySem.W.findIn X.K (.ref C) "__len__" = some (some (.ref fl))) (fnL : PySem.W.isFn X.K (.ref fl) = true) (FL : FnOk X.prog X.w X.K X.mg X.base CX k fl fd ps sp) (sb : Sub X k A1.in1.in1) (bL : Binds X.K fd ps []) (hx : Passes CX X E0)
    (I : Inv X pins σ H s) {dx : Addr} {fs : List (Str × V)} (ha : H a = some (.ins C dx fs)) (hR : R a m H) (hT : SqT X.K H m xs) (hq : H q = some (.lst [])) (hz : xs.length ≤ 1000)
    (spL : ∀ H1, Same H H1 → sp [.ref a] H1 (fun v H' => (∃ n : Nat, v = .int ((n : Nat) : Int) ∧ n ≤ 1000000) ∧ H' = H1) E0)
    (fin : ∀ s', Inv X pins σ (upd H q (.lst xs)) s' → Rs (.ok (.ret .none)) s') :
    wpAny (model X.prog X.w) A1.in1 (List.listExtendWith (.ref q) (.ref a) .none)
      (fun r s' => match r with | .done o => Rs (.ok o) s' | .again c => c.quiet = true ∧ codeAny (model X.prog X.w) A1 c Rs s') (fun e s' => Rs (.error e) s') s := by
  have qa : q ≠ a := fun z => by
    rw [z, ha] at hq
    cases hq
  obtain ⟨_, Oa, _⟩ := ins_get I.hok ha
  obtain ⟨_, Ja, _⟩ := Oa.look
  obtain ⟨_, hF⟩ := I.fr
  unfold List.listExtendWith
  refine wpAny_bind (Ja.type.here ?_)
  have c1 : List.listSameRef (.ref q) (.ref a) = false := by simp [List.listSameRef, qa]
  have c2 : (Value.ref C == Value.type "list") = false := rfl
  have c3 : (Value.ref C == Value.type "tuple") = false := rfl
  simp only [c1, c2, c3, Bool.or_false, Bool.false_eq_true, if_false]
  refine wpAny_bind (PySem.W.owit_iter hF I.ok.mod.kin Ja atI fnI (wpAny_mono (MI pins s σ H a m I hR) (fun v s1 z => ?_) fun e s' he => (noerr e s' he).elim))
  obtain ⟨it, rfl, I1, hit, hsz⟩ := z
  have hti := (I1.hok it _ upd_same).1
  obtain ⟨o, ho, hc, hd⟩ := id hti
  have hty : s1.TypeIs (.ref it) "tuple_iterator" := ⟨o, ho, hc⟩
  unfold PySem.W.OwitIt
  refine wpAny_specialOf (name := Str.ofString "__next__") hty PySem.F.slot_tuple_iterator_next.lookup ?_
  have sm1 : Same H (upd H it (ItTO m it)) := same_new hit _
  obtain ⟨_, Ob, _⟩ := ins_get I1.hok (sm1 _ _ ha)
  obtain ⟨_, Jb, _⟩ := Ob.look
  refine wpAny_bind (wpAny_holding (own_hint2 I1.kIn Jb atL fnL (wpAny_mono (run_sub (vs := [.ref a]) (us := [.ref a]) FL sb bL hx I1 (.cons rfl .nil) (spL _ sm1)) (fun r s2 z => ?_) fun e s' he => noerr e s' he)))
  obtain ⟨v, H2, I2, rv, ⟨n, rfl, hn⟩, rfl⟩ := z
  obtain ⟨t, rfl⟩ := rv
  refine ⟨⟨by omega, by omega⟩, fun n' t' e => ?_⟩
  cases e
  refine ⟨by omega, ?_⟩
  have I3 : Inv X pins σ (upd H it (ItTO m it)) { s2 with toks := s2.toks + 1 } := I2.tok _
  have ht3 := (I3.hok it _ upd_same).1
  have I4 := inv_drop I3 (a := it) (show (upd H it (ItTO m it)) it = some (.ext _) from upd_same)
  rw [dropH_upd hit] at I4
  have f4 := inv_fp I3 (a := it) (u := ItTO m it) upd_same hsz
  rw [dropH_upd hit] at f4
  have hH : upd H q (.lst []) = H := by
    funext b
    by_cases hb : b = q
    · rw [hb, upd_same, hq]
    · rw [upd_ne hb]
  have go : ∀ s', Inv X pins σ H s' → s'.heap.IsTupleIter it m 0 → codeAny (model X.prog X.w) A1 (.builtin "list.extend.loop" ⟨[.ref q, .ref it, .none], []⟩) Rs s' := fun s' J hi =>
    tup_loop hh hT ⟨_, hq⟩ hz fin xs.length 0 s' (Nat.add_zero _) (by rw [List.take_zero, hH]; exact J) (by rw [List.take_zero, hH]; exact f4) hi
  have itq : it ≠ q := fun z => by
    rw [z, hq] at hit
    cases hit
  refine wpAny_ite_split (fun _ => ?_) (fun _ => wpAny_pure ⟨plainId_quiet PySem.F.plain_extend_loop _, go _ I4 ht3⟩)
  refine wpAny_bind (wpAny_rule ?_)
  refine wpAny_bind ?_
  show wpAny _ _ (updateSeq q (·.push .none) >>= fun _ => updateSeq q (·.pop)) _ _ _
  obtain ⟨_, is1, k1, r1, _, e1⟩ := I4.lstM hq
  cases r1
  refine wpAny_bind (wpAny_updateSeq e1 rfl ?_)
  have I5 := I4.lset (f := (·.push Value.none)) (its' := [Value.none]) (ys := [.non]) (t' := s2.toks + 1) hq e1 (by simp) (.cons rfl .nil) (by rw [List.length_singleton, sizeLine_eq]; decide)
  have ht5 : (s2.heap.update q (Obj.mapSeq (·.push Value.none))).IsTupleIter it m 0 := ht3.at fun o e => by
    rw [Heap.get?_update_other _ _ (Ne.symm itq)]
    exact e
  obtain ⟨_, is2, k2, r2, _, e2⟩ := I5.lstM upd_same
  obtain ⟨u2, rfl, ru2⟩ := r2.one
  refine wpAny_updateSeq e2 rfl ?_ (by show 1 ≤ sizeLine; rw [sizeLine_eq]; decide) (by show 0 ≤ sizeLine + 1; exact Nat.zero_le _)
  have I6 := I5.lset (f := (·.pop)) (its := [u2]) (its' := []) (ys := []) (t' := s2.toks + 1) upd_same e2 (by rfl) .nil (Nat.zero_le _)
  rw [upd_upd, hH] at I6
  refine wpAny_pure ⟨plainId_quiet PySem.F.plain_extend_loop _, go _ I6 (ht5.at fun o e => ?_)⟩
  rw [Heap.get?_update_other _ _ (Ne.symm itq)]
  exact e
/-- list(o): ys stand in the tuple over which o's iterator goes -/
def rListO (K : PySem.W.Frag) (C : Addr) (R : Addr → Addr → Hp → Prop) (sp : Sp) : List V → Hp → VK → Prop := fun vs H Q => ∃ (a m dx : Addr) (fs : List (Str × V)) (ys : List V), vs = [.ref a] ∧ H a = some (.ins C dx fs) ∧ ys.length ≤ 1000 ∧
  (∀ H', Same H H' → R a m H' ∧ SqT K H' m ys ∧ sp [.ref a] H' (fun v H2 => (∃ n : Nat, v = .int ((n : Nat) : Int) ∧ n ≤ 1000000) ∧ H2 = H') E0) ∧ ∀ q, H q = none → Q (.ref q) (upd H q (.lst ys))
theorem call_listO (noerr : ∀ e s', X.xe e s' → False) (atI : PySem.W.findIn X.K (.ref C) "__iter__" = some (some (.ref fi))) (fnI : PySem.W.isFn X.K (.ref fi) = true) (MI : ItMs X X.A.in1.in1 fi R)
    (atL : PySem.W.findIn X.K (.ref C) "__len__" = some (some (.ref fl))) (fnL : PySem.W.isFn X.K (.ref fl) = true) (FL : FnOk X.prog X.w X.K X.mg X.base CX k fl fd ps sp) (hr : Room (k + 3) X.A) (bL : Binds X.K fd ps []) (hx : Passes CX X E0) : CallR X (.type "list") (rListO X.K C R sp) := by
  intro pins s σ H vs us Q I rv h
  obtain ⟨a, m, dx, fs, ys, rfl, ha, hz, hst, fin⟩ := h
  obtain ⟨u, rfl, ru⟩ := rv.one
  cases ru
  have sb : Sub X k X.A.in1.in1.in1 := ⟨((hr.in1).in1).in1, rfl⟩
  refine callType_codes (Q₁ := fun o t => o = .ref s.heap.objs.size ∧ t = { s with heap := s.heap.push { cls := .type "list", data := .seq #[] } }) PySem.F.called_list (PySem.F.typeCall_list_1 _) PySem.F.entry_list_init (code_list_new _ ⟨rfl, rfl⟩) fun o t z => ?_
  obtain ⟨rfl, rfl⟩ := z
  have at0 : (s.heap.push { cls := .type "list", data := .seq #[] }).get? s.heap.objs.size = some { cls := .type "list", data := .seq #[] } := Heap.get?_push_size _ rfl
  refine ⟨⟨_, at0, rfl⟩, PySem.F.args_list_init_2 _ _, ?_⟩
  have free : H s.heap.objs.size = none := I.hok.fresh (Nat.le_refl _)
  have I1 : Inv X pins σ (upd H s.heap.objs.size (.lst [])) { s with heap := s.heap.push { cls := .type "list", data := .seq #[] } } := I.lnew (its := []) (t' := s.toks) .nil (Nat.zero_le _)
  have sm := same_new free (.lst [])
  obtain ⟨hR, hT, _⟩ := hst _ sm
  show wpAny _ _ (do let o ← List.listItems (.ref s.heap.objs.size); List.listUpdate (.ref s.heap.objs.size) (fun _ => #[]); letGo o.toList.reverse; List.listExtendWith (.ref s.heap.objs.size) (.ref a) .none) _ _ _
  refine wpAny_bind ?_
  unfold List.listItems
  refine wpAny_bind (wpAny_seqItems at0 rfl (wpAny_pure ?_))
  show wpAny _ _ (updateSeq s.heap.objs.size (fun _ => #[]) >>= fun _ => letGo (#[] : Array Value).toList.reverse >>= fun _ => List.listExtendWith (.ref s.heap.objs.size) (.ref a) .none) _ _ _
  refine wpAny_bind (wpAny_updateSeq at0 rfl ?_)
  have I2 := I1.lset (f := fun _ => #[]) (its := []) (its' := []) (ys := []) (t' := s.toks) upd_same at0 rfl .nil (Nat.zero_le _)
  rw [upd_upd] at I2
  refine wpAny_bind (wpAny_letGo ?_)
  refine own_ext (A1 := X.A.in1) (Rs := wants (fun r t => r = .none ∧ EP X pins σ Q (.ref s.heap.objs.size) t) X.xe) ((hr.in1).in1).hd noerr atI fnI MI atL fnL FL sb bL hx I2 (sm _ _ ha) hR hT upd_same hz (fun H1 s1 => (hst H1 (sm.trans s1)).2.2) fun t J => ?_
  rw [upd_upd] at J
  exact ⟨rfl, .ref s.heap.objs.size, _, J, rfl, fin _ free⟩
end
end W7

/-! t[::-1] of a tuple -/
namespace W7
open PySem PySem.Spec PyProof.Rows L2 HT
section
variable {prog : Program} {w : World} {A : Around} {E : Value → Shared → Prop} {s : Shared}
theorem rev_pick (xs : Array Value) : ((List.range xs.size).filterMap fun (m : Nat) => xs[(((xs.size : Int) - 1) + (m : Int) * (-1)).toNat]?).toArray = xs.toList.reverse.toArray := by
  congr 1
  have e2 : ∀ (l : List Value), (List.range l.length).filterMap (fun m => l[m]?) = l := fun l => by
    induction l with
    | nil => rfl
    | cons x l ih =>
      rw [List.length_cons, List.range_succ_eq_map, List.filterMap_cons, List.filterMap_map]
      show x :: (List.range l.length).filterMap ((fun m => (x :: l)[m]?) ∘ Nat.succ) = _
      rw [show ((fun m => (x :: l)[m]?) ∘ Nat.succ) = (fun m => l[m]?) from rfl, ih]
  have e3 := e2 xs.toList.reverse
  rw [List.length_reverse, Array.length_toList] at e3
  rw [← e3]
  have cg : ∀ {l : List Nat} {f g : Nat → Option Value}, (∀ m ∈ l, f m = g m) → l.filterMap f = l.filterMap g := fun {l f g} h => by
    induction l with
    | nil => rfl
    | cons m l ih => rw [List.filterMap_cons, List.filterMap_cons, h m List.mem_cons_self, ih fun k hk => h k (List.mem_cons_of_mem _ hk)]
  refine cg fun m hm => ?_
  have hlt := List.mem_range.mp hm
  rw [List.getElem?_reverse (by rw [Array.length_toList]; exact hlt), Array.length_toList, show (((xs.size : Int) - 1) + (m : Int) * (-1)).toNat = xs.size - 1 - m by omega, Array.getElem?_toList]
theorem places_rev (n : Nat) : Builtin.Slice.slicePlaces ((n : Int) - 1) (-1) (-1) = n := by
  unfold Builtin.Slice.slicePlaces
  have h1 : ¬ (-1 : Int) > 0 := by omega
  simp only [h1, if_false, Int.neg_neg, Int.ediv_one]
  split <;> omega
theorem sliceApplied_rev {sl : Addr} {vl vu vs : Value} {n : Nat} {Q : Int × Int × Nat → Shared → Prop} (hs : s.heap.IsSliceOf sl vl vu vs) (pl : IsPart vl none) (pu : IsPart vu none) (ps : IsPart vs (some (-1)))
    (h : Q ((n : Int) - 1, -1, n) s) : wpAny (model prog w) A (Builtin.Slice.sliceApplied (.ref sl) (pure (n : Int))) Q E s := by
  obtain ⟨os, hos, hcs, hds⟩ := id hs
  unfold Builtin.Slice.sliceApplied Builtin.Slice.sliceFields
  refine wpAny_bind (wpAny_bind (wpAny_field hos hds (x := vl) rfl (wpAny_bind (wpAny_field hos hds (x := vu) rfl (wpAny_bind (wpAny_field hos hds (x := vs) rfl (wpAny_pure ?_)))))))
  refine wpAny_bind (slicePart_ ps ?_)
  show wpAny _ _ (if ((-1 : Int) == 0) = true then _ else _) _ _ s
  rw [if_neg (by decide)]
  refine wpAny_bind (slicePart_ pl (wpAny_bind (slicePart_ pu (wpAny_bind (wpAny_pure ?_)))))
  show wpAny _ _ (pure ((n : Int) - 1, (-1 : Int), Builtin.Slice.slicePlaces ((n : Int) - 1) (-1) (-1))) _ _ s
  rw [places_rev]
  exact wpAny_pure h
theorem getItem_tuple_rev {t sl : Addr} {items : Array Value} {vl vu vs : Value} {Q : Value → Shared → Prop} (ht : IsTup s.heap t items) (hs : s.heap.IsSliceOf sl vl vu vs) (pl : IsPart vl none) (pu : IsPart vu none) (ps : IsPart vs (some (-1)))
    (h : Q (.ref s.heap.objs.size) { s with heap := s.heap.push { cls := .type "tuple", data := .seq items.toList.reverse.toArray } })
    (hsz : items.size ≤ sizeLine) : wpAny (model prog w) A (getItem (.ref t) (.ref sl)) Q E s := by
  have htake : sizeOk (.seq items.toList.reverse.toArray) := by
    show items.toList.reverse.toArray.size ≤ sizeLine
    rw [List.size_toArray, List.length_reverse, Array.length_toList]
    exact hsz
  obtain ⟨os, hos, hcs, hds⟩ := id hs
  have hTs : s.TypeIs (.ref sl) "slice" := ⟨os, hos, hcs⟩
  unfold getItem
  try with_reducible refine wpAny_holding ?_
  first | refine wpAny_bind (wpAny_pure ?_) | skip
  refine wpAny_bind (wpAny_sequenceKey ht.typeIs (by decide) ?_)
  refine wpAny_bind (wpAny_callSpecial?_slot (name := Str.ofString "__getitem__") ht.typeIs PyProof.Rows.slot_tuple_getitem
    (wpAny_call_entry PyProof.Rows.slot_tuple_getitem ht.typeIs entry_tuple_getitem ?_ (args_tuple_getitem _ _)))
  show wpAny _ _ (Builtin.Tuple.tupleItemsOf (.ref t) >>= _) _ _ s
  refine wpAny_bind (tupleItemsOf_ ht ?_)
  refine wpAny_bind (wpAny_typeOf hTs ?_)
  rw [if_pos (by decide)]
  refine wpAny_bind (sliceApplied_rev hs pl pu ps ?_)
  have hno : ¬ (((((items.size : Nat) : Int) - 1) == 0 && (-1 : Int) == 1 && items.size == items.size) = true) := by
    rw [show ((-1 : Int) == 1) = false by decide, Bool.and_false, Bool.false_and]
    exact Bool.false_ne_true
  show wpAny _ _ (if ((((items.size : Nat) : Int) - 1) == 0 && (-1 : Int) == 1 && items.size == items.size) = true then _ else _) _ _ s
  rw [if_neg hno, rev_pick]
  first
    | exact wpAny_bind (m := Builtin.Tuple.tupleExact _) (wpAny_newObj_type (wpAny_pure ⟨_, rfl, wpAny_pure h⟩) htake)
    | exact wpAny_bind (m := Builtin.Tuple.tupleExact _) (wpAny_newObj_type (wpAny_bind (wpAny_pure (wpAny_pure ⟨_, rfl, wpAny_pure h⟩))) htake)
    | exact wpAny_bind (wpAny_bind (m := Builtin.Tuple.tupleExact _) (wpAny_newObj_type (wpAny_pure (wpAny_pure ⟨_, rfl, wpAny_pure h⟩)) htake))
    | exact wpAny_bind (wpAny_bind (m := Builtin.Tuple.tupleExact _) (wpAny_newObj_type (wpAny_pure ⟨_, rfl, wpAny_pure h⟩) htake))
end
section
variable {X : Cx}
def tRevT (K : PySem.W.Frag) (te : TE) : TE := fun σ H Q => te σ H fun x H1 => ∃ a xs, x = .ref a ∧ SqT K H1 a xs ∧ ∀ p, H1 p = none → Q (.ref p) (upd H1 p (.tup xs.reverse))
theorem pe_revT {e : Expr} {te : TE} {k : Nat} {p1 p2 p3 pos : Pos} (he : PE X e te) : PE X (.Subscript e (.Slice none none (some (.UnaryOp .USub (.Constant (.int 1) k p1) p2)) p3) pos) (tRevT X.K te) := by
  refine ⟨fun pins s σ H Q I h => ?_⟩
  refine Subscript_ (thn (he.run pins s σ H _ I h) fun v s1 ⟨x, H1, I1, r1, q1⟩ => ?_)
  obtain ⟨a, xs, ex, hx, q⟩ := q1
  subst ex
  cases r1
  have hst : PO X (some (.UnaryOp .USub (.Constant (.int 1) k p1) p2)) (tPart (tUn (rU fun i => .int (-i)) (tC (.int 1)))) := po_some (pe_un un_neg pe_int)
  refine wpAny_Slice (thn (po_none.run pins s1 σ H1 (fun o H2 => o = none ∧ H2 = H1) I1 ⟨rfl, rfl⟩) fun vl s2 ⟨l, H2, I2, pl, el, e2⟩ => ?_)
  subst el e2
  refine thn (po_none.run pins s2 σ H2 (fun o H3 => o = none ∧ H3 = H2) I2 ⟨rfl, rfl⟩) fun vu s3 ⟨u, H3, I3, pu, eu, e3⟩ => ?_
  subst eu e3
  refine thn (hst.run pins s3 σ H3 (fun o H4 => o = some (-1) ∧ H4 = H3) I3 ⟨1, rfl, -1, rfl, rfl, rfl⟩) fun vs s4 ⟨o, H4, I4, ps, eo, e4⟩ => ?_
  subst eo e4
  have I5 : Inv X pins σ H4 { s4 with heap := s4.heap.push { cls := .type "slice", data := .fields #[vl, vu, vs] } } := I4.kept (t' := s4.toks) fun b ob q => Heap.get?_push_of_some _ q
  obtain ⟨its, r, ht, hz⟩ := I5.tuple hx
  have hlen := r.length
  show wpAny (model X.prog X.w) X.A (subscriptTail e (.Slice none none (some (.UnaryOp .USub (.Constant (.int 1) k p1) p2)) p3) (.ref a) (.ref s4.heap.objs.size)) (EP X pins σ Q) X.xe { s4 with heap := s4.heap.push { cls := .type "slice", data := .fields #[vl, vu, vs] } }
  refine tail_any (ops := [.ref a, .ref s4.heap.objs.size]) ht.typeIs (PyProof.Rows.slot_tuple_getitem.lookup) ?_ (by with_unfolding_all rfl)
  refine getItem_tuple_rev ht (Heap.IsSliceOf.new _ vl vu vs) pl pu ps ?_ (by rw [List.size_toArray]; omega)
  refine ⟨.ref _, _, I5.laid (t' := s4.toks) (o := .tup xs.reverse) (fun b ob q => Heap.get?_push_of_some _ q) (Nat.le_refl _) ?_, rfl, q _ (I5.hok.fresh (Nat.le_refl _))⟩
  exact ⟨by rw [List.length_reverse]; exact hz, _, r.reverse, IsTup.new _ _⟩
end
end W7

/-! bool(o) of an own class with __bool__ -/
namespace W7
open PySem PySem.W PySem.Calls PyProof.Rows Builtin L2
section
variable {prog : Program} {w : World} {M : Model} {A : Around} {E : Value → Shared → Prop} {s : Shared} {K : PySem.W.Frag} {x C f : Addr} {ox : Obj} {od : Option Obj}
theorem truthy_own {Q : Bool → Shared → Prop} (X : K.In s.heap) (I : InstAt s.heap x ox C od) (hs : findIn K (.ref C) "__bool__" = some (some (.ref f))) (hf : isFn K (.ref f) = true)
    (h : wpAny M A (call (.ref f) [.ref x]) (PySem.W.BoolBack Q) E s) : wpAny M A (truthy (.ref x)) Q E s := by
  unfold truthy
  refine wpAny_bind (m := callSpecial? (.ref x) (Str.ofString "__bool__")) (special_fn X I hs (beq_iff_eq.mp hf) (wpAny_mono h (fun r s' hr => ?_) fun _ _ y => y))
  cases r <;> first | exact hr.elim | skip
  exact wpAny_pure hr
theorem call_bool_own {Q : Value → Shared → Prop} (X : K.In s.heap) (I : InstAt s.heap x ox C od) (hs : findIn K (.ref C) "__bool__" = some (some (.ref f))) (hf : isFn K (.ref f) = true)
    (h : wpAny (model prog w) A.in1.in1 (call (.ref f) [.ref x]) (PySem.W.BoolBack fun b t => Q (.bool b) t) E s) : wpAny (model prog w) A (call (.type "bool") [.ref x]) Q E s := by
  refine callType_codes (T := "bool") (Bi := Builtin.«object.__init__») (Q₁ := fun r s₁ => ∃ y, r = .bool y ∧ Q r s₁) PySem.F.called_bool (PySem.F.typeCall_bool_1 _) PySem.F.entry_object_init ?_ ?_
  · refine codeAny_of_tree ?_
    show wpAny _ A.in1.in1 (do checkBuiltinCall "bool.__new__" ⟨[.type "bool", .ref x], []⟩; again (.builtin "bool.__new__" ⟨[.type "bool", .ref x], []⟩)) _ _ s
    refine wpAny_bind (wpAny_of_eq (PySem.F.newCall_bool_1 _) (wpAny_pure ⟨plainId_quiet (by decide +kernel) _, codeAny_builtin PySem.F.entry_bool_new ?_⟩))
    rw [Around.under_plainId (by decide +kernel) _]
    have sub1 := F.conv_sub_bool
    have ht : wpAny (model prog w) A.in1.in1 (truthy (.ref x)) (fun b t => Q (.bool b) t) E s := truthy_own X I hs hf h
    rcases s with ⟨hp, g, d, tk, os⟩
    repeat (first | (with_reducible refine wpAny_mono ht (fun b t hb => ?_) (fun _ _ z => z)) | wp_step)
    exact ⟨b, rfl, hb⟩
  · rintro obj s₁ ⟨y, rfl, hq⟩
    have ty : s₁.TypeIs (.bool y) "bool" := rfl
    exact ⟨ty, PySem.F.args_object_init_2 _ _, object_init_meets PySem.F.called_bool.init.lookup PySem.F.called_bool.made (by decide) prog w A.in1 _ s₁ ⟨ty, rfl, hq⟩⟩
end
section
variable {X : Cx} {C f : Addr} {CX : CXT} {k : Nat} {fd : FuncData} {ps : List Str} {sp : Sp}
def rBoolOwn (C : Addr) (sp : Sp) : List V → Hp → VK → Prop := fun vs H Q => ∃ (a dx : Addr) (fs : List (Str × V)), vs = [.ref a] ∧ H a = some (.ins C dx fs) ∧ sp [.ref a] H (fun v H' => ∃ b : Bool, v = .bl b ∧ Q (.bl b) H') E0
theorem call_boolOwn (at_ : PySem.W.findIn X.K (.ref C) "__bool__" = some (some (.ref f))) (fn : PySem.W.isFn X.K (.ref f) = true) (F : FnOk X.prog X.w X.K X.mg X.base CX k f fd ps sp) (hr : Room (k + 2) X.A) (hb : Binds X.K fd ps []) (hx : Passes CX X E0) : CallR X (.type "bool") (rBoolOwn C sp) := by
  intro pins s σ H vs us Q I r h
  obtain ⟨a, dx, fs, rfl, ha, q⟩ := h
  cases r with
  | cons r0 rr =>
    cases rr
    cases r0
    obtain ⟨_, Oa, _⟩ := ins_get I.hok ha
    obtain ⟨_, Ja, _⟩ := Oa.look
    have sb : Sub X k X.A.in1.in1 := ⟨(hr.in1).in1, rfl⟩
    refine call_bool_own I.kIn Ja at_ fn (wpAny_mono (run_sub (vs := [.ref a]) (us := [.ref a]) F sb hb hx I (.cons rfl .nil) q) (fun r s' z => ?_) fun _ _ z => z)
    obtain ⟨v, H', I', rv, b, rfl, hQ⟩ := z
    obtain rfl : r = Value.bool b := rv
    exact ⟨.bl b, H', I', rfl, hQ⟩
end
end W7

namespace K6
open PySem PySem.Spec PyProof.Rows L2 RZ L5 R7
/-! ### the text by places -/
def topS (i : Nat) : Stmt := PySem.Challenge.pw_pureladders_k06_whole_lots_by_their_leas.main.body.getD i (.Pass ⟨0, 0, 0, 0⟩)
abbrev s_is_number : Stmt := topS 9
abbrev N_is_number : List Str := ["value"]
theorem sc_is_number : FnScope N_is_number ["value"] (defScope s_is_number) := ⟨rfl, rfl, rfl, by decide +kernel, rfl, by decide +kernel, by decide +kernel⟩
abbrev s_is_within : Stmt := topS 10
abbrev N_is_within : List Str := ["value", "least", "most"]
theorem sc_is_within : FnScope N_is_within ["value", "least", "most"] (defScope s_is_within) := ⟨rfl, rfl, rfl, by decide +kernel, rfl, by decide +kernel, by decide +kernel⟩
abbrev s_check_within : Stmt := topS 11
abbrev N_check_within : List Str := ["value", "least", "most"]
theorem sc_check_within : FnScope N_check_within ["value", "least", "most"] (defScope s_check_within) := ⟨rfl, rfl, rfl, by decide +kernel, rfl, by decide +kernel, by decide +kernel⟩
abbrev s_are_exponents : Stmt := topS 13
abbrev N_are_exponents : List Str := ["value", "letters", "most", "exponent"]
theorem sc_are_exponents : FnScope N_are_exponents ["value", "letters", "most"] (defScope s_are_exponents) := ⟨rfl, rfl, rfl, by decide +kernel, rfl, by decide +kernel, by decide +kernel⟩
abbrev s_nothing : Stmt := topS 14
abbrev N_nothing : List Str := ["letters"]
theorem sc_nothing : FnScope N_nothing ["letters"] (defScope s_nothing) := ⟨rfl, rfl, rfl, by decide +kernel, rfl, by decide +kernel, by decide +kernel⟩
abbrev s_fits : Stmt := topS 15
abbrev N_fits : List Str := ["one", "other", "low", "high"]
theorem sc_fits : FnScope N_fits ["one", "other"] (defScope s_fits) := ⟨rfl, rfl, rfl, by decide +kernel, rfl, by decide +kernel, by decide +kernel⟩
abbrev s_is_divided : Stmt := topS 18
abbrev N_is_divided : List Str := ["product", "products", "one"]
theorem sc_is_divided : FnScope N_is_divided ["product", "products"] (defScope s_is_divided) := ⟨rfl, rfl, rfl, by decide +kernel, rfl, by decide +kernel, by decide +kernel⟩
abbrev s_is_least_of : Stmt := topS 19
abbrev N_is_least_of : List Str := ["product", "products", "one"]
theorem sc_is_least_of : FnScope N_is_least_of ["product", "products"] (defScope s_is_least_of) := ⟨rfl, rfl, rfl, by decide +kernel, rfl, by decide +kernel, by decide +kernel⟩
abbrev s_least_of : Stmt := topS 20
abbrev N_least_of : List Str := ["products", "most", "kept", "product"]
theorem sc_least_of : FnScope N_least_of ["products", "most"] (defScope s_least_of) := ⟨rfl, rfl, rfl, by decide +kernel, rfl, by decide +kernel, by decide +kernel⟩
abbrev s_lot_text : Stmt := topS 28
abbrev N_lot_text : List Str := ["members", "body", "member"]
theorem sc_lot_text : FnScope N_lot_text ["members"] (defScope s_lot_text) := ⟨rfl, rfl, rfl, by decide +kernel, rfl, by decide +kernel, by decide +kernel⟩
abbrev s_word_of : Stmt := topS 29
abbrev N_word_of : List Str := ["product", "letters", "at", "exponent"]
theorem sc_word_of : FnScope N_word_of ["product"] (defScope s_word_of) := ⟨rfl, rfl, rfl, by decide +kernel, rfl, by decide +kernel, by decide +kernel⟩
abbrev s_letter_text : Stmt := topS 30
abbrev N_letter_text : List Str := ["index", "exponent"]
theorem sc_letter_text : FnScope N_letter_text ["index", "exponent"] (defScope s_letter_text) := ⟨rfl, rfl, rfl, by decide +kernel, rfl, by decide +kernel, by decide +kernel⟩
abbrev s_are_products : Stmt := topS 41
abbrev N_are_products : List Str := ["value", "letters", "member"]
theorem sc_are_products : FnScope N_are_products ["value", "letters"] (defScope s_are_products) := ⟨rfl, rfl, rfl, by decide +kernel, rfl, by decide +kernel, by decide +kernel⟩
abbrev s_made_lot : Stmt := topS 42
abbrev N_made_lot : List Str := ["letters", "members", "lot"]
theorem sc_made_lot : FnScope N_made_lot ["letters", "members"] (defScope s_made_lot) := ⟨rfl, rfl, rfl, by decide +kernel, rfl, by decide +kernel, by decide +kernel⟩
abbrev s_check_letters : Stmt := topS 43
abbrev N_check_letters : List Str := ["one", "other"]
theorem sc_check_letters : FnScope N_check_letters ["one", "other"] (defScope s_check_letters) := ⟨rfl, rfl, rfl, by decide +kernel, rfl, by decide +kernel, by decide +kernel⟩
abbrev s_limited_members : Stmt := topS 44
abbrev N_limited_members : List Str := ["products", "members"]
theorem sc_limited_members : FnScope N_limited_members ["products"] (defScope s_limited_members) := ⟨rfl, rfl, rfl, by decide +kernel, rfl, by decide +kernel, by decide +kernel⟩
abbrev s_has_great_exponent : Stmt := topS 45
abbrev N_has_great_exponent : List Str := ["products", "product"]
theorem sc_has_great_exponent : FnScope N_has_great_exponent ["products"] (defScope s_has_great_exponent) := ⟨rfl, rfl, rfl, by decide +kernel, rfl, by decide +kernel, by decide +kernel⟩
abbrev s_w_pail : Stmt := topS 47
abbrev N_w_pail : List Str := ["_law_script", "_law_spot", "_law_cell", "_law_great", "_law_mixed"]
theorem sc_w_pail : FnScope N_w_pail ["_law_script", "_law_spot"] (defScope s_w_pail) := ⟨rfl, rfl, rfl, by decide +kernel, rfl, by decide +kernel, by decide +kernel⟩
abbrev s_w_dipped : Stmt := topS 48
abbrev N_w_dipped : List Str := ["_law_pail_here", "_law_many", "_law_found", "_law_one", "_law_two"]
theorem sc_w_dipped : FnScope N_w_dipped ["_law_pail_here", "_law_many"] (defScope s_w_dipped) := ⟨rfl, rfl, rfl, by decide +kernel, rfl, by decide +kernel, by decide +kernel⟩
abbrev s_w_some : Stmt := topS 49
abbrev N_w_some : List Str := ["_law_pail_here", "_law_items"]
theorem sc_w_some : FnScope N_w_some ["_law_pail_here", "_law_items"] (defScope s_w_some) := ⟨rfl, rfl, rfl, by decide +kernel, rfl, by decide +kernel, by decide +kernel⟩
abbrev s_w_product : Stmt := topS 50
abbrev N_w_product : List Str := ["_law_pail_here", "_law_letters", "_law_most", "_law_top", "_law_at"]
theorem sc_w_product : FnScope N_w_product ["_law_pail_here", "_law_letters", "_law_most"] (defScope s_w_product) := ⟨rfl, rfl, rfl, by decide +kernel, rfl, by decide +kernel, by decide +kernel⟩
abbrev s_w_products : Stmt := topS 51
abbrev N_w_products : List Str := ["_law_pail_here", "_law_letters", "_law_many", "_law_most", "_law_turn"]
theorem sc_w_products : FnScope N_w_products ["_law_pail_here", "_law_letters", "_law_many", "_law_most"] (defScope s_w_products) := ⟨rfl, rfl, rfl, by decide +kernel, rfl, by decide +kernel, by decide +kernel⟩
abbrev s_w_divides : Stmt := topS 52
abbrev N_w_divides : List Str := ["_law_one", "_law_other", "_law_at"]
theorem sc_w_divides : FnScope N_w_divides ["_law_one", "_law_other"] (defScope s_w_divides) := ⟨rfl, rfl, rfl, by decide +kernel, rfl, by decide +kernel, by decide +kernel⟩
abbrev s_w_least : Stmt := topS 53
abbrev N_w_least : List Str := ["_law_products_here", "_law_once", "_law_one", "_law_two"]
theorem sc_w_least : FnScope N_w_least ["_law_products_here"] (defScope s_w_least) := ⟨rfl, rfl, rfl, by decide +kernel, rfl, by decide +kernel, by decide +kernel⟩
abbrev s_w_has : Stmt := topS 54
abbrev N_w_has : List Str := ["_law_members", "_law_product_here", "_law_one"]
theorem sc_w_has : FnScope N_w_has ["_law_members", "_law_product_here"] (defScope s_w_has) := ⟨rfl, rfl, rfl, by decide +kernel, rfl, by decide +kernel, by decide +kernel⟩
abbrev s_w_lessened : Stmt := topS 55
abbrev N_w_lessened : List Str := ["_law_one", "_law_other", "_law_left", "_law_right_here"]
theorem sc_w_lessened : FnScope N_w_lessened ["_law_one", "_law_other"] (defScope s_w_lessened) := ⟨rfl, rfl, rfl, by decide +kernel, rfl, by decide +kernel, by decide +kernel⟩
abbrev s_w_lot_text : Stmt := topS 56
abbrev N_w_lot_text : List Str := ["_law_members", "_law_words", "_law_member", "_law_letters", "_law_at", "_law_e"]
theorem sc_w_lot_text : FnScope N_w_lot_text ["_law_members"] (defScope s_w_lot_text) := ⟨rfl, rfl, rfl, by decide +kernel, rfl, by decide +kernel, by decide +kernel⟩
abbrev s_w_right : Stmt := topS 57
abbrev N_w_right : List Str := ["_law_pail_here", "_law_letters", "_law_given", "_law_lot", "_law_due", "_law_some_here", "_law_product_here", "_law_first", "_law_odd", "_law_again", "_law_other", "_law_one", "_law_turn", "_law_value"]
theorem sc_w_right : FnScope N_w_right ["_law_pail_here"] (defScope s_w_right) := ⟨rfl, rfl, rfl, by decide +kernel, rfl, by decide +kernel, by decide +kernel⟩
abbrev s_law : Stmt := topS 58
abbrev N_law : List Str := ["_law_script", "_law_spot", "_law_pail_here", "_law_lot", "_law_told"]
theorem sc_law : FnScope N_law ["_law_script"] (defScope s_law) := ⟨rfl, rfl, rfl, by decide +kernel, rfl, by decide +kernel, by decide +kernel⟩
/-! ### what the top has written -/
/-- a maker of lambdas: its code object is known -/
structure FunC (K : PySem.W.Frag) (x qual : Str) (st : Stmt) (f : Addr) (fd : FuncData) (c : Addr) : Prop where
  ex : ∃ (oc : Value) (od : Option Addr) (kV doc pm : Value) (an : Option Addr) (ct : Value) (osl : Array (Option Value)),
    fd = PySem.W.fnOf x qual (defArgs st) (defBody st) (defScope st) .none kV doc pm an (.ref c) ct ∧ K.lookup f = some ⟨oc, od, .func fd, osl⟩ ∧ PySem.W.codeIn K (.ref c) qual = true
structure Txt (K : PySem.W.Frag) (mg : Str → Option Value) where
  a_is_number : Addr
  d_is_number : FuncData
  F_is_number : Fun K "is_number" "is_number" s_is_number a_is_number d_is_number
  b_is_number : Binds K d_is_number ["value"] []
  m_is_number : mg "is_number" = some (.ref a_is_number)
  a_is_within : Addr
  d_is_within : FuncData
  F_is_within : Fun K "is_within" "is_within" s_is_within a_is_within d_is_within
  b_is_within : Binds K d_is_within ["value", "least", "most"] []
  m_is_within : mg "is_within" = some (.ref a_is_within)
  a_check_within : Addr
  d_check_within : FuncData
  F_check_within : Fun K "check_within" "check_within" s_check_within a_check_within d_check_within
  b_check_within : Binds K d_check_within ["value", "least", "most"] []
  m_check_within : mg "check_within" = some (.ref a_check_within)
  a_are_exponents : Addr
  d_are_exponents : FuncData
  F_are_exponents : Fun K "are_exponents" "are_exponents" s_are_exponents a_are_exponents d_are_exponents
  b_are_exponents : Binds K d_are_exponents ["value", "letters", "most"] []
  m_are_exponents : mg "are_exponents" = some (.ref a_are_exponents)
  a_nothing : Addr
  d_nothing : FuncData
  F_nothing : Fun K "nothing" "nothing" s_nothing a_nothing d_nothing
  b_nothing : Binds K d_nothing ["letters"] []
  m_nothing : mg "nothing" = some (.ref a_nothing)
  a_fits : Addr
  d_fits : FuncData
  F_fits : Fun K "fits" "fits" s_fits a_fits d_fits
  b_fits : Binds K d_fits ["one", "other"] []
  m_fits : mg "fits" = some (.ref a_fits)
  a_is_divided : Addr
  d_is_divided : FuncData
  F_is_divided : Fun K "is_divided" "is_divided" s_is_divided a_is_divided d_is_divided
  b_is_divided : Binds K d_is_divided ["product", "products"] []
  m_is_divided : mg "is_divided" = some (.ref a_is_divided)
  a_is_least_of : Addr
  d_is_least_of : FuncData
  F_is_least_of : Fun K "is_least_of" "is_least_of" s_is_least_of a_is_least_of d_is_least_of
  b_is_least_of : Binds K d_is_least_of ["product", "products"] []
  m_is_least_of : mg "is_least_of" = some (.ref a_is_least_of)
  a_least_of : Addr
  d_least_of : FuncData
  F_least_of : FunD K "least_of" "least_of" (defArgs s_least_of) (defBody s_least_of) (defScope s_least_of) [.non] [] a_least_of d_least_of
  k_least_of : PySem.W.keepIn K (.ref a_least_of) = true
  b_least_of : Binds K d_least_of ["products", "most"] []
  m_least_of : mg "least_of" = some (.ref a_least_of)
  a_lot_text : Addr
  d_lot_text : FuncData
  F_lot_text : Fun K "lot_text" "lot_text" s_lot_text a_lot_text d_lot_text
  b_lot_text : Binds K d_lot_text ["members"] []
  m_lot_text : mg "lot_text" = some (.ref a_lot_text)
  a_word_of : Addr
  d_word_of : FuncData
  F_word_of : Fun K "word_of" "word_of" s_word_of a_word_of d_word_of
  b_word_of : Binds K d_word_of ["product"] []
  m_word_of : mg "word_of" = some (.ref a_word_of)
  a_letter_text : Addr
  d_letter_text : FuncData
  F_letter_text : Fun K "letter_text" "letter_text" s_letter_text a_letter_text d_letter_text
  b_letter_text : Binds K d_letter_text ["index", "exponent"] []
  m_letter_text : mg "letter_text" = some (.ref a_letter_text)
  a_are_products : Addr
  d_are_products : FuncData
  F_are_products : Fun K "are_products" "are_products" s_are_products a_are_products d_are_products
  b_are_products : Binds K d_are_products ["value", "letters"] []
  m_are_products : mg "are_products" = some (.ref a_are_products)
  a_made_lot : Addr
  d_made_lot : FuncData
  F_made_lot : Fun K "made_lot" "made_lot" s_made_lot a_made_lot d_made_lot
  b_made_lot : Binds K d_made_lot ["letters", "members"] []
  m_made_lot : mg "made_lot" = some (.ref a_made_lot)
  a_check_letters : Addr
  d_check_letters : FuncData
  F_check_letters : Fun K "check_letters" "check_letters" s_check_letters a_check_letters d_check_letters
  b_check_letters : Binds K d_check_letters ["one", "other"] []
  m_check_letters : mg "check_letters" = some (.ref a_check_letters)
  a_limited_members : Addr
  d_limited_members : FuncData
  F_limited_members : Fun K "limited_members" "limited_members" s_limited_members a_limited_members d_limited_members
  b_limited_members : Binds K d_limited_members ["products"] []
  m_limited_members : mg "limited_members" = some (.ref a_limited_members)
  a_has_great_exponent : Addr
  d_has_great_exponent : FuncData
  F_has_great_exponent : Fun K "has_great_exponent" "has_great_exponent" s_has_great_exponent a_has_great_exponent d_has_great_exponent
  b_has_great_exponent : Binds K d_has_great_exponent ["products"] []
  m_has_great_exponent : mg "has_great_exponent" = some (.ref a_has_great_exponent)
  a_w_pail : Addr
  d_w_pail : FuncData
  F_w_pail : Fun K "_law_pail" "_law_pail" s_w_pail a_w_pail d_w_pail
  b_w_pail : Binds K d_w_pail ["_law_script", "_law_spot"] []
  m_w_pail : mg "_law_pail" = some (.ref a_w_pail)
  a_w_dipped : Addr
  d_w_dipped : FuncData
  F_w_dipped : Fun K "_law_dipped" "_law_dipped" s_w_dipped a_w_dipped d_w_dipped
  b_w_dipped : Binds K d_w_dipped ["_law_pail_here", "_law_many"] []
  m_w_dipped : mg "_law_dipped" = some (.ref a_w_dipped)
  a_w_some : Addr
  d_w_some : FuncData
  F_w_some : Fun K "_law_some" "_law_some" s_w_some a_w_some d_w_some
  b_w_some : Binds K d_w_some ["_law_pail_here", "_law_items"] []
  m_w_some : mg "_law_some" = some (.ref a_w_some)
  a_w_product : Addr
  d_w_product : FuncData
  F_w_product : Fun K "_law_product" "_law_product" s_w_product a_w_product d_w_product
  b_w_product : Binds K d_w_product ["_law_pail_here", "_law_letters", "_law_most"] []
  m_w_product : mg "_law_product" = some (.ref a_w_product)
  a_w_products : Addr
  d_w_products : FuncData
  F_w_products : Fun K "_law_products" "_law_products" s_w_products a_w_products d_w_products
  b_w_products : Binds K d_w_products ["_law_pail_here", "_law_letters", "_law_many", "_law_most"] []
  m_w_products : mg "_law_products" = some (.ref a_w_products)
  a_w_divides : Addr
  d_w_divides : FuncData
  F_w_divides : Fun K "_law_divides" "_law_divides" s_w_divides a_w_divides d_w_divides
  b_w_divides : Binds K d_w_divides ["_law_one", "_law_other"] []
  m_w_divides : mg "_law_divides" = some (.ref a_w_divides)
  a_w_least : Addr
  d_w_least : FuncData
  F_w_least : Fun K "_law_least" "_law_least" s_w_least a_w_least d_w_least
  b_w_least : Binds K d_w_least ["_law_products_here"] []
  m_w_least : mg "_law_least" = some (.ref a_w_least)
  a_w_has : Addr
  d_w_has : FuncData
  F_w_has : Fun K "_law_has" "_law_has" s_w_has a_w_has d_w_has
  b_w_has : Binds K d_w_has ["_law_members", "_law_product_here"] []
  m_w_has : mg "_law_has" = some (.ref a_w_has)
  a_w_lessened : Addr
  d_w_lessened : FuncData
  F_w_lessened : Fun K "_law_lessened" "_law_lessened" s_w_lessened a_w_lessened d_w_lessened
  b_w_lessened : Binds K d_w_lessened ["_law_one", "_law_other"] []
  m_w_lessened : mg "_law_lessened" = some (.ref a_w_lessened)
  a_w_lot_text : Addr
  d_w_lot_text : FuncData
  F_w_lot_text : Fun K "_law_lot_text" "_law_lot_text" s_w_lot_text a_w_lot_text d_w_lot_text
  b_w_lot_text : Binds K d_w_lot_text ["_law_members"] []
  m_w_lot_text : mg "_law_lot_text" = some (.ref a_w_lot_text)
  a_w_right : Addr
  d_w_right : FuncData
  F_w_right : Fun K "_law_right" "_law_right" s_w_right a_w_right d_w_right
  b_w_right : Binds K d_w_right ["_law_pail_here"] []
  m_w_right : mg "_law_right" = some (.ref a_w_right)
  a_law : Addr
  d_law : FuncData
  F_law : Fun K "law" "law" s_law a_law d_law
  b_law : Binds K d_law ["_law_script"] []
  m_law : mg "law" = some (.ref a_law)
  z_isinstance : mg "isinstance" = none
  z_int : mg "int" = none
  z_bool : mg "bool" = none
  z_tuple : mg "tuple" = none
  z_len : mg "len" = none
  z_all : mg "all" = none
  z_zip : mg "zip" = none
  z_sorted : mg "sorted" = none
  z_set : mg "set" = none
  z_enumerate : mg "enumerate" = none
  z_range : mg "range" = none
  z_max : mg "max" = none
  z_sum : mg "sum" = none
  z_abs : mg "abs" = none
  z_min : mg "min" = none
  z_str : mg "str" = none
  z_list : mg "list" = none
  t_MAX_LETTERS : Nat
  c_MAX_LETTERS : mg "MAX_LETTERS" = some (.int 8 t_MAX_LETTERS)
  t_MAX_EXPONENT : Nat
  c_MAX_EXPONENT : mg "MAX_EXPONENT" = some (.int 60 t_MAX_EXPONENT)
  t_LONGEST_EXPONENT : Nat
  c_LONGEST_EXPONENT : mg "LONGEST_EXPONENT" = some (.int 2 t_LONGEST_EXPONENT)
  t_MAX_MEMBER_EXPONENT : Nat
  c_MAX_MEMBER_EXPONENT : mg "MAX_MEMBER_EXPONENT" = some (.int 8 t_MAX_MEMBER_EXPONENT)
  t_MAX_MEMBERS : Nat
  c_MAX_MEMBERS : mg "MAX_MEMBERS" = some (.int 24 t_MAX_MEMBERS)
  t_MAX_PASSED : Nat
  c_MAX_PASSED : mg "MAX_PASSED" = some (.int 200 t_MAX_PASSED)
  t_MAX_POWER : Nat
  c_MAX_POWER : mg "MAX_POWER" = some (.int 4 t_MAX_POWER)
end K6

namespace K6
open PySem PySem.Spec PyProof.Rows L2 RZ L5 R7
section
variable {K : PySem.W.Frag} {H H' : Hp}
/-! ### values of any kind -/
/-- an entry: some i where it is an integer, no bool -/
inductive El (K : PySem.W.Frag) (H : Hp) : V → Option Int → Prop
  | int (i : Int) : El K H (.int i) (some i)
  | bl (b : Bool) : El K H (.bl b) none
  | non : El K H .non none
  | str (x : Str) : El K H (.str x) none
  | tup {a : Addr} {xs : List V} (h : SqT K H a xs) : El K H (.ref a) none
theorem El.same (s : Same H H') {v : V} {o : Option Int} (h : El K H v o) : El K H' v o := by
  cases h with
  | int i => exact .int i
  | bl b => exact .bl b
  | non => exact .non
  | str x => exact .str x
  | tup h => exact .tup (same_sqt s h)
theorem El.isi {v : V} {o : Option Int} (h : El K H v o) : ∃ t bi bb, TyX K H v t ∧ PySem.W.kitOne K t (.type "int") = some bi ∧ PySem.W.kitOne K t (.type "bool") = some bb ∧ o.isSome = (bi && !bb) ∧ ∀ i, o = some i → v = .int i := by
  cases h with
  | int i => exact ⟨_, true, false, .base (.int i), kit_ty (by decide +kernel), kit_ty (by decide +kernel), rfl, fun j e => by cases e; rfl⟩
  | bl b => exact ⟨_, true, true, .base (.bl b), kit_ty (by decide +kernel), kit_ty (by decide +kernel), rfl, fun j e => by cases e⟩
  | non => exact ⟨_, false, false, .base .non, kit_ty (by decide +kernel), kit_ty (by decide +kernel), rfl, fun j e => by cases e⟩
  | str x => exact ⟨_, false, false, .base (.str x), kit_ty (by decide +kernel), kit_ty (by decide +kernel), rfl, fun j e => by cases e⟩
  | tup h => exact ⟨_, false, false, sqt_ty h, kit_ty (by decide +kernel), kit_ty (by decide +kernel), rfl, fun j e => by cases e⟩
abbrev Els (K : PySem.W.Frag) (H : Hp) : List V → List (Option Int) → Prop := Paired (El K H)
theorem Els.same (s : Same H H') : ∀ {vs : List V} {os : List (Option Int)}, Els K H vs os → Els K H' vs os
  | _, _, .nil => .nil
  | _, _, .cons h t => .cons (h.same s) (Els.same s t)
theorem Els.length : ∀ {vs : List V} {os : List (Option Int)}, Els K H vs os → vs.length = os.length
  | _, _, .nil => rfl
  | _, _, .cons _ t => congrArg (· + 1) (Els.length t)
theorem Els.get : ∀ {vs : List V} {os : List (Option Int)} {i : Nat} {v : V}, Els K H vs os → vs[i]? = some v → ∃ o, os[i]? = some o ∧ El K H v o
  | _, _, _, _, .nil, e => by simp at e
  | _, _, 0, _, .cons h _, e => by simp at e; subst e; exact ⟨_, rfl, h⟩
  | _, _, i + 1, v, .cons _ t, e => by
    obtain ⟨u, h1, h2⟩ := Els.get (i := i) (v := v) t (by simpa using e)
    exact ⟨u, by simpa using h1, h2⟩
theorem Els.app : ∀ {vs us : List V} {os ps : List (Option Int)}, Els K H vs os → Els K H us ps → Els K H (vs ++ us) (os ++ ps)
  | _, _, _, _, .nil, s => s
  | _, _, _, _, .cons r t, s => .cons r (Els.app t s)
theorem els_nv : ∀ t : List Nat, Els K H (nv t) (t.map fun n => some ((n : Nat) : Int))
  | [] => .nil
  | n :: t => .cons (.int _) (els_nv t)
/-- a value: some os where it is a tuple -/
inductive Va (K : PySem.W.Frag) (H : Hp) : V → Option (List (Option Int)) → Prop
  | tup {a : Addr} {vs : List V} {os : List (Option Int)} (h : SqT K H a vs) (e : Els K H vs os) (hl : vs.length ≤ 1000) : Va K H (.ref a) (some os)
  | lst {a : Addr} {xs : List V} (h : SqL K H a xs) : Va K H (.ref a) none
  | dic {a : Addr} (h : H a = some (.dK [])) : Va K H (.ref a) none
  | non : Va K H .non none
  | int (i : Int) : Va K H (.int i) none
  | str (x : Str) : Va K H (.str x) none
  | own {a C dx : Addr} {fs : List (Str × V)} (h : H a = some (.ins C dx fs)) (t : ∀ H' : Hp, H' a = some (.ins C dx fs) → TyX K H' (.ref a) (.ref C)) (k : PySem.W.kitOne K (.ref C) (.type "tuple") = some false) : Va K H (.ref a) none
theorem same_sql {a : Addr} {xs : List V} (e : Same H H') (h : SqL K H a xs) : SqL K H' a xs := by
  rcases h with (h | ⟨o, h⟩) | h
  · exact .inl (.inl (e _ _ h))
  · exact .inl (.inr ⟨o, e _ _ h⟩)
  · exact .inr h
theorem sql_ty {a : Addr} {xs : List V} (h : SqL K H a xs) : TyX K H (.ref a) (.type "list") := by
  rcases h with (h | ⟨o, h⟩) | ⟨o, its, n, e, c, _⟩
  · exact .base (.lst h)
  · exact .base (.frz h)
  · exact .kList e c
theorem Va.same (s : Same H H') {v : V} {d : Option (List (Option Int))} (h : Va K H v d) : Va K H' v d := by
  cases h with
  | tup h e hl => exact .tup (same_sqt s h) (e.same s) hl
  | lst h => exact .lst (same_sql s h)
  | dic h => exact .dic (s _ _ h)
  | non => exact .non
  | int i => exact .int i
  | str x => exact .str x
  | own h t k => exact .own (s _ _ h) t k
theorem Va.isi {v : V} {d : Option (List (Option Int))} (h : Va K H v d) : ∃ t, TyX K H v t ∧ PySem.W.kitOne K t (.type "tuple") = some d.isSome := by
  cases h with
  | tup h e hl => exact ⟨_, sqt_ty h, kit_ty (show kitB "tuple" "tuple" = some true by decide +kernel)⟩
  | lst h => exact ⟨_, sql_ty h, kit_ty (by decide +kernel)⟩
  | dic h => exact ⟨_, .base (.dK h), kit_ty (by decide +kernel)⟩
  | non => exact ⟨_, .base .non, kit_ty (by decide +kernel)⟩
  | int i => exact ⟨_, .base (.int i), kit_ty (by decide +kernel)⟩
  | str x => exact ⟨_, .base (.str x), kit_ty (by decide +kernel)⟩
  | own h t k => exact ⟨_, t _ h, k⟩
theorem Va.get {v : V} {os : List (Option Int)} (h : Va K H v (some os)) : ∃ a vs, v = .ref a ∧ SqT K H a vs ∧ Els K H vs os ∧ vs.length ≤ 1000 := by
  cases h with
  | tup h e hl => exact ⟨_, _, rfl, h, e, hl⟩
/-! ### what the program asks of them -/
def inB (o : Option Int) (a b : Int) : Bool := match o with
  | some i => decide (a ≤ i) && decide (i ≤ b)
  | none => false
def areB (d : Option (List (Option Int))) (n m : Int) : Bool := match d with
  | some os => decide (((os.length : Nat) : Int) = n) && os.all fun o => inB o 0 m
  | none => false
def anyB (d : Option (List (Option Int))) : Bool := match d with
  | some os => decide (1 ≤ os.length) && decide (os.length ≤ 8) && areB d ((os.length : Nat) : Int) 60
  | none => false
def Prod60 (t : List Nat) : Prop := 1 ≤ t.length ∧ t.length ≤ 8 ∧ ∀ e ∈ t, e ≤ 60
theorem els_nat : ∀ {vs : List V} {os : List (Option Int)}, Els K H vs os → (os.all fun o => inB o 0 60) = true → ∃ u : List Nat, vs = nv u ∧ os = (u.map fun n => some ((n : Nat) : Int)) ∧ ∀ e ∈ u, e ≤ 60
  | _, _, .nil, _ => ⟨[], rfl, rfl, fun _ h => nomatch h⟩
  | _, _, .cons h t, ha => by
    rw [List.all_cons, Bool.and_eq_true] at ha
    obtain ⟨u, rfl, rfl, hu⟩ := els_nat t ha.2
    cases h with
    | int i =>
      have h1 : (decide ((0 : Int) ≤ i) && decide (i ≤ 60)) = true := ha.1
      rw [Bool.and_eq_true] at h1
      have h2 := of_decide_eq_true h1.1
      have h3 := of_decide_eq_true h1.2
      refine ⟨i.toNat :: u, ?_, ?_, fun e he => ?_⟩
      · show _ = V.int _ :: nv u
        rw [show ((i.toNat : Nat) : Int) = i by omega]
      · show _ = some _ :: _
        rw [show ((i.toNat : Nat) : Int) = i by omega]
      · rcases List.mem_cons.mp he with rfl | he
        · omega
        · exact hu e he
    | bl b => cases ha.1
    | non => cases ha.1
    | str x => cases ha.1
    | tup h => cases ha.1
theorem are_get {v : V} {d : Option (List (Option Int))} {n : Nat} (h : Va K H v d) (e : areB d ((n : Nat) : Int) 60 = true) : ∃ r u, v = .ref r ∧ SqT K H r (nv u) ∧ u.length = n ∧ (∀ e ∈ u, e ≤ 60) ∧ d = some (u.map fun n => some ((n : Nat) : Int)) := by
  cases d with
  | none => cases e
  | some os =>
    obtain ⟨a, vs, rfl, hT, hE, _⟩ := h.get
    have e' : (decide (((os.length : Nat) : Int) = ((n : Nat) : Int)) && os.all fun o => inB o 0 60) = true := e
    rw [Bool.and_eq_true] at e'
    obtain ⟨u, rfl, rfl, hu⟩ := els_nat hE e'.2
    have hl := of_decide_eq_true e'.1
    rw [List.length_map] at hl
    exact ⟨a, u, rfl, hT, by omega, hu, rfl⟩
theorem are_prod {t : List Nat} (h : ∀ e ∈ t, e ≤ 60) : areB (some (t.map fun n => some ((n : Nat) : Int))) ((t.length : Nat) : Int) 60 = true := by
  refine Bool.and_eq_true_iff.mpr ⟨decide_eq_true (by rw [List.length_map]), List.all_eq_true.mpr fun o ho => ?_⟩
  obtain ⟨n, hn, rfl⟩ := List.mem_map.mp ho
  have := h n hn
  show (decide ((0 : Int) ≤ ((n : Nat) : Int)) && decide (((n : Nat) : Int) ≤ 60)) = true
  rw [decide_eq_true (show (0 : Int) ≤ ((n : Nat) : Int) by omega), decide_eq_true (show ((n : Nat) : Int) ≤ 60 by omega)]
  rfl
theorem va_prod {a : Addr} {t : List Nat} (h : SqT K H a (nv t)) (hl : t.length ≤ 1000) : Va K H (.ref a) (some (t.map fun n => some ((n : Nat) : Int))) := .tup h (els_nv t) (by rw [nv_len]; exact hl)
end
end K6

namespace K6
open PySem PySem.Spec PyProof.Rows L2 RZ L5 R7
theorem take_more {α : Type} {l : List α} {i : Nat} {x : α} (h : l[i]? = some x) : l.take (i + 1) = l.take i ++ [x] := by
  rw [List.take_add_one, h]
  rfl
section
variable {P : Program} {w : World} {K : PySem.W.Frag} {mg : Str → Option Value} {base : Heap}
/-! ### is_number, is_within, are_exponents, check_within, of any value -/
def sp_num (K : PySem.W.Frag) : Sp := fun vs H Q _ => ∃ v o, vs = [v] ∧ El K H v o ∧ Q (.bl o.isSome) H
theorem ok_num (T : Txt K mg) : FnOk P w K mg base CX0 1 T.a_is_number T.d_is_number ["value"] (sp_num K) := by
  refine T.F_is_number.ok sc_is_number (fun vs H Q E h => ?_) (fun cdv A outer s H vs Q E hr h => ?_)
  · obtain ⟨v, o, rfl, _⟩ := h
    rfl
  · obtain ⟨v, o, rfl, he, q⟩ := h
    refine ⟨_, pss_one (ps_ret (pe_and (pe_callB call_isi (by rfl) T.z_isinstance boot_isinstance (pa_cons (pv 0) (pa_cons (pe_bltn (v := .ty "int") (by rfl) T.z_int boot_int rfl) pa_nil)))
      (pe_one (pe_not (pe_callB call_isi (by rfl) T.z_isinstance boot_isinstance (pa_cons (pv 0) (pa_cons (pe_bltn (v := .ty "bool") (by rfl) T.z_bool boot_bool rfl) pa_nil))))))), ?_⟩
    obtain ⟨t, bi, bb, ty, e1, e2, e3, _⟩ := he.isi
    refine ⟨_, rfl, _, _, _, _, bi, rfl, .ty _, ty, e1, bi, rfl, ?_⟩
    cases bi with
    | true =>
      refine iteT ⟨_, rfl, _, _, _, _, bb, rfl, .ty _, ty, e2, bb, rfl, ?_⟩
      rw [e3] at q
      exact q
    | false =>
      refine iteF ?_
      rw [e3] at q
      exact q
def sp_within (K : PySem.W.Frag) : Sp := fun vs H Q _ => ∃ v o, ∃ a b : Int, vs = [v, .int a, .int b] ∧ El K H v o ∧ Q (.bl (inB o a b)) H
theorem ok_within (T : Txt K mg) : FnOk P w K mg base CX0 2 T.a_is_within T.d_is_within ["value", "least", "most"] (sp_within K) := by
  refine T.F_is_within.ok sc_is_within (fun vs H Q E h => ?_) (fun cdv A outer s H vs Q E hr h => ?_)
  · obtain ⟨v, o, a, b, rfl, _⟩ := h
    rfl
  · obtain ⟨v, o, a, b, rfl, he, q⟩ := h
    refine ⟨_, pss_one (ps_ret (pe_and (pe_call (ok_num T) hr (by rfl) T.m_is_number T.F_is_number.kp T.b_is_number .nil pass0 (pa_cons (pv 0) pa_nil)) (pe_one (pe_chain op_le op_le (pv 1) (pv 0) (pv 2))))), ?_⟩
    refine ⟨_, rfl, v, o, rfl, he, o.isSome, rfl, ?_⟩
    cases o with
    | none => exact iteF q
    | some i =>
      obtain ⟨_, _, _, _, _, _, _, e⟩ := he.isi
      obtain rfl := e i rfl
      refine iteT ?_
      refine ⟨_, rfl, _, rfl, _, _, rfl, rfl, _, rfl, ite2 (fun c => ?_) (fun c => ?_)⟩
      · refine ⟨_, rfl, _, _, rfl, rfl, ?_⟩
        have q' : Q (.bl (decide (a ≤ i) && decide (i ≤ b))) H := q
        rw [c] at q'
        exact q'
      · have q' : Q (.bl (decide (a ≤ i) && decide (i ≤ b))) H := q
        rw [Bool.eq_false_iff.mpr c] at q'
        exact q'
def sp_checkw : Sp := fun vs H Q _ => ∃ i a b : Int, vs = [.int i, .int a, .int b] ∧ a ≤ i ∧ i ≤ b ∧ Q .non H
theorem ok_checkw (T : Txt K mg) : FnOk P w K mg base CX0 3 T.a_check_within T.d_check_within ["value", "least", "most"] sp_checkw := by
  refine T.F_check_within.ok sc_check_within (fun vs H Q E h => ?_) (fun cdv A outer s H vs Q E hr h => ?_)
  · obtain ⟨i, a, b, rfl, _⟩ := h
    rfl
  · obtain ⟨i, a, b, rfl, h1, h2, q⟩ := h
    refine ⟨_, pss_one (ps_if (pt_not (pt_val (pe_call (ok_within T) hr (by rfl) T.m_is_within T.F_is_within.kp T.b_is_within .nil pass0 (pa_cons (pv 0) (pa_cons (pv 1) (pa_cons (pv 2) pa_nil)))))) (pss_one ps_never) pss_nil), ?_⟩
    refine ⟨_, rfl, _, rfl, _, rfl, _, some i, a, b, rfl, .int i, true, ?_, iteF q⟩
    refine congrArg V.bl ?_
    show (decide (a ≤ i) && decide (i ≤ b)) = true
    rw [decide_eq_true h1, decide_eq_true h2]
    rfl
def sp_are (K : PySem.W.Frag) : Sp := fun vs H Q _ => ∃ v d, ∃ n m : Int, vs = [v, .int n, .int m] ∧ Va K H v d ∧ ∀ H', Same H H' → Q (.bl (areB d n m)) H'
theorem ok_are (T : Txt K mg) : FnOk P w K mg base CX0 3 T.a_are_exponents T.d_are_exponents ["value", "letters", "most"] (sp_are K) := by
  refine T.F_are_exponents.ok sc_are_exponents (fun vs H Q E h => ?_) (fun cdv A outer s H vs Q E hr h => ?_)
  · obtain ⟨v, d, n, m, rfl, _⟩ := h
    rfl
  · obtain ⟨v, d, n, m, rfl, hv, q⟩ := h
    refine ⟨_, pss_cons (ps_if (PW.pt (pw_or (pt_not (pt_val (pe_callB call_isi (by rfl) T.z_isinstance boot_isinstance (pa_cons (pv 0) (pa_cons (pe_bltn (v := .ty "tuple") (by rfl) T.z_tuple boot_tuple rfl) pa_nil)))))
        (pw_or1 (pt_cmpR op_ne (pe_callB call_len_seq (by rfl) T.z_len boot_len (pa_cons (pv 0) pa_nil)) (pv 1) (nomark _))))) (pss_one (ps_ret pe_bl)) pss_nil)
      (pss_one (ps_ret (pe_callB (cr_all rfl) (by rfl) T.z_all (by decide +kernel) (pa_cons
        (pe_lc (own := [("exponent", 3)]) (g := gName 3) (tt := tYes) rfl sc_are_exponents.nd (pi_tup (pv 0)) (blkOk_by (own := [("exponent", 3)]) (N := N_are_exponents) (sc := defScope s_are_exponents) (by decide +kernel))
          (fun _ _ _ _ _ => pg_name (i := 3) sc_are_exponents.nd rfl (Or.inl rfl)) (fun _ _ _ _ _ => pts_nil)
          (fun _ _ _ _ _ => pe_call (ok_within T) hr (by rfl) T.m_is_within T.F_is_within.kp T.b_is_within .nil pass0 (pa_cons (pv 3) (pa_cons pe_int (pa_cons (pv 2) pa_nil))))) pa_nil)))), ?_⟩
    obtain ⟨t, ty, et⟩ := hv.isi
    refine ⟨_, rfl, _, _, _, _, _, rfl, .ty _, ty, et, _, rfl, ?_⟩
    cases d with
    | none => exact iteT (q H (Same.refl H))
    | some os =>
      obtain ⟨p, xs, rfl, hT, hE, hz⟩ := hv.get
      refine iteF ⟨_, rfl, p, _, rfl, .inr hT, _, rfl, ?_⟩
      have hlen := hE.length
      refine ⟨rfl, _, rfl, ite2 (fun c => ?_) (fun c => ?_)⟩
      · have c' : ¬ ((os.length : Nat) : Int) = n := fun z => by
          rw [hlen, z, decide_eq_true rfl] at c
          cases c
        have e1 : areB (some os) n m = false := by
          show (decide _ && _) = false
          rw [decide_eq_false c']
          rfl
        have := q H (Same.refl H)
        rw [e1] at this
        exact this
      · have c' : ((os.length : Nat) : Int) = n := by
          by_cases z : ((os.length : Nat) : Int) = n
          · exact z
          · exact absurd (by rw [hlen, decide_eq_false (fun y => z (V.int.inj y))]; rfl) c
        refine ⟨_, rfl, p, rfl, ⟨_, hT⟩, fun D hD => ?_⟩
        have s1 : Same H (upd H D (.lst [])) := same_new hD _
        refine lc_tup (K := K) (a := p) (xs := xs) (fun i H' => Same H H' ∧ H' D = some (.lst (((os.take i).map fun o => inB o 0 m).map V.bl))) ⟨s1, upd_same⟩ (fun i H' _ h => same_sqt h.1 hT) (fun i x H' hi h => ?_) (fun H' h => ?_)
        · obtain ⟨sm, eD⟩ := h
          obtain ⟨o, ho, hx⟩ := hE.get hi
          have hlt : i < xs.length := (List.getElem?_eq_some_iff.mp hi).1
          refine ⟨rfl, _, rfl, _, rfl, x, o, _, _, rfl, hx.same sm, ?_⟩
          refine ⟨_, eD, by rw [List.length_map, List.length_map, List.length_take]; exact sizeK (by omega), same_updL sm hD, ?_⟩
          rw [upd_same, take_more ho, List.map_append, List.map_append]
          rfl
        · obtain ⟨sm, eD⟩ := h
          rw [hlen, List.take_length] at eD
          refine ⟨D, _, rfl, SqL.of eD, ?_⟩
          have e1 : areB (some os) n m = (os.map fun o => inB o 0 m).all id := by
            show (decide _ && _) = _
            rw [decide_eq_true c', Bool.true_and, List.all_map]
            rfl
          have := q H' sm
          rw [e1] at this
          exact this
end
end K6

namespace K6
open PySem PySem.Spec PyProof.Rows L2 RZ L5 R7
section
variable {P : Program} {w : World} {K : PySem.W.Frag} {mg : Str → Option Value} {base : Heap}
/-! ### a comprehension over zip of two tuples of one length -/
abbrev lcTurn (D : Addr) (g : TG) (tt : TT) (te : TE) (vs : List Nat) (σ : L2.St) (Nx : Hp → Prop) (v : V) (H : Hp) : Prop := g v (wipe σ vs) H fun σ2 H2 => wipe σ2 vs = wipe σ vs ∧ tt σ2 H2 fun b H3 =>
  if b = true then te σ2 H3 fun y H4 => ∃ acc, H4 D = some (.lst acc) ∧ acc.length < sizeLine ∧ Nx (upd H4 D (.lst (acc ++ [y]))) else Nx H3
theorem lc_zipT {a b : Addr} {xs ys : List V} {g : TG} {tt : TT} {te : TE} {vs : List Nat} {σ : L2.St} {H1 : Hp} {D : Addr} {Qd : Hp → Prop} (hl : xs.length = ys.length) (Pv : Nat → Hp → Prop) (h0 : Pv 0 (upd H1 D (.lst []))) (hq : ∀ i H, Pv i H → SqT K H a xs ∧ SqT K H b ys)
    (hs : ∀ (i : Nat) (x y : V) (T : Addr) (H : Hp), xs[i]? = some x → ys[i]? = some y → Pv i H → H T = none → lcTurn D g tt te vs σ (Pv (i + 1)) (.ref T) (upd H T (.tup [x, y]))) (hd : ∀ H, Pv xs.length H → Qd H) :
    ∃ W : Nat → Nat → Hp → Prop, (∃ m, W 0 m (upd H1 D (.lst []))) ∧ ∀ i m H0, W i m H0 →
      ((ItzT K a b).stop i H0 ∧ Qd H0) ∨ ((ItzT K a b).go i H0 ∧ ∃ Nx : Hp → Prop, (∀ H', Nx H' → ∃ m', m' < m ∧ W (i + 1) m' H') ∧ ∀ v H', (ItzT K a b).yld i H0 v H' → lcTurn D g tt te vs σ Nx v H') := by
  refine ⟨fun i m H => i + m = xs.length ∧ Pv i H, ⟨xs.length, Nat.zero_add _, h0⟩, fun i m H0 hw => ?_⟩
  obtain ⟨em, pi⟩ := hw
  obtain ⟨ta, tb⟩ := hq i H0 pi
  cases m with
  | zero =>
    have ei : i = xs.length := em
    subst ei
    exact .inl ⟨⟨xs, ys, ta, tb, Or.inl (Nat.le_refl _)⟩, hd H0 pi⟩
  | succ m =>
    have i1 : i < xs.length := by omega
    have i2 : i < ys.length := hl ▸ i1
    refine .inr ⟨⟨xs, ys, _, _, ta, tb, List.getElem?_eq_getElem i1, List.getElem?_eq_getElem i2⟩, Pv (i + 1), fun H' p => ⟨m, Nat.lt_succ_self m, by omega, p⟩, fun v H' out => ?_⟩
    obtain ⟨T, _, _, rfl, free, rfl, fx, fy⟩ := out
    exact hs i _ _ T H0 (fx xs ta) (fy ys tb) pi free
theorem getD_at {t : List Nat} {i : Nat} (h : i < t.length) : t[i]? = some (t.getD i 0) := by
  rw [List.getD_eq_getElem?_getD, List.getElem?_eq_getElem h]
  rfl
theorem nv_take (t : List Nat) (k : Nat) : nv (t.take k) = (nv t).take k := List.map_take
theorem cut_to (xs : List V) (k : Nat) (h : k ≤ xs.length) : cutV xs none (some (k : Int)) = xs.take k := by
  unfold cutV
  rw [show HT.sIx xs.length xs.length (some (k : Int)) = min k xs.length from HT.sIx_nat xs.length xs.length k, HT.sIx_none, Nat.min_eq_left h]
  rfl
/-! ### tuple rules whose answer is told alike in all cases -/
def rCatB (K : PySem.W.Frag) : R2 := fun x y H Q => ∃ a b xs ys, x = .ref a ∧ y = .ref b ∧ SqT K H a xs ∧ SqT K H b ys ∧ xs.length + ys.length ≤ sizeLine ∧ ∀ H' z, Same H H' → SqT K H' z (xs ++ ys) → Q (.ref z) H'
theorem op_catB {X : Cx} : OpR X (binaryOp .Add) (rCatB X.K) := by
  intro pins s σ H x y v u Q I rx ry h
  obtain ⟨a, b, xs, ys, rfl, rfl, hx, hy, hz, q⟩ := h
  refine op_catA pins s σ H _ _ v u Q I rx ry ⟨a, b, xs, ys, rfl, rfl, hx, hy, hz, fun e => ?_, fun _ e => ?_, fun _ _ p hp => q _ p (same_new hp _) (SqT.of upd_same)⟩
  · subst e
    exact q H b (Same.refl H) hy
  · subst e
    rw [List.append_nil] at q
    exact q H a (Same.refl H) hx
def rSlB (K : PySem.W.Frag) : V → Option Int → Option Int → Hp → VK → Prop := fun x lo hi H Q => ∃ a xs, x = .ref a ∧ SqT K H a xs ∧ ∀ H' z, Same H H' → SqT K H' z (cutV xs lo hi) → Q (.ref z) H'
theorem sl_tupB {X : Cx} : SlR X (rSlB X.K) := by
  intro pins s σ H x v vl vu lo hi sl Q I rx hs pl pu h
  obtain ⟨a, xs, rfl, hx, q⟩ := h
  refine sl_tupA pins s σ H _ v vl vu lo hi sl Q I rx hs pl pu ⟨a, xs, rfl, hx, fun e => ?_, fun _ p hp => q _ p (same_new hp _) (SqT.of upd_same)⟩
  have e2 : cutV xs lo hi = xs := by
    unfold cutV
    rw [e.1, e.2]
    exact List.take_length
  rw [e2] at q
  exact q H a (Same.refl H) hx
/-! ### all but the pail stands -/
def Bar (p : Addr) (H H' : Hp) : Prop := ∀ b o, b ≠ p → H b = some o → H' b = some o
theorem Bar.trans {p : Addr} {A B C : Hp} (a : Bar p A B) (b : Bar p B C) : Bar p A C := fun c o n h => b c o n (a c o n h)
theorem Bar.same {p : Addr} {A B : Hp} (a : Same A B) : Bar p A B := fun c o _ h => a c o h
theorem Bar.upd {p : Addr} {A : Hp} {o : HO} : Bar p A (upd A p o) := fun c u n h => by
  rw [upd_ne n]
  exact h
theorem passG {X : Cx} : Passes (CX X.prog X.w) X E0 := fun _ _ _ _ _ _ _ c => by
  obtain ⟨_, _, _, _, _, _, _, _, _, _, _, _, no⟩ := c
  exact no.elim
theorem nostop : NoStop K E0 := fun _ _ _ no => no.elim
theorem ref_get {rs : List Addr} {i : Nat} {x : V} (h : (rs.map V.ref)[i]? = some x) : ∃ a, rs[i]? = some a ∧ x = .ref a := by
  rw [List.getElem?_map] at h
  cases e : rs[i]? with
  | none =>
    rw [e] at h
    cases h
  | some n =>
    rw [e] at h
    exact ⟨n, rfl, (Option.some.inj h).symm⟩
end
section
variable {P : Program} {w : World} {K : PySem.W.Frag} {mg : Str → Option Value} {base : Heap}
/-! ### the law's own draws -/
abbrev pailO (g x c : Int) : HO := .lst [.int g, .int x, .int c]
def sp_pail (K : PySem.W.Frag) : Sp := fun vs H Q _ => ∃ (a : Addr) (ns : List Int) (k : Nat), vs = [.ref a, .int ((k : Nat) : Int)] ∧ SqL K H a (ns.map V.int) ∧ k < 1000 ∧ ∀ (H' : Hp) (r : Addr) (g x c : Int), Same H H' → H r = none → H' r = some (pailO g x c) → Q (.ref r) H'
theorem mpos {j : Int} (h : (0 : Int) < j) : (0 : Int) < j := h
theorem same_back {H H' : Hp} (s : Same H H') {r : Addr} (h : H' r = none) : H r = none := s.free h
theorem PE.weak {X : Cx} {e : Expr} {t t' : TE} (h : PE X e t) (i : ∀ σ H Q, t' σ H Q → t σ H Q) : PE X e t' := ⟨fun pins s σ H Q I h' => h.run pins s σ H Q I (i σ H Q h')⟩
theorem ok_pail (T : Txt K mg) : FnOk P w K mg base CX0 1 T.a_w_pail T.d_w_pail ["_law_script", "_law_spot"] (sp_pail K) := by
  refine T.F_w_pail.ok sc_w_pail (fun vs H Q E h => ?_) (fun cdv A outer s H vs Q E hr h => ?_)
  · obtain ⟨a, ns, k, rfl, _⟩ := h
    rfl
  · obtain ⟨a, ns, k, rfl, hS, hk, q⟩ := h
    refine ⟨_, pss_cons (ps_set (i := 2) sc_w_pail.nd rfl (Or.inl rfl) (PE.weak (t' := fun σ' H' Q' => σ' = start N_w_pail [.ref a, .int ((k : Nat) : Int)] ∧ H' = H ∧ ∀ (i : Int) H1, Same H H1 → Q' (.int i) H1) (pe_ifExp (pt_cmpR op_lt (pv 1) (pe_callB call_len_seq (by rfl) T.z_len boot_len (pa_cons (pv 0) pa_nil)) (nomark _))
        (pe_callTy call_int1 (by rfl) T.z_int boot_int (pa_cons (pe_ix ix_list (pv 0) (pv 1) (fun _ _ => rfl)) pa_nil))
        (pe_op op_add (pe_op op_add (pe_op op_mul pe_int (pv 1)) pe_int) (pe_op op_mod (pe_callTy call_int1 (by rfl) T.z_int boot_int (pa_cons (pe_callB (cr_sum rfl) (by rfl) T.z_sum boot_sum (pa_cons (pe_slice sl_list (pv 0) po_none (po_some pe_int)) pa_nil)) pa_nil)) pe_int))) ?imp))
      (pss_cons (ps_set (i := 3) sc_w_pail.nd rfl (Or.inl rfl) (pe_op op_mod (pe_callTy call_int1 (by rfl) T.z_int boot_int (pa_cons (pe_callB call_abs (by rfl) T.z_abs boot_abs (pa_cons (pv 2) pa_nil)) pa_nil)) (pe_op op_powW (pe_op op_pow pe_int pe_int) pe_int)))
      (pss_cons (ps_set (i := 4) sc_w_pail.nd rfl (Or.inl rfl) (pe_op op_mod (pe_callTy call_int1 (by rfl) T.z_int boot_int (pa_cons (pe_op op_add (pe_op op_add (pe_op op_add (pe_op op_mul (pe_op op_mod (pv 3) pe_int) pe_int) (pe_op op_mul pe_int (pv 1))) (pe_op op_mul pe_int (pe_callTy call_int1 (by rfl) T.z_int boot_int (pa_cons (pe_cmpR op_lt (pv 2) pe_int (nomark _)) pa_nil)))) pe_int) pa_nil)) pe_int))
      (pss_one (ps_ret (pe_lst (pa_cons (pe_callB (call_max2 rfl) (by rfl) T.z_max boot_max (pa_cons pe_int (pa_cons (pe_op op_sub (pv 3) (pe_op op_pow pe_int pe_int)) pa_nil))) (pa_cons (pv 4) (pa_cons pe_int pa_nil)))))))), ?_⟩
    case imp =>
      rintro σ' H' Q' ⟨rfl, rfl, h⟩
      refine ⟨_, rfl, _, rfl, a, _, rfl, .inl hS, _, _, rfl, rfl, _, rfl, ite2 (fun c => ?_) (fun c => ?_)⟩
      · have c' := of_decide_eq_true c
        rw [List.length_map] at c'
        have hlt : k < ns.length := by omega
        refine ⟨_, rfl, _, rfl, a, _, _, .int ns[k], rfl, rfl, hS, atI_nat (by rw [List.getElem?_map, List.getElem?_eq_getElem hlt] <;> rfl), .inl ⟨_, rfl, ?_⟩⟩
        exact h _ _ (Same.refl _)
      · refine ⟨_, rfl, _, _, rfl, rfl, .inl ⟨by decide, by decide⟩, _, _, rfl, rfl, _, rfl, _, rfl, a, _, rfl, hS, fun z hz => ?_⟩
        have e1 : cutV (ns.map V.int) none (some 1) = (ns.take 1).map V.int := by
          unfold cutV
          rw [show HT.sIx (ns.map V.int).length (ns.map V.int).length (some 1) = min 1 (ns.map V.int).length from HT.sIx_nat _ _ 1, HT.sIx_none, List.map_take]
          show List.take (min 1 (ns.map V.int).length) (ns.map V.int) = _
          rcases ns with _ | ⟨n, r⟩
          · rfl
          · rw [List.map_cons, List.length_cons, show min 1 ((r.map V.int).length + 1) = 1 by omega]
        refine ⟨z, ns.take 1, rfl, SqL.of (by rw [upd_same, e1]), .inl ⟨_, rfl, _, _, rfl, rfl, mpos (by decide), _, _, rfl, rfl, ?_⟩⟩
        exact h _ _ (same_new hz _)
    refine ⟨rfl, rfl, fun cell H1 s1 => ?_⟩
    refine ⟨_, rfl, _, rfl, .inl ⟨_, rfl, _, _, rfl, rfl, ⟨by decide, by decide, by decide⟩, _, _, rfl, rfl, ⟨by decide, by decide +kernel⟩, _, _, rfl, rfl, Int.pow_pos (Int.pow_pos (by decide)), ?_⟩⟩
    refine ⟨_, rfl, _, _, rfl, rfl, mpos (by decide), _, _, rfl, rfl, .inr ⟨by decide, by decide⟩, _, rfl, _, _, rfl, rfl, .inl ⟨by decide, by decide⟩, _, _, rfl, rfl, _, rfl, _, _, rfl, rfl, .inr ⟨_, rfl, _, _, rfl, rfl, .inl ⟨by decide, by decide⟩, _, _, rfl, rfl, _, _, rfl, rfl, .inl ⟨_, rfl, _, _, rfl, rfl, mpos (by decide), ?_⟩⟩⟩
    refine ⟨_, rfl, _, _, rfl, rfl, ⟨by decide, by decide, by decide⟩, _, _, rfl, rfl, _, _, rfl, _, rfl, by show 3 ≤ sizeLine; decide, fun z hz => ?_⟩
    exact q _ z _ _ _ (s1.trans (same_new hz _)) (s1.free hz) upd_same
abbrev rDip (H : Hp) (p : Addr) (m : Int) (Q : VK) : Prop := ∀ g x c r : Int, 0 ≤ r → r < m → Q (.int r) (upd H p (pailO g x c))
def sp_dip : Sp := fun vs H Q _ => ∃ (p : Addr) (m g x c : Int), vs = [.ref p, .int m] ∧ H p = some (pailO g x c) ∧ 0 < m ∧ m < 1073741824 ∧ rDip H p m Q
theorem ok_dip (T : Txt K mg) : FnOk P w K mg base CX0 1 T.a_w_dipped T.d_w_dipped ["_law_pail_here", "_law_many"] sp_dip := by
  refine T.F_w_dipped.ok sc_w_dipped (fun vs H Q E h => ?_) (fun cdv A outer s H vs Q E hr h => ?_)
  · obtain ⟨p, m, g, x, c, rfl, _⟩ := h
    rfl
  · obtain ⟨p, m, g, x, c, rfl, hp, h0, h1, q⟩ := h
    refine ⟨_, pss_cons (ps_if (pt_cmpR op_gt (pe_ix ix_list (pv 0) pe_int (fun _ _ => rfl)) pe_int (nomark _))
        (pss_cons (ps_set (i := 2) sc_w_dipped.nd rfl (Or.inl rfl) (pe_op op_mod (pe_callTy call_int1 (by rfl) T.z_int boot_int (pa_cons (pe_ix ix_list (pv 0) pe_int (fun _ _ => rfl)) pa_nil)) (pv 1)))
        (pss_cons (ps_asg (pe_op op_fdiv (pe_ix ix_list (pv 0) pe_int (fun _ _ => rfl)) (pv 1)) (pg_sub (pv 0) pe_int set_list))
        (pss_one (ps_ret (pv 2))))) pss_nil)
      (pss_cons (ps_asg (pe_op op_add (pe_ix ix_list (pv 0) pe_int (fun _ _ => rfl)) pe_int) (pg_sub (pv 0) pe_int set_list))
      (pss_cons (ps_set (i := 3) sc_w_dipped.nd rfl (Or.inl rfl) (pe_op op_mod (pe_callTy call_int1 (by rfl) T.z_int boot_int (pa_cons (pe_op op_add (pe_ix ix_list (pv 0) pe_int (fun _ _ => rfl)) (pe_op op_mul pe_int (pe_ix ix_list (pv 0) pe_int (fun _ _ => rfl)))) pa_nil)) pe_int))
      (pss_cons (ps_set (i := 4) sc_w_dipped.nd rfl (Or.inl rfl) (pe_op op_add (pe_op op_add (pe_op op_mul (pe_op op_mod (pe_callTy call_int1 (by rfl) T.z_int boot_int (pa_cons (pe_op op_mul (pv 3) (pv 3)) pa_nil)) pe_int) pe_int) (pv 3)) (pe_op op_mul pe_int (pe_ix ix_list (pv 0) pe_int (fun _ _ => rfl)))))
      (pss_one (ps_ret (pe_op op_mod (pe_callTy call_int1 (by rfl) T.z_int boot_int (pa_cons (pe_op op_fdiv (pv 4) pe_int) pa_nil)) (pv 1))))))), ?_⟩
    have a0 : atI [V.int g, V.int x, V.int c] (0 : Int) = some (.int g) := rfl
    refine ⟨_, rfl, p, _, _, _, rfl, rfl, SqL.of hp, a0, _, _, rfl, rfl, _, rfl, ite2 (fun d => ?_) (fun d => ?_)⟩
    · refine ⟨_, rfl, p, _, _, _, rfl, rfl, SqL.of hp, a0, .inl ⟨_, rfl, _, rfl, _, _, rfl, rfl, h0, ?_⟩⟩
      refine ⟨_, rfl, p, _, _, _, rfl, rfl, SqL.of hp, a0, _, rfl, _, _, rfl, rfl, ⟨h0, h1⟩, ?_⟩
      refine ⟨_, rfl, p, _, _, 0, rfl, rfl, hp, rfl, ?_⟩
      exact ⟨_, rfl, q _ _ _ _ (Int.emod_nonneg _ (by omega)) (Int.emod_lt_of_pos _ h0)⟩
    · have a2 : atI [V.int g, V.int x, V.int c] (2 : Int) = some (.int c) := rfl
      refine ⟨_, rfl, p, _, _, _, rfl, rfl, SqL.of hp, a2, _, _, rfl, rfl, _, rfl, p, _, _, 2, rfl, rfl, hp, rfl, ?_⟩
      have hp' : (upd H p (.lst [V.int g, V.int x, V.int (c + 1)])) p = some (.lst [V.int g, V.int x, V.int (c + 1)]) := upd_same
      have b1 : atI [V.int g, V.int x, V.int (c + 1)] (1 : Int) = some (.int x) := rfl
      have b2 : atI [V.int g, V.int x, V.int (c + 1)] (2 : Int) = some (.int (c + 1)) := rfl
      refine ⟨_, rfl, p, _, _, _, rfl, rfl, SqL.of hp', b1, _, rfl, p, _, _, _, rfl, rfl, SqL.of hp', b2, _, _, rfl, rfl, .inl ⟨by decide, by decide⟩, _, _, rfl, rfl, .inl ⟨_, rfl, _, _, rfl, rfl, mpos (by decide), ?_⟩⟩
      have r0 := Int.emod_nonneg (x + 49979693 * (c + 1)) (show (2305843009213693907 : Int) ≠ 0 by decide)
      have r1 := Int.emod_lt_of_pos (x + 49979693 * (c + 1)) (show (0 : Int) < 2305843009213693907 by decide)
      generalize (x + 49979693 * (c + 1)) % 2305843009213693907 = one at r0 r1 ⊢
      refine ⟨_, rfl, _, rfl, _, _, rfl, rfl, .inl ⟨by omega, by omega⟩, .inl ⟨_, rfl, _, _, rfl, rfl, mpos (by decide), _, _, rfl, rfl, .inr ⟨by decide, by decide⟩, _, rfl, _, _, rfl, rfl, _, rfl, p, _, _, _, rfl, rfl, SqL.of hp', b2, _, _, rfl, rfl, .inl ⟨by decide, by decide⟩, _, _, rfl, rfl, ?_⟩⟩
      refine ⟨_, rfl, _, _, rfl, rfl, ⟨by decide, by decide⟩, .inl ⟨_, rfl, _, rfl, _, _, rfl, rfl, h0, ?_⟩⟩
      exact q _ _ _ _ (Int.emod_nonneg _ (by omega)) (Int.emod_lt_of_pos _ h0)
/-- items[dipped(pail, len(items))] -/
def sp_some (K : PySem.W.Frag) : Sp := fun vs H Q _ => ∃ (p a : Addr) (xs : List V) (g x c : Int), vs = [.ref p, .ref a] ∧ H p = some (pailO g x c) ∧ a ≠ p ∧ SqL K H a xs ∧ xs ≠ [] ∧ xs.length ≤ 1000 ∧ ∀ g x c v, v ∈ xs → Q v (upd H p (pailO g x c))
theorem ok_some (T : Txt K mg) : FnOk P w K mg base CX0 2 T.a_w_some T.d_w_some ["_law_pail_here", "_law_items"] (sp_some K) := by
  refine T.F_w_some.ok sc_w_some (fun vs H Q E h => ?_) (fun cdv A outer s H vs Q E hr h => ?_)
  · obtain ⟨p, a, xs, g, x, c, rfl, _⟩ := h
    rfl
  · obtain ⟨p, a, xs, g, x, c, rfl, hp, hne, hS, hn, hz, q⟩ := h
    refine ⟨_, pss_one (ps_ret (pe_ix ix_list (pv 1) (pe_call (ok_dip T) hr (by rfl) T.m_w_dipped T.F_w_dipped.kp T.b_w_dipped .nil pass0 (pa_cons (pv 0) (pa_cons (pe_callB call_len_seq (by rfl) T.z_len boot_len (pa_cons (pv 1) pa_nil)) pa_nil))) (fun _ _ => rfl))), ?_⟩
    have hpos : 0 < xs.length := List.length_pos_iff.mpr hn
    refine ⟨_, rfl, _, rfl, _, rfl, a, _, rfl, .inl hS, p, _, g, x, c, rfl, hp, by omega, by omega, fun g' x' c' r h0 h1 => ?_⟩
    have hlt : r.toNat < xs.length := by omega
    refine ⟨a, xs, r, xs[r.toNat], rfl, rfl, sql_updL hne hS, ?_, q _ _ _ _ (List.getElem_mem hlt)⟩
    have := atI_nat (xs := xs) (List.getElem?_eq_getElem hlt)
    rw [show ((r.toNat : Nat) : Int) = r by omega] at this
    exact this
end
end K6

namespace K6
open PySem PySem.Spec PyProof.Rows L2 RZ L5 R7
section
variable {P : Program} {w : World} {K : PySem.W.Frag} {mg : Str → Option Value} {base : Heap}
/-! ### exponent by exponent -/
abbrev zi (F : Nat → Nat → Int) (t u : List Nat) : List Int := List.zipWith F t u
abbrev addZ (a b : Nat) : Int := ((a : Nat) : Int) + ((b : Nat) : Int)
abbrev subZ (a b : Nat) : Int := ((a : Nat) : Int) - ((b : Nat) : Int)
abbrev maxZ (a b : Nat) : Int := if ((b : Nat) : Int) > ((a : Nat) : Int) then ((b : Nat) : Int) else ((a : Nat) : Int)
abbrev minZ (a b : Nat) : Int := if ((b : Nat) : Int) < ((a : Nat) : Int) then ((b : Nat) : Int) else ((a : Nat) : Int)
abbrev offZ (a b : Nat) : Int := if 0 > subZ a b then 0 else subZ a b
abbrev lesZ (a b : Nat) : Int := if subZ a b > 0 then subZ a b else 0
theorem zi_get {F : Nat → Nat → Int} {t u : List Nat} {i n m : Nat} (h1 : t[i]? = some n) (h2 : u[i]? = some m) : (zi F t u)[i]? = some (F n m) := by
  rw [List.getElem?_zipWith, h1, h2]
def sp_zip (K : PySem.W.Frag) (F : Nat → Nat → Int) : Sp := fun vs H Q _ => ∃ (p r : Addr) (t u : List Nat), vs = [.ref p, .ref r] ∧ SqT K H p (nv t) ∧ SqT K H r (nv u) ∧ u.length = t.length ∧ t.length ≤ 1000 ∧ ∀ H' z, Same H H' → SqT K H' z ((zi F t u).map V.int) → Q (.ref z) H'
theorem ok_w_lessened (T : Txt K mg) : FnOk P w K mg base CX0 1 T.a_w_lessened T.d_w_lessened ["_law_one", "_law_other"] (sp_zip K lesZ) := by
  refine T.F_w_lessened.ok sc_w_lessened (fun vs H Q E h => ?_) (fun cdv A outer s H vs Q E hr h => ?_)
  · obtain ⟨p, r, t, u, rfl, _⟩ := h
    rfl
  · obtain ⟨p, r, t, u, rfl, hT, hU, hl, hz, q⟩ := h
    refine ⟨_, pss_one (ps_ret (pe_callTy call_tuple_of (by rfl) T.z_tuple boot_tuple (pa_cons
      (pe_lc (own := [("_law_left", 2), ("_law_right_here", 3)]) (g := gTup K 2 (gCons (gName 2) (gCons (gName 3) gNil))) (tt := tYes) rfl sc_w_lessened.nd (pi_zipA (by rfl) T.z_zip (pa_cons (pv 0) (pa_cons (pv 1) pa_nil))) (blkOk_by (own := [("_law_left", 2), ("_law_right_here", 3)]) (N := N_w_lessened) (sc := defScope s_w_lessened) (by decide +kernel))
        (fun _ _ _ _ _ => pg_tup (by rfl) (pgs_cons (pg_name (i := 2) sc_w_lessened.nd rfl (Or.inl rfl)) (pgs_cons (pg_name (i := 3) sc_w_lessened.nd rfl (Or.inl rfl)) pgs_nil))) (fun _ _ _ _ _ => pts_nil)
        (fun _ _ _ _ _ => pe_callB (call_max2 rfl) (by rfl) T.z_max boot_max (pa_cons pe_int (pa_cons (pe_op op_sub (pv 2) (pv 3)) pa_nil)))) pa_nil))), ?_⟩
    refine ⟨_, rfl, _, rfl, p, r, nv t, nv u, rfl, .inr ⟨hT, hU, fun D hD => ?_⟩⟩
    have sD : Same H (upd H D (.lst [])) := same_new hD _
    refine lc_zipT (by rw [nv_len, nv_len, hl]) (fun i H' => Same H H' ∧ H' D = some (.lst (((zi lesZ t u).take i).map V.int))) ⟨sD, upd_same⟩ (fun i H' h => ⟨same_sqt h.1 hT, same_sqt h.1 hU⟩) (fun i x y T' H' hx hy h hT' => ?_) (fun H' h => ?_)
    · obtain ⟨sm, eD⟩ := h
      obtain ⟨n, hn, rfl⟩ := nv_get hx
      obtain ⟨m, hm, rfl⟩ := nv_get hy
      have hlt : i < t.length := (List.getElem?_eq_some_iff.mp hn).1
      have sT : Same H' (upd H' T' (.tup [.int ((n : Nat) : Int), .int ((m : Nat) : Int)])) := same_new hT' _
      refine ⟨T', _, rfl, SqT.of upd_same, rfl, _, _, rfl, _, _, rfl, rfl, ?_⟩
      refine ⟨rfl, _, rfl, _, rfl, _, _, rfl, rfl, _, _, rfl, ?_⟩
      refine ⟨_, sT _ _ eD, by rw [List.length_map, List.length_take]; exact sizeK (by omega), same_updL (sm.trans sT) hD, ?_⟩
      rw [upd_same, take_more (zi_get hn hm), List.map_append]
      rfl
    · obtain ⟨sm, eD⟩ := h
      have e2 : (zi lesZ t u).take (nv t).length = zi lesZ t u := List.take_of_length_le (by rw [nv_len, List.length_zipWith]; omega)
      rw [e2] at eD
      refine ⟨D, _, rfl, .inl ⟨SqL.of eD, fun z hz' => ?_⟩⟩
      have sZ : Same H (upd H' z (.tup ((zi lesZ t u).map V.int))) := sm.trans (same_new hz' _)
      exact q _ z sZ (SqT.of upd_same)
theorem zi_les (t u : List Nat) : (zi lesZ t u).map V.int = nv (List.zipWith (· - ·) t u) := by
  show _ = List.map _ _
  rw [List.map_zipWith, List.map_zipWith]
  congr 1
  funext a b
  show V.int (if ((a : Nat) : Int) - ((b : Nat) : Int) > 0 then ((a : Nat) : Int) - ((b : Nat) : Int) else 0) = V.int _
  congr 1
  split <;> omega
end
end K6

namespace K6
open PySem PySem.Spec PyProof.Rows L2 RZ L5 R7
section
variable {P : Program} {w : World} {K : PySem.W.Frag} {mg : Str → Option Value} {base : Heap}
/-! ### fits -/
abbrev fitL (t u : List Nat) : List Bool := List.zipWith (fun a b => decide (a ≤ b)) t u
abbrev fitB (t u : List Nat) : Bool := (fitL t u).all id
theorem fit_get {t u : List Nat} {i n m : Nat} (h1 : t[i]? = some n) (h2 : u[i]? = some m) : (fitL t u)[i]? = some (decide (n ≤ m)) := by
  rw [List.getElem?_zipWith, h1, h2]
theorem all_take_step {l : List Bool} {i : Nat} {b : Bool} (h : l[i]? = some b) : (l.take (i + 1)).all id = ((l.take i).all id && b) := by
  rw [take_more h, List.all_append]
  show _ = _
  simp
def sp_fits (K : PySem.W.Frag) : Sp := fun vs H Q _ => ∃ (p r : Addr) (t u : List Nat), vs = [.ref p, .ref r] ∧ SqT K H p (nv t) ∧ SqT K H r (nv u) ∧ u.length = t.length ∧ ∀ H', Same H H' → Q (.bl (fitB t u)) H'
theorem ok_fits (T : Txt K mg) : FnOk P w K mg base CX0 1 T.a_fits T.d_fits ["one", "other"] (sp_fits K) := by
  refine T.F_fits.ok sc_fits (fun vs H Q E h => ?_) (fun cdv A outer s H vs Q E hr h => ?_)
  · obtain ⟨p, r, t, u, rfl, _⟩ := h
    rfl
  · obtain ⟨p, r, t, u, rfl, hT, hU, hl, q⟩ := h
    refine ⟨_, pss_cons (ps_for PassesOwn.never rfl (pi_zipA (by rfl) T.z_zip (pa_cons (pv 0) (pa_cons (pv 1) pa_nil))) (pg_tup (by rfl) (pgs_cons (pg_name (i := 2) sc_fits.nd rfl (Or.inl rfl)) (pgs_cons (pg_name (i := 3) sc_fits.nd rfl (Or.inl rfl)) pgs_nil)))
        (pss_one (ps_if (pt_cmpR op_gt (pv 2) (pv 3) (nomark _)) (pss_one (ps_ret pe_bl)) pss_nil)))
      (pss_one (ps_ret pe_bl)), ?_⟩
    refine ⟨_, rfl, _, rfl, p, r, nv t, nv u, rfl, .inr ⟨hT, hU, ?_⟩⟩
    refine for_zipT (xs := nv t) (ys := nv u) (by rw [nv_len, nv_len, hl]) (fun i σ H' => ∃ v2 v3 : Option V, σ = [some (.ref p), some (.ref r), v2, v3] ∧ Same H H' ∧ ((fitL t u).take i).all id = true) ⟨none, none, rfl, Same.refl H, rfl⟩ ?_ ?_ ?_
    · rintro i σ H' ⟨v2, v3, rfl, sm, _⟩
      exact ⟨same_sqt sm hT, same_sqt sm hU⟩
    · rintro i x y T' σ H' hx hy ⟨v2, v3, rfl, sm, ha⟩ hT'
      obtain ⟨n, hn, rfl⟩ := nv_get hx
      obtain ⟨m, hm, rfl⟩ := nv_get hy
      have sT : Same H' (upd H' T' (.tup [.int ((n : Nat) : Int), .int ((m : Nat) : Int)])) := same_new hT' _
      have st := all_take_step (fit_get hn hm)
      refine ⟨T', _, rfl, SqT.of upd_same, rfl, _, _, rfl, _, _, rfl, rfl, ?_⟩
      refine ⟨_, rfl, _, rfl, _, _, rfl, rfl, _, rfl, ite2 (fun c => ?_) (fun c => ?_)⟩
      · have c' := of_decide_eq_true c
        have ef : fitB t u = false := by
          rw [ha, Bool.true_and, decide_eq_false (show ¬ n ≤ m by omega)] at st
          show (fitL t u).all id = false
          rw [← List.take_append_drop (i + 1) (fitL t u), List.all_append, st, Bool.false_and]
        rw [ef] at q
        exact q _ (sm.trans sT)
      · have c' : ¬ ((n : Nat) : Int) > ((m : Nat) : Int) := fun z => c (decide_eq_true z)
        refine ⟨_, _, rfl, sm.trans sT, ?_⟩
        rw [st, ha, decide_eq_true (show n ≤ m by omega)]
        rfl
    · rintro σ H' ⟨v2, v3, rfl, sm, ha⟩
      have ef : fitB t u = true := by
        rw [List.take_of_length_le (by rw [nv_len, List.length_zipWith]; omega)] at ha
        exact ha
      rw [ef] at q
      exact q _ sm
end
end K6

namespace K6
open PySem PySem.Spec PyProof.Rows L2 RZ L5 R7
section
variable {P : Program} {w : World} {K : PySem.W.Frag} {mg : Str → Option Value} {base : Heap}
/-! ### is_divided, is_least, least_of, has_great_exponent, limited_members, of tuples of one length -/
theorem fit_eq : ∀ t u : List Nat, fitB t u = M7.fitB t u
  | [], _ => rfl
  | _ :: _, [] => rfl
  | a :: t, b :: u => by
    show (decide (a ≤ b) && fitB t u) = (decide (a ≤ b) && M7.fitB t u)
    rw [fit_eq t u]
theorem any_take_step {l : List Bool} {i : Nat} {b : Bool} (h : l[i]? = some b) : (l.take (i + 1)).any id = ((l.take i).any id || b) := by
  rw [take_more h, List.any_append]
  simp
theorem any_drop {l : List Bool} {i : Nat} (h : (l.take i).any id = true) : l.any id = true := by
  rw [← List.take_append_drop i l, List.any_append, h, Bool.true_or]
theorem eqvAll_nats : ∀ t u : List Nat, PyData.eqvAll (t.map fun n => PyData.int ((n : Nat) : Int)) (u.map fun n => PyData.int ((n : Nat) : Int)) = decide (t = u)
  | [], [] => by simp [PyData.eqvAll]
  | [], _ :: _ => by simp [PyData.eqvAll]
  | _ :: _, [] => by simp [PyData.eqvAll]
  | a :: t, b :: u => by
    simp only [List.map_cons, PyData.eqvAll, PyData.eqv, eqvAll_nats t u]
    rw [show (((a : Nat) : Int) == ((b : Nat) : Int)) = decide (a = b) by
      rw [Bool.eq_iff_iff, beq_iff_eq, decide_eq_true_iff]
      omega, ← Bool.decide_and]
    exact decide_eq_decide.mpr (by simp)
theorem eqv_tupE (t u : List Nat) : PyData.eqv (encT t) (encT u) = decide (t = u) := by
  simp only [encT, PyData.eqv]
  exact eqvAll_nats t u
theorem tups_get {H : Hp} {rs : List Addr} {L : List (List Nat)} {i : Nat} {x : V} (hT : Tups K H rs L) (h : (rs.map V.ref)[i]? = some x) : ∃ a t, x = .ref a ∧ rs[i]? = some a ∧ L[i]? = some t ∧ SqT K H a (nv t) := by
  obtain ⟨a, ha, rfl⟩ := ref_get h
  obtain ⟨t, ht, hs⟩ := hT.get ha
  exact ⟨a, t, rfl, ha, ht, hs⟩
def sp_isd (K : PySem.W.Frag) : Sp := fun vs H Q _ => ∃ (p l : Addr) (t : List Nat) (rs : List Addr) (L : List (List Nat)), vs = [.ref p, .ref l] ∧ SqT K H p (nv t) ∧ SqA K H l (rs.map V.ref) ∧ Tups K H rs L ∧ (∀ u ∈ L, u.length = t.length) ∧ ∀ H', Same H H' → Q (.bl (L.any fun k => M7.fitB k t)) H'
theorem ok_isd (T : Txt K mg) : FnOk P w K mg base CX0 2 T.a_is_divided T.d_is_divided ["product", "products"] (sp_isd K) := by
  refine T.F_is_divided.ok sc_is_divided (fun vs H Q E h => ?_) (fun cdv A outer s H vs Q E hr h => ?_)
  · obtain ⟨p, l, t, rs, L, rfl, _⟩ := h
    rfl
  · obtain ⟨p, l, t, rs, L, rfl, hT, hA, hL, hd, q⟩ := h
    refine ⟨_, pss_cons (ps_for PassesOwn.never rfl (pi_any (pv 1)) (pg_name (i := 2) sc_is_divided.nd rfl (Or.inl rfl))
        (pss_one (ps_if (pt_val (pe_call (ok_fits T) hr (by rfl) T.m_fits T.F_fits.kp T.b_fits .nil pass0 (pa_cons (pv 2) (pa_cons (pv 0) pa_nil)))) (pss_one (ps_ret pe_bl)) pss_nil)))
      (pss_one (ps_ret pe_bl)), ?_⟩
    have el : (L.map fun k => M7.fitB k t).any id = L.any fun k => M7.fitB k t := by rw [List.any_map]; rfl
    refine ⟨_, rfl, l, rfl, for_any hA (fun i σ H' => ∃ v2 : Option V, σ = [some (.ref p), some (.ref l), v2] ∧ Same H H' ∧ ((L.map fun k => M7.fitB k t).take i).any id = false) ⟨none, rfl, Same.refl H, rfl⟩ (fun i σ' H' ⟨_, _, s, _⟩ => s) ?_ ?_⟩
    · rintro i x σ H' hx ⟨v2, rfl, sm, ha⟩
      obtain ⟨a, u, rfl, _, hu, hs⟩ := tups_get (hL.same sm) hx
      have hul := hd u (List.mem_of_getElem? hu)
      have st := any_take_step (l := L.map fun k => M7.fitB k t) (i := i) (b := M7.fitB u t) (by rw [List.getElem?_map, hu]; rfl)
      refine ⟨_, rfl, _, rfl, a, p, u, t, rfl, hs, same_sqt sm hT, hul.symm, fun H2 s2 => ⟨_, rfl, ?_⟩⟩
      rw [fit_eq]
      cases ef : M7.fitB u t with
      | true =>
        rw [ha, ef] at st
        have := any_drop st
        rw [el] at this
        rw [this] at q
        exact iteT (q _ (sm.trans s2))
      | false =>
        rw [ha, ef] at st
        exact iteF ⟨_, rfl, sm.trans s2, st⟩
    · rintro σ H' ⟨v2, rfl, sm, ha⟩
      have hlen : rs.length = L.length := hL.length
      rw [List.length_map, hlen, ← List.length_map (f := fun k => M7.fitB k t) (as := L), List.take_length, el] at ha
      rw [ha] at q
      exact q _ sm
theorem FunD.ok0 {x qual : Str} {st : Stmt} {f : Addr} {fd : FuncData} {N ps : List Str} {k : Nat} {sp : Sp} {dvs : List V} {kws : List (Str × V)} (F : FunD K x qual (defArgs st) (defBody st) (defScope st) dvs kws f fd) (S : FnScope N ps (defScope st)) (len : ∀ vs H Q E, sp vs H Q E → vs.length = ps.length)
    (hbody : ∀ (cdv : Value) (A : Around) (outer : List Env) (s : Shared) (H : Hp) (vs : List V) (Q : VK) (E : XK), Room k (A.deeper (envOfC qual (defScope st) s.heap.objs.size f cdv)) → sp vs H Q E →
      ∃ t, PSs (cxOf CX0 P w K mg base N qual (defScope st) f cdv A outer s H E).nox (defBody st) t ∧ t { nx := fun _ H' => Q .non H', rt := Q } (start N vs) H) : FnOk P w K mg base CX0 (k + 1) f fd ps sp := by
  obtain ⟨oc, od, dV, kV, doc, pm, an, cdv, ct, osl, rfl, lk, hcd, _, _⟩ := F.ex
  refine fn_of lk hcd S len fun A outer s H vs Q E hr hsp => ?_
  obtain ⟨t, h, q⟩ := hbody cdv A outer s H vs Q E hr hsp
  exact ⟨t, h.nox, q⟩
/-! ### least_of, where no more than 24 are kept -/
theorem keep_pre : ∀ (S kept : List (List Nat)), kept.length ≤ (S.foldl M7.takeN kept).length
  | [], _ => Nat.le_refl _
  | p :: S, kept => by
    refine Nat.le_trans ?_ (keep_pre S (M7.takeN kept p))
    unfold M7.takeN
    split
    · exact Nat.le_refl _
    · rw [List.length_append]
      exact Nat.le_succ _
theorem keep_sub : ∀ (S kept : List (List Nat)) (x : List Nat), x ∈ S.foldl M7.takeN kept → x ∈ kept ∨ x ∈ S
  | [], _, _, h => .inl h
  | p :: S, kept, x, h => by
    rcases keep_sub S (M7.takeN kept p) x h with h | h
    · have : x ∈ kept ∨ x = p := by
        revert h
        unfold M7.takeN
        split
        · exact .inl
        · intro h
          rcases List.mem_append.mp h with h | h
          · exact .inl h
          · exact .inr (List.mem_singleton.mp h)
      rcases this with h | h
      · exact .inl h
      · exact .inr (h ▸ List.mem_cons_self)
    · exact .inr (List.mem_cons_of_mem _ h)
theorem sqt_but {H H' : Hp} {z a : Addr} {xs ys : List V} (hz : H z = some (.lst ys)) (st : ∀ b o, b ≠ z → H b = some o → H' b = some o) (h : SqT K H a xs) : SqT K H' a xs := by
  have ne : ∀ {o : HO}, H a = some o → o ≠ .lst ys → a ≠ z := fun {o} e n k => by
    rw [k, hz] at e
    exact n (Option.some.inj e).symm
  rcases h with (h | ⟨o, h⟩) | h
  · exact .inl (.inl (st _ _ (ne h fun k => nomatch k) h))
  · exact .inl (.inr ⟨o, st _ _ (ne h fun k => nomatch k) h⟩)
  · exact .inr h
theorem tups_but {H H' : Hp} {z : Addr} {ys : List V} (hz : H z = some (.lst ys)) (st : ∀ b o, b ≠ z → H b = some o → H' b = some o) : ∀ {rs : List Addr} {L : List (List Nat)}, Tups K H rs L → Tups K H' rs L
  | _, _, .nil => .nil
  | _, _, .cons h t => .cons (sqt_but hz st h) (tups_but hz st t)
def sp_least (K : PySem.W.Frag) : Sp := fun vs H Q _ => ∃ (l : Addr) (rs : List Addr) (L : List (List Nat)) (d B : Nat), vs = [.ref l, .int 25] ∧ SqA K H l (rs.map V.ref) ∧ Tups K H rs L ∧ L.length < 64 ∧ 1 ≤ d ∧ (∀ t ∈ L, t.length = d) ∧ (∀ t ∈ L, ∀ e ∈ t, e < B) ∧ (M7.leastN L).length ≤ 24 ∧
  ∀ H' q rs', Same H H' → H' q = some (.lst (rs'.map V.ref)) → Tups K H' rs' (M7.leastN L) → Q (.ref q) H'
theorem ok_least (T : Txt K mg) : FnOk P w K mg base CX0 3 T.a_least_of T.d_least_of ["products", "most"] (sp_least K) := by
  refine K6.FunD.ok0 T.F_least_of sc_least_of (fun vs H Q E h => ?_) (fun cdv A outer s H vs Q E hr h => ?_)
  · obtain ⟨l, rs, L, d, B, rfl, _⟩ := h
    rfl
  · obtain ⟨l, rs, L, d, B, rfl, hA, hL, hz, hd1, hd, hB, h24, q⟩ := h
    refine ⟨_, pss_cons (ps_set (i := 2) sc_least_of.nd rfl (Or.inl rfl) (pe_lst pa_nil))
      (pss_cons (ps_for PassesOwn.never rfl (pi_list (pe_sset rfl hr.units (by rfl) T.z_sorted (by rfl) T.z_set (pv 0))) (pg_name (i := 3) sc_least_of.nd rfl (Or.inl rfl))
        (pss_cons (ps_if (pt_cmpR op_eq (pe_callB call_len_seq (by rfl) T.z_len boot_len (pa_cons (pv 2) pa_nil)) (pv 1) (nomark _)) (pss_one ps_break) pss_nil)
        (pss_one (ps_if (pt_not (pt_val (pe_call (ok_isd T) hr (by rfl) T.m_is_divided T.F_is_divided.kp T.b_is_divided .nil pass0 (pa_cons (pv 3) (pa_cons (pv 2) pa_nil))))) (pss_one (ps_expr (pe_bm PySem.F.plainAttrs_list PySem.F.slot_list_append PySem.F.type_list_append mt_append (pv 2) (pa_cons (pv 3) pa_nil)))) pss_nil))))
      (pss_one (ps_ret (pv 2)))), ?_⟩
    refine ⟨by show 0 ≤ sizeLine; exact Nat.zero_le _, fun z hz0 => ?_⟩
    have sz := same_new hz0 (.lst [])
    refine ⟨_, rfl, l, rs, L, d, B, rfl, hA.same sz, hL.same sz, hz, hd1, hd, hB, fun H1 y qs s1 hyf hy hT => ?_⟩
    have S1 := sz.trans s1
    have hlc : qs.length = (M7.canonN L).length := hT.length
    have hdc : ∀ t ∈ M7.canonN L, t.length = d := fun t ht => hd t (M7.mem_canon.mp ht)
    have keep : M7.keepN (M7.canonN L) = M7.leastN L := M7.keep_least hd
    have pre : ∀ i, (((M7.canonN L).take i).foldl M7.takeN []).length ≤ 24 := fun i => by
      have := keep_pre ((M7.canonN L).drop i) (((M7.canonN L).take i).foldl M7.takeN [])
      rw [← List.foldl_append, List.take_append_drop] at this
      have k2 : ((M7.canonN L).foldl M7.takeN []).length ≤ 24 := by
        show (M7.keepN (M7.canonN L)).length ≤ 24
        rw [keep]
        exact h24
      omega
    have hyz : y ≠ z := fun e => by
      rw [e, upd_same] at hyf
      cases hyf
    have hz1 : H1 z = some (.lst []) := s1 _ _ upd_same
    have tups' : ∀ H', (∀ b o, b ≠ z → H1 b = some o → H' b = some o) → Tups K H' qs (M7.canonN L) := fun H' st => tups_but hz1 st hT
    refine ⟨y, rfl, ⟨_, SqL.of hy⟩, ?_⟩
    refine for_list (K := K) (a := y) (xs := qs.map V.ref) (fun i σ H' => ∃ (v3 : Option V) (ks : List Addr), σ = [some (.ref l), some (.int 25), some (.ref z), v3] ∧ (∀ b o, b ≠ z → H1 b = some o → H' b = some o) ∧ H' z = some (.lst (ks.map V.ref)) ∧ Tups K H' ks (((M7.canonN L).take i).foldl M7.takeN []))
      ⟨none, [], rfl, fun _ _ _ h => h, s1 _ _ upd_same, .nil⟩ ?_ ?_ ?_
    · rintro i σ H' _ ⟨v3, ks, rfl, st, _, _⟩
      exact SqL.of (st y _ hyz hy)
    · rintro i x σ H' hx ⟨v3, ks, rfl, st, hk, hT'⟩
      obtain ⟨a, t, rfl, _, ht, hs⟩ := tups_get (tups' H' st) hx
      have htd := hdc t (List.mem_of_getElem? ht)
      have hkl : ks.length = (((M7.canonN L).take i).foldl M7.takeN []).length := hT'.length
      have hp := pre i
      have st1 : ((M7.canonN L).take (i + 1)).foldl M7.takeN [] = M7.takeN (((M7.canonN L).take i).foldl M7.takeN []) t := by
        rw [take_more ht, List.foldl_append]
        rfl
      refine ⟨_, rfl, z, _, rfl, .inl (SqL.of hk), _, rfl, rfl, _, rfl, ?_⟩
      rw [decide_eq_false (fun e => by have := V.int.inj e; rw [List.length_map] at this; omega)]
      refine iteF ⟨_, rfl, _, rfl, a, z, t, ks, _, rfl, hs, .inl (SqL.of hk), hT', fun u hu => ?_, fun H2 s2 => ⟨_, rfl, ?_⟩⟩
      · rcases keep_sub _ [] u hu with h | h
        · cases h
        · rw [htd, hdc u (List.mem_of_mem_take h)]
      cases ea : (((M7.canonN L).take i).foldl M7.takeN []).any fun k => M7.fitB k t with
      | true =>
        refine iteF ⟨_, ks, rfl, fun b o n h => s2 b o (st b o n h), s2 _ _ hk, ?_⟩
        rw [st1, M7.takeN, if_pos ea]
        exact hT'.same s2
      | false =>
        have hk2 := s2 _ _ hk
        refine iteT ⟨_, rfl, .inl ⟨rfl, _, SqL.of hk2⟩, _, rfl, z, _, _, rfl, rfl, hk2, by rw [List.length_map]; exact sizeK (by omega), ?_⟩
        refine ⟨_, ks ++ [a], rfl, fun b o n h => ?_, ?_, ?_⟩
        · rw [upd_ne n]
          exact s2 b o (st b o n h)
        · rw [upd_same, List.map_append]
          rfl
        · rw [st1, M7.takeN, if_neg (by rw [ea]; decide)]
          exact ((hT'.same s2).updL hk2).app (.cons (sqt_updL hk2 (same_sqt s2 hs)) .nil)
    · rintro σ H' ⟨v3, ks, rfl, st, hk, hT'⟩
      rw [List.length_map, hlc, List.take_length] at hT'
      refine ⟨_, rfl, q H' z ks (fun b o h => ?_) hk ?_⟩
      · refine st b o (ne_of_none h hz0) (S1 b o h)
      · rw [← keep]
        exact hT'
end
end K6

namespace K6
open PySem PySem.Spec PyProof.Rows L2 RZ L5 R7
section
variable {P : Program} {w : World} {K : PySem.W.Frag} {mg : Str → Option Value} {base : Heap}
/-! ### has_great_exponent, limited_members: where nothing is too great -/
def sp_no (n : Nat) : Sp := fun vs _ _ _ => vs.length = n ∧ False
theorem ok_isl (T : Txt K mg) : FnOk P w K mg base CX0 1 T.a_is_least_of T.d_is_least_of ["product", "products"] (sp_no 2) :=
  T.F_is_least_of.ok sc_is_least_of (fun vs H Q E h => h.1) (fun cdv A outer s H vs Q E hr h => h.2.elim)
def sp_hge (K : PySem.W.Frag) : Sp := fun vs H Q _ => ∃ (l : Addr) (rs : List Addr) (L : List (List Nat)), vs = [.ref l] ∧ SqA K H l (rs.map V.ref) ∧ Tups K H rs L ∧ (∀ t ∈ L, t ≠ []) ∧ (∀ t ∈ L, ∀ e ∈ t, e ≤ 60) ∧ ∀ H', Same H H' → Q (.bl false) H'
theorem ok_hge (T : Txt K mg) : FnOk P w K mg base CX0 2 T.a_has_great_exponent T.d_has_great_exponent ["products"] (sp_hge K) := by
  refine T.F_has_great_exponent.ok sc_has_great_exponent (fun vs H Q E h => ?_) (fun cdv A outer s H vs Q E hr h => ?_)
  · obtain ⟨l, rs, L, rfl, _⟩ := h
    rfl
  · obtain ⟨l, rs, L, rfl, hA, hL, hne, h60, q⟩ := h
    refine ⟨_, pss_cons (ps_for PassesOwn.never rfl (pi_any (pv 0)) (pg_name (i := 1) sc_has_great_exponent.nd rfl (Or.inl rfl))
        (pss_one (ps_if (PW.pt (pw_and (pt_cmpR op_gt (pe_callB (cr_maxT rfl) (by rfl) T.z_max boot_max (pa_cons (pv 1) pa_nil)) (pe_glob (v := .int 60) rfl T.c_MAX_EXPONENT ⟨_, rfl⟩) (nomark _))
          (pw_and1 (pt_val (pe_call (ok_isl T) hr (by rfl) T.m_is_least_of T.F_is_least_of.kp T.b_is_least_of .nil pass0 (pa_cons (pv 1) (pa_cons (pv 0) pa_nil))))))) (pss_one (ps_ret pe_bl)) pss_nil)))
      (pss_one (ps_ret pe_bl)), ?_⟩
    refine ⟨_, rfl, l, rfl, for_any hA (fun i σ H' => ∃ v1 : Option V, σ = [some (.ref l), v1] ∧ Same H H') ⟨none, rfl, Same.refl H⟩ (fun i σ' H' ⟨_, _, s⟩ => s) ?_ ?_⟩
    · rintro i x σ H' hx ⟨v1, rfl, sm⟩
      obtain ⟨a, u, rfl, _, hu, hs⟩ := tups_get (hL.same sm) hx
      have hm := List.mem_of_getElem? hu
      refine ⟨_, rfl, a, _, rfl, by rw [← nv_ints]; exact hs, by rw [List.length_map]; exact List.length_pos_iff.mpr (hne u hm), fun m hm2 _ => ?_⟩
      obtain ⟨e, he, rfl⟩ := List.mem_map.mp hm2
      have := h60 u hm e he
      refine ⟨_, _, rfl, rfl, _, rfl, ?_⟩
      rw [decide_eq_false (by omega)]
      exact iteF (iteF ⟨_, rfl, sm⟩)
    · rintro σ H' ⟨v1, rfl, sm⟩
      exact q _ sm
/-- products that a lot may hold: of one length, small, few -/
structure Few (d : Nat) (L : List (List Nat)) : Prop where
  pos : 1 ≤ d
  len : ∀ t ∈ L, t.length = d
  low : ∀ t ∈ L, ∀ e ∈ t, e ≤ 60
  few : L.length < 64
  kept : (M7.leastN L).length ≤ 24
def sp_lim (K : PySem.W.Frag) : Sp := fun vs H Q _ => ∃ (l : Addr) (rs : List Addr) (L : List (List Nat)) (d : Nat), vs = [.ref l] ∧ SqA K H l (rs.map V.ref) ∧ Tups K H rs L ∧ Few d L ∧
  ∀ H' q rs', Same H H' → SqT K H' q (rs'.map V.ref) → Tups K H' rs' (M7.leastN L) → Q (.ref q) H'
theorem ok_lim (T : Txt K mg) : FnOk P w K mg base CX0 4 T.a_limited_members T.d_limited_members ["products"] (sp_lim K) := by
  refine T.F_limited_members.ok sc_limited_members (fun vs H Q E h => ?_) (fun cdv A outer s H vs Q E hr h => ?_)
  · obtain ⟨l, rs, L, d, rfl, _⟩ := h
    rfl
  · obtain ⟨l, rs, L, d, rfl, hA, hL, hf, q⟩ := h
    refine ⟨_, pss_cons (ps_if (pt_val (pe_call (ok_hge T) (hr.mono (by decide)) (by rfl) T.m_has_great_exponent T.F_has_great_exponent.kp T.b_has_great_exponent .nil pass0 (pa_cons (pv 0) pa_nil))) (pss_one ps_never) pss_nil)
      (pss_cons (ps_set (i := 1) sc_limited_members.nd rfl (Or.inl rfl) (pe_call (ok_least T) hr (by rfl) T.m_least_of T.k_least_of T.b_least_of .nil pass0 (pa_cons (pv 0) (pa_cons (pe_op op_add (pe_glob (v := .int 24) rfl T.c_MAX_MEMBERS ⟨_, rfl⟩) pe_int) pa_nil))))
      (pss_cons (ps_if (pt_cmpR op_gt (pe_callB call_len_seq (by rfl) T.z_len boot_len (pa_cons (pv 1) pa_nil)) (pe_glob (v := .int 24) rfl T.c_MAX_MEMBERS ⟨_, rfl⟩) (nomark _)) (pss_one ps_never) pss_nil)
      (pss_one (ps_ret (pe_callTy call_tuple_of (by rfl) T.z_tuple boot_tuple (pa_cons (pv 1) pa_nil)))))), ?_⟩
    refine ⟨_, rfl, l, rs, L, rfl, hA, hL, fun t ht e => ?_, hf.low, fun H1 s1 => ⟨_, rfl, iteF ?_⟩⟩
    · have := hf.len t ht
      have := hf.pos
      rw [e] at *
      simp at *
      omega
    refine ⟨_, rfl, _, _, rfl, rfl, l, rs, L, d, 61, rfl, hA.same s1, hL.same s1, hf.few, hf.pos, hf.len, fun t ht e he => Nat.lt_succ_of_le (hf.low t ht e he), hf.kept, fun H2 z rs' s2 hz hT => ?_⟩
    refine ⟨_, rfl, z, _, rfl, .inl (SqL.of hz), _, _, rfl, rfl, _, rfl, ?_⟩
    have hlen : rs'.length = (M7.leastN L).length := hT.length
    have hk := hf.kept
    rw [decide_eq_false (by rw [List.length_map]; omega)]
    refine iteF ⟨_, rfl, z, _, rfl, .inl ⟨SqL.of hz, fun z2 hz2 => ?_⟩⟩
    have s3 := same_new hz2 (.tup (rs'.map V.ref))
    exact q _ z2 rs' (s1.trans (s2.trans s3)) (SqT.of upd_same) (hT.same s3)
/-! ### are_products -/
def sp_arp (K : PySem.W.Frag) : Sp := fun vs H Q _ => ∃ (l : Addr) (rs : List Addr) (L : List (List Nat)) (d : Nat), vs = [.ref l, .int ((d : Nat) : Int)] ∧ SqT K H l (rs.map V.ref) ∧ Tups K H rs L ∧ L.length ≤ 200 ∧ d ≤ 1000 ∧ (∀ t ∈ L, t.length = d) ∧ (∀ t ∈ L, ∀ e ∈ t, e ≤ 8) ∧ ∀ H', Same H H' → Q (.bl true) H'
theorem are_low {t : List Nat} {m : Nat} (h : ∀ e ∈ t, e ≤ m) : areB (some (t.map fun n => some ((n : Nat) : Int))) ((t.length : Nat) : Int) ((m : Nat) : Int) = true := by
  refine Bool.and_eq_true_iff.mpr ⟨decide_eq_true (by rw [List.length_map]), List.all_eq_true.mpr fun o ho => ?_⟩
  obtain ⟨n, hn, rfl⟩ := List.mem_map.mp ho
  have := h n hn
  show (decide ((0 : Int) ≤ ((n : Nat) : Int)) && decide (((n : Nat) : Int) ≤ ((m : Nat) : Int))) = true
  rw [decide_eq_true (show (0 : Int) ≤ ((n : Nat) : Int) by omega), decide_eq_true (show ((n : Nat) : Int) ≤ ((m : Nat) : Int) by omega)]
  rfl
theorem ok_arp (T : Txt K mg) : FnOk P w K mg base CX0 4 T.a_are_products T.d_are_products ["value", "letters"] (sp_arp K) := by
  refine T.F_are_products.ok sc_are_products (fun vs H Q E h => ?_) (fun cdv A outer s H vs Q E hr h => ?_)
  · obtain ⟨l, rs, L, d, rfl, _⟩ := h
    rfl
  · obtain ⟨l, rs, L, d, rfl, hA, hL, h200, hd1, hd, h8, q⟩ := h
    refine ⟨_, pss_cons (ps_if (PW.pt (pw_or (pt_not (pt_val (pe_callB call_isi (by rfl) T.z_isinstance boot_isinstance (pa_cons (pv 0) (pa_cons (pe_bltn (v := .ty "tuple") (by rfl) T.z_tuple boot_tuple rfl) pa_nil)))))
        (pw_or1 (pt_cmpR op_gt (pe_callB call_len_seq (by rfl) T.z_len boot_len (pa_cons (pv 0) pa_nil)) (pe_glob (v := .int 200) rfl T.c_MAX_PASSED ⟨_, rfl⟩) (nomark _))))) (pss_one (ps_ret pe_bl)) pss_nil)
      (pss_one (ps_ret (pe_callB (cr_all rfl) (by rfl) T.z_all (by decide +kernel) (pa_cons
        (pe_lc (own := [("member", 2)]) (g := gName 2) (tt := tYes) rfl sc_are_products.nd (pi_tup (pv 0)) (blkOk_by (own := [("member", 2)]) (N := N_are_products) (sc := defScope s_are_products) (by decide +kernel))
          (fun _ _ _ _ _ => pg_name (i := 2) sc_are_products.nd rfl (Or.inl rfl)) (fun _ _ _ _ _ => pts_nil)
          (fun _ _ _ _ _ => pe_call (ok_are T) hr (by rfl) T.m_are_exponents T.F_are_exponents.kp T.b_are_exponents .nil pass0 (pa_cons (pv 2) (pa_cons (pv 1) (pa_cons (pe_glob (v := .int 8) rfl T.c_MAX_MEMBER_EXPONENT ⟨_, rfl⟩) pa_nil))))) pa_nil)))), ?_⟩
    have hlen : rs.length = L.length := hL.length
    refine ⟨_, rfl, _, _, _, _, true, rfl, .ty _, sqt_ty hA, kit_ty (by decide +kernel), true, rfl, ?_⟩
    refine iteF ⟨_, rfl, l, _, rfl, .inr hA, _, _, rfl, rfl, _, rfl, ?_⟩
    rw [decide_eq_false (by rw [List.length_map]; omega)]
    refine iteF ⟨_, rfl, l, rfl, ⟨_, hA⟩, fun D hD => ?_⟩
    have s1 : Same H (upd H D (.lst [])) := same_new hD _
    refine lc_tup (K := K) (a := l) (xs := rs.map V.ref) (fun i H' => Same H H' ∧ H' D = some (.lst ((List.replicate i true).map V.bl))) ⟨s1, upd_same⟩ (fun i H' _ h => same_sqt h.1 hA) (fun i x H' hi h => ?_) (fun H' h => ?_)
    · obtain ⟨sm, eD⟩ := h
      obtain ⟨a, u, rfl, _, hu, hs⟩ := tups_get (hL.same sm) hi
      have hm := List.mem_of_getElem? hu
      have hlt : i < rs.length := by
        have := (List.getElem?_eq_some_iff.mp hi).1
        rw [List.length_map] at this
        exact this
      have hud := hd u hm
      refine ⟨rfl, _, rfl, _, rfl, .ref a, _, _, 8, rfl, va_prod hs (by omega), fun H2 s2 => ?_⟩
      have e8 : areB (some (u.map fun n => some ((n : Nat) : Int))) ((u.length : Nat) : Int) 8 = true := are_low (m := 8) (h8 u hm)
      rw [← hud, e8]
      refine ⟨_, s2 _ _ eD, by rw [List.length_map, List.length_replicate]; exact sizeK (by omega), same_updL (sm.trans s2) hD, ?_⟩
      rw [upd_same, List.replicate_succ', List.map_append]
      rfl
    · obtain ⟨sm, eD⟩ := h
      refine ⟨D, _, rfl, SqL.of eD, ?_⟩
      rw [show (List.replicate (rs.map V.ref).length true).all id = true by rw [List.all_replicate]; simp]
      exact q H' sm
end
end K6

namespace K6
open PySem PySem.Spec PyProof.Rows L2 RZ L5 R7
section
variable {P : Program} {w : World} {K : PySem.W.Frag} {mg : Str → Option Value} {base : Heap}
/-! ### the class Lot -/
abbrev s_init : Stmt := inClass (topS 40) 0
abbrev N_init : List Str := ["self", "letters", "members"]
theorem sc_init : FnScope N_init ["self", "letters", "members"] (defScope s_init) := ⟨rfl, rfl, rfl, by decide +kernel, rfl, by decide +kernel, by decide +kernel⟩
structure LotT (K : PySem.W.Frag) (mg : Str → Option Value) where
  C : Addr
  cl : Cls K C
  nL : NoAttr K C "_letters"
  nM : NoAttr K C "_members"
  gC : mg "Lot" = some (.ref C)
  fI : Addr
  dI : FuncData
  FI : Fun K "__init__" "Lot.__init__" s_init fI dI
  bI : Binds K dI ["self", "letters", "members"] []
  M : Mk K C fI
def lotF (d : Nat) (m : Addr) : List (Str × V) := [("_letters", .int ((d : Nat) : Int)), ("_members", .ref m)]
/-- a lot at a: its letters, its least members -/
def LotAt (K : PySem.W.Frag) (C : Addr) (H : Hp) (a : Addr) (d : Nat) (L : List (List Nat)) : Prop := ∃ dx m rs, H a = some (.ins C dx (lotF d m)) ∧ SqT K H m (rs.map V.ref) ∧ Tups K H rs L
theorem LotAt.same {C : Addr} {H H' : Hp} {a : Addr} {d : Nat} {L : List (List Nat)} (s : Same H H') : LotAt K C H a d L → LotAt K C H' a d L := fun ⟨dx, m, rs, h1, h2, h3⟩ => ⟨dx, m, rs, s _ _ h1, same_sqt s h2, h3.same s⟩
theorem sqt_ins {H H' : Hp} {z a C dx : Addr} {fs : List (Str × V)} {xs : List V} (hz : H z = some (.ins C dx fs)) (st : ∀ b o, b ≠ z → H b = some o → H' b = some o) (h : SqT K H a xs) : SqT K H' a xs := by
  have ne : ∀ {o : HO}, H a = some o → o ≠ .ins C dx fs → a ≠ z := fun {o} e n k => by
    rw [k, hz] at e
    exact n (Option.some.inj e).symm
  rcases h with (h | ⟨o, h⟩) | h
  · exact .inl (.inl (st _ _ (ne h fun k => nomatch k) h))
  · exact .inl (.inr ⟨o, st _ _ (ne h fun k => nomatch k) h⟩)
  · exact .inr h
theorem tups_ins {H H' : Hp} {z C dx : Addr} {fs : List (Str × V)} (hz : H z = some (.ins C dx fs)) (st : ∀ b o, b ≠ z → H b = some o → H' b = some o) : ∀ {rs : List Addr} {L : List (List Nat)}, Tups K H rs L → Tups K H' rs L
  | _, _, .nil => .nil
  | _, _, .cons h t => .cons (sqt_ins hz st h) (tups_ins hz st t)
def sp_init (K : PySem.W.Frag) (C : Addr) : Sp := fun vs H Q _ => ∃ (p dx l : Addr) (d : Nat) (rs : List Addr) (L : List (List Nat)), vs = [.ref p, .int ((d : Nat) : Int), .ref l] ∧ H p = some (.ins C dx []) ∧ SqT K H l (rs.map V.ref) ∧ Tups K H rs L ∧ Few d L ∧ d ≤ 8 ∧ (∀ t ∈ L, ∀ e ∈ t, e ≤ 8) ∧
  ∀ H' m rs', (∀ b o, b ≠ p → H b = some o → H' b = some o) → H' p = some (.ins C dx (lotF d m)) → SqT K H' m (rs'.map V.ref) → Tups K H' rs' (M7.leastN L) → Q .non H'
theorem ok_init (T : Txt K mg) (O : LotT K mg) : FnOk P w K mg base CX0 5 O.fI O.dI ["self", "letters", "members"] (sp_init K O.C) := by
  refine O.FI.ok sc_init (fun vs H Q E h => ?_) (fun cdv A outer s H vs Q E hr h => ?_)
  · obtain ⟨p, dx, l, d, rs, L, rfl, _⟩ := h
    rfl
  · obtain ⟨p, dx, l, d, rs, L, rfl, hp, hA, hL, hf, hd8, h8, q⟩ := h
    refine ⟨_, pss_cons (ps_expr (pe_call (ok_checkw T) (hr.mono (by decide)) (by rfl) T.m_check_within T.F_check_within.kp T.b_check_within .nil pass0 (pa_cons (pv 1) (pa_cons pe_int (pa_cons (pe_glob (v := .int 8) rfl T.c_MAX_LETTERS ⟨_, rfl⟩) pa_nil)))))
      (pss_cons (ps_if (pt_not (pt_val (pe_call (ok_arp T) hr (by rfl) T.m_are_products T.F_are_products.kp T.b_are_products .nil pass0 (pa_cons (pv 2) (pa_cons (pv 1) pa_nil))))) (pss_one ps_never) pss_nil)
      (pss_cons (ps_fld (pv 0) (pv 1) rfl)
      (pss_one (ps_fld (pv 0) (pe_call (ok_lim T) hr (by rfl) T.m_limited_members T.F_limited_members.kp T.b_limited_members .nil pass0 (pa_cons (pv 2) pa_nil)) rfl)))), ?_⟩
    have h1 := hf.pos
    have h64 := hf.few
    refine ⟨_, rfl, _, _, _, rfl, by omega, by omega, ?_⟩
    refine ⟨_, rfl, _, rfl, l, rs, L, d, rfl, hA, hL, by omega, by omega, hf.len, h8, fun H1 s1 => ⟨_, rfl, iteF ?_⟩⟩
    have hp1 := s1 _ _ hp
    refine ⟨_, rfl, _, rfl, p, _, dx, [], rfl, hp1, O.cl, O.nL, by show 0 < 1000; decide, ?_⟩
    have st1 : ∀ b o, b ≠ p → H1 b = some o → (upd H1 p (.ins O.C dx (putF "_letters" (.int ((d : Nat) : Int)) []))) b = some o := fun b o n h => by
      rw [upd_ne n]
      exact h
    have hp2 : (upd H1 p (.ins O.C dx (putF "_letters" (.int ((d : Nat) : Int)) []))) p = some (.ins O.C dx [("_letters", .int ((d : Nat) : Int))]) := upd_same
    generalize (upd H1 p (.ins O.C dx (putF "_letters" (.int ((d : Nat) : Int)) []))) = H2 at st1 hp2 ⊢
    refine ⟨_, rfl, l, rs, L, d, rfl, .inr (sqt_ins hp1 st1 (same_sqt s1 hA)), tups_ins hp1 st1 (hL.same s1), hf, fun H3 m rs' s3 hm hT => ?_⟩
    have hp3 := s3 _ _ hp2
    refine ⟨_, rfl, p, _, dx, _, rfl, hp3, O.cl, O.nM, by show 1 < 1000; decide, ?_⟩
    have st3 : ∀ b o, b ≠ p → H3 b = some o → (upd H3 p (.ins O.C dx (putF "_members" (.ref m) [("_letters", .int ((d : Nat) : Int))]))) b = some o := fun b o n h => by
      rw [upd_ne n]
      exact h
    refine q _ m rs' (fun b o n h => st3 b o n (s3 b o (st1 b o n (s1 b o h)))) ?_ (sqt_ins hp3 st3 hm) (tups_ins hp3 st3 hT)
    rw [upd_same]
    rfl
end
end K6

namespace K6
open PySem PySem.Spec PyProof.Rows L2 RZ L5 R7
section
variable {P : Program} {w : World} {K : PySem.W.Frag} {mg : Str → Option Value} {base : Heap}
/-! ### made_lot, the properties letters and members, check_letters -/
abbrev s_letters : Stmt := inClass (topS 40) 2
abbrev s_members : Stmt := inClass (topS 40) 3
theorem sc_letters : FnScope ["self"] ["self"] (defScope s_letters) := ⟨rfl, rfl, rfl, by decide +kernel, rfl, by decide +kernel, by decide +kernel⟩
theorem sc_members : FnScope ["self"] ["self"] (defScope s_members) := ⟨rfl, rfl, rfl, by decide +kernel, rfl, by decide +kernel, by decide +kernel⟩
structure LotP (K : PySem.W.Frag) (C : Addr) where
  pL : Addr
  gL : Addr
  dL : FuncData
  PL : PropOf K C "letters" pL gL
  FL : Fun K "letters" "Lot.letters" s_letters gL dL
  bL : Binds K dL ["self"] []
  pM : Addr
  gM : Addr
  dM : FuncData
  PM : PropOf K C "members" pM gM
  FM : Fun K "members" "Lot.members" s_members gM dM
  bM : Binds K dM ["self"] []
def sp_ltr (K : PySem.W.Frag) (C : Addr) : Sp := fun vs H Q _ => ∃ a d L, vs = [.ref a] ∧ LotAt K C H a d L ∧ Q (.int ((d : Nat) : Int)) H
theorem ok_ltr (O : LotT K mg) (R : LotP K O.C) : FnOk P w K mg base CX0 1 R.gL R.dL ["self"] (sp_ltr K O.C) := by
  refine R.FL.ok sc_letters (fun vs H Q E h => ?_) (fun cdv A outer s H vs Q E hr h => ?_)
  · obtain ⟨a, d, L, rfl, _⟩ := h
    rfl
  · obtain ⟨a, d, L, rfl, ⟨dx, m, rs, h1, h2, h3⟩, q⟩ := h
    exact ⟨_, pss_one (ps_ret (pe_fld (pv 0) rfl)), _, rfl, a, O.C, dx, _, _, rfl, h1, O.cl, O.nL, rfl, q⟩
def sp_mem (K : PySem.W.Frag) (C : Addr) : Sp := fun vs H Q _ => ∃ a d L, vs = [.ref a] ∧ LotAt K C H a d L ∧ ∀ m rs, SqT K H m (rs.map V.ref) → Tups K H rs L → Q (.ref m) H
theorem ok_mem (O : LotT K mg) (R : LotP K O.C) : FnOk P w K mg base CX0 1 R.gM R.dM ["self"] (sp_mem K O.C) := by
  refine R.FM.ok sc_members (fun vs H Q E h => ?_) (fun cdv A outer s H vs Q E hr h => ?_)
  · obtain ⟨a, d, L, rfl, _⟩ := h
    rfl
  · obtain ⟨a, d, L, rfl, ⟨dx, m, rs, h1, h2, h3⟩, q⟩ := h
    exact ⟨_, pss_one (ps_ret (pe_fld (pv 0) rfl)), _, rfl, a, O.C, dx, _, _, rfl, h1, O.cl, O.nM, rfl, q m rs h2 h3⟩
theorem few_nil {d : Nat} (h : 1 ≤ d) : Few d [] := ⟨h, fun _ h => (nomatch h), fun _ h => (nomatch h), by decide, by decide⟩
def sp_made (K : PySem.W.Frag) (C : Addr) : Sp := fun vs H Q _ => ∃ (d : Nat) (m : Addr) (rs : List Addr) (L : List (List Nat)), vs = [.int ((d : Nat) : Int), .ref m] ∧ 1 ≤ d ∧ d ≤ 8 ∧ SqT K H m (rs.map V.ref) ∧ Tups K H rs L ∧
  ∀ H' a, Same H H' → H a = none → LotAt K C H' a d L → Q (.ref a) H'
theorem ok_made (T : Txt K mg) (O : LotT K mg) : FnOk P w K mg base CX0 7 T.a_made_lot T.d_made_lot ["letters", "members"] (sp_made K O.C) := by
  refine T.F_made_lot.ok sc_made_lot (fun vs H Q E h => ?_) (fun cdv A outer s H vs Q E hr h => ?_)
  · obtain ⟨d, m, rs, L, rfl, _⟩ := h
    rfl
  · obtain ⟨d, m, rs, L, rfl, h1, h8, hm, hL, q⟩ := h
    refine ⟨_, pss_cons (ps_set (i := 2) sc_made_lot.nd rfl (Or.inl rfl) (pe_make O.M (ok_init T O) hr rfl O.gC O.bI .nil pass0 (pa_cons (pv 0) (pa_cons (pe_tup pa_nil) pa_nil))))
      (pss_cons (ps_fld (pv 2) (pv 1) rfl)
      (pss_one (ps_ret (pv 2)))), ?_⟩
    refine ⟨_, rfl, by show 0 ≤ sizeLine; exact Nat.zero_le _, fun t0 ht0 => ?_⟩
    have st0 := same_new ht0 (.tup [])
    intro x dx nx nd ne
    have hx0 : H x = none := st0.free nx
    have hd0 : H dx = none := st0.free nd
    have sx : Same (upd H t0 (.tup [])) (upd (upd (upd H t0 (.tup [])) dx (.own x)) x (.ins O.C dx [])) := (same_new nd (.own x)).trans (same_new (by rw [upd_ne (Ne.symm ne)]; exact nx) _)
    refine ⟨x, dx, t0, d, [], [], rfl, upd_same, SqT.of (sx _ _ upd_same), .nil, few_nil h1, h8, fun _ h => (nomatch h), fun H2 m2 rs2 st2 hx2 hm2 hT2 => ⟨rfl, ?_⟩⟩
    have S2 : Same H H2 := fun b o h => st2 b o (ne_of_none h hx0) (sx b o (st0 b o h))
    refine ⟨_, rfl, _, rfl, x, O.C, dx, _, rfl, hx2, O.cl, O.nM, by show 2 < 1000; decide, ?_⟩
    have st3 : ∀ b o, b ≠ x → H2 b = some o → (upd H2 x (.ins O.C dx (putF "_members" (.ref m) (lotF d m2)))) b = some o := fun b o n h => by
      rw [upd_ne n]
      exact h
    refine ⟨_, rfl, q _ x (fun b o h => st3 b o (ne_of_none h hx0) (S2 b o h)) hx0 ⟨dx, m, rs, ?_, sqt_ins hx2 st3 (same_sqt S2 hm), tups_ins hx2 st3 (hL.same S2)⟩⟩
    rw [upd_same]
    rfl
def sp_chl (K : PySem.W.Frag) (C : Addr) : Sp := fun vs H Q _ => ∃ a b d L M, vs = [.ref a, .ref b] ∧ LotAt K C H a d L ∧ LotAt K C H b d M ∧ Q .non H
theorem ok_chl (T : Txt K mg) (O : LotT K mg) (R : LotP K O.C) : FnOk P w K mg base CX0 3 T.a_check_letters T.d_check_letters ["one", "other"] (sp_chl K O.C) := by
  refine T.F_check_letters.ok sc_check_letters (fun vs H Q E h => ?_) (fun cdv A outer s H vs Q E hr h => ?_)
  · obtain ⟨a, b, d, L, M, rfl, _⟩ := h
    rfl
  · obtain ⟨a, b, d, L, M, rfl, hA, hB, q⟩ := h
    refine ⟨_, pss_one (ps_if (pt_cmpR op_ne (pe_prop (E := E0) (pv 0) O.cl R.PL (ok_ltr O R) hr R.bL .nil pass0 rfl) (pe_prop (E := E0) (pv 1) O.cl R.PL (ok_ltr O R) hr R.bL .nil pass0 rfl) (nomark _)) (pss_one ps_never) pss_nil), ?_⟩
    have ia := hA
    have ib := hB
    obtain ⟨dx, m, rs, h1, _⟩ := ia
    obtain ⟨dx2, m2, rs2, h2, _⟩ := ib
    refine ⟨_, rfl, a, dx, _, rfl, h1, a, d, L, rfl, hA, _, rfl, b, dx2, _, rfl, h2, b, d, M, rfl, hB, rfl, _, rfl, ?_⟩
    rw [decide_eq_true rfl]
    exact iteF q
end
end K6

namespace K6
open PySem PySem.Spec PyProof.Rows L2 RZ L5 R7
section
variable {P : Program} {w : World} {K : PySem.W.Frag} {mg : Str → Option Value} {base : Heap}
/-! ### ==, in, len: what the methods tell -/
abbrev s_has : Stmt := inClass (topS 40) 12
abbrev s_eq : Stmt := inClass (topS 40) 13
abbrev s_len : Stmt := inClass (topS 40) 15
theorem sc_has : FnScope ["self", "value"] ["self", "value"] (defScope s_has) := ⟨rfl, rfl, rfl, by decide +kernel, rfl, by decide +kernel, by decide +kernel⟩
theorem sc_eq : FnScope ["self", "other"] ["self", "other"] (defScope s_eq) := ⟨rfl, rfl, rfl, by decide +kernel, rfl, by decide +kernel, by decide +kernel⟩
theorem sc_len : FnScope ["self"] ["self"] (defScope s_len) := ⟨rfl, rfl, rfl, by decide +kernel, rfl, by decide +kernel, by decide +kernel⟩
structure LotO (K : PySem.W.Frag) (mg : Str → Option Value) (C : Addr) where
  ty : ∀ (H : Hp) (a dx : Addr) (fs : List (Str × V)), H a = some (.ins C dx fs) → TyX K H (.ref a) (.ref C)
  kit : PySem.W.kitOne K (.ref C) (.ref C) = some true
structure LotC (K : PySem.W.Frag) where
  fH : Addr
  dH : FuncData
  FH : Fun K "__contains__" "Lot.__contains__" s_has fH dH
  bH : Binds K dH ["self", "value"] []
  fE : Addr
  dE : FuncData
  FE : Fun K "__eq__" "Lot.__eq__" s_eq fE dE
  bE : Binds K dE ["self", "other"] []
  fN : Addr
  dN : FuncData
  FN : Fun K "__len__" "Lot.__len__" s_len fN dN
  bN : Binds K dN ["self"] []
theorem eqvAll_tups : ∀ L M : List (List Nat), PyData.eqvAll (L.map encT) (M.map encT) = decide (L = M)
  | [], [] => by simp [PyData.eqvAll]
  | [], _ :: _ => by simp [PyData.eqvAll]
  | _ :: _, [] => by simp [PyData.eqvAll]
  | t :: L, u :: M => by
    rw [List.map_cons, List.map_cons, PyData.eqvAll, eqv_tupE, eqvAll_tups L M, ← Bool.decide_and]
    exact decide_eq_decide.mpr (by simp)
theorem shaped_tupsT (L : List (List Nat)) : SeqAt.shaped (.tuple (L.map encT)) = true := by
  have h := can_tups L
  unfold SeqAt.shaped
  simp only [PyData.canLay0, PyData.depth, h.1, Bool.true_and]
  exact decide_eq_true (by omega)
def sp_eql (K : PySem.W.Frag) (C : Addr) : Sp := fun vs H Q _ => ∃ a b d e L M, vs = [.ref a, .ref b] ∧ LotAt K C H a d L ∧ LotAt K C H b e M ∧ Q (.bl (decide (d = e) && decide (L = M))) H
theorem ok_eql (T : Txt K mg) (O : LotT K mg) (W : LotO K mg O.C) (Z : LotC K) : FnOk P w K mg base CX0 1 Z.fE Z.dE ["self", "other"] (sp_eql K O.C) := by
  refine Z.FE.ok sc_eq (fun vs H Q E h => ?_) (fun cdv A outer s H vs Q E hr h => ?_)
  · obtain ⟨a, b, d, e, L, M, rfl, _⟩ := h
    rfl
  · obtain ⟨a, b, d, e, L, M, rfl, ⟨dx, m, rs, h1, h2, h3⟩, ⟨dy, m2, rs2, k1, k2, k3⟩, q⟩ := h
    refine ⟨_, pss_one (ps_ret (pe_and (pe_callB call_isi (by rfl) T.z_isinstance boot_isinstance (pa_cons (pv 1) (pa_cons (pe_glob (v := .ref O.C) rfl O.gC rfl) pa_nil)))
      (pe_and (pe_cmpR op_eq (pe_fld (pv 0) rfl) (pe_fld (pv 1) rfl) (nomark _)) (pe_one (pe_cmpR (op_eqD hr.units) (pe_fld (pv 0) rfl) (pe_fld (pv 1) rfl) (nomark _)))))), ?_⟩
    refine ⟨_, rfl, _, _, _, _, true, rfl, .own _, W.ty H b dy _ k1, W.kit, true, rfl, iteT ?_⟩
    refine ⟨_, rfl, a, O.C, dx, _, _, rfl, h1, O.cl, O.nL, rfl, _, rfl, b, O.C, dy, _, _, rfl, k1, O.cl, O.nL, rfl, rfl, _, rfl, ite2 (fun c => ?_) (fun c => ?_)⟩
    · have c' : d = e := by
        have := V.int.inj (of_decide_eq_true c)
        omega
      rw [decide_eq_true c', Bool.true_and] at q
      refine ⟨_, rfl, a, O.C, dx, _, _, rfl, h1, O.cl, O.nM, rfl, _, rfl, b, O.C, dy, _, _, rfl, k1, O.cl, O.nM, rfl, _, _, .tup h2 (dp_tups h3), .tup k2 (dp_tups k3), shaped_tupsT L, shaped_tupsT M, ?_⟩
      rw [show PyData.eqv (.tuple (L.map encT)) (.tuple (M.map encT)) = decide (L = M) by simp only [PyData.eqv]; exact eqvAll_tups L M]
      exact q
    · have c' : ¬ d = e := fun z => c (decide_eq_true (by rw [z]))
      rw [decide_eq_false c', Bool.false_and] at q
      exact q
def sp_has (K : PySem.W.Frag) (C : Addr) : Sp := fun vs H Q _ => ∃ a p d L t, vs = [.ref a, .ref p] ∧ LotAt K C H a d L ∧ SqT K H p (nv t) ∧ t.length = d ∧ d ≤ 8 ∧ (∀ e ∈ t, e ≤ 60) ∧ (∀ u ∈ L, u.length = d) ∧ ∀ H', Same H H' → Q (.bl (L.any fun k => M7.fitB k t)) H'
theorem ok_has (T : Txt K mg) (O : LotT K mg) (Z : LotC K) : FnOk P w K mg base CX0 4 Z.fH Z.dH ["self", "value"] (sp_has K O.C) := by
  refine Z.FH.ok sc_has (fun vs H Q E h => ?_) (fun cdv A outer s H vs Q E hr h => ?_)
  · obtain ⟨a, p, d, L, t, rfl, _⟩ := h
    rfl
  · obtain ⟨a, p, d, L, t, rfl, hA, hp, rfl, h8, h60, hd, q⟩ := h
    have ia := hA
    obtain ⟨dx, m, rs, h1, h2, h3⟩ := ia
    refine ⟨_, pss_cons (ps_if (pt_not (pt_val (pe_call (ok_are T) hr (by rfl) T.m_are_exponents T.F_are_exponents.kp T.b_are_exponents .nil pass0 (pa_cons (pv 1) (pa_cons (pe_fld (pv 0) rfl) (pa_cons (pe_glob (v := .int 60) rfl T.c_MAX_EXPONENT ⟨_, rfl⟩) pa_nil)))))) (pss_one (ps_ret pe_bl)) pss_nil)
      (pss_one (ps_ret (pe_call (ok_isd T) (hr.mono (by decide)) (by rfl) T.m_is_divided T.F_is_divided.kp T.b_is_divided .nil pass0 (pa_cons (pv 1) (pa_cons (pe_fld (pv 0) rfl) pa_nil))))), ?_⟩
    refine ⟨_, rfl, _, rfl, a, O.C, dx, _, _, rfl, h1, O.cl, O.nL, rfl, .ref p, _, _, 60, rfl, va_prod hp (by omega), fun H1 s1 => ⟨_, rfl, ?_⟩⟩
    have e60 : areB (some (t.map fun n => some ((n : Nat) : Int))) ((t.length : Nat) : Int) 60 = true := are_low (m := 60) h60
    rw [e60]
    refine iteF ⟨_, rfl, _, rfl, a, O.C, dx, _, _, rfl, s1 _ _ h1, O.cl, O.nM, rfl, p, m, t, rs, L, rfl, same_sqt s1 hp, .inr (same_sqt s1 h2), h3.same s1, hd, fun H2 s2 => q H2 (s1.trans s2)⟩
def sp_len (K : PySem.W.Frag) (C : Addr) : Sp := fun vs H Q _ => ∃ a d L, vs = [.ref a] ∧ LotAt K C H a d L ∧ Q (.int ((L.length : Nat) : Int)) H
theorem ok_len (T : Txt K mg) (O : LotT K mg) (Z : LotC K) : FnOk P w K mg base CX0 1 Z.fN Z.dN ["self"] (sp_len K O.C) := by
  refine Z.FN.ok sc_len (fun vs H Q E h => ?_) (fun cdv A outer s H vs Q E hr h => ?_)
  · obtain ⟨a, d, L, rfl, _⟩ := h
    rfl
  · obtain ⟨a, d, L, rfl, ⟨dx, m, rs, h1, h2, h3⟩, q⟩ := h
    refine ⟨_, pss_one (ps_ret (pe_callB call_len_seq (by rfl) T.z_len boot_len (pa_cons (pe_fld (pv 0) rfl) pa_nil))), ?_⟩
    refine ⟨_, rfl, a, O.C, dx, _, _, rfl, h1, O.cl, O.nM, rfl, m, _, rfl, .inr h2, ?_⟩
    have hl : rs.length = L.length := h3.length
    rw [List.length_map, hl]
    exact q
end
end K6

namespace K6
open PySem PySem.Spec PyProof.Rows L2 RZ L5 R7
section
variable {P : Program} {w : World} {K : PySem.W.Frag} {mg : Str → Option Value} {base : Heap}
/-! ### iter, str -/
abbrev s_iter : Stmt := inClass (topS 40) 16
abbrev s_str : Stmt := inClass (topS 40) 17
theorem sc_iter : FnScope ["self"] ["self"] (defScope s_iter) := ⟨rfl, rfl, rfl, by decide +kernel, rfl, by decide +kernel, by decide +kernel⟩
theorem sc_str : FnScope ["self"] ["self"] (defScope s_str) := ⟨rfl, rfl, rfl, by decide +kernel, rfl, by decide +kernel, by decide +kernel⟩
/-- what the class at C has for !=, in, len, iteration, str -/
structure LotD (K : PySem.W.Frag) (C : Addr) (Z : LotC K) where
  hm : PySem.W.mroIn K C (.type "object") = some true
  hne : PySem.W.findIn K (.ref C) "__ne__" = some (some (.builtin "object.__ne__"))
  aH : PySem.W.findIn K (.ref C) "__contains__" = some (some (.ref Z.fH))
  nH : PySem.W.isFn K (.ref Z.fH) = true
  aE : PySem.W.findIn K (.ref C) "__eq__" = some (some (.ref Z.fE))
  nE : PySem.W.isFn K (.ref Z.fE) = true
  aN : PySem.W.findIn K (.ref C) "__len__" = some (some (.ref Z.fN))
  nN : PySem.W.isFn K (.ref Z.fN) = true
  fT : Addr
  dT : FuncData
  FT : Fun K "__iter__" "Lot.__iter__" s_iter fT dT
  bT : Binds K dT ["self"] []
  aT : PySem.W.findIn K (.ref C) "__iter__" = some (some (.ref fT))
  nT : PySem.W.isFn K (.ref fT) = true
  fS : Addr
  dS : FuncData
  FS : Fun K "__str__" "Lot.__str__" s_str fS dS
  bS : Binds K dS ["self"] []
  aS : PySem.W.findIn K (.ref C) "__str__" = some (some (.ref fS))
  nS : PySem.W.isFn K (.ref fS) = true
/-- the least members of the lot at a stand at m -/
def LotM_at (K : PySem.W.Frag) (C : Addr) (a m : Addr) (H : Hp) : Prop := ∃ d dx xs, H a = some (.ins C dx (lotF d m)) ∧ SqT K H m xs
theorem lot_iter {X : Cx} {CX : CXT} (T : Txt X.K X.mg) (O : LotT X.K X.mg) {Z : LotC X.K} (D : LotD X.K O.C Z) (hr : Room 1 X.A) (z_iter : X.mg "iter" = none) : W7.ItM X O.C D.fT (LotM_at X.K O.C) := by
  intro pins s σ H a m I h
  obtain ⟨d, dx, xs, h1, h2⟩ := h
  obtain ⟨oc, od, kV, doc, pm, an, cdv, ct, osl, e, lk, hcd⟩ := D.FT.ex
  have hb := D.bT s [.ref a] I.kIn rfl
  rw [e] at hb lk
  have r2 : Vals [V.ref a] [Value.ref a] := .cons rfl .nil
  refine wpAny_call (codeAny_mono (W7.fn_at (CX := CX0) (P := X.prog) (w := X.w) (mg := X.mg) (base := X.base) (A := X.A) (outer := X.stack) (s := s) (H := H) (args := ⟨[.ref a], []⟩) (us := [.ref a]) (vs := [.ref a]) (E := E0)
    (Q := fun v H' => ∃ it, v = .ref it ∧ H it = none ∧ s.heap.objs.size ≤ it ∧ H' = upd H it (W7.ItTO m it)) lk hcd sc_iter hr I.env0 hb r2 rfl (fun hr' => ?_)) fun r s' hq => ?_)
  · refine ⟨_, pss_one (ps_ret (pe_callB W7.call_iterTN (by rfl) z_iter (by decide +kernel) (pa_cons (pe_fld (pv 0) rfl) pa_nil))), ?_⟩
    exact ⟨_, rfl, a, O.C, dx, _, _, rfl, h1, O.cl, O.nM, rfl, m, xs, rfl, h2, fun it hit hn => ⟨it, rfl, hit, hn, rfl⟩⟩
  · cases r with
    | error e => exact (pass0 pins σ H s e s' I hq)
    | ok fl =>
      cases fl with
      | ret u =>
        obtain ⟨v, H', I', rv, it, rfl, hit, hn, rfl⟩ := I.after hq
        obtain rfl : u = Value.ref it := rv
        exact ⟨it, rfl, I', hit, Nat.le_trans I.sz hn⟩
      | next => exact False.elim hq
      | brk => exact False.elim hq
      | cont => exact False.elim hq
end
end K6

namespace K6
open PySem PySem.Spec PyProof.Rows L2 RZ L5 R7
theorem lc_enumT {K : PySem.W.Frag} {a : Addr} {xs : List V} {g : TG} {tt : TT} {te : TE} {vs : List Nat} {σ : L2.St} {H1 : Hp} {D : Addr} {Qd : Hp → Prop} (Pv : Nat → Hp → Prop) (h0 : Pv 0 (upd H1 D (.lst []))) (hl : ∀ i H, Pv i H → SqT K H a xs)
    (hs : ∀ i x T H, xs[i]? = some x → Pv i H → H T = none → lcTurn D g tt te vs σ (Pv (i + 1)) (.ref T) (upd H T (.tup [.int (i : Nat), x]))) (hd : ∀ H, Pv xs.length H → Qd H) :
    ∃ W : Nat → Nat → Hp → Prop, (∃ m, W 0 m (upd H1 D (.lst []))) ∧ ∀ i m H0, W i m H0 →
      ((IteT K a).stop i H0 ∧ Qd H0) ∨ ((IteT K a).go i H0 ∧ ∃ Nx : Hp → Prop, (∀ H', Nx H' → ∃ m', m' < m ∧ W (i + 1) m' H') ∧ ∀ v H', (IteT K a).yld i H0 v H' → lcTurn D g tt te vs σ Nx v H') := by
  refine ⟨fun i m H => i + m = xs.length ∧ Pv i H, ⟨xs.length, Nat.zero_add _, h0⟩, fun i m H0 hw => ?_⟩
  obtain ⟨em, pi⟩ := hw
  have ta := hl i H0 pi
  cases m with
  | zero =>
    have ei : i = xs.length := em
    subst ei
    exact .inl ⟨⟨xs, ta, Nat.le_refl _⟩, hd H0 pi⟩
  | succ m =>
    have i1 : i < xs.length := by omega
    refine .inr ⟨⟨xs, _, ta, List.getElem?_eq_getElem i1⟩, Pv (i + 1), fun H' p => ⟨m, Nat.lt_succ_self m, by omega, p⟩, fun v H' out => ?_⟩
    obtain ⟨T, x', rfl, free, rfl, fx⟩ := out
    exact hs i x' T H0 (fx xs ta) pi free
/-! ### the texts of products and lots -/
/-- a letter with its exponent -/
def ltr (i e : Nat) : Str := if e = 1 then (Str.empty ++ ("x" : Str)) ++ (toString ((i : Nat) + 1 : Int) : String) else (((Str.empty ++ ("x" : Str)) ++ (toString ((i : Nat) + 1 : Int) : String)) ++ ("^" : Str)) ++ (toString ((e : Nat) : Int) : String)
theorem ltr_len : ∀ i, i < 8 → ∀ e, e < 9 → (ltr i e).length ≤ 4 ∧ 0 < (ltr i e).length := by decide +kernel
theorem ltr_law : ∀ i, i < 8 → ∀ e, e < 9 → 0 < e → (("x" : Str) ++ ((toString ((i : Nat) + 1 : Int) : String) : Str)) ++ (if 1 < e then ("^" : Str) ++ ((toString ((e : Nat) : Int) : String) : Str) else ("" : Str)) = ltr i e := by decide +kernel
theorem num_len : ∀ i, i < 9 → ((toString ((i : Nat) : Int) : String) : Str).length ≤ 1 := by decide +kernel
theorem log_small {i : Int} (h0 : 0 ≤ i) (h : i < 100) : i.natAbs.log2 < 1920 := by
  have : i.natAbs < 2 ^ 1920 := Nat.lt_of_lt_of_le (show i.natAbs < 100 by omega) (by decide +kernel)
  by_cases z : i.natAbs = 0
  · rw [z]
    decide
  · exact (Nat.log2_lt z).mpr this
end K6

namespace K6
open PySem PySem.Spec PyProof.Rows L2 RZ L5 R7
section
variable {P : Program} {w : World} {K : PySem.W.Frag} {mg : Str → Option Value} {base : Heap}
def sp_lt : Sp := fun vs H Q _ => ∃ (i e : Nat), vs = [.int ((i : Nat) : Int), .int ((e : Nat) : Int)] ∧ i < 8 ∧ e < 9 ∧ Q (.str (ltr i e)) H
theorem str_le {z : Str} {n : Nat} (h : z.length ≤ n) (h2 : n ≤ 1000000) : z.length ≤ sizeLine := Nat.le_trans h (Nat.le_trans h2 (by decide))
theorem ltr_sizes : ∀ i, i < 8 → ∀ e, e < 9 → (Str.empty ++ ("x" : Str)).length ≤ 100 ∧ ((Str.empty ++ ("x" : Str)) ++ ((toString ((i : Nat) + 1 : Int) : String) : Str)).length ≤ 100 ∧ (((Str.empty ++ ("x" : Str)) ++ ((toString ((i : Nat) + 1 : Int) : String) : Str)) ++ ("^" : Str)).length ≤ 100 ∧ ((((Str.empty ++ ("x" : Str)) ++ ((toString ((i : Nat) + 1 : Int) : String) : Str)) ++ ("^" : Str)) ++ ((toString ((e : Nat) : Int) : String) : Str)).length ≤ 100 := by decide +kernel
theorem ok_lt (T : Txt K mg) : FnOk P w K mg base CX0 1 T.a_letter_text T.d_letter_text ["index", "exponent"] sp_lt := by
  refine T.F_letter_text.ok sc_letter_text (fun vs H Q E h => ?_) (fun cdv A outer s H vs Q E hr h => ?_)
  · obtain ⟨i, e, rfl, _⟩ := h
    rfl
  · obtain ⟨i, e, rfl, hi, he, q⟩ := h
    obtain ⟨z1, z2, z3, z4⟩ := ltr_sizes i hi e he
    refine ⟨_, pss_cons (ps_if (pt_cmpR op_eq (pv 1) pe_int (nomark _)) (pss_one (ps_ret (pe_joined (.cons pe_str (.cons (pe_fmt (pe_op op_add (pv 0) pe_int)) .nil))))) pss_nil)
      (pss_one (ps_ret (pe_joined (.cons pe_str (.cons (pe_fmt (pe_op op_add (pv 0) pe_int)) (.cons pe_str (.cons (pe_fmt (pv 1)) .nil))))))), ?_⟩
    refine ⟨_, rfl, rfl, decide (e = 1), congrArg V.bl (decide_eq_decide.mpr ⟨fun h => by have := V.int.inj h; omega, fun h => by rw [h]; rfl⟩), ite2 (fun c => ?_) (fun c => ?_)⟩
    · have c' := of_decide_eq_true c
      refine ⟨_, rfl, str_le z1 (by decide), _, rfl, _, _, rfl, rfl, .inr ⟨_, rfl, log_small (by omega) (by omega), _, rfl, str_le z2 (by decide), ?_⟩⟩
      rw [ltr, if_pos c'] at q
      exact q
    · have c' : ¬ e = 1 := fun h => c (decide_eq_true h)
      refine ⟨_, rfl, str_le z1 (by decide), _, rfl, _, _, rfl, rfl, .inr ⟨_, rfl, log_small (by omega) (by omega), _, rfl, str_le z2 (by decide), _, rfl, str_le z3 (by decide), _, rfl, .inr ⟨_, rfl, log_small (by omega) (by omega), _, rfl, str_le z4 (by decide), ?_⟩⟩⟩
      rw [ltr, if_neg c'] at q
      exact q
/-- the words of a product's letters, up to one -/
def wordsN (t : List Nat) : Nat → List Str
  | 0 => []
  | i + 1 => if 0 < t.getD i 0 then wordsN t i ++ [ltr i (t.getD i 0)] else wordsN t i
def wordN (t : List Nat) : Str := if wordsN t t.length = [] then ("1" : Str) else Txt.join " " (wordsN t t.length)
structure Low9 (t : List Nat) : Prop where
  short : t.length ≤ 8
  low : ∀ e ∈ t, e ≤ 8
theorem Low9.at {t : List Nat} (h : Low9 t) (i : Nat) : t.getD i 0 < 9 := by
  rw [List.getD_eq_getElem?_getD]
  cases e : t[i]? with
  | none => show 0 < 9; decide
  | some n =>
    have := h.low n (List.mem_of_getElem? e)
    show n < 9
    omega
theorem words_len {t : List Nat} (h : Low9 t) : ∀ i, i ≤ t.length → (wordsN t i).length ≤ i ∧ ((wordsN t i).map (·.length)).sum ≤ 4 * i ∧ ∀ z ∈ wordsN t i, 0 < z.length
  | 0, _ => ⟨Nat.le_refl _, Nat.le_refl _, fun z h => nomatch h⟩
  | i + 1, hi => by
    obtain ⟨h1, h2, h3⟩ := words_len h i (by omega)
    have hl := ltr_len i (by have := h.short; omega) (t.getD i 0) (h.at i)
    unfold wordsN
    split
    · refine ⟨by rw [List.length_append]; exact Nat.succ_le_succ h1, ?_, fun z hz => ?_⟩
      · rw [List.map_append, List.sum_append]
        have hl4 := hl.1
        show _ + ((ltr i (t.getD i 0)).length + 0) ≤ _
        omega
      · rcases List.mem_append.mp hz with hz | hz
        · exact h3 z hz
        · rw [List.mem_singleton.mp hz]
          exact hl.2
    · exact ⟨by omega, by omega, h3⟩
end
end K6

namespace K6
open PySem PySem.Spec PyProof.Rows L2 RZ L5 R7
theorem glued_len (a : Str) (ys : List Str) : (Txt.join a ys).length ≤ (ys.map (·.length)).sum + ys.length * a.length := by
  cases ys with
  | nil => exact Nat.zero_le _
  | cons y r =>
    have key : ∀ (r : List Str) (acc : Array Nat), (r.foldl (fun acc p => acc ++ a.cps ++ p.cps) acc).size = acc.size + (r.map (·.length)).sum + r.length * a.length := fun r => by
      induction r with
      | nil =>
        intro acc
        simp
      | cons z r ih =>
        intro acc
        rw [List.foldl_cons, ih, Array.size_append, Array.size_append, List.map_cons, List.sum_cons, List.length_cons, Nat.succ_mul]
        show acc.size + a.length + z.length + _ + _ = _
        omega
    show (r.foldl (fun acc p => acc ++ a.cps ++ p.cps) y.cps).size ≤ _
    rw [key, List.map_cons, List.sum_cons, List.length_cons, Nat.succ_mul]
    show y.length + _ + _ ≤ _
    omega
theorem glued_pos (a : Str) (y : Str) (r : List Str) (h : 0 < y.length) : 0 < (Txt.join a (y :: r)).length := by
  have key : ∀ (r : List Str) (acc : Array Nat), acc.size ≤ (r.foldl (fun acc p => acc ++ a.cps ++ p.cps) acc).size := fun r => by
    induction r with
    | nil => exact fun acc => Nat.le_refl _
    | cons z r ih =>
      intro acc
      rw [List.foldl_cons]
      refine Nat.le_trans ?_ (ih _)
      rw [Array.size_append, Array.size_append]
      omega
  exact Nat.lt_of_lt_of_le h (key r y.cps)
theorem word_len {t : List Nat} (h : Low9 t) : (wordN t).length ≤ 40 ∧ 0 < (wordN t).length := by
  obtain ⟨h1, h2, h3⟩ := words_len h t.length (Nat.le_refl _)
  have hs := h.short
  unfold wordN
  split
  · decide
  · rename_i hne
    refine ⟨?_, ?_⟩
    · have := glued_len " " (wordsN t t.length)
      rw [show (" " : Str).length = 1 from by decide +kernel] at this
      omega
    · cases e : wordsN t t.length with
      | nil => exact absurd e hne
      | cons y r => exact glued_pos _ _ _ (h3 y (by rw [e]; exact List.mem_cons_self))
section
variable {P : Program} {w : World} {K : PySem.W.Frag} {mg : Str → Option Value} {base : Heap}
def sp_wo (K : PySem.W.Frag) : Sp := fun vs H Q _ => ∃ (p : Addr) (t : List Nat), vs = [.ref p] ∧ SqT K H p (nv t) ∧ Low9 t ∧ ∀ H', Same H H' → Q (.str (wordN t)) H'
theorem ok_wo (T : Txt K mg) : FnOk P w K mg base CX0 2 T.a_word_of T.d_word_of ["product"] (sp_wo K) := by
  refine T.F_word_of.ok sc_word_of (fun vs H Q E h => ?_) (fun cdv A outer s H vs Q E hr h => ?_)
  · obtain ⟨p, t, rfl, _⟩ := h
    rfl
  · obtain ⟨p, t, rfl, hp, hf, q⟩ := h
    refine ⟨_, pss_cons (ps_setLc (i := 1) (own := [("at", 2), ("exponent", 3)]) (g := gTup K 2 (gCons (gName 2) (gCons (gName 3) gNil))) rfl sc_word_of.nd rfl rfl (sw_true rfl rfl rfl (by decide +kernel)) (show PI _ _ _ (iEnumT K _) from pi_enumT (by rfl) T.z_enumerate (pa_cons (pv 0) pa_nil)) (blkOk_by (own := [("at", 2), ("exponent", 3)]) (N := N_word_of) (sc := defScope s_word_of) (by decide +kernel))
        (fun _ _ _ _ _ => pg_tup (by rfl) (pgs_cons (pg_name (i := 2) sc_word_of.nd rfl (Or.inl rfl)) (pgs_cons (pg_name (i := 3) sc_word_of.nd rfl (Or.inl rfl)) pgs_nil)))
        (fun _ _ _ _ _ => pts_one (pt_cmpR op_gt (pv 3) pe_int (nomark _)))
        (fun _ _ _ _ _ => pe_call (ok_lt T) hr (by rfl) T.m_letter_text T.F_letter_text.kp T.b_letter_text .nil pass0 (pa_cons (pv 2) (pa_cons (pv 3) pa_nil))))
      (pss_one (ps_ret (pe_orT (pe_join pe_str (pv 1)) (pe_one pe_str)))), ?_⟩
    refine ⟨_, rfl, p, _, rfl, hp, fun D hD => ?_⟩
    have sD := same_new hD (.lst [])
    refine lc_enumT (K := K) (a := p) (xs := nv t) (fun i H' => Same H H' ∧ H' D = some (.lst ((wordsN t i).map V.str))) ⟨sD, upd_same⟩ (fun i H' h => same_sqt h.1 hp) ?_ ?_
    · rintro i x D2 H' hx ⟨s2, hD2⟩ hfree
      obtain ⟨e, he, rfl⟩ := nv_get hx
      have hi : i < t.length := (List.getElem?_eq_some_iff.mp he).1
      have hg : t.getD i 0 = e := by rw [List.getD_eq_getElem?_getD, he]; rfl
      have he9 := hf.at i
      rw [hg] at he9
      have hwl := (words_len hf i (by omega)).1
      have hsh := hf.short
      have hf1 : wordsN t (i + 1) = if 0 < e then wordsN t i ++ [ltr i e] else wordsN t i := by
        show (if 0 < t.getD i 0 then _ else _) = _
        rw [hg]
      have sT := same_new hfree (.tup [V.int ((i : Nat) : Int), V.int ((e : Nat) : Int)])
      have hD3 := sT _ _ hD2
      refine ⟨D2, _, rfl, SqT.of upd_same, rfl, _, _, rfl, _, _, rfl, rfl, ?_⟩
      refine ⟨rfl, _, rfl, _, _, rfl, rfl, _, rfl, ?_⟩
      by_cases h0 : 0 < e
      · rw [decide_eq_true (show (0 : Int) < ((e : Nat) : Int) by omega)]
        refine iteT ⟨_, rfl, _, rfl, i, e, rfl, by omega, he9, _, hD3, ?_, same_updL (s2.trans sT) hD, by rw [upd_same, hf1, if_pos h0, List.map_append]; rfl⟩
        rw [List.length_map]
        exact sizeK (by omega)
      · rw [decide_eq_false (show ¬ (0 : Int) < ((e : Nat) : Int) by omega)]
        refine iteF ⟨s2.trans sT, ?_⟩
        rw [hf1, if_neg h0]
        exact hD3
    · rintro H' ⟨s2, hD2⟩
      rw [nv_len] at hD2
      obtain ⟨l1, l2, l3⟩ := words_len hf t.length (Nat.le_refl _)
      have hs := hf.short
      refine ⟨⟨_, rfl⟩, _, rfl, _, D, wordsN t t.length, rfl, rfl, .inl (SqL.of hD2), ?_, ?_⟩
      · rw [show (" " : Str).length = 1 from by decide +kernel]
        omega
      · have q' := q H' s2
        unfold wordN at q'
        cases e : wordsN t t.length with
        | nil =>
          rw [e, if_pos rfl] at q'
          refine ⟨false, ⟨by decide +kernel, by decide +kernel⟩, iteF ?_⟩
          exact q'
        | cons y r =>
          rw [e, if_neg (List.cons_ne_nil y r)] at q'
          have hpos := glued_pos " " y r (l3 y (by rw [e]; exact List.mem_cons_self))
          have hle := glued_len " " (y :: r)
          rw [← e, show (" " : Str).length = 1 from by decide +kernel] at hle
          rw [e] at hle
          rw [e] at l1 l2
          refine ⟨true, ⟨str_le hle (by omega), ?_⟩, iteT ?_⟩
          · symm
            rw [bne_iff_ne]
            omega
          · exact q'
end
end K6

namespace K6
open PySem PySem.Spec PyProof.Rows L2 RZ L5 R7
/-- the text of some members -/
def lotText (L : List (List Nat)) : Str := ((Str.empty ++ ("(" : Str)) ++ Txt.join ", " (L.map wordN)) ++ (")" : Str)
theorem sum_words {L : List (List Nat)} (h : ∀ t ∈ L, Low9 t) : ((L.map wordN).map (·.length)).sum ≤ 40 * L.length := by
  induction L with
  | nil => exact Nat.le_refl _
  | cons t L ih =>
    have h1 := (word_len (h t List.mem_cons_self)).1
    have h2 := ih fun u hu => h u (List.mem_cons_of_mem _ hu)
    rw [List.map_cons, List.map_cons, List.sum_cons, List.length_cons]
    omega
theorem join_words {L : List (List Nat)} (h : ∀ t ∈ L, Low9 t) (hn : L.length ≤ 1000) : (Txt.join ", " (L.map wordN)).length ≤ 42000 ∧ ((L.map wordN).map (·.length)).sum + (L.map wordN).length * (", " : Str).length ≤ 16777216 := by
  have h1 := glued_len ", " (L.map wordN)
  have h2 := sum_words h
  rw [show (", " : Str).length = 2 from by decide +kernel, List.length_map] at h1 ⊢
  exact ⟨by omega, by omega⟩
section
variable {P : Program} {w : World} {K : PySem.W.Frag} {mg : Str → Option Value} {base : Heap}
def sp_ltx (K : PySem.W.Frag) : Sp := fun vs H Q _ => ∃ (m : Addr) (rs : List Addr) (L : List (List Nat)), vs = [.ref m] ∧ SqT K H m (rs.map V.ref) ∧ Tups K H rs L ∧ (∀ t ∈ L, Low9 t) ∧ L.length ≤ 1000 ∧ ∀ H', Same H H' → Q (.str (lotText L)) H'
theorem ok_ltx (T : Txt K mg) : FnOk P w K mg base CX0 3 T.a_lot_text T.d_lot_text ["members"] (sp_ltx K) := by
  refine T.F_lot_text.ok sc_lot_text (fun vs H Q E h => ?_) (fun cdv A outer s H vs Q E hr h => ?_)
  · obtain ⟨m, rs, L, rfl, _⟩ := h
    rfl
  · obtain ⟨m, rs, L, rfl, hm, hT, hf, hn, q⟩ := h
    refine ⟨_, pss_cons (ps_set (i := 1) sc_lot_text.nd rfl (Or.inl rfl) (pe_join pe_str (pe_lc (own := [("member", 2)]) (g := gName 2) (tt := tYes) rfl sc_lot_text.nd (pi_tup (pv 0)) (blkOk_by (own := [("member", 2)]) (N := N_lot_text) (sc := defScope s_lot_text) (by decide +kernel))
          (fun _ _ _ _ _ => pg_name (i := 2) sc_lot_text.nd rfl (Or.inl rfl)) (fun _ _ _ _ _ => pts_nil)
          (fun _ _ _ _ _ => pe_call (ok_wo T) hr (by rfl) T.m_word_of T.F_word_of.kp T.b_word_of .nil pass0 (pa_cons (pv 2) pa_nil)))))
      (pss_one (ps_ret (pe_joined (.cons pe_str (.cons (pe_fmt (pv 1)) (.cons pe_str .nil)))))), ?_⟩
    have hl : rs.length = L.length := hT.length
    refine ⟨⟨_, rfl⟩, _, rfl, m, rfl, ⟨_, hm⟩, fun D hD => ?_⟩
    have sD := same_new hD (.lst [])
    refine lc_tup (K := K) (a := m) (xs := rs.map V.ref) (fun i H' => Same H H' ∧ H' D = some (.lst (((L.map wordN).take i).map V.str))) ⟨sD, upd_same⟩ (fun i H' _ h => same_sqt h.1 hm) ?_ ?_
    · rintro i x H' hx ⟨s2, hD2⟩
      obtain ⟨a, u, rfl, _, hu, hs⟩ := tups_get (hT.same s2) hx
      have hu2 : (L.map wordN)[i]? = some (wordN u) := by rw [List.getElem?_map, hu]; rfl
      refine ⟨rfl, _, rfl, a, u, rfl, hs, hf u (List.mem_of_getElem? hu), fun H3 s3 => ⟨_, s3 _ _ hD2, ?_, same_updL (s2.trans s3) hD, by rw [upd_same, take_more hu2, List.map_append]; rfl⟩⟩
      rw [List.length_map, List.length_take, List.length_map]
      exact sizeK (by omega)
    · rintro H' ⟨s2, hD2⟩
      rw [List.length_map, List.take_of_length_le (by rw [List.length_map]; omega)] at hD2
      obtain ⟨j1, j2⟩ := join_words hf hn
      have e1 : (Str.empty ++ ("(" : Str)).length = 1 := by decide +kernel
      refine ⟨_, D, L.map wordN, rfl, rfl, .inl (SqL.of hD2), j2, ?_⟩
      refine ⟨_, rfl, str_le (Nat.le_of_eq e1) (by decide), _, rfl, .inl ⟨_, rfl, str_le j1 (by decide), _, rfl, ?_, _, rfl, ?_, ?_⟩⟩
      · exact str_le (n := 42001) (by rw [Str.length_append, e1]; omega) (by decide)
      · exact str_le (n := 42002) (by rw [Str.length_append, Str.length_append, e1, show (")" : Str).length = 1 from by decide +kernel]; omega) (by decide)
      · exact q H' s2
def sp_strl (K : PySem.W.Frag) (C : Addr) : Sp := fun vs H Q _ => ∃ a d L, vs = [.ref a] ∧ LotAt K C H a d L ∧ (∀ t ∈ L, Low9 t) ∧ L.length ≤ 1000 ∧ ∀ H', Same H H' → Q (.str (lotText L)) H'
theorem ok_strl (T : Txt K mg) (O : LotT K mg) {Z : LotC K} (D : LotD K O.C Z) : FnOk P w K mg base CX0 4 D.fS D.dS ["self"] (sp_strl K O.C) := by
  refine D.FS.ok sc_str (fun vs H Q E h => ?_) (fun cdv A outer s H vs Q E hr h => ?_)
  · obtain ⟨a, d, L, rfl, _⟩ := h
    rfl
  · obtain ⟨a, d, L, rfl, ⟨dx, m, rs, h1, h2, h3⟩, hf, hn, q⟩ := h
    refine ⟨_, pss_one (ps_ret (pe_callTy SkE.call_str_str (by rfl) T.z_str boot_str (pa_cons (pe_call (ok_ltx T) hr (by rfl) T.m_lot_text T.F_lot_text.kp T.b_lot_text .nil pass0 (pa_cons (pe_fld (pv 0) rfl) pa_nil)) pa_nil))), ?_⟩
    exact ⟨_, rfl, a, O.C, dx, _, _, rfl, h1, O.cl, O.nM, rfl, m, rs, L, rfl, h2, h3, hf, hn, fun H' s' => ⟨_, rfl, q H' s'⟩⟩
end
end K6

namespace K6
open PySem PySem.Spec PyProof.Rows L2 RZ L5 R7
section
variable {P : Program} {w : World} {K : PySem.W.Frag} {mg : Str → Option Value} {base : Heap}
/-! ### _law_product, _law_products, _law_lot -/
theorem bar_updL {p D : Addr} {o : HO} {H H' : Hp} (b : Bar p H H') (hD : H D = none) : Bar p H (upd H' D o) := fun c u n h => by
  rw [upd_ne (ne_of_none h hD)]
  exact b c u n h
theorem nat_of {i : Int} (h0 : 0 ≤ i) : ∃ n : Nat, i = ((n : Nat) : Int) := ⟨i.toNat, by omega⟩
def sp_wprod (K : PySem.W.Frag) : Sp := fun vs H Q _ => ∃ (p : Addr) (l mm : Nat) (g x c : Int), vs = [.ref p, .int ((l : Nat) : Int), .int ((mm : Nat) : Int)] ∧ H p = some (pailO g x c) ∧ 1 ≤ l ∧ l ≤ 8 ∧ 1 ≤ mm ∧ mm ≤ 60 ∧
  ∀ H' z t g x c, Bar p H H' → H' p = some (pailO g x c) → SqT K H' z (nv t) → t.length = l → (∀ e ∈ t, e ≤ mm) → Q (.ref z) H'
theorem ok_wprod (T : Txt K mg) : FnOk P w K mg base CX0 3 T.a_w_product T.d_w_product ["_law_pail_here", "_law_letters", "_law_most"] (sp_wprod K) := by
  refine T.F_w_product.ok sc_w_product (fun vs H Q E h => ?_) (fun cdv A outer s H vs Q E hr h => ?_)
  · obtain ⟨p, l, mm, g, x, c, rfl, _⟩ := h
    rfl
  · obtain ⟨p, l, mm, g, x, c, rfl, hp, h1, h8, m1, m10, q⟩ := h
    refine ⟨_, pss_cons (ps_set (i := 3) sc_w_product.nd rfl (Or.inr rfl) (pe_call (ok_some T) hr (by rfl) T.m_w_some T.F_w_some.kp T.b_w_some .nil pass0 (pa_cons (pv 0) (pa_cons
          (pe_lst (pa_cons pe_int (pa_cons pe_int (pa_cons pe_int (pa_cons (pv 2) pa_nil))))) pa_nil))))
      (pss_one (ps_ret (pe_callTy call_tuple_of (by rfl) T.z_tuple boot_tuple (pa_cons
      (pe_lc (own := [("_law_at", 4)]) (g := gName 4) (tt := tYes) rfl sc_w_product.nd (pi_range1 rfl T.z_range (pa_cons (pv 1) pa_nil)) (blkOk_by (own := [("_law_at", 4)]) (N := N_w_product) (sc := defScope s_w_product) (by decide +kernel))
        (fun _ _ _ _ _ => pg_name (i := 4) sc_w_product.nd rfl (Or.inl rfl)) (fun _ _ _ _ _ => pts_nil)
        (fun _ _ _ _ _ => pe_op op_mul (pe_call (ok_dip T) (hr.mono (by decide)) (by rfl) T.m_w_dipped T.F_w_dipped.kp T.b_w_dipped .nil pass0 (pa_cons (pv 0) (pa_cons (pe_op op_add (pe_callB (call_min2 rfl) (by rfl) T.z_min (by decide +kernel) (pa_cons (pv 3) (pa_cons (pv 2) pa_nil))) pe_int) pa_nil)))
          (pe_callTy call_int1 (by rfl) T.z_int boot_int (pa_cons (pe_cmpR op_gt (pe_call (ok_dip T) (hr.mono (by decide)) (by rfl) T.m_w_dipped T.F_w_dipped.kp T.b_w_dipped .nil pass0 (pa_cons (pv 0) (pa_cons pe_int pa_nil))) pe_int (nomark _)) pa_nil)))) pa_nil)))), ?_⟩
    refine ⟨_, rfl, _, rfl, by show 4 ≤ sizeLine; decide, fun y hy => ?_⟩
    have hyp : y ≠ p := fun z => by rw [z, hp] at hy; cases hy
    have sy := same_new hy (.lst [V.int 1, V.int 2, V.int 2, V.int ((mm : Nat) : Int)])
    refine ⟨p, y, _, g, x, c, rfl, sy _ _ hp, hyp, SqL.of upd_same, by simp, by simp, fun g2 x2 c2 v hv => ?_⟩
    obtain ⟨n, rfl, hn1, hn⟩ : ∃ n : Int, v = .int n ∧ 1 ≤ n ∧ n ≤ 60 := by
      simp only [List.mem_cons, List.not_mem_nil, or_false] at hv
      rcases hv with rfl | rfl | rfl | rfl
      · exact ⟨1, rfl, by omega, by omega⟩
      · exact ⟨2, rfl, by omega, by omega⟩
      · exact ⟨2, rfl, by omega, by omega⟩
      · exact ⟨_, rfl, by omega, by omega⟩
    have sb0 : Bar p H (upd (upd H y (.lst [V.int 1, V.int 2, V.int 2, V.int ((mm : Nat) : Int)])) p (pailO g2 x2 c2)) := (Bar.same sy).trans Bar.upd
    have hp0 : (upd (upd H y (.lst [V.int 1, V.int 2, V.int 2, V.int ((mm : Nat) : Int)])) p (pailO g2 x2 c2)) p = some (pailO g2 x2 c2) := upd_same
    generalize (upd (upd H y (.lst [V.int 1, V.int 2, V.int 2, V.int ((mm : Nat) : Int)])) p (pailO g2 x2 c2)) = H0 at sb0 hp0
    refine ⟨_, rfl, _, rfl, by omega, by omega, fun D hD => ?_⟩
    have hDp : D ≠ p := fun z => by rw [z, hp0] at hD; cases hD
    refine lc_range (lo := 0) (n := ((l : Nat) : Int).toNat) (fun i H' => ∃ (g x c : Int) (t : List Nat), Bar p H0 H' ∧ H' p = some (pailO g x c) ∧ H' D = some (.lst (nv t)) ∧ t.length = i ∧ ∀ e ∈ t, e ≤ mm)
      ⟨g2, x2, c2, [], Bar.same (same_new hD _), by rw [upd_ne (Ne.symm hDp)]; exact hp0, upd_same, rfl, fun _ h => nomatch h⟩ (fun i H' hi h => ?_) (fun H' h => ?_)
    · obtain ⟨g1, x1, c1, t, sb, hp1, eD, hz, ht⟩ := h
      have hmin : 1 ≤ (if ((mm : Nat) : Int) < n then ((mm : Nat) : Int) else n) ∧ (if ((mm : Nat) : Int) < n then ((mm : Nat) : Int) else n) ≤ ((mm : Nat) : Int) := by
        split <;> omega
      refine ⟨rfl, _, rfl, _, rfl, _, rfl, _, _, rfl, _, _, rfl, rfl, p, _, g1, x1, c1, rfl, hp1, by omega, by omega, fun g3 x3 c3 r hr0 hr1 => ?_⟩
      refine ⟨_, rfl, p, _, g3, x3, c3, rfl, upd_same, by omega, by omega, fun g4 x4 c4 r2 hr2 hr3 => ?_⟩
      obtain ⟨m, rfl⟩ := nat_of hr0
      have eD' : (upd (upd H' p (pailO g3 x3 c3)) p (pailO g4 x4 c4)) D = some (.lst (nv t)) := by
        rw [upd_ne hDp, upd_ne hDp]
        exact eD
      have key : ∀ b : Nat, b ≤ 1 → ∃ acc, (upd (upd H' p (pailO g3 x3 c3)) p (pailO g4 x4 c4)) D = some (.lst acc) ∧ acc.length < sizeLine ∧ ∃ (g x c : Int) (t : List Nat), Bar p H0 (upd (upd (upd H' p (pailO g3 x3 c3)) p (pailO g4 x4 c4)) D (.lst (acc ++ [V.int (((m : Nat) : Int) * ((b : Nat) : Int))]))) ∧
          (upd (upd (upd H' p (pailO g3 x3 c3)) p (pailO g4 x4 c4)) D (.lst (acc ++ [V.int (((m : Nat) : Int) * ((b : Nat) : Int))]))) p = some (pailO g x c) ∧ (upd (upd (upd H' p (pailO g3 x3 c3)) p (pailO g4 x4 c4)) D (.lst (acc ++ [V.int (((m : Nat) : Int) * ((b : Nat) : Int))]))) D = some (.lst (nv t)) ∧ t.length = i + 1 ∧ ∀ e ∈ t, e ≤ mm := fun b hb => by
        refine ⟨_, eD', by rw [nv_len]; exact sizeK (by omega), g4, x4, c4, t ++ [m * b], ?_, ?_, ?_, by rw [List.length_append, hz]; rfl, fun e he => ?_⟩
        · exact bar_updL (sb.trans (Bar.upd.trans Bar.upd)) hD
        · rw [upd_ne (Ne.symm hDp), upd_same]
        · rw [upd_same, nv_app]
          show _ = some (HO.lst (nv t ++ [V.int (((m * b : Nat)) : Int)]))
          rw [Int.natCast_mul]
        · rcases List.mem_append.mp he with he | he
          · exact ht e he
          · rw [List.mem_singleton.mp he]
            have : m ≤ mm := by omega
            exact Nat.le_trans (Nat.mul_le_mul this hb) (by omega)
      refine ⟨_, _, rfl, rfl, .inr ⟨_, rfl, ?_⟩⟩
      obtain ⟨b, hb, eb⟩ : ∃ b : Nat, b ≤ 1 ∧ (if decide (0 < r2) = true then (1 : Int) else 0) = ((b : Nat) : Int) := by
        by_cases z : 0 < r2
        · exact ⟨1, Nat.le_refl _, if_pos (decide_eq_true z)⟩
        · exact ⟨0, by omega, if_neg (by rw [decide_eq_false z]; decide)⟩
      rw [eb]
      exact ⟨_, _, rfl, rfl, .inl ⟨by omega, by omega⟩, key b hb⟩
    · obtain ⟨g1, x1, c1, t, sb, hp1, eD, hz, ht⟩ := h
      refine ⟨D, _, rfl, .inl ⟨SqL.of eD, fun z hz' => ?_⟩⟩
      exact q _ z t g1 x1 c1 (sb0.trans (sb.trans (Bar.same (same_new hz' _)))) (same_new hz' _ _ _ hp1) (SqT.of upd_same) (by omega) ht
end
end K6

namespace K6
open PySem PySem.Spec PyProof.Rows L2 RZ L5 R7
section
variable {P : Program} {w : World} {K : PySem.W.Frag} {mg : Str → Option Value} {base : Heap}
theorem bar_but {p : Addr} {H H' : Hp} (b : Bar p H H') : ∀ c o, c ≠ p → H c = some o → H' c = some o := fun c o n h => b c o n h
theorem bar_sqt {p a : Addr} {H H' : Hp} {g x c : Int} {xs : List V} (hp : H p = some (pailO g x c)) (b : Bar p H H') (h : SqT K H a xs) : SqT K H' a xs := sqt_but hp (bar_but b) h
theorem bar_tups {p : Addr} {H H' : Hp} {g x c : Int} {rs : List Addr} {L : List (List Nat)} (hp : H p = some (pailO g x c)) (b : Bar p H H') (h : Tups K H rs L) : Tups K H' rs L := tups_but hp (bar_but b) h
theorem bar_lot {C p a : Addr} {d : Nat} {L : List (List Nat)} {H H' : Hp} {g x c : Int} (hp : H p = some (pailO g x c)) (b : Bar p H H') : LotAt K C H a d L → LotAt K C H' a d L := fun ⟨dx, m, rs, h1, h2, h3⟩ => ⟨dx, m, rs, b _ _ (fun e => by rw [e, hp] at h1; cases h1) h1, bar_sqt hp b h2, bar_tups hp b h3⟩
def sp_wprods (K : PySem.W.Frag) : Sp := fun vs H Q _ => ∃ (p : Addr) (l many mm : Nat) (g x c : Int), vs = [.ref p, .int ((l : Nat) : Int), .int ((many : Nat) : Int), .int ((mm : Nat) : Int)] ∧ H p = some (pailO g x c) ∧ 1 ≤ l ∧ l ≤ 8 ∧ many ≤ 10 ∧ 1 ≤ mm ∧ mm ≤ 10 ∧
  ∀ H' z rs L g x c, Bar p H H' → H' p = some (pailO g x c) → SqT K H' z (rs.map V.ref) → Tups K H' rs L → L.length ≤ many → (∀ t ∈ L, t.length = l) → (∀ t ∈ L, ∀ e ∈ t, e ≤ mm) → Q (.ref z) H'
theorem ok_wprods (T : Txt K mg) : FnOk P w K mg base CX0 4 T.a_w_products T.d_w_products ["_law_pail_here", "_law_letters", "_law_many", "_law_most"] (sp_wprods K) := by
  refine T.F_w_products.ok sc_w_products (fun vs H Q E h => ?_) (fun cdv A outer s H vs Q E hr h => ?_)
  · obtain ⟨p, l, many, mm, g, x, c, rfl, _⟩ := h
    rfl
  · obtain ⟨p, l, many, mm, g, x, c, rfl, hp, h1, h8, hmany, m1, m10, q⟩ := h
    refine ⟨_, pss_one (ps_ret (pe_callTy call_tuple_of (by rfl) T.z_tuple boot_tuple (pa_cons
      (pe_lc (own := [("_law_turn", 4)]) (g := gName 4) (tt := tYes) rfl sc_w_products.nd (pi_range1 rfl T.z_range (pa_cons (pe_call (ok_dip T) (hr.mono (by decide)) (by rfl) T.m_w_dipped T.F_w_dipped.kp T.b_w_dipped .nil pass0 (pa_cons (pv 0) (pa_cons (pe_op op_add (pv 2) pe_int) pa_nil))) pa_nil)) (blkOk_by (own := [("_law_turn", 4)]) (N := N_w_products) (sc := defScope s_w_products) (by decide +kernel))
        (fun _ _ _ _ _ => pg_name (i := 4) sc_w_products.nd rfl (Or.inl rfl)) (fun _ _ _ _ _ => pts_nil)
        (fun _ _ _ _ _ => pe_call (ok_wprod T) hr (by rfl) T.m_w_product T.F_w_product.kp T.b_w_product .nil pass0 (pa_cons (pv 0) (pa_cons (pv 1) (pa_cons (pv 3) pa_nil))))) pa_nil))), ?_⟩
    refine ⟨_, rfl, _, rfl, _, _, rfl, rfl, p, _, g, x, c, rfl, hp, by omega, by omega, fun g0 x0 c0 r hr0 hr1 => ?_⟩
    obtain ⟨n, rfl⟩ := nat_of hr0
    have hp0 : (upd H p (pailO g0 x0 c0)) p = some (pailO g0 x0 c0) := upd_same
    have sb0 : Bar p H (upd H p (pailO g0 x0 c0)) := Bar.upd
    generalize upd H p (pailO g0 x0 c0) = H0 at hp0 sb0 ⊢
    refine ⟨_, rfl, by omega, by omega, fun D hD => ?_⟩
    have hDp : D ≠ p := fun z => by rw [z, hp0] at hD; cases hD
    refine lc_range (lo := 0) (n := ((n : Nat) : Int).toNat) (fun i H' => ∃ (g x c : Int) (rs : List Addr) (L : List (List Nat)), Bar p H0 H' ∧ H' p = some (pailO g x c) ∧ H' D = some (.lst (rs.map V.ref)) ∧ Tups K H' rs L ∧ L.length = i ∧ (∀ t ∈ L, t.length = l) ∧ ∀ t ∈ L, ∀ e ∈ t, e ≤ mm)
      ⟨g0, x0, c0, [], [], Bar.same (same_new hD _), by rw [upd_ne (Ne.symm hDp)]; exact hp0, upd_same, .nil, rfl, fun _ h => (nomatch h), fun _ h => (nomatch h)⟩ (fun i H' hi h => ?_) (fun H' h => ?_)
    · obtain ⟨g1, x1, c1, rs, L, sb, hp1, eD, hT, hz, hl, ht⟩ := h
      refine ⟨rfl, _, rfl, _, rfl, _, rfl, p, l, mm, g1, x1, c1, rfl, hp1, h1, h8, m1, by omega, fun H2 z t g2 x2 c2 b2 hp2 hz2 hzl hzt => ?_⟩
      have eD2 : H2 D = some (.lst (rs.map V.ref)) := b2 D _ hDp eD
      have hrl : rs.length = L.length := hT.length
      refine ⟨_, eD2, by rw [List.length_map]; exact sizeK (by omega), g2, x2, c2, rs ++ [z], L ++ [t], bar_updL (sb.trans b2) hD, by rw [upd_ne (Ne.symm hDp)]; exact hp2, by rw [upd_same, List.map_append]; rfl, ((bar_tups hp1 b2 hT).updL eD2).app (.cons (sqt_updL eD2 hz2) .nil), by rw [List.length_append, hz]; rfl, fun u hu => ?_, fun u hu => ?_⟩
      · rcases List.mem_append.mp hu with hu | hu
        · exact hl u hu
        · rw [List.mem_singleton.mp hu]
          exact hzl
      · rcases List.mem_append.mp hu with hu | hu
        · exact ht u hu
        · rw [List.mem_singleton.mp hu]
          exact hzt
    · obtain ⟨g1, x1, c1, rs, L, sb, hp1, eD, hT, hz, hl, ht⟩ := h
      refine ⟨D, _, rfl, .inl ⟨SqL.of eD, fun z hz' => ?_⟩⟩
      have s5 := same_new hz' (.tup (rs.map V.ref))
      exact q _ z rs L g1 x1 c1 (sb0.trans (sb.trans (Bar.same s5))) (s5 _ _ hp1) (SqT.of upd_same) (hT.same s5) (by omega) hl ht
theorem least_short (L : List (List Nat)) : (M7.leastN L).length ≤ L.length := Nat.le_trans (List.length_filter_le _ _) (M7.canon_len L)
end
end K6

namespace K6
open PySem PySem.Spec PyProof.Rows L2 RZ L5 R7
section
variable {P : Program} {w : World} {K : PySem.W.Frag} {mg : Str → Option Value} {base : Heap}
/-! ### _law_divides, _law_least -/
theorem shaped_natsL (t : List Nat) : SeqAt.shaped (.list (t.map fun n => PyData.int ((n : Nat) : Int))) = true := by
  have g := can_nats t
  unfold SeqAt.shaped
  simp only [PyData.canLay0, PyData.depth, g.1, g.2, Bool.true_and]
  exact decide_eq_true (by omega)
theorem eqv_nilL (l : List PyData) : PyData.eqv (.list l) (.list []) = decide (l = []) := by
  cases l with
  | nil => decide +kernel
  | cons a b =>
    rw [decide_eq_false (List.cons_ne_nil a b)]
    rfl
def sp_wdiv (K : PySem.W.Frag) : Sp := fun vs H Q _ => ∃ (p r : Addr) (t u : List Nat), vs = [.ref p, .ref r] ∧ SqT K H p (nv t) ∧ SqT K H r (nv u) ∧ t.length = u.length ∧ t.length ≤ 8 ∧ ∀ H', Same H H' → Q (.bl (M7.fitB t u)) H'
theorem ok_wdiv (T : Txt K mg) : FnOk P w K mg base CX0 1 T.a_w_divides T.d_w_divides ["_law_one", "_law_other"] (sp_wdiv K) := by
  refine T.F_w_divides.ok sc_w_divides (fun vs H Q E h => ?_) (fun cdv A outer s H vs Q E hr h => ?_)
  · obtain ⟨p, r, t, u, rfl, _⟩ := h
    rfl
  · obtain ⟨p, r, t, u, rfl, hT, hU, hl, hz, q⟩ := h
    refine ⟨_, pss_one (ps_ret (pe_cmpR (op_eqD hr.units)
      (pe_lc (own := [("_law_at", 2)]) (g := gName 2) rfl sc_w_divides.nd (pi_range1 rfl T.z_range (pa_cons (pe_callB call_len_seq (by rfl) T.z_len boot_len (pa_cons (pv 0) pa_nil)) pa_nil)) (blkOk_by (own := [("_law_at", 2)]) (N := N_w_divides) (sc := defScope s_w_divides) (by decide +kernel))
        (fun _ _ _ _ _ => pg_name (i := 2) sc_w_divides.nd rfl (Or.inl rfl))
        (fun _ _ _ _ _ => pts_one (pt_cmpR op_gt (pe_ix (show IxR _ (rIxT K) from ix_tup) (pv 0) (pv 2) (fun _ _ => rfl)) (pe_ix (show IxR _ (rIxT K) from ix_tup) (pv 1) (pv 2) (fun _ _ => rfl)) (nomark _))) (fun _ _ _ _ _ => pv 2)) (pe_lst pa_nil) (nomark _))), ?_⟩
    refine ⟨_, rfl, p, _, rfl, .inr hT, _, rfl, by rw [nv_len]; omega, by rw [nv_len]; omega, fun D hD => ?_⟩
    have sD := same_new hD (.lst [])
    refine lc_range (lo := 0) (n := (((nv t).length : Nat) : Int).toNat) (fun i H' => Same H H' ∧ ∃ c : List Nat, c.length ≤ i ∧ H' D = some (.lst (nv c)) ∧ decide (c = []) = ((fitL t u).take i).all id) ⟨sD, [], Nat.le_refl _, upd_same, rfl⟩ (fun i H' hi h => ?_) (fun H' h => ?_)
    · obtain ⟨sm, c, hc, eD, hall⟩ := h
      rw [nv_len] at hi
      have hi' : i < t.length := by omega
      have ha : t[i]? = some (t.getD i 0) := getD_at hi'
      have hb : u[i]? = some (u.getD i 0) := getD_at (by omega)
      generalize t.getD i 0 = a at ha
      generalize u.getD i 0 = b at hb
      have st := all_take_step (fit_get ha hb)
      rw [Int.zero_add]
      refine ⟨rfl, _, rfl, _, rfl, p, _, _, _, rfl, rfl, same_sqt sm hT, nv_at ha, _, rfl, _, rfl, r, _, _, _, rfl, rfl, same_sqt sm hU, nv_at hb, _, _, rfl, rfl, _, rfl, ite2 (fun g => ?_) (fun g => ?_)⟩
      · have g' := of_decide_eq_true g
        refine ⟨_, rfl, _, eD, by rw [nv_len]; exact sizeK (by omega), same_updL sm hD, c ++ [i], by rw [List.length_append]; exact Nat.succ_le_succ hc, by rw [upd_same, nv_app]; rfl, ?_⟩
        rw [st, decide_eq_false (show ¬ a ≤ b by omega), Bool.and_false, decide_eq_false (by simp)]
      · have g' : ¬ _ := fun z => g (decide_eq_true z)
        refine ⟨sm, c, by omega, eD, ?_⟩
        rw [st, decide_eq_true (show a ≤ b by omega), Bool.and_true, hall]
    · obtain ⟨sm, c, hc, eD, hall⟩ := h
      have e2 : (fitL t u).take (((nv t).length : Nat) : Int).toNat = fitL t u := List.take_of_length_le (by rw [List.length_zipWith, nv_len]; omega)
      rw [e2] at hall
      refine ⟨Nat.zero_le _, fun z hz8 => ?_⟩
      have s8 := same_new hz8 (.lst [])
      refine ⟨.list (c.map fun n => PyData.int ((n : Nat) : Int)), .list [], .lst (SqL.of (s8 _ _ eD)) (dp_nats _), .lst (SqL.of upd_same) .nil, shaped_natsL c, by decide, ?_⟩
      have e3 : PyData.eqv (.list (c.map fun n => PyData.int ((n : Nat) : Int))) (.list []) = M7.fitB t u := by
        rw [eqv_nilL, ← fit_eq]
        show _ = (fitL t u).all id
        rw [← hall]
        exact decide_eq_decide.mpr List.map_eq_nil_iff
      rw [e3]
      exact q _ (sm.trans s8)
end
end K6

namespace K6
open PySem PySem.Spec PyProof.Rows L2 RZ L5 R7
theorem filter_yes {f : List Nat → Bool} {A : List (List Nat)} {i : Nat} {t : List Nat} (h : A[i]? = some t) (e : f t = true) : (A.take (i + 1)).filter f = (A.take i).filter f ++ [t] := by
  rw [take_more h, List.filter_append, List.filter_cons_of_pos e]
  rfl
theorem filter_no {f : List Nat → Bool} {A : List (List Nat)} {i : Nat} {t : List Nat} (h : A[i]? = some t) (e : f t = false) : (A.take (i + 1)).filter f = (A.take i).filter f := by
  rw [take_more h, List.filter_append, List.filter_cons_of_neg (by rw [e]; decide)]
  exact List.append_nil _
theorem filter_nil_min (A : List (List Nat)) (t : List Nat) : decide ((A.filter fun q => decide (q ≠ t) && M7.fitB q t) = []) = M7.minB A t := by
  unfold M7.minB
  rw [Bool.eq_iff_iff, decide_eq_true_iff, List.filter_eq_nil_iff, Bool.not_eq_true', List.any_eq_false]
section
variable {P : Program} {w : World} {K : PySem.W.Frag} {mg : Str → Option Value} {base : Heap}
abbrev sc1 : Scope := { kind := .function, names := [(".0", .local), ("_law_one", .cell), ("_law_once", .cell)], isGenerator := false, isCoroutine := false, more := [] }
theorem blk_in {N : List Str} {sc sc' scope : Scope} {own : List (Str × Nat)} (e : sc'.names = sc.names) (h : BlkOk N sc scope own) : BlkOk N sc' scope own := ⟨h.kind, h.uniq, h.ix, fun y m k => by
  rw [e]
  exact h.free y m k, h.own⟩
def sp_wleast (K : PySem.W.Frag) : Sp := fun vs H Q _ => ∃ (l : Addr) (rs : List Addr) (L : List (List Nat)) (d : Nat), vs = [.ref l] ∧ SqA K H l (rs.map V.ref) ∧ Tups K H rs L ∧ L.length < 64 ∧ 1 ≤ d ∧ d ≤ 8 ∧ (∀ t ∈ L, t.length = d) ∧ (∀ t ∈ L, ∀ e ∈ t, e ≤ 60) ∧
  ∀ H' q rs', Same H H' → H' q = some (.lst (rs'.map V.ref)) → Tups K H' rs' (M7.leastN L) → Q (.ref q) H'
theorem ok_wleast (T : Txt K mg) : FnOk P w K mg base CX0 2 T.a_w_least T.d_w_least ["_law_products_here"] (sp_wleast K) := by
  refine T.F_w_least.ok sc_w_least (fun vs H Q E h => ?_) (fun cdv A outer s H vs Q E hr h => ?_)
  · obtain ⟨l, rs, L, d, rfl, _⟩ := h
    rfl
  · obtain ⟨l, rs, L, d, rfl, hA, hL, hz, hd1, hd8, hd, hB, q⟩ := h
    refine ⟨_, pss_cons (ps_set (i := 1) sc_w_least.nd rfl (Or.inr rfl) (pe_sset rfl hr.units (by rfl) T.z_sorted (by rfl) T.z_set (pv 0)))
      (pss_one (ps_ret (pe_lc (own := [("_law_one", 2)]) (g := gName 2) rfl sc_w_least.nd (pi_list (pv 1)) (blkOk_by (own := [("_law_one", 2)]) (N := N_w_least) (sc := defScope s_w_least) (by decide +kernel))
        (fun _ _ _ _ _ => pg_name (i := 2) sc_w_least.nd rfl (Or.inr rfl))
        (fun _ _ _ _ _ => pts_one (pt_cmpR (show OpR _ _ (rEqD K) from op_eqD hr.units)
          (pe_lc (own := [("_law_two", 3)]) (g := gName 3) rfl sc_w_least.nd (show PI _ _ _ (iList K (tVar 1)) from pi_list (pv 1)) (blk_in (sc := sc1) (own := [("_law_two", 3)]) (N := N_w_least) rfl (blkOk_by (by decide +kernel)))
            (fun _ _ _ _ _ => pg_name (i := 3) sc_w_least.nd rfl (Or.inl rfl))
            (fun _ _ _ _ _ => pts_one (PW.pt (pw_and (pt_cmpR (show OpR _ _ (rNeD K) from op_neD hr.units) (pv 3) (pv 2) (nomark _)) (pw_and1 (pt_val (pe_call (ok_wdiv T) hr (by rfl) T.m_w_divides T.F_w_divides.kp T.b_w_divides .nil pass0 (pa_cons (pv 3) (pa_cons (pv 2) pa_nil))))))))
            (fun _ _ _ _ _ => pv 3)) (pe_lst pa_nil) (nomark _)))
        (fun _ _ _ _ _ => pv 2)))), ?_⟩
    refine ⟨_, rfl, l, rs, L, d, 61, rfl, hA, hL, hz, hd1, hd, fun t ht e he => Nat.lt_succ_of_le (hB t ht e he), fun H1 y qs s1 hyf hy hT => ?_⟩
    have hlc : qs.length = (M7.canonN L).length := hT.length
    have hcl := M7.canon_len L
    have hdc : ∀ t ∈ M7.canonN L, t.length = d := fun t ht => hd t (M7.mem_canon.mp ht)
    have e0 : M7.leastN L = (M7.canonN L).filter (M7.minB (M7.canonN L)) := rfl
    rw [e0] at q
    generalize M7.canonN L = B at hT hlc hcl hdc q
    have flen : ∀ (f : List Nat → Bool) (i : Nat), ((B.take i).filter f).length ≤ 1000000 := fun f i => by
      have h1 := List.length_filter_le f (B.take i)
      rw [List.length_take] at h1
      omega
    refine ⟨_, rfl, y, rfl, ⟨_, SqL.of hy⟩, fun D hD => ?_⟩
    have sD := same_new hD (.lst [])
    refine lc_list (K := K) (a := y) (xs := qs.map V.ref) (fun i H' => Same H1 H' ∧ ∃ ds : List Addr, H' D = some (.lst (ds.map V.ref)) ∧ Tups K H' ds ((B.take i).filter (M7.minB B))) ⟨sD, [], upd_same, .nil⟩ (fun i H' _ h => SqL.of (h.1 _ _ hy)) ?_ ?_
    · rintro i x H' hx ⟨sm, ds, eD, hTd⟩
      obtain ⟨a, t, rfl, _, ht, hs⟩ := tups_get (hT.same sm) hx
      have htd := hdc t (List.mem_of_getElem? ht)
      refine ⟨rfl, _, rfl, y, rfl, ⟨_, SqL.of (sm _ _ hy)⟩, fun D2 hD2 => ?_⟩
      have sD2 := same_new hD2 (.lst [])
      refine lc_list (K := K) (a := y) (xs := qs.map V.ref) (fun j H2 => Same H' H2 ∧ ∃ es : List Addr, H2 D2 = some (.lst (es.map V.ref)) ∧ Tups K H2 es ((B.take j).filter fun q => decide (q ≠ t) && M7.fitB q t)) ⟨sD2, [], upd_same, .nil⟩ (fun j H2 _ h => SqL.of (h.1 _ _ (sm _ _ hy))) ?_ ?_
      · rintro j x H2 hx2 ⟨s2, es, eD2, hTe⟩
        obtain ⟨b, u, rfl, _, hu, hsu⟩ := tups_get ((hT.same sm).same s2) hx2
        have hud := hdc u (List.mem_of_getElem? hu)
        have hs2 := same_sqt s2 hs
        refine ⟨rfl, _, rfl, _, rfl, _, _, dp_tup hsu, dp_tup hs2, shaped_tup u, shaped_tup t, _, rfl, ?_⟩
        rw [eqv_tupE]
        by_cases hut : u = t
        · rw [decide_eq_true hut]
          refine iteF (iteF ⟨s2, es, eD2, ?_⟩)
          rw [filter_no hu (by rw [decide_eq_false (fun h => h hut), Bool.false_and])]
          exact hTe
        · rw [decide_eq_false hut]
          refine iteT ⟨_, rfl, _, rfl, b, a, u, t, rfl, hsu, hs2, by rw [hud, htd], by omega, fun H3 s3 => ⟨_, rfl, ?_⟩⟩
          have eD3 := s3 _ _ eD2
          cases hf : M7.fitB u t with
          | true =>
            refine iteT ⟨_, rfl, _, eD3, by rw [List.length_map, show es.length = _ from hTe.length]; exact sizeK (flen _ j), same_updL (s2.trans s3) hD2, es ++ [b], by rw [upd_same, List.map_append]; rfl, ?_⟩
            rw [filter_yes hu (by rw [hf, decide_eq_true (show u ≠ t from hut)]; rfl)]
            exact ((hTe.same s3).updL eD3).app (.cons (sqt_updL eD3 (same_sqt s3 hsu)) .nil)
          | false =>
            refine iteF ⟨s2.trans s3, es, eD3, ?_⟩
            rw [filter_no hu (by rw [hf, Bool.and_false])]
            exact hTe.same s3
      · rintro H2 ⟨s2, es, eD2, hTe⟩
        rw [List.length_map, hlc, List.take_length] at hTe
        refine ⟨Nat.zero_le _, fun z hz8 => ?_⟩
        have s8 := same_new hz8 (.lst [])
        refine ⟨_, .list [], .lst (SqL.of (s8 _ _ eD2)) (dp_tups (hTe.same s8)), .lst (SqL.of upd_same) .nil, shaped_tups _, by decide, _, rfl, ?_⟩
        have S := s2.trans s8
        have eD3 := S _ _ eD
        have e3 : PyData.eqv (.list ((B.filter fun q => decide (q ≠ t) && M7.fitB q t).map encT)) (.list []) = M7.minB B t := by
          rw [eqv_nilL, ← filter_nil_min]
          exact decide_eq_decide.mpr List.map_eq_nil_iff
        rw [e3]
        cases hf : M7.minB B t with
        | true =>
          refine iteT ⟨_, rfl, _, eD3, by rw [List.length_map, show ds.length = _ from hTd.length]; exact sizeK (flen _ i), same_updL (sm.trans S) hD, ds ++ [a], by rw [upd_same, List.map_append]; rfl, ?_⟩
          rw [filter_yes ht hf]
          exact ((hTd.same S).updL eD3).app (.cons (sqt_updL eD3 (same_sqt S hs)) .nil)
        | false =>
          refine iteF ⟨sm.trans S, ds, eD3, ?_⟩
          rw [filter_no ht hf]
          exact hTd.same S
    · rintro H' ⟨sm, ds, eD, hTd⟩
      rw [List.length_map, hlc, List.take_length] at hTd
      exact q H' D ds (s1.trans sm) eD hTd
end
end K6

namespace K6
open PySem PySem.Spec PyProof.Rows L2 RZ L5 R7
theorem dp_strs {K : PySem.W.Frag} {H : Hp} : ∀ ys : List Str, DpAll K H (ys.map V.str) (ys.map PyData.str)
  | [] => .nil
  | y :: r => .cons (.str y) (dp_strs r)
theorem can_strs : ∀ ys : List Str, (∀ y ∈ ys, PyData.strOk y = true) → PyData.canLayAll0 (ys.map PyData.str) = true ∧ PyData.depthAll (ys.map PyData.str) = 0
  | [], _ => by decide
  | y :: r, h => by
    obtain ⟨h1, h2⟩ := can_strs r fun z hz => h z (List.mem_cons_of_mem _ hz)
    simp only [List.map_cons, PyData.canLayAll0, PyData.depthAll, PyData.canLay0, PyData.depth, h1, h2, h y List.mem_cons_self]
    decide
theorem shaped_strsL {ys : List Str} (h : ∀ y ∈ ys, PyData.strOk y = true) : SeqAt.shaped (.list (ys.map PyData.str)) = true := by
  have g := can_strs ys h
  unfold SeqAt.shaped
  simp only [PyData.canLay0, PyData.depth, g.1, g.2, Bool.true_and]
  exact decide_eq_true (by omega)
theorem ltr_ok : ∀ i, i < 8 → ∀ e, e < 9 → PyData.strOk (ltr i e) = true := by decide +kernel
theorem words_ok {t : List Nat} (h : Low9 t) : ∀ i, i ≤ t.length → ∀ z ∈ wordsN t i, PyData.strOk z = true
  | 0, _ => fun z h => nomatch h
  | i + 1, hi => by
    have ih := words_ok h i (by omega)
    unfold wordsN
    split
    · intro z hz
      rcases List.mem_append.mp hz with hz | hz
      · exact ih z hz
      · rw [List.mem_singleton.mp hz]
        exact ltr_ok i (by have := h.short; omega) _ (h.at i)
    · exact ih
section
variable {P : Program} {w : World} {K : PySem.W.Frag} {mg : Str → Option Value} {base : Heap}
theorem size_le {a n : Nat} (h : a ≤ n) (h2 : n ≤ 1000000) : a ≤ sizeLine := Nat.le_trans h (Nat.le_trans h2 (by decide))
def sp_wltx (K : PySem.W.Frag) : Sp := fun vs H Q _ => ∃ (m : Addr) (rs : List Addr) (L : List (List Nat)), vs = [.ref m] ∧ H m = some (.lst (rs.map V.ref)) ∧ Tups K H rs L ∧ (∀ t ∈ L, Low9 t) ∧ L.length ≤ 1000 ∧ ∀ H', Same H H' → Q (.str (lotText L)) H'
theorem part_sizes : ∀ i, i < 8 → ∀ e, e < 9 → ((toString ((i : Nat) + 1 : Int) : String) : Str).length ≤ 10 ∧ ((toString ((e : Nat) : Int) : String) : Str).length ≤ 10 ∧ ((("x" : Str) ++ ((toString ((i : Nat) + 1 : Int) : String) : Str))).length ≤ 20 ∧ (("^" : Str) ++ ((toString ((e : Nat) : Int) : String) : Str)).length ≤ 20 := by decide +kernel
theorem ok_wltx (T : Txt K mg) : FnOk P w K mg base CX0 2 T.a_w_lot_text T.d_w_lot_text ["_law_members"] (sp_wltx K) := by
  refine T.F_w_lot_text.ok sc_w_lot_text (fun vs H Q E h => ?_) (fun cdv A outer s H vs Q E hr h => ?_)
  · obtain ⟨m, rs, L, rfl, _⟩ := h
    rfl
  · obtain ⟨m, rs, L, rfl, hm, hT, hf, hn, q⟩ := h
    refine ⟨_, pss_cons (ps_set (i := 1) sc_w_lot_text.nd rfl (Or.inl rfl) (pe_lst pa_nil))
      (pss_cons (ps_for PassesOwn.never rfl (pi_list (pv 0)) (pg_name (i := 2) sc_w_lot_text.nd rfl (Or.inl rfl))
        (pss_cons (ps_setLc (i := 3) (own := [("_law_at", 4), ("_law_e", 5)]) (g := gTup K 2 (gCons (gName 4) (gCons (gName 5) gNil))) rfl sc_w_lot_text.nd rfl rfl (sw_true rfl rfl rfl (by decide +kernel)) (show PI _ _ _ (iEnumT K _) from pi_enumT (by rfl) T.z_enumerate (pa_cons (pv 2) pa_nil)) (blkOk_by (own := [("_law_at", 4), ("_law_e", 5)]) (N := N_w_lot_text) (sc := defScope s_w_lot_text) (by decide +kernel))
          (fun _ _ _ _ _ => pg_tup (by rfl) (pgs_cons (pg_name (i := 4) sc_w_lot_text.nd rfl (Or.inl rfl)) (pgs_cons (pg_name (i := 5) sc_w_lot_text.nd rfl (Or.inl rfl)) pgs_nil)))
          (fun _ _ _ _ _ => pts_one (pt_cmpR op_gt (pv 5) pe_int (nomark _)))
          (fun _ _ _ _ _ => pe_op op_add_str (pe_op op_add_str pe_str (pe_callTy call_str_int (by rfl) T.z_str boot_str (pa_cons (pe_op op_add (pv 4) pe_int) pa_nil))) (pe_ifExp (pt_cmpR op_gt (pv 5) pe_int (nomark _)) (pe_op op_add_str pe_str (pe_callTy call_str_int (by rfl) T.z_str boot_str (pa_cons (pv 5) pa_nil))) pe_str)))
        (pss_one (ps_expr (pe_bm PySem.F.plainAttrs_list PySem.F.slot_list_append PySem.F.type_list_append mt_append (pv 1) (pa_cons (pe_ifExp (pt_cmpR (op_neD hr.units) (pv 3) (pe_lst pa_nil) (nomark _)) (pe_join pe_str (pv 3)) pe_str) pa_nil))))))
      (pss_one (ps_ret (pe_op op_add_str (pe_op op_add_str pe_str (pe_join pe_str (pv 1))) pe_str)))), ?_⟩
    have hl : rs.length = L.length := hT.length
    refine ⟨Nat.zero_le _, fun y hy => ?_⟩
    have sy := same_new hy (.lst [])
    refine ⟨_, rfl, m, rfl, ⟨_, SqL.of (sy _ _ hm)⟩, ?_⟩
    have hmy : m ≠ y := fun e => by rw [e, hy] at hm; cases hm
    refine for_list (K := K) (a := m) (xs := rs.map V.ref) (fun i σ H' => ∃ v2 v3 : Option V, σ = [some (.ref m), some (.ref y), v2, v3, none, none] ∧ Same H H' ∧ H' y = some (.lst (((L.map wordN).take i).map V.str))) ⟨none, none, rfl, sy, upd_same⟩ ?_ ?_ ?_
    · rintro i σ H' _ ⟨v2, v3, rfl, sm, _⟩
      exact SqL.of (sm _ _ hm)
    · rintro i x σ H' hx ⟨v2, v3, rfl, sm, ey⟩
      obtain ⟨a, t, rfl, _, ht, hs⟩ := tups_get (hT.same sm) hx
      have hft := hf t (List.mem_of_getElem? ht)
      have ht2 : (L.map wordN)[i]? = some (wordN t) := by rw [List.getElem?_map, ht]; rfl
      refine ⟨_, rfl, a, _, rfl, hs, fun D hD => ?_⟩
      have sD := same_new hD (.lst [])
      refine lc_enumT (K := K) (a := a) (xs := nv t) (fun j H2 => Same H' H2 ∧ H2 D = some (.lst ((wordsN t j).map V.str))) ⟨sD, upd_same⟩ (fun j H2 h => same_sqt h.1 hs) ?_ ?_
      · rintro j x2 D2 H2 hx2 ⟨s2, hD2⟩ hfree
        obtain ⟨e, he, rfl⟩ := nv_get hx2
        have hi : j < t.length := (List.getElem?_eq_some_iff.mp he).1
        have hg : t.getD j 0 = e := by rw [List.getD_eq_getElem?_getD, he]; rfl
        have he9 := hft.at j
        rw [hg] at he9
        have hwl := (words_len hft j (by omega)).1
        have hsh := hft.short
        have hf1 : wordsN t (j + 1) = if 0 < e then wordsN t j ++ [ltr j e] else wordsN t j := by
          show (if 0 < t.getD j 0 then _ else _) = _
          rw [hg]
        have sT := same_new hfree (.tup [V.int ((j : Nat) : Int), V.int ((e : Nat) : Int)])
        have hD3 := sT _ _ hD2
        refine ⟨D2, _, rfl, SqT.of upd_same, rfl, _, _, rfl, _, _, rfl, rfl, ?_⟩
        refine ⟨rfl, _, rfl, _, _, rfl, rfl, _, rfl, ?_⟩
        by_cases h0 : 0 < e
        · rw [decide_eq_true (show (0 : Int) < ((e : Nat) : Int) by omega)]
          obtain ⟨q1, q2, q3, q4⟩ := part_sizes j (by omega) e he9
          have hlaw := ltr_law j (by omega) e he9 h0
          have fin : ∃ acc, (upd H2 D2 (.tup [V.int ((j : Nat) : Int), V.int ((e : Nat) : Int)])) D = some (.lst acc) ∧ acc.length < sizeLine ∧ Same H' (upd (upd H2 D2 (.tup [V.int ((j : Nat) : Int), V.int ((e : Nat) : Int)])) D (.lst (acc ++ [V.str (ltr j e)]))) ∧ (upd (upd H2 D2 (.tup [V.int ((j : Nat) : Int), V.int ((e : Nat) : Int)])) D (.lst (acc ++ [V.str (ltr j e)]))) D = some (.lst ((wordsN t (j + 1)).map V.str)) :=
            ⟨_, hD3, by rw [List.length_map]; exact sizeK (by omega), same_updL (s2.trans sT) hD, by rw [upd_same, hf1, if_pos h0, List.map_append]; rfl⟩
          rw [← hlaw] at fin
          refine iteT ⟨_, rfl, _, _, rfl, rfl, _, rfl, log_small (by omega) (by omega), _, _, rfl, rfl, size_le (n := 11) (by rw [show ("x" : Str).length = 1 from by decide +kernel]; omega) (by decide), ?_⟩
          refine ⟨_, rfl, _, _, rfl, rfl, _, rfl, ?_⟩
          by_cases h2 : 1 < e
          · rw [if_pos h2] at fin
            rw [decide_eq_true (show (1 : Int) < ((e : Nat) : Int) by omega)]
            exact iteT ⟨_, rfl, _, rfl, log_small (by omega) (by omega), _, _, rfl, rfl, size_le (n := 11) (by rw [show ("^" : Str).length = 1 from by decide +kernel]; omega) (by decide), _, _, rfl, rfl, size_le (n := 40) (by omega) (by decide), fin⟩
          · rw [if_neg h2] at fin
            rw [decide_eq_false (show ¬ (1 : Int) < ((e : Nat) : Int) by omega)]
            exact iteF ⟨_, _, rfl, rfl, size_le (n := 40) (by rw [show ("" : Str).length = 0 from by decide +kernel]; omega) (by decide), fin⟩
        · rw [decide_eq_false (show ¬ (0 : Int) < ((e : Nat) : Int) by omega)]
          refine iteF ⟨s2.trans sT, ?_⟩
          rw [hf1, if_neg h0]
          exact hD3
      · rintro H2 ⟨s2, hD2⟩
        rw [nv_len] at hD2
        obtain ⟨l1, l2, l3⟩ := words_len hft t.length (Nat.le_refl _)
        have lok := words_ok hft t.length (Nat.le_refl _)
        have hsh := hft.short
        have ey2 := s2 _ _ ey
        refine ⟨_, rfl, .inl ⟨rfl, _, SqL.of ey2⟩, _, rfl, Nat.zero_le _, fun z8 hz8 => ?_⟩
        have s8 := same_new hz8 (.lst [])
        have fin : ∃ acc, (upd H2 z8 (.lst [])) y = some (.lst acc) ∧ acc.length < sizeLine ∧ ∃ v2 v3 : Option V, [some (V.ref m), some (.ref y), some (.ref a), some (.ref D), none, none] = [some (V.ref m), some (.ref y), v2, v3, none, none] ∧ Same H (upd (upd H2 z8 (.lst [])) y (.lst (acc ++ [V.str (wordN t)]))) ∧ (upd (upd H2 z8 (.lst [])) y (.lst (acc ++ [V.str (wordN t)]))) y = some (.lst (((L.map wordN).take (i + 1)).map V.str)) :=
          ⟨_, s8 _ _ ey2, by rw [List.length_map, List.length_take, List.length_map]; exact sizeK (by omega), _, _, rfl, same_updL (sm.trans (s2.trans s8)) hy, by rw [upd_same, take_more ht2, List.map_append]; rfl⟩
        unfold wordN at fin
        obtain ⟨acc, f1, f2, f3⟩ := fin
        refine ⟨_, .list [], .lst (SqL.of (s8 _ _ hD2)) (dp_strs _), .lst (SqL.of upd_same) .nil, shaped_strsL lok, by decide, _, rfl, ?_⟩
        rw [eqv_nilL]
        by_cases hn0 : wordsN t t.length = []
        · rw [if_pos hn0] at f3
          rw [decide_eq_true (show (wordsN t t.length).map PyData.str = [] by rw [hn0]; rfl)]
          exact iteF ⟨y, acc, _, rfl, rfl, f1, f2, f3⟩
        · rw [if_neg hn0] at f3
          rw [decide_eq_false (show ¬ (wordsN t t.length).map PyData.str = [] from fun h => hn0 (List.map_eq_nil_iff.mp h))]
          refine iteT ⟨⟨_, rfl⟩, _, rfl, _, D, wordsN t t.length, rfl, rfl, .inl (SqL.of (s8 _ _ hD2)), ?_, y, acc, _, rfl, rfl, f1, f2, f3⟩
          rw [show (" " : Str).length = 1 from by decide +kernel]
          omega
    · rintro σ H' ⟨v2, v3, rfl, sm, ey⟩
      rw [List.length_map, List.take_of_length_le (by rw [List.length_map]; omega)] at ey
      obtain ⟨j1, j2⟩ := join_words hf hn
      have e1 : ("(" : Str).length = 1 := by decide +kernel
      have e2 : (")" : Str).length = 1 := by decide +kernel
      refine ⟨⟨_, rfl⟩, _, rfl, _, y, L.map wordN, rfl, rfl, .inl (SqL.of ey), j2, _, _, rfl, rfl, size_le (n := 42001) (by omega) (by decide), _, _, rfl, rfl, size_le (n := 42002) (by rw [Str.length_append]; omega) (by decide), ?_⟩
      have q' := q H' sm
      unfold lotText at q'
      rw [show Str.empty ++ ("(" : Str) = ("(" : Str) by decide +kernel] at q'
      exact q'
end
end K6

namespace K6
open PySem PySem.Spec PyProof.Rows L2 RZ L5 R7
section
variable {P : Program} {w : World} {K : PySem.W.Frag} {mg : Str → Option Value} {base : Heap}
/-! ### value in lot, for values of every kind; bool(lot) -/
def natsOf (os : List (Option Int)) : List Nat := os.map fun o => match o with
  | some i => i.toNat
  | none => 0
theorem nats_back (t : List Nat) : natsOf (t.map fun n => some ((n : Nat) : Int)) = t := by
  unfold natsOf
  rw [List.map_map]
  exact (List.map_congr_left fun n _ => by show (((n : Nat) : Int)).toNat = n; omega).trans (List.map_id _)
def inV (L : List (List Nat)) (d : Nat) (o : Option (List (Option Int))) : Bool := match o with
  | some os => areB (some os) ((d : Nat) : Int) 60 && L.any fun k => M7.fitB k (natsOf os)
  | none => false
theorem inV_nats {L : List (List Nat)} {t : List Nat} (h : ∀ e ∈ t, e ≤ 60) : inV L t.length (some (t.map fun n => some ((n : Nat) : Int))) = L.any fun k => M7.fitB k t := by
  show (areB _ _ _ && _) = _
  rw [show areB (some (t.map fun n => some ((n : Nat) : Int))) ((t.length : Nat) : Int) 60 = true from are_prod h, nats_back, Bool.true_and]
def sp_hasV (K : PySem.W.Frag) (C : Addr) : Sp := fun vs H Q _ => ∃ a v d L o, vs = [.ref a, v] ∧ LotAt K C H a d L ∧ Va K H v o ∧ (∀ u ∈ L, u.length = d) ∧ ∀ H', Same H H' → Q (.bl (inV L d o)) H'
theorem ok_hasV (T : Txt K mg) (O : LotT K mg) (Z : LotC K) : FnOk P w K mg base CX0 4 Z.fH Z.dH ["self", "value"] (sp_hasV K O.C) := by
  refine Z.FH.ok sc_has (fun vs H Q E h => ?_) (fun cdv A outer s H vs Q E hr h => ?_)
  · obtain ⟨a, v, d, L, o, rfl, _⟩ := h
    rfl
  · obtain ⟨a, v, d, L, o, rfl, hA, hv, hd, q⟩ := h
    have ia := hA
    obtain ⟨dx, m, rs, h1, h2, h3⟩ := ia
    refine ⟨_, pss_cons (ps_if (pt_not (pt_val (pe_call (ok_are T) hr (by rfl) T.m_are_exponents T.F_are_exponents.kp T.b_are_exponents .nil pass0 (pa_cons (pv 1) (pa_cons (pe_fld (pv 0) rfl) (pa_cons (pe_glob (v := .int 60) rfl T.c_MAX_EXPONENT ⟨_, rfl⟩) pa_nil)))))) (pss_one (ps_ret pe_bl)) pss_nil)
      (pss_one (ps_ret (pe_call (ok_isd T) (hr.mono (by decide)) (by rfl) T.m_is_divided T.F_is_divided.kp T.b_is_divided .nil pass0 (pa_cons (pv 1) (pa_cons (pe_fld (pv 0) rfl) pa_nil))))), ?_⟩
    refine ⟨_, rfl, _, rfl, a, O.C, dx, _, _, rfl, h1, O.cl, O.nL, rfl, v, o, ((d : Nat) : Int), 60, rfl, hv, fun H1 s1 => ⟨_, rfl, ?_⟩⟩
    cases e60 : areB o ((d : Nat) : Int) 60 with
    | false =>
      have e1 : inV L d o = false := by
        cases o with
        | none => rfl
        | some os =>
          show (areB _ _ _ && _) = _
          rw [e60, Bool.false_and]
      rw [e1] at q
      exact iteT (q H1 s1)
    | true =>
      obtain ⟨p, t, rfl, hp, hl, h60, rfl⟩ := are_get hv e60
      subst hl
      rw [inV_nats h60] at q
      exact iteF ⟨_, rfl, _, rfl, a, O.C, dx, _, _, rfl, s1 _ _ h1, O.cl, O.nM, rfl, p, m, t, rs, L, rfl, same_sqt s1 hp, .inr (same_sqt s1 h2), h3.same s1, hd, fun H2 s2 => q H2 (s1.trans s2)⟩
end
end K6

namespace K6
open PySem PySem.Spec PyProof.Rows L2 RZ L5 R7
def rRepB (K : PySem.W.Frag) : R2 := fun x y H Q => ∃ l k xs, x = .ref l ∧ y = .int k ∧ SqT K H l xs ∧ xs ≠ [] ∧ -1000 ≤ k ∧ k ≤ 1000 ∧ xs.length ≤ 1000 ∧ ∀ H' z, Same H H' → SqT K H' z (List.replicate k.toNat xs).flatten → Q (.ref z) H'
theorem op_repB {X : Cx} : OpR X (binaryOp .Mult) (rRepB X.K) := by
  intro pins s σ H x y v u Q I rx ry h
  obtain ⟨l, k, xs, rfl, rfl, hx, hne, h1, h2, hz, q⟩ := h
  refine op_repA pins s σ H _ _ v u Q I rx ry ⟨l, k, xs, rfl, rfl, hx, hne, h1, h2, hz, fun e => ?_, fun _ p hp => q _ p (same_new hp _) (SqT.of upd_same)⟩
  subst e
  refine q H l (Same.refl H) ?_
  have e2 : (List.replicate (1 : Int).toNat xs).flatten = xs := by
    show (List.replicate 1 xs).flatten = xs
    simp
  rw [e2]
  exact hx
theorem zeros_nv : ∀ d : Nat, (List.replicate d [V.int 0]).flatten = nv (M7.z0 d)
  | 0 => rfl
  | d + 1 => by
    show V.int 0 :: (List.replicate d [V.int 0]).flatten = V.int 0 :: nv (M7.z0 d)
    rw [zeros_nv d]
section
variable {P : Program} {w : World} {K : PySem.W.Frag} {mg : Str → Option Value} {base : Heap}
def sp_nothing (K : PySem.W.Frag) : Sp := fun vs H Q _ => ∃ d : Nat, vs = [.int ((d : Nat) : Int)] ∧ d ≤ 8 ∧ ∀ H' z, Same H H' → SqT K H' z (nv (M7.z0 d)) → Q (.ref z) H'
theorem ok_nothing (T : Txt K mg) : FnOk P w K mg base CX0 1 T.a_nothing T.d_nothing ["letters"] (sp_nothing K) := by
  refine T.F_nothing.ok sc_nothing (fun vs H Q E h => ?_) (fun cdv A outer s H vs Q E hr h => ?_)
  · obtain ⟨d, rfl, _⟩ := h
    rfl
  · obtain ⟨d, rfl, h8, q⟩ := h
    refine ⟨_, pss_one (ps_ret (pe_op op_repB (pe_tup (pa_cons pe_int pa_nil)) (pv 0))), ?_⟩
    refine ⟨by show 1 ≤ sizeLine; decide, fun z hz => ?_⟩
    have sz := same_new hz (.tup [V.int 0])
    refine ⟨_, rfl, z, ((d : Nat) : Int), [.int 0], rfl, rfl, SqT.of upd_same, by simp, by omega, by omega, by decide, fun H' y s' hy => ?_⟩
    rw [Int.toNat_natCast, zeros_nv] at hy
    exact q H' y (sz.trans s') hy
/-! ### bool(lot), degrees, is_all, is_squarefree -/
abbrev s_bool : Stmt := inClass (topS 40) 14
abbrev s_degrees : Stmt := inClass (topS 40) 4
abbrev s_is_all : Stmt := inClass (topS 40) 5
abbrev s_is_squarefree : Stmt := inClass (topS 40) 6
theorem sc_bool : FnScope ["self"] ["self"] (defScope s_bool) := ⟨rfl, rfl, rfl, by decide +kernel, rfl, by decide +kernel, by decide +kernel⟩
abbrev N_deg : List Str := ["self", "member"]
theorem sc_degrees : FnScope N_deg ["self"] (defScope s_degrees) := ⟨rfl, rfl, rfl, by decide +kernel, rfl, by decide +kernel, by decide +kernel⟩
theorem sc_is_all : FnScope ["self"] ["self"] (defScope s_is_all) := ⟨rfl, rfl, rfl, by decide +kernel, rfl, by decide +kernel, by decide +kernel⟩
theorem sc_is_squarefree : FnScope N_deg ["self"] (defScope s_is_squarefree) := ⟨rfl, rfl, rfl, by decide +kernel, rfl, by decide +kernel, by decide +kernel⟩
structure LotB (K : PySem.W.Frag) (C : Addr) where
  pD : Addr
  fD : Addr
  dD : FuncData
  PD : PropOf K C "degrees" pD fD
  FD : Fun K "degrees" "Lot.degrees" s_degrees fD dD
  bD : Binds K dD ["self"] []
  pA : Addr
  fA : Addr
  dA : FuncData
  PA : PropOf K C "is_all" pA fA
  FA : Fun K "is_all" "Lot.is_all" s_is_all fA dA
  bA : Binds K dA ["self"] []
  pS : Addr
  fS : Addr
  dS : FuncData
  PS : PropOf K C "is_squarefree" pS fS
  FS : Fun K "is_squarefree" "Lot.is_squarefree" s_is_squarefree fS dS
  bS : Binds K dS ["self"] []
  fB : Addr
  dB : FuncData
  FB : Fun K "__bool__" "Lot.__bool__" s_bool fB dB
  bB : Binds K dB ["self"] []
def sp_isall (K : PySem.W.Frag) (C : Addr) : Sp := fun vs H Q _ => ∃ a d L, vs = [.ref a] ∧ LotAt K C H a d L ∧ d ≤ 8 ∧ ∀ H', Same H H' → Q (.bl (decide (L = [M7.z0 d]))) H'
theorem ok_isall (T : Txt K mg) (O : LotT K mg) (B : LotB K O.C) : FnOk P w K mg base CX0 2 B.fA B.dA ["self"] (sp_isall K O.C) := by
  refine B.FA.ok sc_is_all (fun vs H Q E h => ?_) (fun cdv A outer s H vs Q E hr h => ?_)
  · obtain ⟨a, d, L, rfl, _⟩ := h
    rfl
  · obtain ⟨a, d, L, rfl, ⟨dx, m, rs, h1, h2, h3⟩, h8, q⟩ := h
    refine ⟨_, pss_one (ps_ret (pe_cmpR (op_eqD hr.units) (pe_fld (pv 0) rfl) (pe_tup (pa_cons (pe_call (ok_nothing T) hr (by rfl) T.m_nothing T.F_nothing.kp T.b_nothing .nil pass0 (pa_cons (pe_fld (pv 0) rfl) pa_nil)) pa_nil)) (nomark _))), ?_⟩
    refine ⟨_, rfl, a, O.C, dx, _, _, rfl, h1, O.cl, O.nM, rfl, _, rfl, a, O.C, dx, _, _, rfl, h1, O.cl, O.nL, rfl, d, rfl, h8, fun H1 z s1 hz => ⟨by show 1 ≤ sizeLine; decide, fun y hy => ?_⟩⟩
    have sy := same_new hy (.tup [V.ref z])
    have S := s1.trans sy
    refine ⟨_, _, .tup (same_sqt S h2) (dp_tups (h3.same S)), .tup (SqT.of upd_same) (dp_tups (rs := [z]) (L := [M7.z0 d]) (.cons (same_sqt sy hz) .nil)), shaped_tupsT L, shaped_tupsT [M7.z0 d], ?_⟩
    rw [show PyData.eqv (.tuple (L.map encT)) (.tuple ([M7.z0 d].map encT)) = decide (L = [M7.z0 d]) by simp only [PyData.eqv]; exact eqvAll_tups L [M7.z0 d]]
    exact q _ S
end
end K6

namespace K6
open PySem PySem.Spec PyProof.Rows L2 RZ L5 R7
section
variable {P : Program} {w : World} {K : PySem.W.Frag} {mg : Str → Option Value} {base : Heap}
/-- the degrees -/
abbrev degI (L : List (List Nat)) : List Int := L.map fun t => ((t.sum : Nat) : Int)
def sp_degs (K : PySem.W.Frag) (C : Addr) : Sp := fun vs H Q _ => ∃ a d L, vs = [.ref a] ∧ LotAt K C H a d L ∧ L.length < 64 ∧ ∀ H' z (ns : List Int), Same H H' → SqT K H' z (ns.map V.int) → ns.Perm (degI L) → ns.Pairwise (· ≤ ·) → Q (.ref z) H'
theorem ok_degs (T : Txt K mg) (O : LotT K mg) (B : LotB K O.C) : FnOk P w K mg base CX0 1 B.fD B.dD ["self"] (sp_degs K O.C) := by
  refine B.FD.ok sc_degrees (fun vs H Q E h => ?_) (fun cdv A outer s H vs Q E hr h => ?_)
  · obtain ⟨a, d, L, rfl, _⟩ := h
    rfl
  · obtain ⟨a, d, L, rfl, ⟨dx, m, rs, h1, h2, h3⟩, hn, q⟩ := h
    refine ⟨_, pss_one (ps_ret (pe_callTy call_tuple_of (by rfl) T.z_tuple boot_tuple (pa_cons (pe_callB cr_sorted (by rfl) T.z_sorted (by decide +kernel) (pa_cons
      (pe_lc (own := [("member", 1)]) (g := gName 1) (tt := tYes) rfl sc_degrees.nd (pi_tup (pe_fld (pv 0) rfl)) (blkOk_by (own := [("member", 1)]) (N := N_deg) (sc := defScope s_degrees) (by decide +kernel))
        (fun _ _ _ _ _ => pg_name (i := 1) sc_degrees.nd rfl (Or.inl rfl)) (fun _ _ _ _ _ => pts_nil)
        (fun _ _ _ _ _ => pe_callB (show CallR _ _ (rSumT K) from cr_sumT rfl) (by rfl) T.z_sum boot_sum (pa_cons (pv 1) pa_nil))) pa_nil)) pa_nil))), ?_⟩
    have hl : rs.length = L.length := h3.length
    refine ⟨_, rfl, a, O.C, dx, _, _, rfl, h1, O.cl, O.nM, rfl, m, rfl, ⟨_, h2⟩, fun D hD => ?_⟩
    have sD := same_new hD (.lst [])
    refine lc_tup (K := K) (a := m) (xs := rs.map V.ref) (fun i H' => Same H H' ∧ H' D = some (.lst (((degI L).take i).map V.int))) ⟨sD, upd_same⟩ (fun i H' _ h => same_sqt h.1 h2) ?_ ?_
    · rintro i x H' hx ⟨s2, hD2⟩
      obtain ⟨b, t, rfl, _, ht, hs⟩ := tups_get (h3.same s2) hx
      have ht2 : (degI L)[i]? = some ((t.sum : Nat) : Int) := by rw [List.getElem?_map, ht]; rfl
      refine ⟨rfl, _, rfl, b, t.map fun n => ((n : Nat) : Int), rfl, by rw [← nv_ints]; exact hs, _, hD2, ?_, same_updL s2 hD, ?_⟩
      · rw [List.length_map, List.length_take, List.length_map]
        exact sizeK (by omega)
      · rw [upd_same, take_more ht2, List.map_append, sum_cast]
        rfl
    · rintro H' ⟨s2, hD2⟩
      rw [List.length_map, List.take_of_length_le (by rw [List.length_map]; omega)] at hD2
      refine ⟨D, degI L, rfl, SqL.of hD2, by rw [List.length_map]; exact hn, fun ns p pm pw hp => ?_⟩
      have sp := same_new hp (.lst (ns.map V.int))
      refine ⟨p, _, rfl, .inl ⟨SqL.of upd_same, fun z hz => ?_⟩⟩
      have sz := same_new hz (.tup (ns.map V.int))
      exact q _ z ns (s2.trans (sp.trans sz)) (SqT.of upd_same) pm pw
def sp_issq (K : PySem.W.Frag) (C : Addr) : Sp := fun vs H Q _ => ∃ a d L, vs = [.ref a] ∧ LotAt K C H a d L ∧ 1 ≤ d ∧ (∀ t ∈ L, t.length = d) ∧ L.length ≤ 1000 ∧ ∀ H', Same H H' → Q (.bl (L.all fun t => t.all fun e => decide (e ≤ 1))) H'
theorem ok_issq (T : Txt K mg) (O : LotT K mg) (B : LotB K O.C) : FnOk P w K mg base CX0 1 B.fS B.dS ["self"] (sp_issq K O.C) := by
  refine B.FS.ok sc_is_squarefree (fun vs H Q E h => ?_) (fun cdv A outer s H vs Q E hr h => ?_)
  · obtain ⟨a, d, L, rfl, _⟩ := h
    rfl
  · obtain ⟨a, d, L, rfl, ⟨dx, m, rs, h1, h2, h3⟩, hd1, hd, hn, q⟩ := h
    refine ⟨_, pss_one (ps_ret (pe_callB (cr_all rfl) (by rfl) T.z_all (by decide +kernel) (pa_cons
      (pe_lc (own := [("member", 1)]) (g := gName 1) (tt := tYes) rfl sc_is_squarefree.nd (pi_tup (pe_fld (pv 0) rfl)) (blkOk_by (own := [("member", 1)]) (N := N_deg) (sc := defScope s_is_squarefree) (by decide +kernel))
        (fun _ _ _ _ _ => pg_name (i := 1) sc_is_squarefree.nd rfl (Or.inl rfl)) (fun _ _ _ _ _ => pts_nil)
        (fun _ _ _ _ _ => pe_cmpR op_le (pe_callB (show CallR _ _ (rMaxT K) from cr_maxT rfl) (by rfl) T.z_max boot_max (pa_cons (pv 1) pa_nil)) pe_int (nomark _))) pa_nil))), ?_⟩
    have hl : rs.length = L.length := h3.length
    refine ⟨_, rfl, a, O.C, dx, _, _, rfl, h1, O.cl, O.nM, rfl, m, rfl, ⟨_, h2⟩, fun D hD => ?_⟩
    have sD := same_new hD (.lst [])
    refine lc_tup (K := K) (a := m) (xs := rs.map V.ref) (fun i H' => Same H H' ∧ H' D = some (.lst (((L.map fun t => t.all fun e => decide (e ≤ 1)).take i).map V.bl))) ⟨sD, upd_same⟩ (fun i H' _ h => same_sqt h.1 h2) ?_ ?_
    · rintro i x H' hx ⟨s2, hD2⟩
      obtain ⟨b, t, rfl, _, ht, hs⟩ := tups_get (h3.same s2) hx
      have htd := hd t (List.mem_of_getElem? ht)
      have ht2 : (L.map fun t => t.all fun e => decide (e ≤ 1))[i]? = some (t.all fun e => decide (e ≤ 1)) := by rw [List.getElem?_map, ht]; rfl
      refine ⟨rfl, _, rfl, b, t.map fun n => ((n : Nat) : Int), rfl, by rw [← nv_ints]; exact hs, by rw [List.length_map]; omega, fun M hM hMx => ?_⟩
      have eM : decide (M ≤ 1) = t.all fun e => decide (e ≤ 1) := by
        rw [Bool.eq_iff_iff, decide_eq_true_iff, List.all_eq_true]
        constructor
        · intro h e he
          have := hMx _ (List.mem_map_of_mem (f := fun n : Nat => ((n : Nat) : Int)) he)
          exact decide_eq_true (by omega)
        · intro h
          obtain ⟨e, he, rfl⟩ := List.mem_map.mp hM
          have := of_decide_eq_true (h e he)
          omega
      refine ⟨_, _, rfl, rfl, _, hD2, ?_, same_updL s2 hD, ?_⟩
      · rw [List.length_map, List.length_take, List.length_map]
        exact sizeK (by omega)
      · rw [upd_same, take_more ht2, List.map_append, ← eM]
        rfl
    · rintro H' ⟨s2, hD2⟩
      rw [List.length_map, List.take_of_length_le (by rw [List.length_map]; omega)] at hD2
      refine ⟨D, _, rfl, SqL.of hD2, ?_⟩
      have := q H' s2
      rw [show (L.all fun t => t.all fun e => decide (e ≤ 1)) = (L.map fun t => t.all fun e => decide (e ≤ 1)).all id by rw [List.all_map]; rfl] at this
      exact this
end
end K6

namespace K6
open PySem PySem.Spec PyProof.Rows L2 RZ L5 R7
section
variable {P : Program} {w : World} {K : PySem.W.Frag} {mg : Str → Option Value} {base : Heap}
def sp_boolL (K : PySem.W.Frag) (C : Addr) : Sp := fun vs H Q _ => ∃ a d L, vs = [.ref a] ∧ LotAt K C H a d L ∧ Q (.bl (!decide (L = []))) H
theorem ok_boolL (T : Txt K mg) (O : LotT K mg) (B : LotB K O.C) : FnOk P w K mg base CX0 1 B.fB B.dB ["self"] (sp_boolL K O.C) := by
  refine B.FB.ok sc_bool (fun vs H Q E h => ?_) (fun cdv A outer s H vs Q E hr h => ?_)
  · obtain ⟨a, d, L, rfl, _⟩ := h
    rfl
  · obtain ⟨a, d, L, rfl, ⟨dx, m, rs, h1, h2, h3⟩, q⟩ := h
    refine ⟨_, pss_one (ps_ret (pe_callTy W7.call_boolTup (by rfl) T.z_bool (by decide +kernel) (pa_cons (pe_fld (pv 0) rfl) pa_nil))), ?_⟩
    refine ⟨_, rfl, a, O.C, dx, _, _, rfl, h1, O.cl, O.nM, rfl, m, _, rfl, h2, ?_⟩
    have e : (rs.map V.ref).isEmpty = decide (L = []) := by
      have hl : rs.length = L.length := h3.length
      cases rs with
      | nil =>
        cases L with
        | nil => rfl
        | cons t L => simp at hl
      | cons r rs =>
        cases L with
        | nil => simp at hl
        | cons t L => rfl
    rw [e]
    exact q
/-! ### _law_has -/
def sp_whas (K : PySem.W.Frag) : Sp := fun vs H Q _ => ∃ (l p : Addr) (rs : List Addr) (L : List (List Nat)) (t : List Nat), vs = [.ref l, .ref p] ∧ H l = some (.lst (rs.map V.ref)) ∧ Tups K H rs L ∧ SqT K H p (nv t) ∧ t.length ≤ 8 ∧ (∀ u ∈ L, u.length = t.length) ∧ L.length ≤ 1000 ∧ ∀ H', Same H H' → Q (.bl (L.any fun k => M7.fitB k t)) H'
theorem filt_any (L : List (List Nat)) (f : List Nat → Bool) : (!decide (L.filter f = [])) = L.any f := by
  rw [Bool.eq_iff_iff, Bool.not_eq_true', decide_eq_false_iff_not, List.filter_eq_nil_iff, List.any_eq_true]
  constructor
  · intro h
    by_cases z : ∃ x, x ∈ L ∧ f x = true
    · exact z
    · exact absurd (fun x hx hf => z ⟨x, hx, hf⟩) h
  · rintro ⟨x, hx, hf⟩ h
    exact h x hx hf
theorem ok_whas (T : Txt K mg) : FnOk P w K mg base CX0 2 T.a_w_has T.d_w_has ["_law_members", "_law_product_here"] (sp_whas K) := by
  refine T.F_w_has.ok sc_w_has (fun vs H Q E h => ?_) (fun cdv A outer s H vs Q E hr h => ?_)
  · obtain ⟨l, p, rs, L, t, rfl, _⟩ := h
    rfl
  · obtain ⟨l, p, rs, L, t, rfl, hl, hT, hp, ht8, hd, hn, q⟩ := h
    refine ⟨_, pss_one (ps_ret (pe_cmpR (op_neD hr.units)
      (pe_lc (own := [("_law_one", 2)]) (g := gName 2) rfl sc_w_has.nd (pi_list (pv 0)) (blkOk_by (own := [("_law_one", 2)]) (N := N_w_has) (sc := defScope s_w_has) (by decide +kernel))
        (fun _ _ _ _ _ => pg_name (i := 2) sc_w_has.nd rfl (Or.inl rfl))
        (fun _ _ _ _ _ => pts_one (pt_val (pe_call (ok_wdiv T) hr (by rfl) T.m_w_divides T.F_w_divides.kp T.b_w_divides .nil pass0 (pa_cons (pv 2) (pa_cons (pv 1) pa_nil)))))
        (fun _ _ _ _ _ => pv 2)) (pe_lst pa_nil) (nomark _))), ?_⟩
    have hrl : rs.length = L.length := hT.length
    refine ⟨_, rfl, l, rfl, ⟨_, SqL.of hl⟩, fun D hD => ?_⟩
    have sD := same_new hD (.lst [])
    refine lc_list (K := K) (a := l) (xs := rs.map V.ref) (fun i H' => Same H H' ∧ ∃ es : List Addr, H' D = some (.lst (es.map V.ref)) ∧ Tups K H' es ((L.take i).filter fun k => M7.fitB k t)) ⟨sD, [], upd_same, .nil⟩ (fun i H' _ h => SqL.of (h.1 _ _ hl)) ?_ ?_
    · rintro i x H' hx ⟨s2, es, eD, hTe⟩
      obtain ⟨a, u, rfl, _, hu, hs⟩ := tups_get (hT.same s2) hx
      have hud := hd u (List.mem_of_getElem? hu)
      refine ⟨rfl, _, rfl, _, rfl, a, p, u, t, rfl, hs, same_sqt s2 hp, hud, by omega, fun H3 s3 => ⟨_, rfl, ?_⟩⟩
      have eD3 := s3 _ _ eD
      have hel : es.length ≤ 1000 := by
        have e1 : es.length = _ := hTe.length
        have e2 := List.length_filter_le (fun k => M7.fitB k t) (L.take i)
        rw [List.length_take] at e2
        omega
      cases hf : M7.fitB u t with
      | true =>
        refine iteT ⟨_, rfl, _, eD3, by rw [List.length_map]; exact sizeK (by omega), same_updL (s2.trans s3) hD, es ++ [a], by rw [upd_same, List.map_append]; rfl, ?_⟩
        rw [filter_yes hu hf]
        exact ((hTe.same s3).updL eD3).app (.cons (sqt_updL eD3 (same_sqt s3 hs)) .nil)
      | false =>
        refine iteF ⟨s2.trans s3, es, eD3, ?_⟩
        rw [filter_no hu hf]
        exact hTe.same s3
    · rintro H' ⟨s2, es, eD, hTe⟩
      rw [List.length_map, hrl, List.take_length] at hTe
      refine ⟨Nat.zero_le _, fun z hz8 => ?_⟩
      have s8 := same_new hz8 (.lst [])
      refine ⟨_, .list [], .lst (SqL.of (s8 _ _ eD)) (dp_tups (hTe.same s8)), .lst (SqL.of upd_same) .nil, shaped_tups _, by decide, ?_⟩
      have e3 : (!PyData.eqv (.list ((L.filter fun k => M7.fitB k t).map encT)) (.list [])) = L.any fun k => M7.fitB k t := by
        rw [eqv_nilL, ← filt_any]
        congr 1
        exact decide_eq_decide.mpr List.map_eq_nil_iff
      rw [e3]
      exact q _ (s2.trans s8)
end
end K6

namespace K6
open PySem PySem.Spec PyProof.Rows L2 RZ L5 R7
section
variable {P : Program} {w : World} {K : PySem.W.Frag} {mg : Str → Option Value} {base : Heap}
/-! ### lot == a tuple, a text: False -/
def sp_eqo (K : PySem.W.Frag) : Sp := fun vs H Q _ => ∃ a y, vs = [.ref a, y] ∧ ((∃ b ys, y = .ref b ∧ SqT K H b ys) ∨ ∃ z, y = .str z) ∧ Q (.bl false) H
theorem ok_eqo (T : Txt K mg) (O : LotT K mg) (Z : LotC K) (k1 : PySem.W.kitOne K (.type "tuple") (.ref O.C) = some false) (k2 : PySem.W.kitOne K (.type "str") (.ref O.C) = some false) : FnOk P w K mg base CX0 1 Z.fE Z.dE ["self", "other"] (sp_eqo K) := by
  refine Z.FE.ok sc_eq (fun vs H Q E h => ?_) (fun cdv A outer s H vs Q E hr h => ?_)
  · obtain ⟨a, y, rfl, _⟩ := h
    rfl
  · obtain ⟨a, y, rfl, hy, q⟩ := h
    refine ⟨_, pss_one (ps_ret (pe_and (pe_callB call_isi (by rfl) T.z_isinstance boot_isinstance (pa_cons (pv 1) (pa_cons (pe_glob (v := .ref O.C) rfl O.gC rfl) pa_nil)))
      (pe_and (pe_cmpR op_eq (pe_fld (pv 0) rfl) (pe_fld (pv 1) rfl) (nomark _)) (pe_one (pe_cmpR (op_eqD hr.units) (pe_fld (pv 0) rfl) (pe_fld (pv 1) rfl) (nomark _)))))), ?_⟩
    rcases hy with ⟨b, ys, rfl, hT⟩ | ⟨z, rfl⟩
    · exact ⟨_, rfl, _, _, _, _, false, rfl, .own _, sqt_ty hT, k1, false, rfl, iteF q⟩
    · exact ⟨_, rfl, _, _, _, _, false, rfl, .own _, .base (.str z), k2, false, rfl, iteF q⟩
/-! ### two sorted lists with the same numbers are one list -/
theorem sorted_one : ∀ {a b : List Int}, a.Perm b → a.Pairwise (· ≤ ·) → b.Pairwise (· ≤ ·) → a = b
  | [], b, p, _, _ => (List.nil_perm.mp p).symm
  | x :: a, [], p, _, _ => absurd p.length_eq (by simp)
  | x :: a, y :: b, p, ha, hb => by
    obtain ⟨a1, a2⟩ := List.pairwise_cons.mp ha
    obtain ⟨b1, b2⟩ := List.pairwise_cons.mp hb
    have e : x = y := by
      have h1 : x ∈ y :: b := p.mem_iff.mp List.mem_cons_self
      have h2 : y ∈ x :: a := p.mem_iff.mpr List.mem_cons_self
      rcases List.mem_cons.mp h1 with h1 | h1
      · exact h1
      · rcases List.mem_cons.mp h2 with h2 | h2
        · exact h2.symm
        · have := b1 x h1
          have := a1 y h2
          omega
    subst e
    rw [sorted_one (List.perm_cons x |>.mp p) a2 b2]
end
end K6

namespace K6
open PySem PySem.Spec PyProof.Rows L2 RZ L5 R7
section
variable {P : Program} {w : World} {K : PySem.W.Frag} {mg : Str → Option Value} {base : Heap}
/-! ### the iterator of a lot, asked from within a built-in -/
theorem lot_iterS {X : Cx} {A2 : Around} (T : Txt X.K X.mg) (O : LotT X.K X.mg) {Z : LotC X.K} (D : LotD X.K O.C Z) (sb : Sub X 1 A2) (z_iter : X.mg "iter" = none) : W7.ItMs X A2 D.fT (LotM_at X.K O.C) := by
  intro pins s σ H a m I h
  obtain ⟨d, dx, xs, h1, h2⟩ := h
  obtain ⟨oc, od, kV, doc, pm, an, cdv, ct, osl, e, lk, hcd⟩ := D.FT.ex
  have hb := D.bT s [.ref a] I.kIn rfl
  rw [e] at hb lk
  have r2 : Vals [V.ref a] [Value.ref a] := .cons rfl .nil
  have e0 : Env0 X.prog X.w X.K X.mg X.base A2 X.stack s H := by
    have z := I.env0
    exact ⟨by rw [sb.fr]; exact z.frames, z.mod, z.bs, z.bsz, z.funs, z.frf, z.hok, z.bare⟩
  refine wpAny_call (codeAny_mono (W7.fn_at (CX := CX0) (P := X.prog) (w := X.w) (mg := X.mg) (base := X.base) (A := A2) (outer := X.stack) (s := s) (H := H) (args := ⟨[.ref a], []⟩) (us := [.ref a]) (vs := [.ref a]) (E := E0)
    (Q := fun v H' => ∃ it, v = .ref it ∧ H it = none ∧ s.heap.objs.size ≤ it ∧ H' = upd H it (W7.ItTO m it)) lk hcd sc_iter sb.room e0 hb r2 rfl (fun hr' => ?_)) fun r s' hq => ?_)
  · refine ⟨_, pss_one (ps_ret (pe_callB W7.call_iterTN (by rfl) z_iter (by decide +kernel) (pa_cons (pe_fld (pv 0) rfl) pa_nil))), ?_⟩
    exact ⟨_, rfl, a, O.C, dx, _, _, rfl, h1, O.cl, O.nM, rfl, m, xs, rfl, h2, fun it hit hn => ⟨it, rfl, hit, hn, rfl⟩⟩
  · cases r with
    | error e => exact (pass0 pins σ H s e s' I hq)
    | ok fl =>
      cases fl with
      | ret u =>
        obtain ⟨v, H', I', rv, it, rfl, hit, hn, rfl⟩ := I.after hq
        obtain rfl : u = Value.ref it := rv
        exact ⟨it, rfl, I', hit, Nat.le_trans I.sz hn⟩
      | next => exact False.elim hq
      | brk => exact False.elim hq
      | cont => exact False.elim hq
theorem LotM_same {C : Addr} {a m : Addr} {H H' : Hp} (s : Same H H') : LotM_at K C a m H → LotM_at K C a m H' := fun ⟨d, dx, xs, h1, h2⟩ => ⟨d, dx, xs, s _ _ h1, same_sqt s h2⟩
/-- list(lot) asks for this -/
theorem list_lot {O : LotT K mg} {H : Hp} {a d : Nat} {L : List (List Nat)} {Q : VK} (h : LotAt K O.C H a d L) (hn : L.length ≤ 1000) (q : ∀ H' z rs, Same H H' → H' z = some (.lst (rs.map V.ref)) → Tups K H' rs L → Q (.ref z) H') :
    W7.rListO K O.C (LotM_at K O.C) (sp_len K O.C) [.ref a] H Q := by
  have ih := h
  obtain ⟨dx, m, rs, h1, h2, h3⟩ := ih
  have hl : rs.length = L.length := h3.length
  refine ⟨a, m, dx, _, rs.map V.ref, rfl, h1, by rw [List.length_map]; omega, fun H' s => ⟨LotM_same s ⟨d, dx, _, h1, h2⟩, same_sqt s h2, a, d, L, rfl, h.same s, ⟨L.length, rfl, by omega⟩, rfl⟩, fun z hz => ?_⟩
  have sz := same_new hz (.lst (rs.map V.ref))
  exact q _ z rs sz upd_same (h3.same sz)
end
end K6

namespace K6
open PySem PySem.Spec PyProof.Rows L2 RZ L5 R7
theorem PT.weak' {X : Cx} {e : Expr} {t t' : TT} (h : PT X e t) (i : ∀ σ H Q, t' σ H Q → t σ H Q) : PT X e t' := ⟨fun pins s σ H Q I h' => h.run pins s σ H Q I (i σ H Q h')⟩
theorem PS.weak' {X : Cx} {st : Stmt} {t t' : TS} (h : PS X st t) (i : ∀ D σ H, t' D σ H → t D σ H) : PS X st t' := ⟨fun pins s σ H D I h' => h.run pins s σ H D I (i D σ H h')⟩
theorem PS.ex {X : Cx} {st : Stmt} {α : Type} {t : α → TS} (h : ∀ x, PS X st (t x)) : PS X st (fun D σ H => ∃ x, t x D σ H) := ⟨fun pins s σ H D I ⟨x, h'⟩ => (h x).run pins s σ H D I h'⟩
/-- all that a lot's methods are -/
structure LotsT (K : PySem.W.Frag) (mg : Str → Option Value) where
  T : Txt K mg
  O : LotT K mg
  R : LotP K O.C
  W : LotO K mg O.C
  Z : LotC K
  D : LotD K O.C Z
  B : LotB K O.C
  k1 : PySem.W.kitOne K (.type "tuple") (.ref O.C) = some false
  k2 : PySem.W.kitOne K (.type "str") (.ref O.C) = some false
  kt : PySem.W.kitOne K (.ref O.C) (.type "tuple") = some false
  s1 : PySem.W.subIn K (.type "tuple") (.ref O.C) = some false
  s2 : PySem.W.subIn K (.type "str") (.ref O.C) = some false
  aB : PySem.W.findIn K (.ref O.C) "__bool__" = some (some (.ref B.fB))
  nB : PySem.W.isFn K (.ref B.fB) = true
  z_iter : mg "iter" = none
abbrev EvT := L2.St → Hp → Prop
structure Kept (Ev : EvT) : Prop where
  same : ∀ σ H H', Same H H' → Ev σ H → Ev σ H'
abbrev tNo (Ev : EvT) : TT := fun σ H Q => Ev σ H ∧ ∀ H', Same H H' → Q false H'
abbrev tYesE (Ev : EvT) : TE := fun σ H Q => Ev σ H ∧ ∀ H', Same H H' → Q (.bl true) H'
abbrev tIf (Ev : EvT) : TS := fun D σ H => Ev σ H ∧ ∀ H', Same H H' → D.nx σ H'
section
variable {X : Cx} {Ev : EvT} (kp : Kept Ev) {e e1 e2 : Expr} {es : List Expr} {pos apos : Pos}
include kp in
theorem no_or (h1 : PT X e1 (tNo Ev)) (h2 : PW X (.BoolOp .Or (e2 :: es) pos) (tNo Ev)) : PW X (.BoolOp .Or (e1 :: e2 :: es) pos) (tNo Ev) := by
  have h := pw_or h1 h2
  refine ⟨fun whole pins s σ H Q I ⟨ev, q⟩ => h.run whole pins s σ H Q I ⟨ev, fun H1 s1 => ?_⟩⟩
  exact iteF ⟨kp.same _ _ _ s1 ev, fun H2 s2 => q H2 (s1.trans s2)⟩
theorem no_last (h : PT X e (tNo Ev)) : PW X (.BoolOp .Or [e] pos) (tNo Ev) := pw_or1 h
include kp in
theorem ps_ifNo {body : List Stmt} {tb : TS} (h : PT X e (tNo Ev)) (hb : PSs X body tb) : PS X (.If e body [] pos) (tIf Ev) :=
  PS.weak' (ps_if h hb pss_nil) fun D σ H ⟨ev, q⟩ => ⟨ev, fun H1 s1 => iteF (q H1 s1)⟩
end
theorem eqv_tupsSame (L : List (List Nat)) : PyData.eqv (.tuple (L.map encT)) (.tuple (L.map encT)) = true := SeqAt.eqv_refl _ (by
  simp only [PyData.canLay0]
  exact (can_tups L).1)
theorem shaped_bool (b : Bool) : SeqAt.shaped (.bool b) = true := by cases b <;> decide +kernel
theorem eqv_bool (b : Bool) : PyData.eqv (.bool b) (.bool b) = true := by cases b <;> decide +kernel
theorem dp_ints {K : PySem.W.Frag} {H : Hp} : ∀ l : List Int, DpAll K H (l.map V.int) (l.map PyData.int)
  | [] => .nil
  | i :: l => .cons (.int i) (dp_ints l)
theorem can_ints : ∀ l : List Int, PyData.canLayAll0 (l.map PyData.int) = true ∧ PyData.depthAll (l.map PyData.int) = 0
  | [] => by simp [PyData.canLayAll0, PyData.depthAll]
  | i :: l => by
    obtain ⟨h1, h2⟩ := can_ints l
    constructor
    · rw [List.map_cons, PyData.canLayAll0, h1]
      simp [PyData.canLay0]
    · rw [List.map_cons, PyData.depthAll, h2]
      simp [PyData.depth]
theorem shaped_intsT (l : List Int) : SeqAt.shaped (.tuple (l.map PyData.int)) = true := by
  obtain ⟨h1, h2⟩ := can_ints l
  simp [SeqAt.shaped, PyData.canLay0, PyData.depth, h1, h2]
theorem eqv_intsT (l : List Int) : PyData.eqv (.tuple (l.map PyData.int)) (.tuple (l.map PyData.int)) = true := SeqAt.eqv_refl _ (by
  simp only [PyData.canLay0]
  exact (can_ints l).1)
/-- what the first statements of right have drawn -/
structure Dr where
  p : Addr
  d : Nat
  gv : Addr
  lo : Addr
  du : Addr
  rs : List Addr
  us : List Addr
  L0 : List (List Nat)
  h1 : 1 ≤ d
  h8 : d ≤ 8
  len : ∀ u ∈ L0, u.length = d
  low : ∀ u ∈ L0, ∀ e ∈ u, e ≤ 8
  few : L0.length ≤ 7
abbrev Dr.L (t : Dr) : List (List Nat) := M7.leastN t.L0
theorem Dr.lenL (t : Dr) : ∀ u ∈ t.L, u.length = t.d := M7.len_least t.len
theorem Dr.lowL (t : Dr) : ∀ u ∈ t.L, ∀ e ∈ u, e ≤ 8 := fun u hu => t.low u (M7.mem_least.mp hu).1
theorem Dr.fewL (t : Dr) : t.L.length ≤ 7 := Nat.le_trans (least_short _) t.few
theorem Dr.low9 (t : Dr) : ∀ u ∈ t.L, Low9 u := fun u hu => ⟨by rw [t.lenL u hu]; exact t.h8, t.lowL u hu⟩
abbrev σR (t : Dr) : L2.St := [some (.ref t.p), some (.int ((t.d : Nat) : Int)), some (.ref t.gv), some (.ref t.lo), some (.ref t.du), none, none, none, none, none, none, none, none, none]
structure InR (K : PySem.W.Frag) (C : Addr) (t : Dr) (H : Hp) : Prop where
  lot : LotAt K C H t.lo t.d t.L
  due : H t.du = some (.lst (t.us.map V.ref))
  dueT : Tups K H t.us t.L
  giv : SqT K H t.gv (t.rs.map V.ref)
  givT : Tups K H t.rs t.L0
theorem InR.same {K : PySem.W.Frag} {C : Addr} {t : Dr} {H H' : Hp} (s : Same H H') (h : InR K C t H) : InR K C t H' := ⟨h.lot.same s, s _ _ h.due, h.dueT.same s, same_sqt s h.giv, h.givT.same s⟩
def EvR (K : PySem.W.Frag) (C : Addr) (t : Dr) : EvT := fun σ H => σ = σR t ∧ InR K C t H
theorem kpR {K : PySem.W.Frag} {C : Addr} (t : Dr) : Kept (EvR K C t) := ⟨fun σ H H' s ⟨h1, h2⟩ => ⟨h1, h2.same s⟩⟩
theorem Dr.lsL (t : Dr) {K : PySem.W.Frag} {H : Hp} (h : Tups K H t.us t.L) : t.us.length = t.L.length := h.length
abbrev stR (i : Nat) : Stmt := (defBody s_w_right).getD i (.Pass ⟨0, 0, 0, 0⟩)
abbrev XR {K : PySem.W.Frag} {mg : Str → Option Value} (G : LotsT K mg) (P : Program) (w : World) (base : Heap) (cdv : Value) (A : Around) (outer : List Env) (s : Shared) (H : Hp) (E : XK) : Cx :=
  (cxOf CX0 P w K mg base N_w_right "_law_right" (defScope s_w_right) G.T.a_w_right cdv A outer s H E).nox
end K6

namespace K6
open PySem PySem.Spec PyProof.Rows L2 RZ L5 R7
section
variable {P : Program} {w : World} {K : PySem.W.Frag} {mg : Str → Option Value} {base : Heap} {cdv : Value} {A : Around} {outer : List Env} {s : Shared} {H0 : Hp} {E : XK}
theorem st_if1 (G : LotsT K mg) (t : Dr) (hr : Room 8 (XR G P w base cdv A outer s H0 E).A) : PS (XR G P w base cdv A outer s H0 E) (stR 3) (tIf (EvR K G.O.C t)) := by
  have sb : Sub (XR G P w base cdv A outer s H0 E) 1 (XR G P w base cdv A outer s H0 E).A.in1.in1 := ⟨((hr.mono (show 3 ≤ 8 by decide)).in1).in1, rfl⟩
  refine ps_ifNo (kpR t) (PW.pt (no_or (kpR t) (PT.weak' (pt_cmpR (op_neD hr.units) (pe_prop (E := E0) (pv 3) G.O.cl G.R.PM (ok_mem G.O G.R) (hr.mono (by decide)) G.R.bM .nil pass0 rfl)
      (pe_callTy call_tuple_of (by rfl) G.T.z_tuple boot_tuple (pa_cons (pv 4) pa_nil)) (nomark _)) ?c1)
    (no_or (kpR t) (PT.weak' (pt_cmpR op_ne (pe_prop (E := E0) (pv 3) G.O.cl G.R.PL (ok_ltr G.O G.R) (hr.mono (by decide)) G.R.bL .nil pass0 rfl) (pv 1) (nomark _)) ?c2)
    (no_or (kpR t) (PT.weak' (pt_cmpR (op_neD hr.units) (pe_callTy (W7.call_listO (fun _ _ z => z) G.D.aT G.D.nT (lot_iterS G.T G.O G.D sb G.z_iter) G.D.aN G.D.nN (ok_len G.T G.O G.Z) (hr.mono (by decide)) G.Z.bN pass0) (by rfl) G.T.z_list boot_list (pa_cons (pv 3) pa_nil)) (pv 4) (nomark _)) ?c3)
    (no_last (PT.weak' (pt_cmpR op_ne (pe_callB (W7.call_lenOwn1 G.D.aN G.D.nN (ok_len G.T G.O G.Z) (hr.mono (by decide)) G.Z.bN pass0) (by rfl) G.T.z_len boot_len (pa_cons (pv 3) pa_nil)) (pe_callB call_len_seq (by rfl) G.T.z_len boot_len (pa_cons (pv 4) pa_nil)) (nomark _)) ?c4)))))) (pss_one (ps_ret pe_bl))
  case c1 =>
    rintro σ H Q ⟨⟨rfl, h⟩, q⟩
    have ia := h.lot
    obtain ⟨dx, m, qs, a1, _⟩ := ia
    refine ⟨_, rfl, t.lo, dx, _, rfl, a1, t.lo, t.d, t.L, rfl, h.lot, fun m5 qs5 hm5 hT5 => ?_⟩
    refine ⟨_, rfl, t.du, _, rfl, .inl ⟨SqL.of h.due, fun z hz => ?_⟩⟩
    have sz := same_new hz (.tup (t.us.map V.ref))
    refine ⟨_, _, .tup (same_sqt sz hm5) (dp_tups (hT5.same sz)), .tup (SqT.of upd_same) (dp_tups (h.dueT.same sz)), shaped_tupsT _, shaped_tupsT _, _, rfl, ?_⟩
    rw [eqv_tupsSame]
    exact q _ sz
  case c2 =>
    rintro σ H Q ⟨⟨rfl, h⟩, q⟩
    have ia := h.lot
    obtain ⟨dx, m, qs, a1, _⟩ := ia
    refine ⟨_, rfl, t.lo, dx, _, rfl, a1, t.lo, t.d, t.L, rfl, h.lot, _, rfl, rfl, _, rfl, ?_⟩
    rw [decide_eq_true rfl]
    exact q _ (Same.refl H)
  case c3 =>
    rintro σ H Q ⟨⟨rfl, h⟩, q⟩
    refine ⟨_, rfl, ?_⟩
    show W7.rListO (XR G P w base cdv A outer s H0 E).K G.O.C (LotM_at (XR G P w base cdv A outer s H0 E).K G.O.C) (sp_len K G.O.C) [V.ref t.lo] H (fun x H1 => tVar 4 (σR t) H1 fun y H2 => rNeD (XR G P w base cdv A outer s H0 E).K x y H2 fun x H' => ∃ k, x = V.bl k ∧ Q k H')
    refine list_lot (O := G.O) h.lot (Nat.le_trans t.fewL (by decide)) (fun H1 z qs s1 hz hT => ?_)
    refine ⟨_, rfl, _, _, .lst (SqL.of hz) (dp_tups hT), .lst (SqL.of (s1 _ _ h.due)) (dp_tups (h.dueT.same s1)), shaped_tups _, shaped_tups _, _, rfl, ?_⟩
    rw [eqv_tups]
    exact q _ s1
  case c4 =>
    rintro σ H Q ⟨⟨rfl, h⟩, q⟩
    have ia := h.lot
    obtain ⟨dx, m, qs, a1, _⟩ := ia
    have hf := t.fewL
    refine ⟨_, rfl, t.lo, dx, _, rfl, a1, t.lo, t.d, t.L, rfl, h.lot, t.L.length, rfl, by omega, ?_⟩
    refine ⟨_, rfl, t.du, _, rfl, .inl (SqL.of h.due), rfl, _, rfl, ?_⟩
    rw [List.length_map, t.lsL h.dueT, decide_eq_true rfl]
    exact q _ (Same.refl H)
theorem st_if4 (G : LotsT K mg) (t : Dr) (hr : Room 8 (XR G P w base cdv A outer s H0 E).A) : PS (XR G P w base cdv A outer s H0 E) (stR 6) (tIf (EvR K G.O.C t)) := by
  refine ps_ifNo (kpR t) (PT.weak' (pt_cmpR op_ne (pe_callTy (W7.call_strOwn1 G.D.aS G.D.nS (ok_strl G.T G.O G.D) (hr.mono (by decide)) G.D.bS pass0) (by rfl) G.T.z_str boot_str (pa_cons (pv 3) pa_nil))
    (pe_call (ok_wltx G.T) (hr.mono (by decide)) (by rfl) G.T.m_w_lot_text G.T.F_w_lot_text.kp G.T.b_w_lot_text .nil pass0 (pa_cons (pv 4) pa_nil)) (nomark _)) ?c1) (pss_one (ps_ret pe_bl))
  case c1 =>
    rintro σ H Q ⟨⟨rfl, h⟩, q⟩
    have ia := h.lot
    obtain ⟨dx, m, qs, a1, _⟩ := ia
    have hf := t.fewL
    refine ⟨_, rfl, t.lo, dx, _, rfl, a1, t.lo, t.d, t.L, rfl, h.lot, t.low9, by omega, fun H1 s1 => ⟨_, rfl, ?_⟩⟩
    refine ⟨_, rfl, t.du, t.us, t.L, rfl, s1 _ _ h.due, h.dueT.same s1, t.low9, by omega, fun H2 s2 => ?_⟩
    refine ⟨rfl, _, rfl, ?_⟩
    rw [decide_eq_true rfl]
    exact q _ (s1.trans s2)
end
end K6

namespace K6
open PySem PySem.Spec PyProof.Rows L2 RZ L5 R7
theorem z0_in {d : Nat} {L0 : List (List Nat)} (h : ∀ u ∈ L0, u.length = d) : ((M7.leastN L0).map encT).any (fun z => PyData.eqv z (encT (M7.z0 d))) = decide (M7.leastN L0 = [M7.z0 d]) := by
  rw [Bool.eq_iff_iff, decide_eq_true_iff, List.any_eq_true]
  constructor
  · rintro ⟨z, hz, e⟩
    obtain ⟨u, hu, rfl⟩ := List.mem_map.mp hz
    rw [eqv_tupE] at e
    obtain rfl := of_decide_eq_true e
    refine M7.asc_unique (M7.asc_least h) (List.pairwise_singleton _ _) fun x => ?_
    rw [List.mem_singleton]
    constructor
    · intro hx
      have h1 := (M7.mem_least.mp hx).2 (M7.z0 d) (M7.mem_least.mp hu).1
      have h2 := M7.fit_z x
      rw [h x (M7.mem_least.mp hx).1] at h2
      exact (h1 h2).symm
    · rintro rfl
      exact hu
  · intro e
    refine ⟨encT (M7.z0 d), List.mem_map_of_mem (by rw [e]; exact List.mem_singleton.mpr rfl), ?_⟩
    rw [eqv_tupE, decide_eq_true rfl]
theorem sq_nil (L : List (List Nat)) : decide ((L.filter fun t => !t.all fun e => decide (e ≤ 1)).map encT = []) = L.all fun t => t.all fun e => decide (e ≤ 1) := by
  rw [Bool.eq_iff_iff, decide_eq_true_iff, List.map_eq_nil_iff, List.filter_eq_nil_iff, List.all_eq_true]
  constructor
  · intro h x hx
    have := h x hx
    cases e : x.all fun e => decide (e ≤ 1) with
    | true => rfl
    | false => rw [e] at this; exact absurd rfl this
  · intro h x hx
    rw [h x hx]
    exact Bool.false_ne_true
section
variable {P : Program} {w : World} {K : PySem.W.Frag} {mg : Str → Option Value} {base : Heap} {cdv : Value} {A : Around} {outer : List Env} {s : Shared} {H0 : Hp} {E : XK}
theorem st_if2 (G : LotsT K mg) (t : Dr) (hr : Room 8 (XR G P w base cdv A outer s H0 E).A) : PS (XR G P w base cdv A outer s H0 E) (stR 4) (tIf (EvR K G.O.C t)) := by
  refine ps_ifNo (kpR t) (PW.pt (no_or (kpR t) (PT.weak' (pt_cmpR (op_neD hr.units) (pe_callTy (W7.call_boolOwn G.aB G.nB (ok_boolL G.T G.O G.B) (hr.mono (by decide)) G.B.bB pass0) (by rfl) G.T.z_bool boot_bool (pa_cons (pv 3) pa_nil))
      (pe_cmpR (op_neD hr.units) (pv 4) (pe_lst pa_nil) (nomark _)) (nomark _)) ?c1)
    (no_last (PT.weak' (pt_cmpR (op_neD hr.units) (pe_prop (E := E0) (pv 3) G.O.cl G.B.PD (ok_degs G.T G.O G.B) (hr.mono (by decide)) G.B.bD .nil pass0 rfl)
      (pe_callTy call_tuple_of (by rfl) G.T.z_tuple boot_tuple (pa_cons (pe_callB cr_sorted (by rfl) G.T.z_sorted (by decide +kernel) (pa_cons
        (pe_lc (own := [("_law_one", 11)]) (g := gName 11) (tt := tYes) rfl sc_w_right.nd (pi_list (pv 4)) (blkOk_by (own := [("_law_one", 11)]) (N := N_w_right) (sc := defScope s_w_right) (by decide +kernel))
          (fun _ _ _ _ _ => pg_name (i := 11) sc_w_right.nd rfl (Or.inl rfl)) (fun _ _ _ _ _ => pts_nil)
          (fun _ _ _ _ _ => pe_callB (show CallR _ _ (rSumT K) from cr_sumT rfl) (by rfl) G.T.z_sum boot_sum (pa_cons (pv 11) pa_nil))) pa_nil)) pa_nil)) (nomark _)) ?c2)))) (pss_one (ps_ret pe_bl))
  case c1 =>
    rintro σ H Q ⟨⟨rfl, h⟩, q⟩
    have ia := h.lot
    obtain ⟨dx, m, qs, a1, _⟩ := ia
    refine ⟨_, rfl, t.lo, dx, _, rfl, a1, t.lo, t.d, t.L, rfl, h.lot, _, rfl, ?_⟩
    refine ⟨_, rfl, Nat.zero_le _, fun z hz => ?_⟩
    have sz := same_new hz (.lst [])
    refine ⟨_, .list [], .lst (SqL.of (sz _ _ h.due)) (dp_tups (h.dueT.same sz)), .lst (SqL.of upd_same) .nil, shaped_tups _, by decide, ?_⟩
    have e3 : (!PyData.eqv (.list (t.L.map encT)) (.list [])) = !decide (t.L = []) := by
      rw [eqv_nilL]
      congr 1
      exact decide_eq_decide.mpr List.map_eq_nil_iff
    rw [e3]
    refine ⟨_, _, .bl _, .bl _, shaped_bool _, shaped_bool _, _, rfl, ?_⟩
    rw [eqv_bool]
    exact q _ sz
  case c2 =>
    rintro σ H Q ⟨⟨rfl, h⟩, q⟩
    have ia := h.lot
    obtain ⟨dx, m, qs, a1, _⟩ := ia
    have hf := t.fewL
    have hl := t.lsL h.dueT
    refine ⟨_, rfl, t.lo, dx, _, rfl, a1, t.lo, t.d, t.L, rfl, h.lot, by omega, fun H1 z ns s1 hz pm pw => ?_⟩
    refine ⟨_, rfl, t.du, rfl, ⟨_, SqL.of (s1 _ _ h.due)⟩, fun D hD => ?_⟩
    have sD := same_new hD (.lst [])
    refine lc_list (K := K) (a := t.du) (xs := t.us.map V.ref) (fun i H' => Same H1 H' ∧ H' D = some (.lst (((degI t.L).take i).map V.int))) ⟨sD, upd_same⟩ (fun i H' _ hh => SqL.of (hh.1 _ _ (s1 _ _ h.due))) ?_ ?_
    · rintro i x H' hx ⟨s2, hD2⟩
      obtain ⟨b, u, rfl, _, hu, hs⟩ := tups_get ((h.dueT.same s1).same s2) hx
      have hu2 : (degI t.L)[i]? = some ((u.sum : Nat) : Int) := by rw [List.getElem?_map, hu]; rfl
      refine ⟨rfl, _, rfl, b, u.map fun n => ((n : Nat) : Int), rfl, by rw [← nv_ints]; exact hs, _, hD2, ?_, same_updL s2 hD, ?_⟩
      · rw [List.length_map, List.length_take, List.length_map]
        exact sizeK (by omega)
      · rw [upd_same, take_more hu2, List.map_append, sum_cast]
        rfl
    · rintro H' ⟨s2, hD2⟩
      rw [List.length_map, List.take_of_length_le (by rw [List.length_map]; omega)] at hD2
      refine ⟨D, degI t.L, rfl, SqL.of hD2, by rw [List.length_map]; omega, fun ns2 p pm2 pw2 hp => ?_⟩
      have sp := same_new hp (.lst (ns2.map V.int))
      refine ⟨p, _, rfl, .inl ⟨SqL.of upd_same, fun z2 hz2 => ?_⟩⟩
      have sz := same_new hz2 (.tup (ns2.map V.int))
      have S := s2.trans (sp.trans sz)
      refine ⟨_, _, .tup (same_sqt S hz) (dp_ints ns), .tup (SqT.of upd_same) (dp_ints ns2), shaped_intsT _, shaped_intsT _, _, rfl, ?_⟩
      rw [sorted_one (pm.trans pm2.symm) pw pw2, eqv_intsT]
      exact q _ (s1.trans S)
theorem st_if3 (G : LotsT K mg) (t : Dr) (hr : Room 8 (XR G P w base cdv A outer s H0 E).A) : PS (XR G P w base cdv A outer s H0 E) (stR 5) (tIf (EvR K G.O.C t)) := by
  refine ps_ifNo (kpR t) (PW.pt (no_or (kpR t) (PT.weak' (pt_cmpR (op_neD hr.units) (pe_prop (E := E0) (pv 3) G.O.cl G.B.PA (ok_isall G.T G.O G.B) (hr.mono (by decide)) G.B.bA .nil pass0 rfl)
      (pe_cmpR (op_inD (by have := hr.un; omega)) (pe_op op_repB (pe_tup (pa_cons pe_int pa_nil)) (pv 1)) (pv 4) rfl) (nomark _)) ?c1)
    (no_last (PT.weak' (pt_cmpR (op_neD hr.units) (pe_prop (E := E0) (pv 3) G.O.cl G.B.PS (ok_issq G.T G.O G.B) (hr.mono (by decide)) G.B.bS .nil pass0 rfl)
      (pe_cmpR (op_eqD hr.units) (pe_lc (own := [("_law_one", 11)]) (g := gName 11) rfl sc_w_right.nd (pi_list (pv 4)) (blkOk_by (own := [("_law_one", 11)]) (N := N_w_right) (sc := defScope s_w_right) (by decide +kernel))
          (fun _ _ _ _ _ => pg_name (i := 11) sc_w_right.nd rfl (Or.inl rfl))
          (fun _ _ _ _ _ => pts_one (pt_cmpR op_gt (pe_callB (show CallR _ _ (rMaxT K) from cr_maxT rfl) (by rfl) G.T.z_max boot_max (pa_cons (pv 11) pa_nil)) pe_int (nomark _)))
          (fun _ _ _ _ _ => pv 11)) (pe_lst pa_nil) (nomark _)) (nomark _)) ?c2)))) (pss_one (ps_ret pe_bl))
  case c1 =>
    rintro σ H Q ⟨⟨rfl, h⟩, q⟩
    have ia := h.lot
    obtain ⟨dx, m, qs, a1, _⟩ := ia
    have h8 := t.h8
    refine ⟨_, rfl, t.lo, dx, _, rfl, a1, t.lo, t.d, t.L, rfl, h.lot, t.h8, fun H1 s1 => ?_⟩
    refine ⟨by show 1 ≤ sizeLine; decide, fun q1 hq1 => ?_⟩
    have sq := same_new hq1 (.tup [V.int 0])
    refine ⟨_, rfl, q1, ((t.d : Nat) : Int), [.int 0], rfl, rfl, SqT.of upd_same, by simp, by omega, by omega, by decide, fun H2 z s2 hz => ?_⟩
    rw [Int.toNat_natCast, zeros_nv] at hz
    have S := s1.trans (sq.trans s2)
    refine ⟨_, rfl, _, _, dp_tup hz, .lst (SqL.of (S _ _ h.due)) (dp_tups (h.dueT.same S)), shaped_tup _, shaped_tups _, ?_⟩
    rw [z0_in t.len]
    refine ⟨_, _, .bl _, .bl _, shaped_bool _, shaped_bool _, _, rfl, ?_⟩
    rw [eqv_bool]
    exact q _ S
  case c2 =>
    rintro σ H Q ⟨⟨rfl, h⟩, q⟩
    have ia := h.lot
    obtain ⟨dx, m, qs, a1, _⟩ := ia
    have hf := t.fewL
    have hl := t.lsL h.dueT
    refine ⟨_, rfl, t.lo, dx, _, rfl, a1, t.lo, t.d, t.L, rfl, h.lot, t.h1, t.lenL, by omega, fun H1 s1 => ?_⟩
    refine ⟨_, rfl, t.du, rfl, ⟨_, SqL.of (s1 _ _ h.due)⟩, fun D hD => ?_⟩
    have sD := same_new hD (.lst [])
    refine lc_list (K := K) (a := t.du) (xs := t.us.map V.ref) (fun i H' => Same H1 H' ∧ ∃ es : List Addr, H' D = some (.lst (es.map V.ref)) ∧ Tups K H' es ((t.L.take i).filter fun t => !t.all fun e => decide (e ≤ 1))) ⟨sD, [], upd_same, .nil⟩ (fun i H' _ hh => SqL.of (hh.1 _ _ (s1 _ _ h.due))) ?_ ?_
    · rintro i x H' hx ⟨s2, es, eD, hTe⟩
      obtain ⟨b, u, rfl, _, hu, hs⟩ := tups_get ((h.dueT.same s1).same s2) hx
      have hud := t.lenL u (List.mem_of_getElem? hu)
      have h1 := t.h1
      refine ⟨rfl, _, rfl, b, u.map fun n => ((n : Nat) : Int), rfl, by rw [← nv_ints]; exact hs, by rw [List.length_map]; omega, fun M hM hMx => ?_⟩
      have eM : decide (M > 1) = !u.all fun e => decide (e ≤ 1) := by
        rw [Bool.eq_iff_iff, decide_eq_true_iff, Bool.not_eq_true', ← Bool.not_eq_true, List.all_eq_true]
        constructor
        · intro h1 h2
          obtain ⟨e, he, rfl⟩ := List.mem_map.mp hM
          have := of_decide_eq_true (h2 e he)
          omega
        · intro h1
          by_cases z : M > 1
          · exact z
          · refine absurd (fun e he => ?_) h1
            have := hMx _ (List.mem_map_of_mem (f := fun n : Nat => ((n : Nat) : Int)) he)
            exact decide_eq_true (by omega)
      have hel : es.length ≤ 1000 := by
        have e1 : es.length = _ := hTe.length
        have e2 := List.length_filter_le (fun t : List Nat => !t.all fun e => decide (e ≤ 1)) (t.L.take i)
        rw [List.length_take] at e2
        omega
      refine ⟨_, _, rfl, rfl, _, rfl, ?_⟩
      rw [eM]
      cases hff : (!u.all fun e => decide (e ≤ 1)) with
      | true =>
        refine iteT ⟨_, rfl, _, eD, by rw [List.length_map]; exact sizeK (by omega), same_updL s2 hD, es ++ [b], by rw [upd_same, List.map_append]; rfl, ?_⟩
        rw [filter_yes (f := fun t => !t.all fun e => decide (e ≤ 1)) hu hff]
        exact (hTe.updL eD).app (.cons (sqt_updL eD hs) .nil)
      | false =>
        refine iteF ⟨s2, es, eD, ?_⟩
        rw [filter_no (f := fun t => !t.all fun e => decide (e ≤ 1)) hu hff]
        exact hTe
    · rintro H' ⟨s2, es, eD, hTe⟩
      rw [List.length_map, hl, List.take_length] at hTe
      refine ⟨Nat.zero_le _, fun z hz8 => ?_⟩
      have s8 := same_new hz8 (.lst [])
      refine ⟨_, .list [], .lst (SqL.of (s8 _ _ eD)) (dp_tups (hTe.same s8)), .lst (SqL.of upd_same) .nil, shaped_tups _, by decide, ?_⟩
      rw [eqv_nilL, sq_nil]
      refine ⟨_, _, .bl _, .bl _, shaped_bool _, shaped_bool _, _, rfl, ?_⟩
      rw [eqv_bool]
      exact q _ (s1.trans (s2.trans s8))
end
end K6

namespace K6
open PySem PySem.Spec PyProof.Rows L2 RZ L5 R7
abbrev σG (t : Dr) (v5 v6 v7 v8 v9 v10 : Option L2.V) : L2.St := [some (.ref t.p), some (.int ((t.d : Nat) : Int)), some (.ref t.gv), some (.ref t.lo), some (.ref t.du), v5, v6, v7, v8, v9, v10, none, none, none]
/-- the pail stands at p -/
def Pail (p : Addr) (H : Hp) : Prop := ∃ g x c : Int, H p = some (pailO g x c)
theorem Pail.same {p : Addr} {H H' : Hp} (s : Same H H') : Pail p H → Pail p H' := fun ⟨g, x, c, h⟩ => ⟨g, x, c, s _ _ h⟩
theorem ne_pail {p z : Addr} {H : Hp} {g x c : Int} {rs : List Addr} (hp : H p = some (pailO g x c)) (hz : H z = some (.lst (rs.map V.ref))) : z ≠ p := fun e => by
  rw [e, hp] at hz
  cases rs <;> cases hz
theorem InR.bar {K : PySem.W.Frag} {C : Addr} {t : Dr} {H H' : Hp} {g x c : Int} (hp : H t.p = some (pailO g x c)) (b : Bar t.p H H') (h : InR K C t H) : InR K C t H' :=
  ⟨bar_lot hp b h.lot, b _ _ (ne_pail hp h.due) h.due, bar_tups hp b h.dueT, bar_sqt hp b h.giv, bar_tups hp b h.givT⟩
/-- drawn products in a list -/
structure Many (K : PySem.W.Frag) (H : Hp) (d n : Nat) (z : Addr) (qs : List Addr) (S : List (List Nat)) : Prop where
  at_ : H z = some (.lst (qs.map V.ref))
  tups : Tups K H qs S
  few : S.length ≤ n
  four : 4 ≤ S.length
  len : ∀ u ∈ S, u.length = d
  low : ∀ u ∈ S, ∀ e ∈ u, e ≤ 60
theorem Many.same {K : PySem.W.Frag} {H H' : Hp} {d n : Nat} {z : Addr} {qs : List Addr} {S : List (List Nat)} (s : Same H H') (h : Many K H d n z qs S) : Many K H' d n z qs S := ⟨s _ _ h.at_, h.tups.same s, h.few, h.four, h.len, h.low⟩
theorem Many.bar {K : PySem.W.Frag} {H H' : Hp} {d n : Nat} {p z : Addr} {qs : List Addr} {S : List (List Nat)} {g x c : Int} (hp : H p = some (pailO g x c)) (b : Bar p H H') (h : Many K H d n z qs S) : Many K H' d n z qs S := ⟨b _ _ (ne_pail hp h.at_) h.at_, bar_tups hp b h.tups, h.few, h.four, h.len, h.low⟩
theorem tups_len {K : PySem.W.Frag} {H : Hp} {qs : List Addr} {S : List (List Nat)} (h : Tups K H qs S) : qs.length = S.length := h.length
section
variable {P : Program} {w : World} {K : PySem.W.Frag} {mg : Str → Option Value} {base : Heap} {cdv : Value} {A : Around} {outer : List Env} {s : Shared} {H0 : Hp} {E : XK}
theorem st7 (G : LotsT K mg) (hr : Room 8 (XR G P w base cdv A outer s H0 E).A) : PS (XR G P w base cdv A outer s H0 E) (stR 7) (fun D σ H => ∃ t, σ = σR t ∧ InR K G.O.C t H ∧ Pail t.p H ∧ ∀ H' z qs S, Bar t.p H H' → Pail t.p H' → InR K G.O.C t H' → Many K H' t.d 11 z qs S → D.nx (σG t (some (.ref z)) none none none none none) H') := by
  refine PS.weak' (ps_set (i := 5) sc_w_right.nd rfl (Or.inl rfl) (pe_op op_cat
    (pe_lc (own := [("_law_turn", 12)]) (g := gName 12) (tt := tYes) rfl sc_w_right.nd (pi_range1 rfl G.T.z_range (pa_cons pe_int pa_nil)) (blkOk_by (own := [("_law_turn", 12)]) (N := N_w_right) (sc := defScope s_w_right) (by decide +kernel))
        (fun _ _ _ _ _ => pg_name (i := 12) sc_w_right.nd rfl (Or.inl rfl)) (fun _ _ _ _ _ => pts_nil)
        (fun _ _ _ _ _ => pe_call (ok_wprod G.T) (hr.mono (by decide)) (by rfl) G.T.m_w_product G.T.F_w_product.kp G.T.b_w_product .nil pass0 (pa_cons (pv 0) (pa_cons (pv 1) (pa_cons pe_int pa_nil)))))
    (pe_callTy call_list_of (by rfl) G.T.z_list boot_list (pa_cons (pv 2) pa_nil)))) ?i
  rintro Dd σ H ⟨t, rfl, h, ⟨g, x, c, hp⟩, q⟩
  have h1 := t.h1
  have h8 := t.h8
  refine ⟨4, rfl, by decide, by decide, fun D hD => ?_⟩
  have hDp : D ≠ t.p := fun z => by rw [z, hp] at hD; cases hD
  refine lc_range (lo := 0) (n := (4 : Int).toNat) (fun i H' => ∃ (g x c : Int) (rs : List Addr) (L : List (List Nat)), Bar t.p H H' ∧ H' t.p = some (pailO g x c) ∧ H' D = some (.lst (rs.map V.ref)) ∧ Tups K H' rs L ∧ L.length = i ∧ (∀ u ∈ L, u.length = t.d) ∧ ∀ u ∈ L, ∀ e ∈ u, e ≤ 60)
    ⟨g, x, c, [], [], Bar.same (same_new hD _), by rw [upd_ne (Ne.symm hDp)]; exact hp, upd_same, .nil, rfl, fun _ h => (nomatch h), fun _ h => (nomatch h)⟩ (fun i H' hi hh => ?_) (fun H' hh => ?_)
  · obtain ⟨g1, x1, c1, rs, L, sb, hp1, eD, hT, hz, hl, ht⟩ := hh
    have hi4 : i < 4 := hi
    refine ⟨rfl, _, rfl, _, rfl, t.p, t.d, 60, g1, x1, c1, rfl, hp1, h1, h8, by decide, by decide, fun H2 z u g2 x2 c2 b2 hp2 hz2 hzl hzt => ?_⟩
    have eD2 : H2 D = some (.lst (rs.map V.ref)) := b2 D _ hDp eD
    have hrl := tups_len hT
    refine ⟨_, eD2, by rw [List.length_map]; exact sizeK (by omega), g2, x2, c2, rs ++ [z], L ++ [u], bar_updL (sb.trans b2) hD, by rw [upd_ne (Ne.symm hDp)]; exact hp2, by rw [upd_same, List.map_append]; rfl, ((bar_tups hp1 b2 hT).updL eD2).app (.cons (sqt_updL eD2 hz2) .nil), by rw [List.length_append, hz]; rfl, fun u hu => ?_, fun u hu => ?_⟩
    · rcases List.mem_append.mp hu with hu | hu
      · exact hl u hu
      · rw [List.mem_singleton.mp hu]
        exact hzl
    · rcases List.mem_append.mp hu with hu | hu
      · exact ht u hu
      · rw [List.mem_singleton.mp hu]
        exact hzt
  · obtain ⟨g1, x1, c1, rs, L, sb, hp1, eD, hT, hz, hl, ht⟩ := hh
    have hz4 : L.length = 4 := hz
    have h2 := h.bar hp sb
    refine ⟨_, rfl, t.gv, _, rfl, .inr h2.giv, fun l hl0 => ?_⟩
    have s3 := same_new hl0 (.lst (t.rs.map V.ref))
    have e1 := tups_len hT
    have e2 := tups_len h.givT
    have e3 := t.few
    refine ⟨D, l, _, _, rfl, rfl, s3 _ _ eD, upd_same, by rw [List.length_map, List.length_map]; exact Nat.le_of_lt (sizeK (by omega)), fun z hz0 => ?_⟩
    have s4 := same_new hz0 (.lst (rs.map V.ref ++ t.rs.map V.ref))
    have S := s3.trans s4
    refine q _ z (rs ++ t.rs) (L ++ t.L0) (sb.trans (Bar.same S)) ⟨g1, x1, c1, S _ _ hp1⟩ (h2.same S) ⟨by rw [upd_same, List.map_append], (hT.same S).app (h2.givT.same S), by rw [List.length_append]; omega, by rw [List.length_append]; omega, fun u hu => ?_, fun u hu => ?_⟩
    · exact (List.mem_append.mp hu).elim (hl u) (t.len u)
    · exact (List.mem_append.mp hu).elim (ht u) fun k e he => Nat.le_trans (t.low u k e he) (by decide)
theorem st8 (G : LotsT K mg) (hr : Room 8 (XR G P w base cdv A outer s H0 E).A) : PS (XR G P w base cdv A outer s H0 E) (stR 8) (fun D σ H => ∃ t z qs S, σ = σG t (some (.ref z)) none none none none none ∧ InR K G.O.C t H ∧ Pail t.p H ∧ Many K H t.d 11 z qs S ∧ ∀ H' z' qs' S', Bar t.p H H' → Pail t.p H' → InR K G.O.C t H' → Many K H' t.d 18 z' qs' S' → D.nx (σG t (some (.ref z')) none none none none none) H') := by
  refine PS.weak' (ps_set (i := 5) sc_w_right.nd rfl (Or.inl rfl) (pe_op op_cat (pv 5)
    (pe_lc (own := [("_law_one", 11)]) (g := gName 11) (tt := tYes) rfl sc_w_right.nd (pi_tup (pv 2)) (blkOk_by (own := [("_law_one", 11)]) (N := N_w_right) (sc := defScope s_w_right) (by decide +kernel))
        (fun _ _ _ _ _ => pg_name (i := 11) sc_w_right.nd rfl (Or.inl rfl)) (fun _ _ _ _ _ => pts_nil)
        (fun _ _ _ _ _ => pe_call (ok_w_lessened G.T) (hr.mono (by decide)) (by rfl) G.T.m_w_lessened G.T.F_w_lessened.kp G.T.b_w_lessened .nil pass0 (pa_cons (pv 11) (pa_cons (pe_call (ok_wprod G.T) (hr.mono (by decide)) (by rfl) G.T.m_w_product G.T.F_w_product.kp G.T.b_w_product .nil pass0 (pa_cons (pv 0) (pa_cons (pv 1) (pa_cons pe_int pa_nil)))) pa_nil)))))) ?i
  rintro Dd σ H ⟨t, zz, qs, S, rfl, h, ⟨g, x, c, hp⟩, hm, q⟩
  have h1 := t.h1
  have h8 := t.h8
  have e2 := tups_len h.givT
  have e3 := t.few
  refine ⟨_, rfl, _, rfl, t.gv, rfl, ⟨_, h.giv⟩, fun D hD => ?_⟩
  have hDp : D ≠ t.p := fun z => by rw [z, hp] at hD; cases hD
  refine lc_tup (K := K) (a := t.gv) (xs := t.rs.map V.ref) (fun i H' => ∃ (g x c : Int) (rs : List Addr) (L : List (List Nat)), Bar t.p H H' ∧ H' t.p = some (pailO g x c) ∧ H' D = some (.lst (rs.map V.ref)) ∧ Tups K H' rs L ∧ L.length = i ∧ (∀ u ∈ L, u.length = t.d) ∧ ∀ u ∈ L, ∀ e ∈ u, e ≤ 60)
    ⟨g, x, c, [], [], Bar.same (same_new hD _), by rw [upd_ne (Ne.symm hDp)]; exact hp, upd_same, .nil, rfl, fun _ h => (nomatch h), fun _ h => (nomatch h)⟩ (fun i H' _ hh => bar_sqt hp hh.choose_spec.choose_spec.choose_spec.choose_spec.choose_spec.1 h.giv) (fun i y H' hi hh => ?_) (fun H' hh => ?_)
  · obtain ⟨g1, x1, c1, rs, L, sb, hp1, eD, hT, hz, hl, ht⟩ := hh
    obtain ⟨b, u, rfl, _, hu, hs⟩ := tups_get (bar_tups hp sb h.givT) hi
    have hud := t.len u (List.mem_of_getElem? hu)
    have hul := t.low u (List.mem_of_getElem? hu)
    have hi7 : i < t.L0.length := (List.getElem?_eq_some_iff.mp hu).1
    refine ⟨rfl, _, rfl, _, rfl, _, rfl, t.p, t.d, 2, g1, x1, c1, rfl, hp1, h1, h8, by decide, by decide, fun H2 z v g2 x2 c2 b2 hp2 hz2 hzl hzt => ?_⟩
    refine ⟨b, z, u, v, rfl, bar_sqt hp1 b2 hs, hz2, by omega, by omega, fun H3 z3 s3 hz3 => ?_⟩
    rw [zi_les] at hz3
    have eD3 : H3 D = some (.lst (rs.map V.ref)) := s3 _ _ (b2 D _ hDp eD)
    have hrl := tups_len hT
    refine ⟨_, eD3, by rw [List.length_map]; exact sizeK (by omega), g2, x2, c2, rs ++ [z3], L ++ [List.zipWith (· - ·) u v], bar_updL (sb.trans (b2.trans (Bar.same s3))) hD, by rw [upd_ne (Ne.symm hDp)]; exact s3 _ _ hp2, by rw [upd_same, List.map_append]; rfl, (((bar_tups hp1 b2 hT).same s3).updL eD3).app (.cons (sqt_updL eD3 hz3) .nil), by rw [List.length_append, hz]; rfl, fun k hk => ?_, fun k hk => ?_⟩
    · rcases List.mem_append.mp hk with hk | hk
      · exact hl k hk
      · rw [List.mem_singleton.mp hk, List.length_zipWith]
        omega
    · rcases List.mem_append.mp hk with hk | hk
      · exact ht k hk
      · rw [List.mem_singleton.mp hk]
        intro e he
        obtain ⟨i, hi⟩ := List.getElem?_of_mem he
        rw [List.getElem?_zipWith] at hi
        cases e1 : u[i]? with
        | none => rw [e1] at hi; cases v[i]? <;> cases hi
        | some m =>
          have := hul m (List.mem_of_getElem? e1)
          cases e2 : v[i]? with
          | none => rw [e1, e2] at hi; cases hi
          | some n =>
            rw [e1, e2] at hi
            have := Option.some.inj hi
            omega
  · obtain ⟨g1, x1, c1, rs, L, sb, hp1, eD, hT, hz, hl, ht⟩ := hh
    rw [List.length_map] at hz
    have h2 := h.bar hp sb
    have hm2 := hm.bar hp sb
    have e1 := tups_len hT
    have e4 := tups_len hm.tups
    have e5 := hm.few
    have e6 := hm.four
    refine ⟨zz, D, _, _, rfl, rfl, hm2.at_, eD, by rw [List.length_map, List.length_map]; exact Nat.le_of_lt (sizeK (by omega)), fun z hz0 => ?_⟩
    have s4 := same_new hz0 (.lst (qs.map V.ref ++ rs.map V.ref))
    refine q _ z (qs ++ rs) (S ++ L) (sb.trans (Bar.same s4)) ⟨g1, x1, c1, s4 _ _ hp1⟩ (h2.same s4) ⟨by rw [upd_same, List.map_append], (hm2.tups.same s4).app (hT.same s4), by rw [List.length_append]; omega, by rw [List.length_append]; omega, fun u hu => ?_, fun u hu => ?_⟩
    · exact (List.mem_append.mp hu).elim (hm.len u) (hl u)
    · exact (List.mem_append.mp hu).elim (hm.low u) (ht u)
theorem st9 (G : LotsT K mg) (hr : Room 8 (XR G P w base cdv A outer s H0 E).A) : PS (XR G P w base cdv A outer s H0 E) (stR 9) (fun D σ H => ∃ t z qs S, σ = σG t (some (.ref z)) none none none none none ∧ InR K G.O.C t H ∧ Many K H t.d 18 z qs S ∧ ∀ H' v6, Same H H' → D.nx (σG t (some (.ref z)) v6 none none none none) H') := by
  refine PS.weak' (ps_for PassesOwn.never rfl (pi_list (pv 5)) (pg_name (i := 6) sc_w_right.nd rfl (Or.inl rfl))
    (pss_one (ps_if (pt_cmpR (op_neD hr.units) (pe_cmpR (W7.op_inOwn G.D.aH G.D.nH (ok_has G.T G.O G.Z) (hr.mono (by decide)) G.Z.bH pass0) (pv 6) (pv 3) rfl)
      (pe_call (ok_whas G.T) (hr.mono (by decide)) (by rfl) G.T.m_w_has G.T.F_w_has.kp G.T.b_w_has .nil pass0 (pa_cons (pv 4) (pa_cons (pv 6) pa_nil))) (nomark _)) (pss_one (ps_ret pe_bl)) pss_nil))) ?i
  rintro Dd σ H ⟨t, zz, qs, S, rfl, h, hm, q⟩
  have h8 := t.h8
  have hf := t.fewL
  refine ⟨_, rfl, zz, rfl, ⟨_, SqL.of hm.at_⟩, for_list (K := K) (a := zz) (xs := qs.map V.ref) (fun i σ H' => (∃ v6, σ = σG t (some (.ref zz)) v6 none none none none) ∧ Same H H') ⟨⟨none, rfl⟩, Same.refl H⟩ (fun i σ H' _ hh => SqL.of (hh.2 _ _ hm.at_)) ?_ ?_⟩
  · rintro i y σ H' hi ⟨⟨v6, rfl⟩, s1⟩
    obtain ⟨b, u, rfl, _, hu, hs⟩ := tups_get (hm.tups.same s1) hi
    have hud := hm.len u (List.mem_of_getElem? hu)
    have hul := hm.low u (List.mem_of_getElem? hu)
    have h2 := h.same s1
    have ia := h2.lot
    obtain ⟨dx, m, ks, a1, _⟩ := ia
    refine ⟨_, rfl, _, rfl, t.lo, dx, _, rfl, a1, t.lo, b, t.d, t.L, u, rfl, h2.lot, hs, hud, h8, hul, t.lenL, fun H3 s3 => ⟨_, rfl, ?_⟩⟩
    refine ⟨_, rfl, _, rfl, t.du, b, t.us, t.L, u, rfl, s3 _ _ h2.due, h2.dueT.same s3, same_sqt s3 hs, by omega, fun k hk => by rw [t.lenL k hk, hud], by omega, fun H4 s4 => ?_⟩
    refine ⟨.bool (t.L.any fun k => M7.fitB k u), .bool (t.L.any fun k => M7.fitB k u), .bl _, .bl _, shaped_bool _, shaped_bool _, _, rfl, ?_⟩
    rw [eqv_bool]
    exact iteF ⟨⟨_, rfl⟩, s1.trans (s3.trans s4)⟩
  · rintro σ H' ⟨⟨v6, rfl⟩, s1⟩
    exact q H' v6 s1
end
end K6

namespace K6
open PySem PySem.Spec PyProof.Rows L2 RZ L5 R7
theorem cut_init (u : List Nat) : cutV (nv u) none (some (-1)) = nv (u.take (u.length - 1)) := by
  unfold cutV
  rw [HT.sIx_none, List.drop_zero, nv_take, nv_len]
  congr 1
  show (if (-1 : Int) < 0 then ((-1 : Int) + ((u.length : Nat) : Int)).toNat else min (-1 : Int).toNat u.length) - 0 = _
  rw [if_pos (by decide)]
  omega
theorem cut_tail (u : List Nat) : cutV (nv u) (some 1) none = nv (u.drop 1) := by
  unfold cutV
  rw [show HT.sIx (nv u).length 0 (some 1) = min 1 (nv u).length from HT.sIx_nat _ _ 1, HT.sIx_none]
  cases u with
  | nil => rfl
  | cons a r =>
    show List.take _ (List.drop (min 1 (r.length.succ)) _) = _
    rw [nv_len]
    show List.take (r.length + 1 - min 1 (r.length + 1)) (List.drop (min 1 (r.length + 1)) (V.int _ :: nv r)) = nv r
    rw [show min 1 (r.length + 1) = 1 by omega]
    show List.take r.length (nv r) = nv r
    exact List.take_of_length_le (by rw [nv_len]; exact Nat.le_refl _)
/-- no product in d letters -/
def Bad (K : PySem.W.Frag) (H : Hp) (d : Nat) (v : V) : Prop := ∃ o, Va K H v o ∧ areB o ((d : Nat) : Int) 60 = false
theorem Bad.same {K : PySem.W.Frag} {H H' : Hp} {d : Nat} {v : V} (s : Same H H') : Bad K H d v → Bad K H' d v := fun ⟨o, h, e⟩ => ⟨o, h.same s, e⟩
theorem bad_len {K : PySem.W.Frag} {H : Hp} {d : Nat} {a : Addr} {w : List Nat} (h : SqT K H a (nv w)) (hl : w.length ≠ d) (hz : w.length ≤ 1000) : Bad K H d (.ref a) := by
  refine ⟨_, va_prod h hz, ?_⟩
  show (decide _ && _) = false
  rw [decide_eq_false (by rw [List.length_map]; omega)]
  rfl
theorem bad_head {K : PySem.W.Frag} {H : Hp} {d : Nat} {a : Addr} {v : V} {o : Option Int} {w : List Nat} (h : SqT K H a (v :: nv w)) (e : El K H v o) (ho : inB o 0 60 = false) (hz : w.length ≤ 900) : Bad K H d (.ref a) := by
  refine ⟨_, .tup h (.cons e (els_nv w)) (by rw [List.length_cons, nv_len]; omega), ?_⟩
  show (_ && (List.all (o :: _) _)) = false
  rw [List.all_cons, ho, Bool.false_and, Bool.and_false]
theorem inV_bad {L : List (List Nat)} {d : Nat} {o : Option (List (Option Int))} (h : areB o ((d : Nat) : Int) 60 = false) : inV L d o = false := by
  cases o with
  | none => rfl
  | some os =>
    show (areB _ _ _ && _) = _
    rw [h, Bool.false_and]
section
variable {P : Program} {w : World} {K : PySem.W.Frag} {mg : Str → Option Value} {base : Heap} {cdv : Value} {A : Around} {outer : List Env} {s : Shared} {H0 : Hp} {E : XK}
theorem st10 (G : LotsT K mg) (hr : Room 8 (XR G P w base cdv A outer s H0 E).A) : PS (XR G P w base cdv A outer s H0 E) (stR 10) (fun D σ H => ∃ t z qs S v6, σ = σG t (some (.ref z)) v6 none none none none ∧ Many K H t.d 18 z qs S ∧ ∀ f u, SqT K H f (nv u) → u.length = t.d → (∀ e ∈ u, e ≤ 60) → D.nx (σG t (some (.ref z)) v6 (some (.ref f)) none none none) H) := by
  refine PS.weak' (ps_set (i := 7) sc_w_right.nd rfl (Or.inl rfl) (pe_ix ix_list (pv 5) pe_int (fun _ _ => rfl))) ?i
  rintro Dd σ H ⟨t, z, qs, S, v6, rfl, hm, q⟩
  have h4 := hm.four
  have hl := tups_len hm.tups
  obtain ⟨b, u, e1, _, hu, hs⟩ := tups_get (i := 0) (x := (qs.map V.ref)[0]'(by rw [List.length_map]; omega)) hm.tups (List.getElem?_eq_getElem _)
  have hum := List.mem_of_getElem? hu
  refine ⟨_, rfl, z, _, 0, .ref b, rfl, rfl, SqL.of hm.at_, atI_nat (by rw [← e1]; exact List.getElem?_eq_getElem _), ?_⟩
  exact q b u hs (hm.len u hum) (hm.low u hum)
theorem st11 (G : LotsT K mg) (hr : Room 8 (XR G P w base cdv A outer s H0 E).A) : PS (XR G P w base cdv A outer s H0 E) (stR 11) (fun D σ H => ∃ t v5 v6 f u, σ = σG t v5 v6 (some (.ref f)) none none none ∧ InR K G.O.C t H ∧ SqT K H f (nv u) ∧ u.length = t.d ∧ ∀ H' o xs, Same H H' → H' o = some (.lst xs) → xs.length = 9 → (∀ v ∈ xs, Bad K H' t.d v) → D.nx (σG t v5 v6 (some (.ref f)) (some (.ref o)) none none) H') := by
  refine PS.weak' (ps_set (i := 8) sc_w_right.nd rfl (Or.inl rfl) (pe_lst (pa_cons (pe_op op_catB (pv 7) (pe_tup (pa_cons pe_int pa_nil)))
    (pa_cons (pe_slice sl_tupB (pv 7) po_none (po_some (pe_un un_neg pe_int)))
    (pa_cons (pe_callTy call_list_of (by rfl) G.T.z_list boot_list (pa_cons (pv 7) pa_nil))
    (pa_cons (pe_op op_catB (pe_tup (pa_cons pe_bl pa_nil)) (pe_slice sl_tupB (pv 7) (po_some pe_int) po_none))
    (pa_cons (pe_op op_catB (pe_tup (pa_cons (pe_un un_neg pe_int) pa_nil)) (pe_slice sl_tupB (pv 7) (po_some pe_int) po_none))
    (pa_cons (pe_op op_catB (pe_tup (pa_cons pe_int pa_nil)) (pe_slice sl_tupB (pv 7) (po_some pe_int) po_none))
    (pa_cons pe_non (pa_cons pe_str (pa_cons (pv 3) pa_nil))))))))))) ?i
  rintro Dd σ H ⟨t, v5, v6, f, u, rfl, h, hf, hud, q⟩
  have h1 := t.h1
  have h8 := t.h8
  have hdr : (u.drop 1).length ≤ 900 := by rw [List.length_drop]; omega
  have z8 : ∀ n : Nat, n ≤ 900 → 1 + n ≤ sizeLine := fun n hn => Nat.le_of_lt (sizeK (by omega))
  refine ⟨_, rfl, by show 1 ≤ sizeLine; decide, fun z0 hz0 => ?_⟩
  have t0 := same_new hz0 (.tup [V.int 0])
  refine ⟨f, z0, _, _, rfl, rfl, same_sqt t0 hf, SqT.of upd_same, by rw [nv_len]; exact Nat.le_of_lt (sizeK (by show _ + 1 ≤ _; omega)), fun H1 z1 t1 hz1 => ?_⟩
  have S1 := t0.trans t1
  refine ⟨_, rfl, _, rfl, _, rfl, f, _, rfl, same_sqt S1 hf, fun H2 z2 t2 hz2 => ?_⟩
  rw [cut_init] at hz2
  have S2 := S1.trans t2
  refine ⟨_, rfl, f, _, rfl, .inr (same_sqt S2 hf), fun z3 hz3 => ?_⟩
  have t3 := same_new hz3 (.lst (nv u))
  have S3 := S2.trans t3
  refine ⟨by show 1 ≤ sizeLine; decide, fun y4 hy4 => ?_⟩
  have t4 := same_new hy4 (.tup [V.bl true])
  have S4 := S3.trans t4
  refine ⟨_, rfl, _, rfl, f, _, rfl, same_sqt S4 hf, fun H5 y5 t5 hy5 => ?_⟩
  rw [cut_tail] at hy5
  refine ⟨y4, y5, _, _, rfl, rfl, SqT.of (t5 _ _ upd_same), hy5, by rw [nv_len]; exact z8 _ hdr, fun H6 z6 t6 hz6 => ?_⟩
  have S6 := S4.trans (t5.trans t6)
  refine ⟨_, rfl, by show 1 ≤ sizeLine; decide, fun y7 hy7 => ?_⟩
  have t7 := same_new hy7 (.tup [V.int (-1)])
  have S7 := S6.trans t7
  refine ⟨_, rfl, _, rfl, f, _, rfl, same_sqt S7 hf, fun H8 y8 t8 hy8 => ?_⟩
  rw [cut_tail] at hy8
  refine ⟨y7, y8, _, _, rfl, rfl, SqT.of (t8 _ _ upd_same), hy8, by rw [nv_len]; exact z8 _ hdr, fun H9 z9 t9 hz9 => ?_⟩
  have S9 := S7.trans (t8.trans t9)
  refine ⟨by show 1 ≤ sizeLine; decide, fun y10 hy10 => ?_⟩
  have t10 := same_new hy10 (.tup [V.int 61])
  have S10 := S9.trans t10
  refine ⟨_, rfl, _, rfl, f, _, rfl, same_sqt S10 hf, fun H11 y11 t11 hy11 => ?_⟩
  rw [cut_tail] at hy11
  refine ⟨y10, y11, _, _, rfl, rfl, SqT.of (t11 _ _ upd_same), hy11, by rw [nv_len]; exact z8 _ hdr, fun H12 z12 t12 hz12 => ?_⟩
  have S12 := S10.trans (t11.trans t12)
  refine ⟨_, rfl, by show 9 ≤ sizeLine; decide, fun o ho => ?_⟩
  have tO := same_new ho (.lst [V.ref z1, V.ref z2, V.ref z3, V.ref z6, V.ref z9, V.ref z12, V.non, V.str "x1", V.ref t.lo])
  have T12 := t12.trans tO
  have T10 := t10.trans (t11.trans T12)
  have T9 := t9.trans T10
  have T7 := t7.trans (t8.trans T9)
  have T6 := t6.trans T7
  have T4 := t4.trans (t5.trans T6)
  have T2 := t3.trans T4
  refine q _ o _ (S12.trans tO) upd_same rfl fun v hv => ?_
  have hlo := h.lot.same (S12.trans tO)
  obtain ⟨dx, m, ks, a1, _⟩ := hlo
  simp only [List.mem_cons, List.not_mem_nil, or_false] at hv
  rcases hv with rfl | rfl | rfl | rfl | rfl | rfl | rfl | rfl | rfl
  · have hz1' : SqT K H1 z1 (nv (u ++ [0])) := by rw [nv_app]; exact hz1
    exact bad_len (same_sqt (t2.trans T2) hz1') (by rw [List.length_append]; show _ + 1 ≠ _; omega) (by rw [List.length_append]; show _ + 1 ≤ _; omega)
  · exact bad_len (same_sqt T2 hz2) (by rw [List.length_take]; omega) (by rw [List.length_take]; omega)
  · exact ⟨_, .lst (SqL.of (T4 _ _ upd_same)), rfl⟩
  · exact bad_head (same_sqt T7 hz6) (.bl true) rfl hdr
  · exact bad_head (same_sqt T10 hz9) (.int (-1)) rfl hdr
  · exact bad_head (same_sqt tO hz12) (.int 61) rfl hdr
  · exact ⟨_, .non, rfl⟩
  · exact ⟨_, .str _, rfl⟩
  · exact ⟨_, .own a1 (fun H' e => G.W.ty H' _ _ _ e) G.kt, rfl⟩
theorem st12 (G : LotsT K mg) (hr : Room 8 (XR G P w base cdv A outer s H0 E).A) : PS (XR G P w base cdv A outer s H0 E) (stR 12) (fun D σ H => ∃ t v5 v6 v7 o xs, σ = σG t v5 v6 v7 (some (.ref o)) none none ∧ InR K G.O.C t H ∧ H o = some (.lst xs) ∧ (∀ v ∈ xs, Bad K H t.d v) ∧ ∀ H', Same H H' → D.nx σ H') := by
  refine PS.weak' (ps_if (pt_cmpR (op_neD hr.units)
    (pe_lc (own := [("_law_value", 13)]) (g := gName 13) rfl sc_w_right.nd (pi_list (pv 8)) (blkOk_by (own := [("_law_value", 13)]) (N := N_w_right) (sc := defScope s_w_right) (by decide +kernel))
      (fun _ _ _ _ _ => pg_name (i := 13) sc_w_right.nd rfl (Or.inl rfl))
      (fun _ _ _ _ _ => pts_one (pt_cmpR (W7.op_inOwn G.D.aH G.D.nH (ok_hasV G.T G.O G.Z) (hr.mono (by decide)) G.Z.bH pass0) (pv 13) (pv 3) rfl))
      (fun _ _ _ _ _ => pv 13)) (pe_lst pa_nil) (nomark _)) (pss_one (ps_ret pe_bl)) pss_nil) ?i
  rintro Dd σ H ⟨t, v5, v6, v7, o, xs, rfl, h, ho, hb, q⟩
  refine ⟨_, rfl, o, rfl, ⟨_, SqL.of ho⟩, fun D hD => ?_⟩
  have sD := same_new hD (.lst [])
  refine lc_list (K := K) (a := o) (xs := xs) (fun i H' => Same H H' ∧ H' D = some (.lst [])) ⟨sD, upd_same⟩ (fun i H' _ hh => SqL.of (hh.1 _ _ ho)) ?_ ?_
  · rintro i v H' hi ⟨s2, hD2⟩
    obtain ⟨ov, hva, hbad⟩ := (hb v (List.mem_of_getElem? hi)).same s2
    have h2 := h.same s2
    have ia := h2.lot
    obtain ⟨dx, m, ks, a1, _⟩ := ia
    refine ⟨rfl, _, rfl, _, rfl, t.lo, dx, _, rfl, a1, t.lo, v, t.d, t.L, ov, rfl, h2.lot, hva, t.lenL, fun H3 s3 => ⟨false, congrArg V.bl (inV_bad hbad), _, rfl, iteF ⟨s2.trans s3, s3 _ _ hD2⟩⟩⟩
  · rintro H' ⟨s2, hD2⟩
    refine ⟨Nat.zero_le _, fun z hz => ?_⟩
    have s3 := same_new hz (.lst [])
    refine ⟨.list [], .list [], .lst (SqL.of (s3 _ _ hD2)) .nil, .lst (SqL.of upd_same) .nil, by decide, by decide, _, rfl, ?_⟩
    rw [show PyData.eqv (.list []) (.list []) = true by decide +kernel]
    exact iteF (q _ (s2.trans s3))
end
end K6

namespace K6
open PySem PySem.Spec PyProof.Rows L2 RZ L5 R7
theorem make_at {K : PySem.W.Frag} {C : Addr} {H : Hp} {QQ : Hp → Prop} {z : Addr} {d : Nat} {rs : List Addr} {L M : List (List Nat)} {y dx : Addr} (hz : SqT K H z (rs.map V.ref)) (hT : Tups K H rs L) (hf : Few d L) (h8 : d ≤ 8) (low : ∀ t ∈ L, ∀ e ∈ t, e ≤ 8) (he : M7.leastN L = M) (ny : H y = none) (nd : H dx = none) (ne : dx ≠ y)
    (q : ∀ H', Same H H' → LotAt K C H' y d M → QQ H') :
    sp_init K C [.ref y, .int ((d : Nat) : Int), .ref z] (upd (upd H dx (.own y)) y (.ins C dx [])) (fun v H' => v = .non ∧ QQ H') E0 := by
  have sy : Same H (upd (upd H dx (.own y)) y (.ins C dx [])) := (same_new nd (.own y)).trans (same_new (by rw [upd_ne (Ne.symm ne)]; exact ny) _)
  refine ⟨y, dx, z, d, rs, L, rfl, upd_same, same_sqt sy hz, hT.same sy, hf, h8, low, fun H2 m2 rs2 st2 hx2 hm2 hT2 => ⟨rfl, ?_⟩⟩
  have S2 : Same H H2 := fun b o h => st2 b o (ne_of_none h ny) (sy b o h)
  rw [he] at hT2
  exact q H2 S2 ⟨dx, m2, rs2, hx2, hm2, hT2⟩
theorem few_lt {d n m : Nat} {L : List (List Nat)} (h1 : 1 ≤ d) (hl : ∀ t ∈ L, t.length = d) (hm : ∀ t ∈ L, ∀ e ∈ t, e ≤ m) (hn : L.length ≤ n) (hm' : m ≤ 60) (hn' : n ≤ 24) : Few d L := ⟨h1, hl, fun t ht e he => Nat.le_trans (hm t ht e he) hm', by omega, Nat.le_trans (M7.least_short L) (by omega)⟩
/-- given again, the other way round, with its least ones -/
theorem least_again {d : Nat} {L : List (List Nat)} (h : ∀ t ∈ L, t.length = d) : M7.leastN (L.reverse ++ M7.leastN L) = M7.leastN L := by
  refine M7.least_ext (d := d) (fun t ht => ?_) h fun t _ => ?_
  · rcases List.mem_append.mp ht with ht | ht
    · exact h t (List.mem_reverse.mp ht)
    · exact M7.len_least h t ht
  · constructor
    · rintro ⟨k, hk, hf⟩
      rcases List.mem_append.mp hk with hk | hk
      · exact ⟨k, List.mem_reverse.mp hk, hf⟩
      · exact ⟨k, (M7.mem_least.mp hk).1, hf⟩
    · rintro ⟨k, hk, hf⟩
      exact ⟨k, List.mem_append.mpr (.inl (List.mem_reverse.mpr hk)), hf⟩
theorem tups_rev {K : PySem.W.Frag} {H : Hp} : ∀ {rs : List Addr} {L : List (List Nat)}, Tups K H rs L → Tups K H rs.reverse L.reverse
  | _, _, .nil => .nil
  | _, _, .cons h t => by
    rw [List.reverse_cons, List.reverse_cons]
    exact (tups_rev t).app (.cons h .nil)
section
variable {P : Program} {w : World} {K : PySem.W.Frag} {mg : Str → Option Value} {base : Heap} {cdv : Value} {A : Around} {outer : List Env} {s : Shared} {H0 : Hp} {E : XK}
abbrev σS (p : Addr) (v1 v2 : Option L2.V) : L2.St := [some (.ref p), v1, v2, none, none, none, none, none, none, none, none, none, none, none]
theorem st0 (G : LotsT K mg) (hr : Room 8 (XR G P w base cdv A outer s H0 E).A) : PS (XR G P w base cdv A outer s H0 E) (stR 0) (fun D σ H => ∃ p, σ = σS p none none ∧ Pail p H ∧ ∀ H' d, Bar p H H' → Pail p H' → 1 ≤ d → d ≤ 8 → D.nx (σS p (some (.int ((d : Nat) : Int))) none) H') := by
  refine PS.weak' (ps_set (i := 1) sc_w_right.nd rfl (Or.inr rfl) (pe_op op_add pe_int (pe_call (ok_some G.T) (hr.mono (by decide)) (by rfl) G.T.m_w_some G.T.F_w_some.kp G.T.b_w_some .nil pass0 (pa_cons (pv 0) (pa_cons
    (pe_lst (pa_cons pe_int (pa_cons pe_int (pa_cons pe_int (pa_cons pe_int (pa_cons pe_int (pa_cons pe_int (pa_cons pe_int (pa_cons pe_int (pa_cons pe_int pa_nil)))))))))) pa_nil))))) ?i
  rintro Dd σ H ⟨p, rfl, ⟨g, x, c, hp⟩, q⟩
  refine ⟨_, rfl, by show 9 ≤ sizeLine; decide, fun y hy => ?_⟩
  have hyp : y ≠ p := fun z => by rw [z, hp] at hy; cases hy
  have sy := same_new hy (.lst [V.int 0, V.int 1, V.int 1, V.int 2, V.int 2, V.int 3, V.int 3, V.int 4, V.int 7])
  refine ⟨p, y, _, g, x, c, rfl, sy _ _ hp, hyp, SqL.of upd_same, by simp, by simp, fun g2 x2 c2 v hv => ?_⟩
  obtain ⟨n, rfl, hn⟩ : ∃ n : Nat, v = .int ((n : Nat) : Int) ∧ n ≤ 7 := by
    simp only [List.mem_cons, List.not_mem_nil, or_false] at hv
    rcases hv with rfl | rfl | rfl | rfl | rfl | rfl | rfl | rfl | rfl
    · exact ⟨0, rfl, by omega⟩
    · exact ⟨1, rfl, by omega⟩
    · exact ⟨1, rfl, by omega⟩
    · exact ⟨2, rfl, by omega⟩
    · exact ⟨2, rfl, by omega⟩
    · exact ⟨3, rfl, by omega⟩
    · exact ⟨3, rfl, by omega⟩
    · exact ⟨4, rfl, by omega⟩
    · exact ⟨7, rfl, by omega⟩
  refine ⟨_, _, rfl, rfl, ?_⟩
  dsimp only
  rw [show (1 : Int) + ((n : Nat) : Int) = (((1 + n : Nat)) : Int) from rfl]
  exact q _ (1 + n) ((Bar.same sy).trans Bar.upd) ⟨_, _, _, upd_same⟩ (by omega) (by omega)
theorem st1 (G : LotsT K mg) (hr : Room 8 (XR G P w base cdv A outer s H0 E).A) : PS (XR G P w base cdv A outer s H0 E) (stR 1) (fun D σ H => ∃ p d, σ = σS p (some (.int ((d : Nat) : Int))) none ∧ Pail p H ∧ 1 ≤ d ∧ d ≤ 8 ∧
    ∀ H' z rs L, Bar p H H' → Pail p H' → SqT K H' z (rs.map V.ref) → Tups K H' rs L → L.length ≤ 7 → (∀ t ∈ L, t.length = d) → (∀ t ∈ L, ∀ e ∈ t, e ≤ 8) → D.nx (σS p (some (.int ((d : Nat) : Int))) (some (.ref z))) H') := by
  refine PS.weak' (ps_set (i := 2) sc_w_right.nd rfl (Or.inl rfl) (pe_call (ok_wprods G.T) (hr.mono (by decide)) (by rfl) G.T.m_w_products G.T.F_w_products.kp G.T.b_w_products .nil pass0 (pa_cons (pv 0) (pa_cons (pv 1) (pa_cons pe_int (pa_cons pe_int pa_nil)))))) ?i
  rintro Dd σ H ⟨p, d, rfl, ⟨g, x, c, hp⟩, h1, h8, q⟩
  exact ⟨_, rfl, _, rfl, p, d, 7, 8, g, x, c, rfl, hp, h1, h8, by decide, by decide, by decide, fun H' z rs L g x c b hp' hz hT hn hl hm => q H' z rs L b ⟨g, x, c, hp'⟩ hz hT hn hl hm⟩
theorem st2 (G : LotsT K mg) (hr : Room 8 (XR G P w base cdv A outer s H0 E).A) : PS (XR G P w base cdv A outer s H0 E) (stR 2) (fun D σ H => ∃ p d z rs L, σ = σS p (some (.int ((d : Nat) : Int))) (some (.ref z)) ∧ 1 ≤ d ∧ d ≤ 8 ∧ SqT K H z (rs.map V.ref) ∧ Tups K H rs L ∧ L.length ≤ 7 ∧ (∀ t ∈ L, t.length = d) ∧ (∀ t ∈ L, ∀ e ∈ t, e ≤ 8) ∧
    ∀ H' t, Same H H' → t.p = p → InR K G.O.C t H' → D.nx (σR t) H') := by
  refine PS.weak' (ps_asg (pe_tup (pa_cons (pe_make G.O.M (ok_init G.T G.O) (hr.mono (by decide)) rfl G.O.gC G.O.bI .nil pass0 (pa_cons (pv 1) (pa_cons (pv 2) pa_nil)))
      (pa_cons (pe_call (ok_wleast G.T) (hr.mono (by decide)) (by rfl) G.T.m_w_least G.T.F_w_least.kp G.T.b_w_least .nil pass0 (pa_cons (pv 2) pa_nil)) pa_nil)))
    (pg_tup (by rfl) (pgs_cons (pg_name (i := 3) sc_w_right.nd rfl (Or.inr rfl)) (pgs_cons (pg_name (i := 4) sc_w_right.nd rfl (Or.inl rfl)) pgs_nil)))) ?i
  rintro Dd σ H ⟨p, d, z, rs, L, rfl, h1, h8, hz, hT, hn, hl, hm, q⟩
  refine ⟨_, rfl, _, rfl, ?_⟩
  intro y dx ny nd ne
  refine make_at (K := K) (C := G.O.C) (d := d) (rs := rs) (L := L) hz hT (few_lt h1 hl hm hn (by decide) (by decide)) h8 hm rfl ny nd ne (fun H2 s2 hE => ?_)
  refine ⟨_, rfl, z, rs, L, d, rfl, .inr (same_sqt s2 hz), hT.same s2, by omega, h1, h8, hl, fun t ht e he => Nat.le_trans (hm t ht e he) (by decide), fun H3 u us s3 hu hU => ?_⟩
  refine ⟨by show 2 ≤ sizeLine; decide, fun k hk => ⟨k, _, rfl, SqT.of upd_same, rfl, _, _, rfl, _, _, rfl, rfl, ?_⟩⟩
  have s4 := same_new hk (.tup [V.ref y, V.ref u])
  have S := s2.trans (s3.trans s4)
  exact q _ ⟨p, d, z, y, u, rs, us, L, h1, h8, hl, hm, hn⟩ S rfl ⟨hE.same (s3.trans s4), s4 _ _ hu, hU.same s4, same_sqt S hz, hT.same S⟩
theorem st13 (G : LotsT K mg) (hr : Room 8 (XR G P w base cdv A outer s H0 E).A) : PS (XR G P w base cdv A outer s H0 E) (stR 13) (fun D σ H => ∃ t v5 v6 v7 v8, σ = σG t v5 v6 v7 v8 none none ∧ InR K G.O.C t H ∧ Pail t.p H ∧
    ∀ H' a b ks M, Bar t.p H H' → Pail t.p H' → InR K G.O.C t H' → LotAt K G.O.C H' a t.d t.L → SqT K H' b (ks.map V.ref) → Tups K H' ks M → M.length ≤ 7 → (∀ u ∈ M, u.length = t.d) → (∀ u ∈ M, ∀ e ∈ u, e ≤ 8) → D.nx (σG t v5 v6 v7 v8 (some (.ref a)) (some (.ref b))) H') := by
  refine PS.weak' (ps_par (i := 9) (j := 10) (by rfl) sc_w_right.nd rfl rfl (by decide) rfl rfl
    (pa_cons (pe_make G.O.M (ok_init G.T G.O) (hr.mono (by decide)) rfl G.O.gC G.O.bI .nil pass0 (pa_cons (pv 1) (pa_cons (pe_op op_catB (W7.pe_revT (pv 2)) (pe_callTy call_tuple_of (by rfl) G.T.z_tuple boot_tuple (pa_cons (pv 4) pa_nil))) pa_nil)))
    (pa_cons (pe_call (ok_wprods G.T) (hr.mono (by decide)) (by rfl) G.T.m_w_products G.T.F_w_products.kp G.T.b_w_products .nil pass0 (pa_cons (pv 0) (pa_cons (pv 1) (pa_cons pe_int (pa_cons pe_int pa_nil))))) pa_nil)) (by rfl)) ?i
  rintro Dd σ H ⟨t, v5, v6, v7, v8, rfl, h, ⟨g, x, c, hp⟩, q⟩
  have h1 := t.h1
  have h8 := t.h8
  have e1 := tups_len h.givT
  have e2 := tups_len h.dueT
  have e3 := t.few
  have e4 := t.fewL
  refine ⟨_, rfl, _, rfl, t.gv, _, rfl, h.giv, fun z hz => ?_⟩
  have s1 := same_new hz (.tup (t.rs.map V.ref).reverse)
  refine ⟨_, rfl, t.du, _, rfl, .inl ⟨SqL.of (s1 _ _ h.due), fun z2 hz2 => ?_⟩⟩
  have s2 := same_new hz2 (.tup (t.us.map V.ref))
  refine ⟨z, z2, _, _, rfl, rfl, SqT.of (s2 _ _ upd_same), SqT.of upd_same, by rw [List.length_reverse, List.length_map, List.length_map]; exact Nat.le_of_lt (sizeK (by omega)), fun H3 z3 s3 hz3 => ?_⟩
  rw [← List.map_reverse, ← List.map_append] at hz3
  have S3 := s1.trans (s2.trans s3)
  intro y dx ny nd ne
  have hlen : ∀ u ∈ t.L0.reverse ++ t.L, u.length = t.d := fun u hu => (List.mem_append.mp hu).elim (fun hu => t.len u (List.mem_reverse.mp hu)) (t.lenL u)
  have hlow : ∀ u ∈ t.L0.reverse ++ t.L, ∀ e ∈ u, e ≤ 8 := fun u hu => (List.mem_append.mp hu).elim (fun hu => t.low u (List.mem_reverse.mp hu)) (t.lowL u)
  refine make_at (K := K) (C := G.O.C) (d := t.d) (rs := t.rs.reverse ++ t.us) (L := t.L0.reverse ++ t.L) (M := t.L) hz3 ((tups_rev (h.givT.same S3)).app (h.dueT.same S3)) (few_lt (n := 14) (m := 8) h1 hlen hlow (by rw [List.length_append, List.length_reverse]; omega) (by decide) (by decide)) h8 hlow (least_again t.len) ny nd ne (fun H4 s4 hE => ?_)
  have S4 := S3.trans s4
  refine ⟨_, rfl, _, rfl, t.p, t.d, 7, 8, g, x, c, rfl, S4 _ _ hp, h1, h8, by decide, by decide, by decide, fun H5 b ks M g5 x5 c5 b5 hp5 hb hT hn hl hm => ?_⟩
  exact ⟨_, _, rfl, q H5 y b ks M ((Bar.same S4).trans b5) ⟨g5, x5, c5, hp5⟩ ((h.same S4).bar (S4 _ _ hp) b5) (bar_lot (S4 _ _ hp) b5 hE) hb hT hn hl hm⟩
theorem eqv_lists (L M : List (List Nat)) : PyData.eqv (.list (L.map encT)) (.list (M.map encT)) = decide (L = M) := by
  simp only [PyData.eqv]
  exact eqvAll_tups L M
theorem st14 (G : LotsT K mg) (hr : Room 8 (XR G P w base cdv A outer s H0 E).A) : PS (XR G P w base cdv A outer s H0 E) (stR 14) (fun D σ H => ∃ t v5 v6 v7 v8 a b ks M, σ = σG t v5 v6 v7 v8 (some (.ref a)) (some (.ref b)) ∧ InR K G.O.C t H ∧ LotAt K G.O.C H a t.d t.L ∧ SqT K H b (ks.map V.ref) ∧ Tups K H ks M ∧ M.length ≤ 7 ∧ (∀ u ∈ M, u.length = t.d) ∧ (∀ u ∈ M, ∀ e ∈ u, e ≤ 8) ∧ ∀ H', Same H H' → D.nx σ H') := by
  refine PS.weak' (ps_if (PW.pt (pw_or (pt_cmpR (W7.op_neOwn G.D.hm G.D.hne G.D.aE G.D.nE (ok_eql G.T G.O G.W G.Z) (hr.mono (by decide)) G.Z.bE pass0) (pv 3) (pv 9) (nomark _))
    (pw_or1 (pt_cmpR (op_neD hr.units) (pe_cmpR (W7.op_eqOwn G.D.aE G.D.nE (ok_eql G.T G.O G.W G.Z) (hr.mono (by decide)) G.Z.bE pass0) (pv 3)
        (pe_make G.O.M (ok_init G.T G.O) (hr.mono (by decide)) rfl G.O.gC G.O.bI .nil pass0 (pa_cons (pv 1) (pa_cons (pv 10) pa_nil))) (nomark _))
      (pe_cmpR (op_eqD hr.units) (pv 4) (pe_call (ok_wleast G.T) (hr.mono (by decide)) (by rfl) G.T.m_w_least G.T.F_w_least.kp G.T.b_w_least .nil pass0 (pa_cons (pv 10) pa_nil)) (nomark _)) (nomark _))))) (pss_one (ps_ret pe_bl)) pss_nil) ?i
  rintro Dd σ H ⟨t, v5, v6, v7, v8, a, b, ks, M, rfl, h, hA, hb, hT, hn, hl, hm, q⟩
  have h1 := t.h1
  have h8 := t.h8
  have ia := h.lot
  obtain ⟨dx, m, qs, a1, _⟩ := ia
  have ib := hA
  obtain ⟨dy, m', qs', b1, _⟩ := ib
  refine ⟨_, rfl, _, rfl, t.lo, a, dx, dy, _, _, rfl, rfl, a1, b1, t.lo, a, t.d, t.d, t.L, t.L, rfl, h.lot, hA, _, rfl, _, rfl, ?_⟩
  rw [decide_eq_true rfl, decide_eq_true rfl]
  refine iteF ⟨_, rfl, _, rfl, _, rfl, ?_⟩
  intro y ey ny nd ne
  refine make_at (K := K) (C := G.O.C) (d := t.d) (rs := ks) (L := M) hb hT (few_lt h1 hl hm hn (by decide) (by decide)) h8 hm rfl ny nd ne (fun H2 s2 hE => ?_)
  have ic := hE
  obtain ⟨dz, m2, qs2, c1, _⟩ := ic
  refine ⟨t.lo, y, dx, dz, _, _, rfl, rfl, s2 _ _ a1, c1, t.lo, y, t.d, t.d, t.L, M7.leastN M, rfl, h.lot.same s2, hE, ?_⟩
  refine ⟨_, rfl, _, rfl, b, ks, M, t.d, rfl, .inr (same_sqt s2 hb), hT.same s2, by omega, h1, h8, hl, fun u hu e he => Nat.le_trans (hm u hu e he) (by decide), fun H3 k us3 s3 hk hU3 => ?_⟩
  have S := s2.trans s3
  refine ⟨_, _, .lst (SqL.of (S _ _ h.due)) (dp_tups (h.dueT.same S)), .lst (SqL.of hk) (dp_tups hU3), shaped_tups _, shaped_tups _, ?_⟩
  rw [eqv_lists]
  refine ⟨.bool (decide (t.L = M7.leastN M)), .bool (decide (t.L = M7.leastN M)), by rw [show (decide (t.d = t.d) && decide (t.L = M7.leastN M)) = decide (t.L = M7.leastN M) by rw [decide_eq_true rfl, Bool.true_and]]; exact .bl _, .bl _, shaped_bool _, shaped_bool _, _, rfl, ?_⟩
  rw [eqv_bool]
  exact iteF (q _ S)
theorem st15 (G : LotsT K mg) (hr : Room 8 (XR G P w base cdv A outer s H0 E).A) : PS (XR G P w base cdv A outer s H0 E) (stR 15) (fun D σ H => ∃ t v5 v6 v7 v8 v9 v10, σ = σG t v5 v6 v7 v8 v9 v10 ∧ InR K G.O.C t H ∧ ∀ H', Same H H' → D.rt (.bl true) H') := by
  refine PS.weak' (ps_ret (pe_and (pe_cmpR (W7.op_neUnlike G.D.hm G.s1 G.s2 G.D.hne G.D.aE G.D.nE (ok_eqo G.T G.O G.Z G.k1 G.k2) (hr.mono (by decide)) G.Z.bE pass0) (pv 3) (pe_prop (E := E0) (pv 3) G.O.cl G.R.PM (ok_mem G.O G.R) (hr.mono (by decide)) G.R.bM .nil pass0 rfl) (nomark _))
    (pe_and (pe_cmpR (W7.op_neOwn G.D.hm G.D.hne G.D.aE G.D.nE (ok_eql G.T G.O G.W G.Z) (hr.mono (by decide)) G.Z.bE pass0) (pv 3) (pe_make G.O.M (ok_init G.T G.O) (hr.mono (by decide)) rfl G.O.gC G.O.bI .nil pass0 (pa_cons (pe_op op_add (pe_op op_mod (pv 1) pe_int) pe_int) (pa_cons (pe_tup pa_nil) pa_nil))) (nomark _))
    (pe_one (pe_cmpR (W7.op_neUnlike G.D.hm G.s1 G.s2 G.D.hne G.D.aE G.D.nE (ok_eqo G.T G.O G.Z G.k1 G.k2) (hr.mono (by decide)) G.Z.bE pass0) (pv 3) (pe_callTy (W7.call_strOwn1 G.D.aS G.D.nS (ok_strl G.T G.O G.D) (hr.mono (by decide)) G.D.bS pass0) (by rfl) G.T.z_str boot_str (pa_cons (pv 3) pa_nil)) (nomark _)))))) ?i
  rintro Dd σ H ⟨t, v5, v6, v7, v8, v9, v10, rfl, h, q⟩
  have h1 := t.h1
  have h8 := t.h8
  have hf := t.fewL
  have ia := h.lot
  obtain ⟨dx, m, qs, a1, _⟩ := ia
  refine ⟨_, rfl, _, rfl, t.lo, dx, _, rfl, a1, t.lo, t.d, t.L, rfl, h.lot, fun m5 qs5 hm5 hT5 => ?_⟩
  refine ⟨t.lo, dx, _, rfl, .inl ⟨_, _, rfl, hm5⟩, a1, t.lo, _, rfl, .inl ⟨_, _, rfl, hm5⟩, false, rfl, _, rfl, iteT ?_⟩
  refine ⟨_, rfl, _, rfl, _, _, rfl, rfl, by show (0 : Int) < 8; decide, _, _, rfl, rfl, by show 0 ≤ sizeLine; exact Nat.zero_le _, fun t0 ht0 => ?_⟩
  have st0 := same_new ht0 (.tup [])
  have h0T : SqT K (upd H t0 (.tup [])) t0 (([] : List Addr).map V.ref) := SqT.of upd_same
  intro y ey ny nd ne
  show sp_init K G.O.C [V.ref y, V.int (((t.d : Nat) : Int) % 8 + 1), V.ref t0] _ _ _
  rw [show ((t.d : Nat) : Int) % 8 + 1 = ((t.d % 8 + 1 : Nat) : Int) by omega]
  refine make_at (K := K) (C := G.O.C) (d := t.d % 8 + 1) (rs := []) (L := []) h0T .nil (few_nil (by omega)) (by omega) (fun _ h => nomatch h) rfl ny nd ne (fun H2 s2 hE => ?_)
  have S2 := st0.trans s2
  have ic := hE
  obtain ⟨dz, m2, qs2, c1, _⟩ := ic
  refine ⟨t.lo, y, dx, dz, _, _, rfl, rfl, S2 _ _ a1, c1, t.lo, y, t.d, t.d % 8 + 1, t.L, M7.leastN [], rfl, h.lot.same S2, hE, _, rfl, _, rfl, ?_⟩
  rw [show (decide (t.d = t.d % 8 + 1) && decide (t.L = M7.leastN [])) = false by rw [decide_eq_false (by omega), Bool.false_and]]
  refine iteT ⟨_, rfl, _, rfl, t.lo, dx, _, rfl, S2 _ _ a1, t.lo, t.d, t.L, rfl, h.lot.same S2, t.low9, by omega, fun H3 s3 => ⟨_, rfl, ?_⟩⟩
  have S3 := S2.trans s3
  refine ⟨t.lo, dx, _, rfl, .inr ⟨_, rfl⟩, S3 _ _ a1, t.lo, _, rfl, .inr ⟨_, rfl⟩, false, rfl, ?_⟩
  exact q _ S3
end
end K6

namespace K6
open PySem PySem.Spec PyProof.Rows L2 RZ L5 R7
section
variable {P : Program} {w : World} {K : PySem.W.Frag} {mg : Str → Option Value} {base : Heap}
def sp_right : Sp := fun vs H Q _ => ∃ p : Addr, vs = [.ref p] ∧ Pail p H ∧ ∀ H', Bar p H H' → Pail p H' → Q (.bl true) H'
theorem ok_right (G : LotsT K mg) : FnOk P w K mg base CX0 9 G.T.a_w_right G.T.d_w_right ["_law_pail_here"] sp_right := by
  refine G.T.F_w_right.ok sc_w_right (fun vs H Q E h => ?_) (fun cdv A outer s H vs Q E hr h => ?_)
  · obtain ⟨p, rfl, _⟩ := h
    rfl
  · obtain ⟨p, rfl, hp, q⟩ := h
    refine ⟨_, pss_cons (st0 G hr) (pss_cons (st1 G hr) (pss_cons (st2 G hr) (pss_cons (PS.ex fun t => st_if1 G t hr) (pss_cons (PS.ex fun t => st_if2 G t hr) (pss_cons (PS.ex fun t => st_if3 G t hr) (pss_cons (PS.ex fun t => st_if4 G t hr)
      (pss_cons (st7 G hr) (pss_cons (st8 G hr) (pss_cons (st9 G hr) (pss_cons (st10 G hr) (pss_cons (st11 G hr) (pss_cons (st12 G hr) (pss_cons (st13 G hr) (pss_cons (st14 G hr) (pss_one (st15 G hr)))))))))))))))), ?_⟩
    refine ⟨p, rfl, hp, fun H1 d b1 p1 h1 h8 => ?_⟩
    refine ⟨p, d, rfl, p1, h1, h8, fun H2 z rs L b2 p2 hz hT hn hl hm => ?_⟩
    refine ⟨p, d, z, rs, L, rfl, h1, h8, hz, hT, hn, hl, hm, fun H3 t s3 ep i3 => ?_⟩
    subst ep
    have p3 := p2.same s3
    have b3 := (b1.trans b2).trans (Bar.same s3)
    refine ⟨t, ⟨rfl, i3⟩, fun H4 s4 => ⟨t, ⟨rfl, i3.same s4⟩, fun H5 s5 => ⟨t, ⟨rfl, (i3.same s4).same s5⟩, fun H6 s6 => ⟨t, ⟨rfl, ((i3.same s4).same s5).same s6⟩, fun H7 s7 => ?_⟩⟩⟩⟩
    have S7 := s4.trans (s5.trans (s6.trans s7))
    have i7 := i3.same S7
    have p7 := p3.same S7
    have b7 := b3.trans (Bar.same S7)
    refine ⟨t, rfl, i7, p7, fun H8 z8 qs8 M8 b8 p8 i8 m8 => ?_⟩
    refine ⟨t, z8, qs8, M8, rfl, i8, p8, m8, fun H9 z9 qs9 M9 b9 p9 i9 m9 => ?_⟩
    refine ⟨t, z9, qs9, M9, rfl, i9, m9, fun H10 v6 s10 => ?_⟩
    have i10 := i9.same s10
    have p10 := p9.same s10
    have b10 := b7.trans (b8.trans (b9.trans (Bar.same s10)))
    refine ⟨t, z9, qs9, M9, v6, rfl, m9.same s10, fun f u hf hfl hf60 => ?_⟩
    refine ⟨t, _, v6, f, u, rfl, i10, hf, hfl, fun H11 o xs s11 ho ho9 hbad => ?_⟩
    have i11 := i10.same s11
    refine ⟨t, _, v6, _, o, xs, rfl, i11, ho, hbad, fun H12 s12 => ?_⟩
    have i12 := i11.same s12
    have S12 := s11.trans s12
    refine ⟨t, _, v6, _, _, rfl, i12, p10.same S12, fun H13 a b ks M b13 p13 i13 hA hb hU hMn hMl hMm => ?_⟩
    refine ⟨t, _, v6, _, _, a, b, ks, M, rfl, i13, hA, hb, hU, hMn, hMl, hMm, fun H14 s14 => ?_⟩
    refine ⟨t, _, v6, _, _, _, _, rfl, i13.same s14, fun H15 s15 => ?_⟩
    have S15 := s14.trans s15
    exact q H15 (b10.trans ((Bar.same S12).trans (b13.trans (Bar.same S15)))) (p13.same S15)
end
end K6

namespace K6
open PySem PySem.Spec PyProof.Rows L2 RZ L5 R7
section
variable {P : Program} {w : World} {K : PySem.W.Frag} {mg : Str → Option Value} {base : Heap}
def sp_law (K : PySem.W.Frag) : Sp := fun vs H Q _ => ∃ (a : Addr) (ns : List Int), vs = [.ref a] ∧ SqL K H a (ns.map V.int) ∧ ns.length ≤ 63 ∧ ∀ H', Q (.bl true) H'
theorem bar_back {z : Addr} {H A B : Hp} (s : Same H A) (b : Bar z A B) (hz : H z = none) : Same H B := fun c o h => b c o (ne_of_none h hz) (s c o h)
theorem txt1 : lotText [[0, 3], [1, 1], [2, 0]] = ("(x2^3, x1 x2, x1^2)" : Str) := by decide +kernel
theorem txt2 : lotText [] = ("()" : Str) := by decide +kernel
theorem txt3 : lotText [[0, 0]] = ("(1)" : Str) := by decide +kernel
theorem ok_law (G : LotsT K mg) : FnOk P w K mg base CX0 10 G.T.a_law G.T.d_law ["_law_script"] (sp_law K) := by
  refine G.T.F_law.ok sc_law (fun vs H Q E h => ?_) (fun cdv A outer s H vs Q E hr h => ?_)
  · obtain ⟨a, ns, rfl, _⟩ := h
    rfl
  · obtain ⟨a, ns, rfl, hS, hn, q⟩ := h
    refine ⟨_, pss_cons (ps_for PassesOwn.never rfl (pi_range1 rfl G.T.z_range (pa_cons (pe_callB (call_max2 rfl) (by rfl) G.T.z_max boot_max (pa_cons pe_int (pa_cons (pe_callB (call_min2 rfl) (by rfl) G.T.z_min (by decide +kernel) (pa_cons pe_int (pa_cons (pe_callB call_len_seq (by rfl) G.T.z_len boot_len (pa_cons (pv 0) pa_nil)) pa_nil))) pa_nil))) pa_nil)) (pg_name (i := 1) sc_law.nd rfl (Or.inl rfl))
        (pss_cons (ps_set (i := 2) sc_law.nd rfl (Or.inl rfl) (pe_call (ok_pail G.T) (hr.mono (by decide)) (by rfl) G.T.m_w_pail G.T.F_w_pail.kp G.T.b_w_pail .nil pass0 (pa_cons (pv 0) (pa_cons (pv 1) pa_nil))))
        (pss_one (ps_if (PW.pt (pw_or (pt_not (pt_val (pe_call (ok_right G) hr (by rfl) G.T.m_w_right G.T.F_w_right.kp G.T.b_w_right .nil pass0 (pa_cons (pv 2) pa_nil))))
          (pw_or1 (pt_not (pt_val (pe_call (ok_right G) hr (by rfl) G.T.m_w_right G.T.F_w_right.kp G.T.b_w_right .nil pass0 (pa_cons (pv 2) pa_nil))))))) (pss_one (ps_ret pe_bl)) pss_nil))))
      (pss_cons (ps_set (i := 3) sc_law.nd rfl (Or.inl rfl) (pe_make G.O.M (ok_init G.T G.O) (hr.mono (by decide)) rfl G.O.gC G.O.bI .nil pass0 (pa_cons pe_int (pa_cons (pe_tup (pa_cons (pe_tup (pa_cons pe_int (pa_cons pe_int pa_nil))) (pa_cons (pe_tup (pa_cons pe_int (pa_cons pe_int pa_nil))) (pa_cons (pe_tup (pa_cons pe_int (pa_cons pe_int pa_nil))) (pa_cons (pe_tup (pa_cons pe_int (pa_cons pe_int pa_nil))) (pa_cons (pe_tup (pa_cons pe_int (pa_cons pe_int pa_nil))) pa_nil)))))) pa_nil))))
      (pss_cons (ps_set (i := 4) sc_law.nd rfl (Or.inl rfl) (pe_lst (pa_cons (pe_prop (E := E0) (pv 3) G.O.cl G.R.PM (ok_mem G.O G.R) (hr.mono (by decide)) G.R.bM .nil pass0 rfl)
        (pa_cons (pe_prop (E := E0) (pv 3) G.O.cl G.B.PD (ok_degs G.T G.O G.B) (hr.mono (by decide)) G.B.bD .nil pass0 rfl)
        (pa_cons (pe_callTy (W7.call_strOwn1 G.D.aS G.D.nS (ok_strl G.T G.O G.D) (hr.mono (by decide)) G.D.bS pass0) (by rfl) G.T.z_str boot_str (pa_cons (pv 3) pa_nil))
        (pa_cons (pe_cmpR (W7.op_inOwn G.D.aH G.D.nH (ok_has G.T G.O G.Z) (hr.mono (by decide)) G.Z.bH pass0) (pe_tup (pa_cons pe_int (pa_cons pe_int pa_nil))) (pv 3) rfl)
        (pa_cons (pe_cmpR (W7.op_inOwn G.D.aH G.D.nH (ok_has G.T G.O G.Z) (hr.mono (by decide)) G.Z.bH pass0) (pe_tup (pa_cons pe_int (pa_cons pe_int pa_nil))) (pv 3) rfl)
        (pa_cons (pe_callTy (W7.call_strOwn1 G.D.aS G.D.nS (ok_strl G.T G.O G.D) (hr.mono (by decide)) G.D.bS pass0) (by rfl) G.T.z_str boot_str (pa_cons (pe_make G.O.M (ok_init G.T G.O) (hr.mono (by decide)) rfl G.O.gC G.O.bI .nil pass0 (pa_cons pe_int (pa_cons (pe_tup pa_nil) pa_nil))) pa_nil))
        (pa_cons (pe_callTy (W7.call_strOwn1 G.D.aS G.D.nS (ok_strl G.T G.O G.D) (hr.mono (by decide)) G.D.bS pass0) (by rfl) G.T.z_str boot_str (pa_cons (pe_make G.O.M (ok_init G.T G.O) (hr.mono (by decide)) rfl G.O.gC G.O.bI .nil pass0 (pa_cons pe_int (pa_cons (pe_tup (pa_cons (pe_tup (pa_cons pe_int (pa_cons pe_int pa_nil))) (pa_cons (pe_tup (pa_cons pe_int (pa_cons pe_int pa_nil))) pa_nil))) pa_nil))) pa_nil)) pa_nil)))))))))
      (pss_one (ps_ret (pe_cmpR (op_eqD hr.units) (pv 4) (pe_lst (pa_cons (pe_tup (pa_cons (pe_tup (pa_cons pe_int (pa_cons pe_int pa_nil))) (pa_cons (pe_tup (pa_cons pe_int (pa_cons pe_int pa_nil))) (pa_cons (pe_tup (pa_cons pe_int (pa_cons pe_int pa_nil))) pa_nil))))
        (pa_cons (pe_tup (pa_cons pe_int (pa_cons pe_int (pa_cons pe_int pa_nil)))) (pa_cons pe_str (pa_cons pe_bl (pa_cons pe_bl (pa_cons pe_str (pa_cons pe_str pa_nil)))))))) (nomark _)))))), ?_⟩
    have hm1 : ∀ m : Int, (if (if ((ns.map V.int).length : Int) < 3 then ((ns.map V.int).length : Int) else 3) > 1 then (if ((ns.map V.int).length : Int) < 3 then ((ns.map V.int).length : Int) else 3) else 1) = m → 1 ≤ m ∧ m ≤ 3 := fun m e => by
      rw [← e]
      split <;> split <;> omega
    refine ⟨_, rfl, a, _, rfl, .inl hS, _, _, rfl, _, _, rfl, _, rfl, ?_⟩
    have hb := hm1 _ rfl
    refine ⟨Int.le_trans (by decide) hb.1, Int.lt_of_le_of_lt hb.2 (by decide), ?_⟩
    refine for_range (lo := 0) (n := _) (fun i σ H' => ∃ v1 v2 : Option V, σ = [some (.ref a), v1, v2, none, none] ∧ Same H H') ⟨none, none, rfl, Same.refl H⟩ ?_ ?_
    · rintro i σ H1 hi ⟨v1, v2, rfl, s1⟩
      have hi3 : i < 1000 := by
        have := hb.2
        omega
      refine ⟨_, rfl, _, rfl, a, ns, i, by rw [Int.zero_add]; rfl, s1.seq hS, hi3, fun H2 z g x c s2 hz hz2 => ?_⟩
      have hzn : H z = none := Same.free s1 hz
      refine ⟨_, rfl, z, rfl, ⟨g, x, c, hz2⟩, fun H3 b3 hz3 => ⟨true, rfl, iteF ?_⟩⟩
      refine ⟨_, rfl, z, rfl, hz3, fun H4 b4 hz4 => ⟨true, rfl, iteF ?_⟩⟩
      exact ⟨_, _, rfl, bar_back (s1.trans s2) (b3.trans b4) hzn⟩
    · rintro σ H1 ⟨v1, v2, rfl, s1⟩
      refine ⟨by show 2 ≤ sizeLine; decide, fun q0 qk0 => ⟨by show 2 ≤ sizeLine; decide, fun q1 qk1 => ⟨by show 2 ≤ sizeLine; decide, fun q2 qk2 => ⟨by show 2 ≤ sizeLine; decide, fun q3 qk3 => ⟨by show 2 ≤ sizeLine; decide, fun q4 qk4 => ⟨by show 5 ≤ sizeLine; decide, fun qz qkz => ?_⟩⟩⟩⟩⟩⟩
      have qs0 := same_new qk0 (.tup [V.int 2, V.int 0])
      have qs1 := same_new qk1 (.tup [V.int 1, V.int 1])
      have qs2 := same_new qk2 (.tup [V.int 0, V.int 3])
      have qs3 := same_new qk3 (.tup [V.int 2, V.int 2])
      have qs4 := same_new qk4 (.tup [V.int 1, V.int 1])
      have qsz := same_new qkz (.tup [V.ref q0, V.ref q1, V.ref q2, V.ref q3, V.ref q4])
      intro qy qdx qny qnd qne
      have r4 := qs4.trans qsz
      have r3 := qs3.trans r4
      have r2 := qs2.trans r3
      have r1 := qs1.trans r2
      refine make_at (K := K) (C := G.O.C) (d := 2) (rs := [q0, q1, q2, q3, q4]) (L := [[2, 0], [1, 1], [0, 3], [2, 2], [1, 1]]) (M := [[0, 3], [1, 1], [2, 0]]) (SqT.of upd_same) (.cons (same_sqt r1 (SqT.of upd_same)) (.cons (same_sqt r2 (SqT.of upd_same)) (.cons (same_sqt r3 (SqT.of upd_same)) (.cons (same_sqt r4 (SqT.of upd_same)) (.cons (same_sqt qsz (SqT.of upd_same)) .nil))))) ⟨by decide, by decide, by decide, by decide, by decide +kernel⟩ (by decide) (by decide) (by decide +kernel) qny qnd qne (fun H2 s2 hQ => ?_)
      have iQ := hQ
      obtain ⟨dQ, _, _, eQ, _⟩ := iQ
      refine ⟨_, rfl, qy, dQ, _, rfl, eQ, qy, 2, _, rfl, hQ, fun mm rs hm hT => ?_⟩
      refine ⟨_, rfl, qy, dQ, _, rfl, eQ, qy, 2, _, rfl, hQ, by decide, fun H3 z ns3 s3 hz pm pw => ?_⟩
      obtain rfl : ns3 = [2, 2, 3] := sorted_one (pm.trans (by decide)) pw (by decide)
      refine ⟨_, rfl, qy, dQ, _, rfl, s3 _ _ eQ, qy, 2, _, rfl, hQ.same s3, fun u hu => ?_, by decide, fun H4 s4 => ⟨_, rfl, ?_⟩⟩
      · have h2 : ∀ u ∈ [[0, 3], [1, 1], [2, 0]], u.length ≤ 8 ∧ ∀ e ∈ u, e ≤ 8 := by decide
        exact ⟨(h2 u hu).1, (h2 u hu).2⟩
      have S4 := s3.trans s4
      refine ⟨by show 2 ≤ sizeLine; decide, fun u0 hu0 => ?_⟩
      have t5 := same_new hu0 (.tup [V.int 1, V.int 0])
      have S5 := S4.trans t5
      refine ⟨_, rfl, qy, dQ, _, rfl, S5 _ _ eQ, qy, u0, 2, _, [1, 0], rfl, hQ.same S5, SqT.of upd_same, rfl, by decide, by decide, by decide, fun H6 s6 => ⟨false, congrArg V.bl (by decide +kernel), ?_⟩⟩
      have S6 := S5.trans s6
      refine ⟨by show 2 ≤ sizeLine; decide, fun u1 hu1 => ?_⟩
      have t7 := same_new hu1 (.tup [V.int 1, V.int 5])
      have S7 := S6.trans t7
      refine ⟨_, rfl, qy, dQ, _, rfl, S7 _ _ eQ, qy, u1, 2, _, [1, 5], rfl, hQ.same S7, SqT.of upd_same, rfl, by decide, by decide, by decide, fun H8 s8 => ⟨true, congrArg V.bl (by decide +kernel), ?_⟩⟩
      have S8 := S7.trans s8
      refine ⟨by show 0 ≤ sizeLine; exact Nat.zero_le _, fun t0 ht0 => ?_⟩
      have st0 := same_new ht0 (.tup [])
      intro ey edx eny e_nd ene
      refine make_at (K := K) (C := G.O.C) (d := 3) (rs := []) (L := []) (M := []) (SqT.of upd_same) .nil (few_nil (by decide)) (by decide) (fun _ h => nomatch h) rfl eny e_nd ene (fun H9 s9 hE => ?_)
      have iE := hE
      obtain ⟨dE, _, _, eE, _⟩ := iE
      have S9 := S8.trans (st0.trans s9)
      refine ⟨ey, dE, _, rfl, eE, ey, 3, [], rfl, hE, (fun _ h => nomatch h), by decide, fun H10 s10 => ⟨_, rfl, ?_⟩⟩
      have S10 := S9.trans s10
      refine ⟨by show 2 ≤ sizeLine; decide, fun w0 wk0 => ⟨by show 2 ≤ sizeLine; decide, fun w1 wk1 => ⟨by show 2 ≤ sizeLine; decide, fun wz wkz => ?_⟩⟩⟩
      have ws0 := same_new wk0 (.tup [V.int 1, V.int 1])
      have ws1 := same_new wk1 (.tup [V.int 0, V.int 0])
      have wsz := same_new wkz (.tup [V.ref w0, V.ref w1])
      intro fy fdx fny fnd fne
      refine make_at (K := K) (C := G.O.C) (d := 2) (rs := [w0, w1]) (L := [[1, 1], [0, 0]]) (M := [[0, 0]]) (SqT.of upd_same) (.cons (same_sqt (ws1.trans wsz) (SqT.of upd_same)) (.cons (same_sqt wsz (SqT.of upd_same)) .nil)) ⟨by decide, by decide, by decide, by decide, by decide +kernel⟩ (by decide) (by decide) (by decide +kernel) fny fnd fne (fun H11 s11 hF => ?_)
      have iF := hF
      obtain ⟨dF, _, _, eF, _⟩ := iF
      have S11 := S10.trans ((ws0.trans (ws1.trans wsz)).trans s11)
      refine ⟨fy, dF, _, rfl, eF, fy, 2, [[0, 0]], rfl, hF, fun u hu => ?_, by decide, fun H12 s12 => ⟨_, rfl, ?_⟩⟩
      · have h2 : ∀ u ∈ [[0, 0]], u.length ≤ 8 ∧ ∀ e ∈ u, e ≤ 8 := by decide
        exact ⟨(h2 u hu).1, (h2 u hu).2⟩
      have S12 := S11.trans s12
      refine ⟨by show 7 ≤ sizeLine; decide, fun o ho => ?_⟩
      have so := same_new ho (.lst [V.ref mm, V.ref z, V.str (lotText [[0, 3], [1, 1], [2, 0]]), V.bl false, V.bl true, V.str (lotText []), V.str (lotText [[0, 0]])])
      refine ⟨_, rfl, ?_⟩
      refine ⟨by show 2 ≤ sizeLine; decide, fun r0 rk0 => ⟨by show 2 ≤ sizeLine; decide, fun r1' rk1 => ⟨by show 2 ≤ sizeLine; decide, fun r2' rk2 => ⟨by show 3 ≤ sizeLine; decide, fun rz rkz => ⟨by show 3 ≤ sizeLine; decide, fun ry rky => ⟨by show 7 ≤ sizeLine; decide, fun o2 ho2 => ?_⟩⟩⟩⟩⟩⟩
      have v0 := same_new rk0 (.tup [V.int 0, V.int 3])
      have v1 := same_new rk1 (.tup [V.int 1, V.int 1])
      have v2 := same_new rk2 (.tup [V.int 2, V.int 0])
      have vz := same_new rkz (.tup [V.ref r0, V.ref r1', V.ref r2'])
      have vy := same_new rky (.tup [V.int 2, V.int 2, V.int 3])
      have vo := same_new ho2 (.lst [V.ref rz, V.ref ry, V.str "(x2^3, x1 x2, x1^2)", V.bl false, V.bl true, V.str "()", V.str "(1)"])
      have x5 := vy.trans vo
      have x4 := vz.trans x5
      have x3 := v2.trans x4
      have x2 := v1.trans x3
      have x1 := v0.trans x2
      have xo := so.trans x1
      have X := S12.trans xo
      have X4 := s4.trans (t5.trans (s6.trans (t7.trans (s8.trans ((st0.trans s9).trans (s10.trans (((ws0.trans (ws1.trans wsz)).trans s11).trans (s12.trans xo))))))))
      have D1 := Dp.tup (same_sqt X hm) (dp_tups (hT.same X))
      have D2 := Dp.tup (same_sqt X4 hz) (dp_ints [2, 2, 3])
      have D3 : Dp K _ (.ref rz) (.tuple ([[0, 3], [1, 1], [2, 0]].map encT)) := Dp.tup (SqT.of (x5 _ _ upd_same)) (dp_tups (rs := [r0, r1', r2']) (L := [[0, 3], [1, 1], [2, 0]]) (.cons (same_sqt x2 (SqT.of upd_same)) (.cons (same_sqt x3 (SqT.of upd_same)) (.cons (same_sqt x4 (SqT.of upd_same)) .nil))))
      have D4 : Dp K _ (.ref ry) (.tuple ([2, 2, 3].map PyData.int)) := Dp.tup (SqT.of (vo _ _ upd_same)) (dp_ints [2, 2, 3])
      refine ⟨.list [.tuple ([[0, 3], [1, 1], [2, 0]].map encT), .tuple ([2, 2, 3].map PyData.int), .str (lotText [[0, 3], [1, 1], [2, 0]]), .bool false, .bool true, .str (lotText []), .str (lotText [[0, 0]])],
        .list [.tuple ([[0, 3], [1, 1], [2, 0]].map encT), .tuple ([2, 2, 3].map PyData.int), .str "(x2^3, x1 x2, x1^2)", .bool false, .bool true, .str "()", .str "(1)"],
        .lst (SqL.of (x1 _ _ upd_same)) (.cons D1 (.cons D2 (.cons (.str _) (.cons (.bl _) (.cons (.bl _) (.cons (.str _) (.cons (.str _) .nil))))))),
        .lst (SqL.of upd_same) (.cons D3 (.cons D4 (.cons (.str _) (.cons (.bl _) (.cons (.bl _) (.cons (.str _) (.cons (.str _) .nil))))))), by rw [txt1, txt2, txt3]; decide +kernel, by decide +kernel, ?_⟩
      rw [txt1, txt2, txt3, show PyData.eqv (.list [.tuple ([[0, 3], [1, 1], [2, 0]].map encT), .tuple ([2, 2, 3].map PyData.int), .str "(x2^3, x1 x2, x1^2)", .bool false, .bool true, .str "()", .str "(1)"]) (.list [.tuple ([[0, 3], [1, 1], [2, 0]].map encT), .tuple ([2, 2, 3].map PyData.int), .str "(x2^3, x1 x2, x1^2)", .bool false, .bool true, .str "()", .str "(1)"]) = true by decide +kernel]
      exact q _
end
end K6

namespace K6
open PySem PySem.Spec PyProof.Rows L2 RZ L5 R7
/-! ### the end -/
theorem all_mk {l : PySem.W.OpenLaw} {w : World} {K : PySem.W.Frag} {h : Heap} {mg : Str → Option Value} {fa C : Addr} (X : K.In h) (G : h.Ns mainGlobals mg) (hfa : mg "law" = some (.ref fa))
    {od_is_number an_is_number : Option Addr} {sl_is_number : Array (Option Value)} {oc_is_number kV_is_number dc_is_number pm_is_number cd_is_number ct_is_number : Value} {f_is_number : Addr}
    (a_is_number : PySem.W.nsIn K mainGlobals "is_number" = some (some (.ref f_is_number))) (l_is_number : K.lookup f_is_number = some ⟨oc_is_number, od_is_number, .func (PySem.W.fnOf "is_number" "is_number" (defArgs s_is_number) (defBody s_is_number) (defScope s_is_number) .none kV_is_number dc_is_number pm_is_number an_is_number cd_is_number ct_is_number), sl_is_number⟩) (cc_is_number : PySem.W.codeIn K cd_is_number "is_number" = true) (k_is_number : PySem.W.keepIn K (.ref f_is_number) = true)
    {od_is_within an_is_within : Option Addr} {sl_is_within : Array (Option Value)} {oc_is_within kV_is_within dc_is_within pm_is_within cd_is_within ct_is_within : Value} {f_is_within : Addr}
    (a_is_within : PySem.W.nsIn K mainGlobals "is_within" = some (some (.ref f_is_within))) (l_is_within : K.lookup f_is_within = some ⟨oc_is_within, od_is_within, .func (PySem.W.fnOf "is_within" "is_within" (defArgs s_is_within) (defBody s_is_within) (defScope s_is_within) .none kV_is_within dc_is_within pm_is_within an_is_within cd_is_within ct_is_within), sl_is_within⟩) (cc_is_within : PySem.W.codeIn K cd_is_within "is_within" = true) (k_is_within : PySem.W.keepIn K (.ref f_is_within) = true)
    {od_check_within an_check_within : Option Addr} {sl_check_within : Array (Option Value)} {oc_check_within kV_check_within dc_check_within pm_check_within cd_check_within ct_check_within : Value} {f_check_within : Addr}
    (a_check_within : PySem.W.nsIn K mainGlobals "check_within" = some (some (.ref f_check_within))) (l_check_within : K.lookup f_check_within = some ⟨oc_check_within, od_check_within, .func (PySem.W.fnOf "check_within" "check_within" (defArgs s_check_within) (defBody s_check_within) (defScope s_check_within) .none kV_check_within dc_check_within pm_check_within an_check_within cd_check_within ct_check_within), sl_check_within⟩) (cc_check_within : PySem.W.codeIn K cd_check_within "check_within" = true) (k_check_within : PySem.W.keepIn K (.ref f_check_within) = true)
    {od_are_exponents an_are_exponents : Option Addr} {sl_are_exponents : Array (Option Value)} {oc_are_exponents kV_are_exponents dc_are_exponents pm_are_exponents cd_are_exponents ct_are_exponents : Value} {f_are_exponents : Addr}
    (a_are_exponents : PySem.W.nsIn K mainGlobals "are_exponents" = some (some (.ref f_are_exponents))) (l_are_exponents : K.lookup f_are_exponents = some ⟨oc_are_exponents, od_are_exponents, .func (PySem.W.fnOf "are_exponents" "are_exponents" (defArgs s_are_exponents) (defBody s_are_exponents) (defScope s_are_exponents) .none kV_are_exponents dc_are_exponents pm_are_exponents an_are_exponents cd_are_exponents ct_are_exponents), sl_are_exponents⟩) (cc_are_exponents : PySem.W.codeIn K cd_are_exponents "are_exponents" = true) (k_are_exponents : PySem.W.keepIn K (.ref f_are_exponents) = true)
    {od_nothing an_nothing : Option Addr} {sl_nothing : Array (Option Value)} {oc_nothing kV_nothing dc_nothing pm_nothing cd_nothing ct_nothing : Value} {f_nothing : Addr}
    (a_nothing : PySem.W.nsIn K mainGlobals "nothing" = some (some (.ref f_nothing))) (l_nothing : K.lookup f_nothing = some ⟨oc_nothing, od_nothing, .func (PySem.W.fnOf "nothing" "nothing" (defArgs s_nothing) (defBody s_nothing) (defScope s_nothing) .none kV_nothing dc_nothing pm_nothing an_nothing cd_nothing ct_nothing), sl_nothing⟩) (cc_nothing : PySem.W.codeIn K cd_nothing "nothing" = true) (k_nothing : PySem.W.keepIn K (.ref f_nothing) = true)
    {od_fits an_fits : Option Addr} {sl_fits : Array (Option Value)} {oc_fits kV_fits dc_fits pm_fits cd_fits ct_fits : Value} {f_fits : Addr}
    (a_fits : PySem.W.nsIn K mainGlobals "fits" = some (some (.ref f_fits))) (l_fits : K.lookup f_fits = some ⟨oc_fits, od_fits, .func (PySem.W.fnOf "fits" "fits" (defArgs s_fits) (defBody s_fits) (defScope s_fits) .none kV_fits dc_fits pm_fits an_fits cd_fits ct_fits), sl_fits⟩) (cc_fits : PySem.W.codeIn K cd_fits "fits" = true) (k_fits : PySem.W.keepIn K (.ref f_fits) = true)
    {od_is_divided an_is_divided : Option Addr} {sl_is_divided : Array (Option Value)} {oc_is_divided kV_is_divided dc_is_divided pm_is_divided cd_is_divided ct_is_divided : Value} {f_is_divided : Addr}
    (a_is_divided : PySem.W.nsIn K mainGlobals "is_divided" = some (some (.ref f_is_divided))) (l_is_divided : K.lookup f_is_divided = some ⟨oc_is_divided, od_is_divided, .func (PySem.W.fnOf "is_divided" "is_divided" (defArgs s_is_divided) (defBody s_is_divided) (defScope s_is_divided) .none kV_is_divided dc_is_divided pm_is_divided an_is_divided cd_is_divided ct_is_divided), sl_is_divided⟩) (cc_is_divided : PySem.W.codeIn K cd_is_divided "is_divided" = true) (k_is_divided : PySem.W.keepIn K (.ref f_is_divided) = true)
    {od_is_least_of an_is_least_of : Option Addr} {sl_is_least_of : Array (Option Value)} {oc_is_least_of kV_is_least_of dc_is_least_of pm_is_least_of cd_is_least_of ct_is_least_of : Value} {f_is_least_of : Addr}
    (a_is_least_of : PySem.W.nsIn K mainGlobals "is_least_of" = some (some (.ref f_is_least_of))) (l_is_least_of : K.lookup f_is_least_of = some ⟨oc_is_least_of, od_is_least_of, .func (PySem.W.fnOf "is_least_of" "is_least_of" (defArgs s_is_least_of) (defBody s_is_least_of) (defScope s_is_least_of) .none kV_is_least_of dc_is_least_of pm_is_least_of an_is_least_of cd_is_least_of ct_is_least_of), sl_is_least_of⟩) (cc_is_least_of : PySem.W.codeIn K cd_is_least_of "is_least_of" = true) (k_is_least_of : PySem.W.keepIn K (.ref f_is_least_of) = true)
    {tt_least_of : Addr} {tc_least_of : Value} {td_least_of : Option Addr} {tn_least_of : Nat} {ts_least_of : Array (Option Value)}
    {od_least_of an_least_of : Option Addr} {sl_least_of : Array (Option Value)} {oc_least_of kV_least_of dc_least_of pm_least_of cd_least_of ct_least_of : Value} {f_least_of : Addr}
    (a_least_of : PySem.W.nsIn K mainGlobals "least_of" = some (some (.ref f_least_of))) (l_least_of : K.lookup f_least_of = some ⟨oc_least_of, od_least_of, .func (PySem.W.fnOf "least_of" "least_of" (defArgs s_least_of) (defBody s_least_of) (defScope s_least_of) (.ref tt_least_of) kV_least_of dc_least_of pm_least_of an_least_of cd_least_of ct_least_of), sl_least_of⟩) (cc_least_of : PySem.W.codeIn K cd_least_of "least_of" = true) (k_least_of : PySem.W.keepIn K (.ref f_least_of) = true) (t_least_of : K.lookup tt_least_of = some ⟨tc_least_of, td_least_of, .seq #[.none] tn_least_of, ts_least_of⟩)
    {od_lot_text an_lot_text : Option Addr} {sl_lot_text : Array (Option Value)} {oc_lot_text kV_lot_text dc_lot_text pm_lot_text cd_lot_text ct_lot_text : Value} {f_lot_text : Addr}
    (a_lot_text : PySem.W.nsIn K mainGlobals "lot_text" = some (some (.ref f_lot_text))) (l_lot_text : K.lookup f_lot_text = some ⟨oc_lot_text, od_lot_text, .func (PySem.W.fnOf "lot_text" "lot_text" (defArgs s_lot_text) (defBody s_lot_text) (defScope s_lot_text) .none kV_lot_text dc_lot_text pm_lot_text an_lot_text cd_lot_text ct_lot_text), sl_lot_text⟩) (cc_lot_text : PySem.W.codeIn K cd_lot_text "lot_text" = true) (k_lot_text : PySem.W.keepIn K (.ref f_lot_text) = true)
    {od_word_of an_word_of : Option Addr} {sl_word_of : Array (Option Value)} {oc_word_of kV_word_of dc_word_of pm_word_of cd_word_of ct_word_of : Value} {f_word_of : Addr}
    (a_word_of : PySem.W.nsIn K mainGlobals "word_of" = some (some (.ref f_word_of))) (l_word_of : K.lookup f_word_of = some ⟨oc_word_of, od_word_of, .func (PySem.W.fnOf "word_of" "word_of" (defArgs s_word_of) (defBody s_word_of) (defScope s_word_of) .none kV_word_of dc_word_of pm_word_of an_word_of cd_word_of ct_word_of), sl_word_of⟩) (cc_word_of : PySem.W.codeIn K cd_word_of "word_of" = true) (k_word_of : PySem.W.keepIn K (.ref f_word_of) = true)
    {od_letter_text an_letter_text : Option Addr} {sl_letter_text : Array (Option Value)} {oc_letter_text kV_letter_text dc_letter_text pm_letter_text cd_letter_text ct_letter_text : Value} {f_letter_text : Addr}
    (a_letter_text : PySem.W.nsIn K mainGlobals "letter_text" = some (some (.ref f_letter_text))) (l_letter_text : K.lookup f_letter_text = some ⟨oc_letter_text, od_letter_text, .func (PySem.W.fnOf "letter_text" "letter_text" (defArgs s_letter_text) (defBody s_letter_text) (defScope s_letter_text) .none kV_letter_text dc_letter_text pm_letter_text an_letter_text cd_letter_text ct_letter_text), sl_letter_text⟩) (cc_letter_text : PySem.W.codeIn K cd_letter_text "letter_text" = true) (k_letter_text : PySem.W.keepIn K (.ref f_letter_text) = true)
    {od_are_products an_are_products : Option Addr} {sl_are_products : Array (Option Value)} {oc_are_products kV_are_products dc_are_products pm_are_products cd_are_products ct_are_products : Value} {f_are_products : Addr}
    (a_are_products : PySem.W.nsIn K mainGlobals "are_products" = some (some (.ref f_are_products))) (l_are_products : K.lookup f_are_products = some ⟨oc_are_products, od_are_products, .func (PySem.W.fnOf "are_products" "are_products" (defArgs s_are_products) (defBody s_are_products) (defScope s_are_products) .none kV_are_products dc_are_products pm_are_products an_are_products cd_are_products ct_are_products), sl_are_products⟩) (cc_are_products : PySem.W.codeIn K cd_are_products "are_products" = true) (k_are_products : PySem.W.keepIn K (.ref f_are_products) = true)
    {od_made_lot an_made_lot : Option Addr} {sl_made_lot : Array (Option Value)} {oc_made_lot kV_made_lot dc_made_lot pm_made_lot cd_made_lot ct_made_lot : Value} {f_made_lot : Addr}
    (a_made_lot : PySem.W.nsIn K mainGlobals "made_lot" = some (some (.ref f_made_lot))) (l_made_lot : K.lookup f_made_lot = some ⟨oc_made_lot, od_made_lot, .func (PySem.W.fnOf "made_lot" "made_lot" (defArgs s_made_lot) (defBody s_made_lot) (defScope s_made_lot) .none kV_made_lot dc_made_lot pm_made_lot an_made_lot cd_made_lot ct_made_lot), sl_made_lot⟩) (cc_made_lot : PySem.W.codeIn K cd_made_lot "made_lot" = true) (k_made_lot : PySem.W.keepIn K (.ref f_made_lot) = true)
    {od_check_letters an_check_letters : Option Addr} {sl_check_letters : Array (Option Value)} {oc_check_letters kV_check_letters dc_check_letters pm_check_letters cd_check_letters ct_check_letters : Value} {f_check_letters : Addr}
    (a_check_letters : PySem.W.nsIn K mainGlobals "check_letters" = some (some (.ref f_check_letters))) (l_check_letters : K.lookup f_check_letters = some ⟨oc_check_letters, od_check_letters, .func (PySem.W.fnOf "check_letters" "check_letters" (defArgs s_check_letters) (defBody s_check_letters) (defScope s_check_letters) .none kV_check_letters dc_check_letters pm_check_letters an_check_letters cd_check_letters ct_check_letters), sl_check_letters⟩) (cc_check_letters : PySem.W.codeIn K cd_check_letters "check_letters" = true) (k_check_letters : PySem.W.keepIn K (.ref f_check_letters) = true)
    {od_limited_members an_limited_members : Option Addr} {sl_limited_members : Array (Option Value)} {oc_limited_members kV_limited_members dc_limited_members pm_limited_members cd_limited_members ct_limited_members : Value} {f_limited_members : Addr}
    (a_limited_members : PySem.W.nsIn K mainGlobals "limited_members" = some (some (.ref f_limited_members))) (l_limited_members : K.lookup f_limited_members = some ⟨oc_limited_members, od_limited_members, .func (PySem.W.fnOf "limited_members" "limited_members" (defArgs s_limited_members) (defBody s_limited_members) (defScope s_limited_members) .none kV_limited_members dc_limited_members pm_limited_members an_limited_members cd_limited_members ct_limited_members), sl_limited_members⟩) (cc_limited_members : PySem.W.codeIn K cd_limited_members "limited_members" = true) (k_limited_members : PySem.W.keepIn K (.ref f_limited_members) = true)
    {od_has_great_exponent an_has_great_exponent : Option Addr} {sl_has_great_exponent : Array (Option Value)} {oc_has_great_exponent kV_has_great_exponent dc_has_great_exponent pm_has_great_exponent cd_has_great_exponent ct_has_great_exponent : Value} {f_has_great_exponent : Addr}
    (a_has_great_exponent : PySem.W.nsIn K mainGlobals "has_great_exponent" = some (some (.ref f_has_great_exponent))) (l_has_great_exponent : K.lookup f_has_great_exponent = some ⟨oc_has_great_exponent, od_has_great_exponent, .func (PySem.W.fnOf "has_great_exponent" "has_great_exponent" (defArgs s_has_great_exponent) (defBody s_has_great_exponent) (defScope s_has_great_exponent) .none kV_has_great_exponent dc_has_great_exponent pm_has_great_exponent an_has_great_exponent cd_has_great_exponent ct_has_great_exponent), sl_has_great_exponent⟩) (cc_has_great_exponent : PySem.W.codeIn K cd_has_great_exponent "has_great_exponent" = true) (k_has_great_exponent : PySem.W.keepIn K (.ref f_has_great_exponent) = true)
    {od_w_pail an_w_pail : Option Addr} {sl_w_pail : Array (Option Value)} {oc_w_pail kV_w_pail dc_w_pail pm_w_pail cd_w_pail ct_w_pail : Value} {f_w_pail : Addr}
    (a_w_pail : PySem.W.nsIn K mainGlobals "_law_pail" = some (some (.ref f_w_pail))) (l_w_pail : K.lookup f_w_pail = some ⟨oc_w_pail, od_w_pail, .func (PySem.W.fnOf "_law_pail" "_law_pail" (defArgs s_w_pail) (defBody s_w_pail) (defScope s_w_pail) .none kV_w_pail dc_w_pail pm_w_pail an_w_pail cd_w_pail ct_w_pail), sl_w_pail⟩) (cc_w_pail : PySem.W.codeIn K cd_w_pail "_law_pail" = true) (k_w_pail : PySem.W.keepIn K (.ref f_w_pail) = true)
    {od_w_dipped an_w_dipped : Option Addr} {sl_w_dipped : Array (Option Value)} {oc_w_dipped kV_w_dipped dc_w_dipped pm_w_dipped cd_w_dipped ct_w_dipped : Value} {f_w_dipped : Addr}
    (a_w_dipped : PySem.W.nsIn K mainGlobals "_law_dipped" = some (some (.ref f_w_dipped))) (l_w_dipped : K.lookup f_w_dipped = some ⟨oc_w_dipped, od_w_dipped, .func (PySem.W.fnOf "_law_dipped" "_law_dipped" (defArgs s_w_dipped) (defBody s_w_dipped) (defScope s_w_dipped) .none kV_w_dipped dc_w_dipped pm_w_dipped an_w_dipped cd_w_dipped ct_w_dipped), sl_w_dipped⟩) (cc_w_dipped : PySem.W.codeIn K cd_w_dipped "_law_dipped" = true) (k_w_dipped : PySem.W.keepIn K (.ref f_w_dipped) = true)
    {od_w_some an_w_some : Option Addr} {sl_w_some : Array (Option Value)} {oc_w_some kV_w_some dc_w_some pm_w_some cd_w_some ct_w_some : Value} {f_w_some : Addr}
    (a_w_some : PySem.W.nsIn K mainGlobals "_law_some" = some (some (.ref f_w_some))) (l_w_some : K.lookup f_w_some = some ⟨oc_w_some, od_w_some, .func (PySem.W.fnOf "_law_some" "_law_some" (defArgs s_w_some) (defBody s_w_some) (defScope s_w_some) .none kV_w_some dc_w_some pm_w_some an_w_some cd_w_some ct_w_some), sl_w_some⟩) (cc_w_some : PySem.W.codeIn K cd_w_some "_law_some" = true) (k_w_some : PySem.W.keepIn K (.ref f_w_some) = true)
    {od_w_product an_w_product : Option Addr} {sl_w_product : Array (Option Value)} {oc_w_product kV_w_product dc_w_product pm_w_product cd_w_product ct_w_product : Value} {f_w_product : Addr}
    (a_w_product : PySem.W.nsIn K mainGlobals "_law_product" = some (some (.ref f_w_product))) (l_w_product : K.lookup f_w_product = some ⟨oc_w_product, od_w_product, .func (PySem.W.fnOf "_law_product" "_law_product" (defArgs s_w_product) (defBody s_w_product) (defScope s_w_product) .none kV_w_product dc_w_product pm_w_product an_w_product cd_w_product ct_w_product), sl_w_product⟩) (cc_w_product : PySem.W.codeIn K cd_w_product "_law_product" = true) (k_w_product : PySem.W.keepIn K (.ref f_w_product) = true)
    {od_w_products an_w_products : Option Addr} {sl_w_products : Array (Option Value)} {oc_w_products kV_w_products dc_w_products pm_w_products cd_w_products ct_w_products : Value} {f_w_products : Addr}
    (a_w_products : PySem.W.nsIn K mainGlobals "_law_products" = some (some (.ref f_w_products))) (l_w_products : K.lookup f_w_products = some ⟨oc_w_products, od_w_products, .func (PySem.W.fnOf "_law_products" "_law_products" (defArgs s_w_products) (defBody s_w_products) (defScope s_w_products) .none kV_w_products dc_w_products pm_w_products an_w_products cd_w_products ct_w_products), sl_w_products⟩) (cc_w_products : PySem.W.codeIn K cd_w_products "_law_products" = true) (k_w_products : PySem.W.keepIn K (.ref f_w_products) = true)
    {od_w_divides an_w_divides : Option Addr} {sl_w_divides : Array (Option Value)} {oc_w_divides kV_w_divides dc_w_divides pm_w_divides cd_w_divides ct_w_divides : Value} {f_w_divides : Addr}
    (a_w_divides : PySem.W.nsIn K mainGlobals "_law_divides" = some (some (.ref f_w_divides))) (l_w_divides : K.lookup f_w_divides = some ⟨oc_w_divides, od_w_divides, .func (PySem.W.fnOf "_law_divides" "_law_divides" (defArgs s_w_divides) (defBody s_w_divides) (defScope s_w_divides) .none kV_w_divides dc_w_divides pm_w_divides an_w_divides cd_w_divides ct_w_divides), sl_w_divides⟩) (cc_w_divides : PySem.W.codeIn K cd_w_divides "_law_divides" = true) (k_w_divides : PySem.W.keepIn K (.ref f_w_divides) = true)
    {od_w_least an_w_least : Option Addr} {sl_w_least : Array (Option Value)} {oc_w_least kV_w_least dc_w_least pm_w_least cd_w_least ct_w_least : Value} {f_w_least : Addr}
    (a_w_least : PySem.W.nsIn K mainGlobals "_law_least" = some (some (.ref f_w_least))) (l_w_least : K.lookup f_w_least = some ⟨oc_w_least, od_w_least, .func (PySem.W.fnOf "_law_least" "_law_least" (defArgs s_w_least) (defBody s_w_least) (defScope s_w_least) .none kV_w_least dc_w_least pm_w_least an_w_least cd_w_least ct_w_least), sl_w_least⟩) (cc_w_least : PySem.W.codeIn K cd_w_least "_law_least" = true) (k_w_least : PySem.W.keepIn K (.ref f_w_least) = true)
    {od_w_has an_w_has : Option Addr} {sl_w_has : Array (Option Value)} {oc_w_has kV_w_has dc_w_has pm_w_has cd_w_has ct_w_has : Value} {f_w_has : Addr}
    (a_w_has : PySem.W.nsIn K mainGlobals "_law_has" = some (some (.ref f_w_has))) (l_w_has : K.lookup f_w_has = some ⟨oc_w_has, od_w_has, .func (PySem.W.fnOf "_law_has" "_law_has" (defArgs s_w_has) (defBody s_w_has) (defScope s_w_has) .none kV_w_has dc_w_has pm_w_has an_w_has cd_w_has ct_w_has), sl_w_has⟩) (cc_w_has : PySem.W.codeIn K cd_w_has "_law_has" = true) (k_w_has : PySem.W.keepIn K (.ref f_w_has) = true)
    {od_w_lessened an_w_lessened : Option Addr} {sl_w_lessened : Array (Option Value)} {oc_w_lessened kV_w_lessened dc_w_lessened pm_w_lessened cd_w_lessened ct_w_lessened : Value} {f_w_lessened : Addr}
    (a_w_lessened : PySem.W.nsIn K mainGlobals "_law_lessened" = some (some (.ref f_w_lessened))) (l_w_lessened : K.lookup f_w_lessened = some ⟨oc_w_lessened, od_w_lessened, .func (PySem.W.fnOf "_law_lessened" "_law_lessened" (defArgs s_w_lessened) (defBody s_w_lessened) (defScope s_w_lessened) .none kV_w_lessened dc_w_lessened pm_w_lessened an_w_lessened cd_w_lessened ct_w_lessened), sl_w_lessened⟩) (cc_w_lessened : PySem.W.codeIn K cd_w_lessened "_law_lessened" = true) (k_w_lessened : PySem.W.keepIn K (.ref f_w_lessened) = true)
    {od_w_lot_text an_w_lot_text : Option Addr} {sl_w_lot_text : Array (Option Value)} {oc_w_lot_text kV_w_lot_text dc_w_lot_text pm_w_lot_text cd_w_lot_text ct_w_lot_text : Value} {f_w_lot_text : Addr}
    (a_w_lot_text : PySem.W.nsIn K mainGlobals "_law_lot_text" = some (some (.ref f_w_lot_text))) (l_w_lot_text : K.lookup f_w_lot_text = some ⟨oc_w_lot_text, od_w_lot_text, .func (PySem.W.fnOf "_law_lot_text" "_law_lot_text" (defArgs s_w_lot_text) (defBody s_w_lot_text) (defScope s_w_lot_text) .none kV_w_lot_text dc_w_lot_text pm_w_lot_text an_w_lot_text cd_w_lot_text ct_w_lot_text), sl_w_lot_text⟩) (cc_w_lot_text : PySem.W.codeIn K cd_w_lot_text "_law_lot_text" = true) (k_w_lot_text : PySem.W.keepIn K (.ref f_w_lot_text) = true)
    {od_w_right an_w_right : Option Addr} {sl_w_right : Array (Option Value)} {oc_w_right kV_w_right dc_w_right pm_w_right cd_w_right ct_w_right : Value} {f_w_right : Addr}
    (a_w_right : PySem.W.nsIn K mainGlobals "_law_right" = some (some (.ref f_w_right))) (l_w_right : K.lookup f_w_right = some ⟨oc_w_right, od_w_right, .func (PySem.W.fnOf "_law_right" "_law_right" (defArgs s_w_right) (defBody s_w_right) (defScope s_w_right) .none kV_w_right dc_w_right pm_w_right an_w_right cd_w_right ct_w_right), sl_w_right⟩) (cc_w_right : PySem.W.codeIn K cd_w_right "_law_right" = true) (k_w_right : PySem.W.keepIn K (.ref f_w_right) = true)
    {od_law an_law : Option Addr} {sl_law : Array (Option Value)} {oc_law kV_law dc_law pm_law cd_law ct_law : Value} {f_law : Addr}
    (a_law : PySem.W.nsIn K mainGlobals "law" = some (some (.ref f_law))) (l_law : K.lookup f_law = some ⟨oc_law, od_law, .func (PySem.W.fnOf "law" "law" (defArgs s_law) (defBody s_law) (defScope s_law) .none kV_law dc_law pm_law an_law cd_law ct_law), sl_law⟩) (cc_law : PySem.W.codeIn K cd_law "law" = true) (k_law : PySem.W.keepIn K (.ref f_law) = true)
    (aC : PySem.W.nsIn K mainGlobals "Lot" = some (some (.ref C)))
    {od_init an_init : Option Addr} {sl_init : Array (Option Value)} {oc_init kV_init dc_init pm_init cd_init ct_init : Value} {f_init : Addr}
    (a_init : PySem.W.findIn K (.ref C) "__init__" = some (some (.ref f_init))) (i_init : PySem.W.isFn K (.ref f_init) = true) (l_init : K.lookup f_init = some ⟨oc_init, od_init, .func (PySem.W.fnOf "__init__" "Lot.__init__" (defArgs s_init) (defBody s_init) (defScope s_init) .none kV_init dc_init pm_init an_init cd_init ct_init), sl_init⟩) (cc_init : PySem.W.codeIn K cd_init "Lot.__init__" = true) (k_init : PySem.W.keepIn K (.ref f_init) = true)
    {od_has an_has : Option Addr} {sl_has : Array (Option Value)} {oc_has kV_has dc_has pm_has cd_has ct_has : Value} {f_has : Addr}
    (a_has : PySem.W.findIn K (.ref C) "__contains__" = some (some (.ref f_has))) (i_has : PySem.W.isFn K (.ref f_has) = true) (l_has : K.lookup f_has = some ⟨oc_has, od_has, .func (PySem.W.fnOf "__contains__" "Lot.__contains__" (defArgs s_has) (defBody s_has) (defScope s_has) .none kV_has dc_has pm_has an_has cd_has ct_has), sl_has⟩) (cc_has : PySem.W.codeIn K cd_has "Lot.__contains__" = true) (k_has : PySem.W.keepIn K (.ref f_has) = true)
    {od_eq an_eq : Option Addr} {sl_eq : Array (Option Value)} {oc_eq kV_eq dc_eq pm_eq cd_eq ct_eq : Value} {f_eq : Addr}
    (a_eq : PySem.W.findIn K (.ref C) "__eq__" = some (some (.ref f_eq))) (i_eq : PySem.W.isFn K (.ref f_eq) = true) (l_eq : K.lookup f_eq = some ⟨oc_eq, od_eq, .func (PySem.W.fnOf "__eq__" "Lot.__eq__" (defArgs s_eq) (defBody s_eq) (defScope s_eq) .none kV_eq dc_eq pm_eq an_eq cd_eq ct_eq), sl_eq⟩) (cc_eq : PySem.W.codeIn K cd_eq "Lot.__eq__" = true) (k_eq : PySem.W.keepIn K (.ref f_eq) = true)
    {od_len an_len : Option Addr} {sl_len : Array (Option Value)} {oc_len kV_len dc_len pm_len cd_len ct_len : Value} {f_len : Addr}
    (a_len : PySem.W.findIn K (.ref C) "__len__" = some (some (.ref f_len))) (i_len : PySem.W.isFn K (.ref f_len) = true) (l_len : K.lookup f_len = some ⟨oc_len, od_len, .func (PySem.W.fnOf "__len__" "Lot.__len__" (defArgs s_len) (defBody s_len) (defScope s_len) .none kV_len dc_len pm_len an_len cd_len ct_len), sl_len⟩) (cc_len : PySem.W.codeIn K cd_len "Lot.__len__" = true) (k_len : PySem.W.keepIn K (.ref f_len) = true)
    {od_iter an_iter : Option Addr} {sl_iter : Array (Option Value)} {oc_iter kV_iter dc_iter pm_iter cd_iter ct_iter : Value} {f_iter : Addr}
    (a_iter : PySem.W.findIn K (.ref C) "__iter__" = some (some (.ref f_iter))) (i_iter : PySem.W.isFn K (.ref f_iter) = true) (l_iter : K.lookup f_iter = some ⟨oc_iter, od_iter, .func (PySem.W.fnOf "__iter__" "Lot.__iter__" (defArgs s_iter) (defBody s_iter) (defScope s_iter) .none kV_iter dc_iter pm_iter an_iter cd_iter ct_iter), sl_iter⟩) (cc_iter : PySem.W.codeIn K cd_iter "Lot.__iter__" = true) (k_iter : PySem.W.keepIn K (.ref f_iter) = true)
    {od_str an_str : Option Addr} {sl_str : Array (Option Value)} {oc_str kV_str dc_str pm_str cd_str ct_str : Value} {f_str : Addr}
    (a_str : PySem.W.findIn K (.ref C) "__str__" = some (some (.ref f_str))) (i_str : PySem.W.isFn K (.ref f_str) = true) (l_str : K.lookup f_str = some ⟨oc_str, od_str, .func (PySem.W.fnOf "__str__" "Lot.__str__" (defArgs s_str) (defBody s_str) (defScope s_str) .none kV_str dc_str pm_str an_str cd_str ct_str), sl_str⟩) (cc_str : PySem.W.codeIn K cd_str "Lot.__str__" = true) (k_str : PySem.W.keepIn K (.ref f_str) = true)
    {od_bool an_bool : Option Addr} {sl_bool : Array (Option Value)} {oc_bool kV_bool dc_bool pm_bool cd_bool ct_bool : Value} {f_bool : Addr}
    (a_bool : PySem.W.findIn K (.ref C) "__bool__" = some (some (.ref f_bool))) (i_bool : PySem.W.isFn K (.ref f_bool) = true) (l_bool : K.lookup f_bool = some ⟨oc_bool, od_bool, .func (PySem.W.fnOf "__bool__" "Lot.__bool__" (defArgs s_bool) (defBody s_bool) (defScope s_bool) .none kV_bool dc_bool pm_bool an_bool cd_bool ct_bool), sl_bool⟩) (cc_bool : PySem.W.codeIn K cd_bool "Lot.__bool__" = true) (k_bool : PySem.W.keepIn K (.ref f_bool) = true)
    {pp_letters : Addr} {re_letters : List Value}
    {od_letters an_letters : Option Addr} {sl_letters : Array (Option Value)} {oc_letters kV_letters dc_letters pm_letters cd_letters ct_letters : Value} {f_letters : Addr}
    (a_letters : PySem.W.findIn K (.ref C) "letters" = some (some (.ref pp_letters))) (g_letters : PySem.W.specialIn K (.ref pp_letters) "__get__" = some (some (.builtin "property.__get__"))) (tk_letters : PySem.W.takesIn K (.ref pp_letters) = some true) (r_letters : PySem.W.recIn K pp_letters "property" = some (.ref f_letters :: re_letters)) (l_letters : K.lookup f_letters = some ⟨oc_letters, od_letters, .func (PySem.W.fnOf "letters" "Lot.letters" (defArgs s_letters) (defBody s_letters) (defScope s_letters) .none kV_letters dc_letters pm_letters an_letters cd_letters ct_letters), sl_letters⟩) (cc_letters : PySem.W.codeIn K cd_letters "Lot.letters" = true) (k_letters : PySem.W.keepIn K (.ref f_letters) = true)
    {pp_members : Addr} {re_members : List Value}
    {od_members an_members : Option Addr} {sl_members : Array (Option Value)} {oc_members kV_members dc_members pm_members cd_members ct_members : Value} {f_members : Addr}
    (a_members : PySem.W.findIn K (.ref C) "members" = some (some (.ref pp_members))) (g_members : PySem.W.specialIn K (.ref pp_members) "__get__" = some (some (.builtin "property.__get__"))) (tk_members : PySem.W.takesIn K (.ref pp_members) = some true) (r_members : PySem.W.recIn K pp_members "property" = some (.ref f_members :: re_members)) (l_members : K.lookup f_members = some ⟨oc_members, od_members, .func (PySem.W.fnOf "members" "Lot.members" (defArgs s_members) (defBody s_members) (defScope s_members) .none kV_members dc_members pm_members an_members cd_members ct_members), sl_members⟩) (cc_members : PySem.W.codeIn K cd_members "Lot.members" = true) (k_members : PySem.W.keepIn K (.ref f_members) = true)
    {pp_degrees : Addr} {re_degrees : List Value}
    {od_degrees an_degrees : Option Addr} {sl_degrees : Array (Option Value)} {oc_degrees kV_degrees dc_degrees pm_degrees cd_degrees ct_degrees : Value} {f_degrees : Addr}
    (a_degrees : PySem.W.findIn K (.ref C) "degrees" = some (some (.ref pp_degrees))) (g_degrees : PySem.W.specialIn K (.ref pp_degrees) "__get__" = some (some (.builtin "property.__get__"))) (tk_degrees : PySem.W.takesIn K (.ref pp_degrees) = some true) (r_degrees : PySem.W.recIn K pp_degrees "property" = some (.ref f_degrees :: re_degrees)) (l_degrees : K.lookup f_degrees = some ⟨oc_degrees, od_degrees, .func (PySem.W.fnOf "degrees" "Lot.degrees" (defArgs s_degrees) (defBody s_degrees) (defScope s_degrees) .none kV_degrees dc_degrees pm_degrees an_degrees cd_degrees ct_degrees), sl_degrees⟩) (cc_degrees : PySem.W.codeIn K cd_degrees "Lot.degrees" = true) (k_degrees : PySem.W.keepIn K (.ref f_degrees) = true)
    {pp_is_all : Addr} {re_is_all : List Value}
    {od_is_all an_is_all : Option Addr} {sl_is_all : Array (Option Value)} {oc_is_all kV_is_all dc_is_all pm_is_all cd_is_all ct_is_all : Value} {f_is_all : Addr}
    (a_is_all : PySem.W.findIn K (.ref C) "is_all" = some (some (.ref pp_is_all))) (g_is_all : PySem.W.specialIn K (.ref pp_is_all) "__get__" = some (some (.builtin "property.__get__"))) (tk_is_all : PySem.W.takesIn K (.ref pp_is_all) = some true) (r_is_all : PySem.W.recIn K pp_is_all "property" = some (.ref f_is_all :: re_is_all)) (l_is_all : K.lookup f_is_all = some ⟨oc_is_all, od_is_all, .func (PySem.W.fnOf "is_all" "Lot.is_all" (defArgs s_is_all) (defBody s_is_all) (defScope s_is_all) .none kV_is_all dc_is_all pm_is_all an_is_all cd_is_all ct_is_all), sl_is_all⟩) (cc_is_all : PySem.W.codeIn K cd_is_all "Lot.is_all" = true) (k_is_all : PySem.W.keepIn K (.ref f_is_all) = true)
    {pp_is_squarefree : Addr} {re_is_squarefree : List Value}
    {od_is_squarefree an_is_squarefree : Option Addr} {sl_is_squarefree : Array (Option Value)} {oc_is_squarefree kV_is_squarefree dc_is_squarefree pm_is_squarefree cd_is_squarefree ct_is_squarefree : Value} {f_is_squarefree : Addr}
    (a_is_squarefree : PySem.W.findIn K (.ref C) "is_squarefree" = some (some (.ref pp_is_squarefree))) (g_is_squarefree : PySem.W.specialIn K (.ref pp_is_squarefree) "__get__" = some (some (.builtin "property.__get__"))) (tk_is_squarefree : PySem.W.takesIn K (.ref pp_is_squarefree) = some true) (r_is_squarefree : PySem.W.recIn K pp_is_squarefree "property" = some (.ref f_is_squarefree :: re_is_squarefree)) (l_is_squarefree : K.lookup f_is_squarefree = some ⟨oc_is_squarefree, od_is_squarefree, .func (PySem.W.fnOf "is_squarefree" "Lot.is_squarefree" (defArgs s_is_squarefree) (defBody s_is_squarefree) (defScope s_is_squarefree) .none kV_is_squarefree dc_is_squarefree pm_is_squarefree an_is_squarefree cd_is_squarefree ct_is_squarefree), sl_is_squarefree⟩) (cc_is_squarefree : PySem.W.codeIn K cd_is_squarefree "Lot.is_squarefree" = true) (k_is_squarefree : PySem.W.keepIn K (.ref f_is_squarefree) = true)
    (pgC : PySem.W.plainGet K C Str.empty = true)
    (hdC : PySem.W.hasDictIn K C = true)
    (poC : PySem.W.plainOver K C = true)
    (saC : PySem.W.findIn K (.ref C) "__setattr__" = some (some (.builtin "object.__setattr__")))
    (mkC : PySem.W.makesIn K C = true)
    (kcC : PySem.W.keepIn K (.ref C) = true)
    (nL : PySem.W.findIn K (.ref C) "_letters" = some none)
    (nM : PySem.W.findIn K (.ref C) "_members" = some none)
    (c1 : PySem.W.findIn K (.ref C) "__class__" = some (some (.builtin "object.__class__")))
    (c2 : PySem.W.specialIn K (.builtin "object.__class__") "__get__" = some (some (.builtin "getset_descriptor.__get__")))
    (c3 : PySem.W.takesIn K (.builtin "object.__class__") = some true)
    (hm : PySem.W.mroIn K C (.type "object") = some true)
    (kit : PySem.W.kitOne K (.ref C) (.ref C) = some true)
    (kk1 : PySem.W.kitOne K (.type "tuple") (.ref C) = some false)
    (kk2 : PySem.W.kitOne K (.type "str") (.ref C) = some false)
    (kkt : PySem.W.kitOne K (.ref C) (.type "tuple") = some false)
    (ss1 : PySem.W.subIn K (.type "tuple") (.ref C) = some false)
    (ss2 : PySem.W.subIn K (.type "str") (.ref C) = some false)
    (hne : PySem.W.findIn K (.ref C) "__ne__" = some (some (.builtin "object.__ne__")))
    (zz_iter : PySem.W.nsIn K mainGlobals "iter" = some none)
    (z_isinstance : PySem.W.nsIn K mainGlobals "isinstance" = some none)
    (z_int : PySem.W.nsIn K mainGlobals "int" = some none)
    (z_bool : PySem.W.nsIn K mainGlobals "bool" = some none)
    (z_tuple : PySem.W.nsIn K mainGlobals "tuple" = some none)
    (z_len : PySem.W.nsIn K mainGlobals "len" = some none)
    (z_all : PySem.W.nsIn K mainGlobals "all" = some none)
    (z_zip : PySem.W.nsIn K mainGlobals "zip" = some none)
    (z_sorted : PySem.W.nsIn K mainGlobals "sorted" = some none)
    (z_set : PySem.W.nsIn K mainGlobals "set" = some none)
    (z_enumerate : PySem.W.nsIn K mainGlobals "enumerate" = some none)
    (z_range : PySem.W.nsIn K mainGlobals "range" = some none)
    (z_max : PySem.W.nsIn K mainGlobals "max" = some none)
    (z_sum : PySem.W.nsIn K mainGlobals "sum" = some none)
    (z_abs : PySem.W.nsIn K mainGlobals "abs" = some none)
    (z_min : PySem.W.nsIn K mainGlobals "min" = some none)
    (z_str : PySem.W.nsIn K mainGlobals "str" = some none)
    (z_list : PySem.W.nsIn K mainGlobals "list" = some none)
    {t_MAX_LETTERS : Nat} (g_MAX_LETTERS : PySem.W.nsIn K mainGlobals "MAX_LETTERS" = some (some (.int 8 t_MAX_LETTERS)))
    {t_MAX_EXPONENT : Nat} (g_MAX_EXPONENT : PySem.W.nsIn K mainGlobals "MAX_EXPONENT" = some (some (.int 60 t_MAX_EXPONENT)))
    {t_LONGEST_EXPONENT : Nat} (g_LONGEST_EXPONENT : PySem.W.nsIn K mainGlobals "LONGEST_EXPONENT" = some (some (.int 2 t_LONGEST_EXPONENT)))
    {t_MAX_MEMBER_EXPONENT : Nat} (g_MAX_MEMBER_EXPONENT : PySem.W.nsIn K mainGlobals "MAX_MEMBER_EXPONENT" = some (some (.int 8 t_MAX_MEMBER_EXPONENT)))
    {t_MAX_MEMBERS : Nat} (g_MAX_MEMBERS : PySem.W.nsIn K mainGlobals "MAX_MEMBERS" = some (some (.int 24 t_MAX_MEMBERS)))
    {t_MAX_PASSED : Nat} (g_MAX_PASSED : PySem.W.nsIn K mainGlobals "MAX_PASSED" = some (some (.int 200 t_MAX_PASSED)))
    {t_MAX_POWER : Nat} (g_MAX_POWER : PySem.W.nsIn K mainGlobals "MAX_POWER" = some (some (.int 4 t_MAX_POWER)))
    : ∃ fd : FuncData, (∀ (s : Shared) (v : Value), BindsTo s fd ⟨[v], []⟩ [("_law_script", v)]) ∧ ∀ base : Heap, K.In base → base.Ns mainGlobals mg → FnOk l.prog w K mg base CX0 10 fa fd ["_law_script"] (sp_law K) := by
  have e := hfa.symm.trans (PySem.W.mg_of X G a_law)
  cases e
  have F_is_number := fun_mk (st := s_is_number) l_is_number cc_is_number k_is_number
  have b_is_number := F_is_number.binds (ps := ["value"]) fun _ _ _ _ _ _ us hl => match us, hl with | [_], _ => rfl
  have F_is_within := fun_mk (st := s_is_within) l_is_within cc_is_within k_is_within
  have b_is_within := F_is_within.binds (ps := ["value", "least", "most"]) fun _ _ _ _ _ _ us hl => match us, hl with | [_, _, _], _ => rfl
  have F_check_within := fun_mk (st := s_check_within) l_check_within cc_check_within k_check_within
  have b_check_within := F_check_within.binds (ps := ["value", "least", "most"]) fun _ _ _ _ _ _ us hl => match us, hl with | [_, _, _], _ => rfl
  have F_are_exponents := fun_mk (st := s_are_exponents) l_are_exponents cc_are_exponents k_are_exponents
  have b_are_exponents := F_are_exponents.binds (ps := ["value", "letters", "most"]) fun _ _ _ _ _ _ us hl => match us, hl with | [_, _, _], _ => rfl
  have F_nothing := fun_mk (st := s_nothing) l_nothing cc_nothing k_nothing
  have b_nothing := F_nothing.binds (ps := ["letters"]) fun _ _ _ _ _ _ us hl => match us, hl with | [_], _ => rfl
  have F_fits := fun_mk (st := s_fits) l_fits cc_fits k_fits
  have b_fits := F_fits.binds (ps := ["one", "other"]) fun _ _ _ _ _ _ us hl => match us, hl with | [_, _], _ => rfl
  have F_is_divided := fun_mk (st := s_is_divided) l_is_divided cc_is_divided k_is_divided
  have b_is_divided := F_is_divided.binds (ps := ["product", "products"]) fun _ _ _ _ _ _ us hl => match us, hl with | [_, _], _ => rfl
  have F_is_least_of := fun_mk (st := s_is_least_of) l_is_least_of cc_is_least_of k_is_least_of
  have b_is_least_of := F_is_least_of.binds (ps := ["product", "products"]) fun _ _ _ _ _ _ us hl => match us, hl with | [_, _], _ => rfl
  have F_least_of : FunD K "least_of" "least_of" (defArgs s_least_of) (defBody s_least_of) (defScope s_least_of) [.non] [] f_least_of _ := ⟨⟨_, _, _, _, _, _, _, _, _, _, rfl, l_least_of, cc_least_of, .inr ⟨by simp, _, _, [.none], _, rfl, t_least_of, rfl, .cons rfl .nil⟩, .inl rfl⟩, k_least_of⟩
  obtain ⟨ds_least_of, hv_least_of, b_least_of⟩ := F_least_of.binds1 (ps := ["products", "most"]) 2 1 (by simp) rfl (fun T kV doc pm an cdv ct us its h1 h2 => match us, its, h1, h2 with | [_, _], [_], _, _ => ⟨_, rfl, rfl⟩)
  cases hv_least_of
  have F_lot_text := fun_mk (st := s_lot_text) l_lot_text cc_lot_text k_lot_text
  have b_lot_text := F_lot_text.binds (ps := ["members"]) fun _ _ _ _ _ _ us hl => match us, hl with | [_], _ => rfl
  have F_word_of := fun_mk (st := s_word_of) l_word_of cc_word_of k_word_of
  have b_word_of := F_word_of.binds (ps := ["product"]) fun _ _ _ _ _ _ us hl => match us, hl with | [_], _ => rfl
  have F_letter_text := fun_mk (st := s_letter_text) l_letter_text cc_letter_text k_letter_text
  have b_letter_text := F_letter_text.binds (ps := ["index", "exponent"]) fun _ _ _ _ _ _ us hl => match us, hl with | [_, _], _ => rfl
  have F_are_products := fun_mk (st := s_are_products) l_are_products cc_are_products k_are_products
  have b_are_products := F_are_products.binds (ps := ["value", "letters"]) fun _ _ _ _ _ _ us hl => match us, hl with | [_, _], _ => rfl
  have F_made_lot := fun_mk (st := s_made_lot) l_made_lot cc_made_lot k_made_lot
  have b_made_lot := F_made_lot.binds (ps := ["letters", "members"]) fun _ _ _ _ _ _ us hl => match us, hl with | [_, _], _ => rfl
  have F_check_letters := fun_mk (st := s_check_letters) l_check_letters cc_check_letters k_check_letters
  have b_check_letters := F_check_letters.binds (ps := ["one", "other"]) fun _ _ _ _ _ _ us hl => match us, hl with | [_, _], _ => rfl
  have F_limited_members := fun_mk (st := s_limited_members) l_limited_members cc_limited_members k_limited_members
  have b_limited_members := F_limited_members.binds (ps := ["products"]) fun _ _ _ _ _ _ us hl => match us, hl with | [_], _ => rfl
  have F_has_great_exponent := fun_mk (st := s_has_great_exponent) l_has_great_exponent cc_has_great_exponent k_has_great_exponent
  have b_has_great_exponent := F_has_great_exponent.binds (ps := ["products"]) fun _ _ _ _ _ _ us hl => match us, hl with | [_], _ => rfl
  have F_w_pail := fun_mk (st := s_w_pail) l_w_pail cc_w_pail k_w_pail
  have b_w_pail := F_w_pail.binds (ps := ["_law_script", "_law_spot"]) fun _ _ _ _ _ _ us hl => match us, hl with | [_, _], _ => rfl
  have F_w_dipped := fun_mk (st := s_w_dipped) l_w_dipped cc_w_dipped k_w_dipped
  have b_w_dipped := F_w_dipped.binds (ps := ["_law_pail_here", "_law_many"]) fun _ _ _ _ _ _ us hl => match us, hl with | [_, _], _ => rfl
  have F_w_some := fun_mk (st := s_w_some) l_w_some cc_w_some k_w_some
  have b_w_some := F_w_some.binds (ps := ["_law_pail_here", "_law_items"]) fun _ _ _ _ _ _ us hl => match us, hl with | [_, _], _ => rfl
  have F_w_product := fun_mk (st := s_w_product) l_w_product cc_w_product k_w_product
  have b_w_product := F_w_product.binds (ps := ["_law_pail_here", "_law_letters", "_law_most"]) fun _ _ _ _ _ _ us hl => match us, hl with | [_, _, _], _ => rfl
  have F_w_products := fun_mk (st := s_w_products) l_w_products cc_w_products k_w_products
  have b_w_products := F_w_products.binds (ps := ["_law_pail_here", "_law_letters", "_law_many", "_law_most"]) fun _ _ _ _ _ _ us hl => match us, hl with | [_, _, _, _], _ => rfl
  have F_w_divides := fun_mk (st := s_w_divides) l_w_divides cc_w_divides k_w_divides
  have b_w_divides := F_w_divides.binds (ps := ["_law_one", "_law_other"]) fun _ _ _ _ _ _ us hl => match us, hl with | [_, _], _ => rfl
  have F_w_least := fun_mk (st := s_w_least) l_w_least cc_w_least k_w_least
  have b_w_least := F_w_least.binds (ps := ["_law_products_here"]) fun _ _ _ _ _ _ us hl => match us, hl with | [_], _ => rfl
  have F_w_has := fun_mk (st := s_w_has) l_w_has cc_w_has k_w_has
  have b_w_has := F_w_has.binds (ps := ["_law_members", "_law_product_here"]) fun _ _ _ _ _ _ us hl => match us, hl with | [_, _], _ => rfl
  have F_w_lessened := fun_mk (st := s_w_lessened) l_w_lessened cc_w_lessened k_w_lessened
  have b_w_lessened := F_w_lessened.binds (ps := ["_law_one", "_law_other"]) fun _ _ _ _ _ _ us hl => match us, hl with | [_, _], _ => rfl
  have F_w_lot_text := fun_mk (st := s_w_lot_text) l_w_lot_text cc_w_lot_text k_w_lot_text
  have b_w_lot_text := F_w_lot_text.binds (ps := ["_law_members"]) fun _ _ _ _ _ _ us hl => match us, hl with | [_], _ => rfl
  have F_w_right := fun_mk (st := s_w_right) l_w_right cc_w_right k_w_right
  have b_w_right := F_w_right.binds (ps := ["_law_pail_here"]) fun _ _ _ _ _ _ us hl => match us, hl with | [_], _ => rfl
  have F_law := fun_mk (st := s_law) l_law cc_law k_law
  have b_law := F_law.binds (ps := ["_law_script"]) fun _ _ _ _ _ _ us hl => match us, hl with | [_], _ => rfl
  have F_init := fun_mk (st := s_init) l_init cc_init k_init
  have b_init := F_init.binds (ps := ["self", "letters", "members"]) fun _ _ _ _ _ _ us hl => match us, hl with | [_, _, _], _ => rfl
  have F_has := fun_mk (st := s_has) l_has cc_has k_has
  have b_has := F_has.binds (ps := ["self", "value"]) fun _ _ _ _ _ _ us hl => match us, hl with | [_, _], _ => rfl
  have F_eq := fun_mk (st := s_eq) l_eq cc_eq k_eq
  have b_eq := F_eq.binds (ps := ["self", "other"]) fun _ _ _ _ _ _ us hl => match us, hl with | [_, _], _ => rfl
  have F_len := fun_mk (st := s_len) l_len cc_len k_len
  have b_len := F_len.binds (ps := ["self"]) fun _ _ _ _ _ _ us hl => match us, hl with | [_], _ => rfl
  have F_iter := fun_mk (st := s_iter) l_iter cc_iter k_iter
  have b_iter := F_iter.binds (ps := ["self"]) fun _ _ _ _ _ _ us hl => match us, hl with | [_], _ => rfl
  have F_str := fun_mk (st := s_str) l_str cc_str k_str
  have b_str := F_str.binds (ps := ["self"]) fun _ _ _ _ _ _ us hl => match us, hl with | [_], _ => rfl
  have F_bool := fun_mk (st := s_bool) l_bool cc_bool k_bool
  have b_bool := F_bool.binds (ps := ["self"]) fun _ _ _ _ _ _ us hl => match us, hl with | [_], _ => rfl
  have F_letters := fun_mk (st := s_letters) l_letters cc_letters k_letters
  have b_letters := F_letters.binds (ps := ["self"]) fun _ _ _ _ _ _ us hl => match us, hl with | [_], _ => rfl
  have F_members := fun_mk (st := s_members) l_members cc_members k_members
  have b_members := F_members.binds (ps := ["self"]) fun _ _ _ _ _ _ us hl => match us, hl with | [_], _ => rfl
  have F_degrees := fun_mk (st := s_degrees) l_degrees cc_degrees k_degrees
  have b_degrees := F_degrees.binds (ps := ["self"]) fun _ _ _ _ _ _ us hl => match us, hl with | [_], _ => rfl
  have F_is_all := fun_mk (st := s_is_all) l_is_all cc_is_all k_is_all
  have b_is_all := F_is_all.binds (ps := ["self"]) fun _ _ _ _ _ _ us hl => match us, hl with | [_], _ => rfl
  have F_is_squarefree := fun_mk (st := s_is_squarefree) l_is_squarefree cc_is_squarefree k_is_squarefree
  have b_is_squarefree := F_is_squarefree.binds (ps := ["self"]) fun _ _ _ _ _ _ us hl => match us, hl with | [_], _ => rfl
  let T : Txt K mg := ⟨_, _, F_is_number, b_is_number, PySem.W.mg_of X G a_is_number, _, _, F_is_within, b_is_within, PySem.W.mg_of X G a_is_within, _, _, F_check_within, b_check_within, PySem.W.mg_of X G a_check_within, _, _, F_are_exponents, b_are_exponents, PySem.W.mg_of X G a_are_exponents, _, _, F_nothing, b_nothing, PySem.W.mg_of X G a_nothing, _, _, F_fits, b_fits, PySem.W.mg_of X G a_fits, _, _, F_is_divided, b_is_divided, PySem.W.mg_of X G a_is_divided, _, _, F_is_least_of, b_is_least_of, PySem.W.mg_of X G a_is_least_of, _, _, F_least_of, k_least_of, b_least_of, PySem.W.mg_of X G a_least_of, _, _, F_lot_text, b_lot_text, PySem.W.mg_of X G a_lot_text, _, _, F_word_of, b_word_of, PySem.W.mg_of X G a_word_of, _, _, F_letter_text, b_letter_text, PySem.W.mg_of X G a_letter_text, _, _, F_are_products, b_are_products, PySem.W.mg_of X G a_are_products, _, _, F_made_lot, b_made_lot, PySem.W.mg_of X G a_made_lot, _, _, F_check_letters, b_check_letters, PySem.W.mg_of X G a_check_letters, _, _, F_limited_members, b_limited_members, PySem.W.mg_of X G a_limited_members, _, _, F_has_great_exponent, b_has_great_exponent, PySem.W.mg_of X G a_has_great_exponent, _, _, F_w_pail, b_w_pail, PySem.W.mg_of X G a_w_pail, _, _, F_w_dipped, b_w_dipped, PySem.W.mg_of X G a_w_dipped, _, _, F_w_some, b_w_some, PySem.W.mg_of X G a_w_some, _, _, F_w_product, b_w_product, PySem.W.mg_of X G a_w_product, _, _, F_w_products, b_w_products, PySem.W.mg_of X G a_w_products, _, _, F_w_divides, b_w_divides, PySem.W.mg_of X G a_w_divides, _, _, F_w_least, b_w_least, PySem.W.mg_of X G a_w_least, _, _, F_w_has, b_w_has, PySem.W.mg_of X G a_w_has, _, _, F_w_lessened, b_w_lessened, PySem.W.mg_of X G a_w_lessened, _, _, F_w_lot_text, b_w_lot_text, PySem.W.mg_of X G a_w_lot_text, _, _, F_w_right, b_w_right, PySem.W.mg_of X G a_w_right, _, _, F_law, b_law, PySem.W.mg_of X G a_law, PySem.W.mg_none_of X G z_isinstance, PySem.W.mg_none_of X G z_int, PySem.W.mg_none_of X G z_bool, PySem.W.mg_none_of X G z_tuple, PySem.W.mg_none_of X G z_len, PySem.W.mg_none_of X G z_all, PySem.W.mg_none_of X G z_zip, PySem.W.mg_none_of X G z_sorted, PySem.W.mg_none_of X G z_set, PySem.W.mg_none_of X G z_enumerate, PySem.W.mg_none_of X G z_range, PySem.W.mg_none_of X G z_max, PySem.W.mg_none_of X G z_sum, PySem.W.mg_none_of X G z_abs, PySem.W.mg_none_of X G z_min, PySem.W.mg_none_of X G z_str, PySem.W.mg_none_of X G z_list, _, PySem.W.mg_of X G g_MAX_LETTERS, _, PySem.W.mg_of X G g_MAX_EXPONENT, _, PySem.W.mg_of X G g_LONGEST_EXPONENT, _, PySem.W.mg_of X G g_MAX_MEMBER_EXPONENT, _, PySem.W.mg_of X G g_MAX_MEMBERS, _, PySem.W.mg_of X G g_MAX_PASSED, _, PySem.W.mg_of X G g_MAX_POWER⟩
  have clC : Cls K C := ⟨pgC, hdC, poC, saC⟩
  let O : LotT K mg := ⟨C, clC, nL, nM, PySem.W.mg_of X G aC, _, _, F_init, b_init, ⟨mkC, a_init, i_init, kcC⟩⟩
  let R : LotP K C := ⟨_, _, _, ⟨a_letters, g_letters, tk_letters, ⟨_, r_letters⟩⟩, F_letters, b_letters, _, _, _, ⟨a_members, g_members, tk_members, ⟨_, r_members⟩⟩, F_members, b_members⟩
  let W : LotO K mg C := ⟨fun H a dx fs h => .base (.ins h clC c1 c2 c3 hm), kit⟩
  let Z : LotC K := ⟨_, _, F_has, b_has, _, _, F_eq, b_eq, _, _, F_len, b_len⟩
  let D : LotD K C Z := ⟨hm, hne, a_has, i_has, a_eq, i_eq, a_len, i_len, _, _, F_iter, b_iter, a_iter, i_iter, _, _, F_str, b_str, a_str, i_str⟩
  let B : LotB K C := ⟨_, _, _, ⟨a_degrees, g_degrees, tk_degrees, ⟨_, r_degrees⟩⟩, F_degrees, b_degrees, _, _, _, ⟨a_is_all, g_is_all, tk_is_all, ⟨_, r_is_all⟩⟩, F_is_all, b_is_all, _, _, _, ⟨a_is_squarefree, g_is_squarefree, tk_is_squarefree, ⟨_, r_is_squarefree⟩⟩, F_is_squarefree, b_is_squarefree, _, _, F_bool, b_bool⟩
  let GG : LotsT K mg := ⟨T, O, R, W, Z, D, B, kk1, kk2, kkt, ss1, ss2, a_bool, i_bool, PySem.W.mg_none_of X G zz_iter⟩
  exact ⟨_, fun s v => .of_eq rfl, fun base _ _ => ok_law GG⟩
end K6

open PySem PySem.W PyProof.Rows
set_option maxRecDepth 100000 in
set_option maxHeartbeats 0 in
theorem PySem.Challenge.cw_pureladders_k06_whole_lots_by_their_leas_holds : PySem.Challenge.rw_pureladders_k06_whole_lots_by_their_leas.Holds := by
  w_on; o_law; k_head; (case hw => w_witness2)
  k_fill
  refine L2.walk_of (l := PySem.Challenge.rw_pureladders_k06_whole_lots_by_their_leas) (n := 63) (k := 10) (x := "_law_script") (CX := fun _ => L2.CX0) (sp := fun w => K6.sp_law _) rfl (by decide) rfl ⟨rfl, by decide, by decide⟩ (fun w h Y => PySem.W.kIn_of Y) ?F (fun _ _ a ns hl _ hS => ⟨a, ns, rfl, hS, hl, fun _ => rfl⟩) (fun _ _ _ _ _ h => h)
  case F =>
    intro w mg fa h KX G hmg
    refine' K6.all_mk KX G hmg ?a_is_number ?l_is_number ?cc_is_number ?k_is_number ?a_is_within ?l_is_within ?cc_is_within ?k_is_within ?a_check_within ?l_check_within ?cc_check_within ?k_check_within ?a_are_exponents ?l_are_exponents ?cc_are_exponents ?k_are_exponents ?a_nothing ?l_nothing ?cc_nothing ?k_nothing ?a_fits ?l_fits ?cc_fits ?k_fits ?a_is_divided ?l_is_divided ?cc_is_divided ?k_is_divided ?a_is_least_of ?l_is_least_of ?cc_is_least_of ?k_is_least_of ?a_least_of ?l_least_of ?cc_least_of ?k_least_of ?t_least_of ?a_lot_text ?l_lot_text ?cc_lot_text ?k_lot_text ?a_word_of ?l_word_of ?cc_word_of ?k_word_of ?a_letter_text ?l_letter_text ?cc_letter_text ?k_letter_text ?a_are_products ?l_are_products ?cc_are_products ?k_are_products ?a_made_lot ?l_made_lot ?cc_made_lot ?k_made_lot ?a_check_letters ?l_check_letters ?cc_check_letters ?k_check_letters ?a_limited_members ?l_limited_members ?cc_limited_members ?k_limited_members ?a_has_great_exponent ?l_has_great_exponent ?cc_has_great_exponent ?k_has_great_exponent ?a_w_pail ?l_w_pail ?cc_w_pail ?k_w_pail ?a_w_dipped ?l_w_dipped ?cc_w_dipped ?k_w_dipped ?a_w_some ?l_w_some ?cc_w_some ?k_w_some ?a_w_product ?l_w_product ?cc_w_product ?k_w_product ?a_w_products ?l_w_products ?cc_w_products ?k_w_products ?a_w_divides ?l_w_divides ?cc_w_divides ?k_w_divides ?a_w_least ?l_w_least ?cc_w_least ?k_w_least ?a_w_has ?l_w_has ?cc_w_has ?k_w_has ?a_w_lessened ?l_w_lessened ?cc_w_lessened ?k_w_lessened ?a_w_lot_text ?l_w_lot_text ?cc_w_lot_text ?k_w_lot_text ?a_w_right ?l_w_right ?cc_w_right ?k_w_right ?a_law ?l_law ?cc_law ?k_law ?aC ?a_init ?i_init ?l_init ?cc_init ?k_init ?a_has ?i_has ?l_has ?cc_has ?k_has ?a_eq ?i_eq ?l_eq ?cc_eq ?k_eq ?a_len ?i_len ?l_len ?cc_len ?k_len ?a_iter ?i_iter ?l_iter ?cc_iter ?k_iter ?a_str ?i_str ?l_str ?cc_str ?k_str ?a_bool ?i_bool ?l_bool ?cc_bool ?k_bool ?a_letters ?g_letters ?tk_letters ?r_letters ?l_letters ?cc_letters ?k_letters ?a_members ?g_members ?tk_members ?r_members ?l_members ?cc_members ?k_members ?a_degrees ?g_degrees ?tk_degrees ?r_degrees ?l_degrees ?cc_degrees ?k_degrees ?a_is_all ?g_is_all ?tk_is_all ?r_is_all ?l_is_all ?cc_is_all ?k_is_all ?a_is_squarefree ?g_is_squarefree ?tk_is_squarefree ?r_is_squarefree ?l_is_squarefree ?cc_is_squarefree ?k_is_squarefree ?pgC ?hdC ?poC ?saC ?mkC ?kcC ?nL ?nM ?c1 ?c2 ?c3 ?hm ?kit ?kk1 ?kk2 ?kkt ?ss1 ?ss2 ?hne ?zz_iter ?z_isinstance ?z_int ?z_bool ?z_tuple ?z_len ?z_all ?z_zip ?z_sorted ?z_set ?z_enumerate ?z_range ?z_max ?z_sum ?z_abs ?z_min ?z_str ?z_list ?g_MAX_LETTERS ?g_MAX_EXPONENT ?g_LONGEST_EXPONENT ?g_MAX_MEMBER_EXPONENT ?g_MAX_MEMBERS ?g_MAX_PASSED ?g_MAX_POWER
    (case a_is_number => first | k_is | kernel_rfl | rfl)
    (case l_is_number => first | k_is | kernel_rfl | rfl)
    (case cc_is_number => first | k_is | kernel_rfl | rfl)
    (case k_is_number => first | k_is | kernel_rfl | rfl)
    (case a_is_within => first | k_is | kernel_rfl | rfl)
    (case l_is_within => first | k_is | kernel_rfl | rfl)
    (case cc_is_within => first | k_is | kernel_rfl | rfl)
    (case k_is_within => first | k_is | kernel_rfl | rfl)
    (case a_check_within => first | k_is | kernel_rfl | rfl)
    (case l_check_within => first | k_is | kernel_rfl | rfl)
    (case cc_check_within => first | k_is | kernel_rfl | rfl)
    (case k_check_within => first | k_is | kernel_rfl | rfl)
    (case a_are_exponents => first | k_is | kernel_rfl | rfl)
    (case l_are_exponents => first | k_is | kernel_rfl | rfl)
    (case cc_are_exponents => first | k_is | kernel_rfl | rfl)
    (case k_are_exponents => first | k_is | kernel_rfl | rfl)
    (case a_nothing => first | k_is | kernel_rfl | rfl)
    (case l_nothing => first | k_is | kernel_rfl | rfl)
    (case cc_nothing => first | k_is | kernel_rfl | rfl)
    (case k_nothing => first | k_is | kernel_rfl | rfl)
    (case a_fits => first | k_is | kernel_rfl | rfl)
    (case l_fits => first | k_is | kernel_rfl | rfl)
    (case cc_fits => first | k_is | kernel_rfl | rfl)
    (case k_fits => first | k_is | kernel_rfl | rfl)
    (case a_is_divided => first | k_is | kernel_rfl | rfl)
    (case l_is_divided => first | k_is | kernel_rfl | rfl)
    (case cc_is_divided => first | k_is | kernel_rfl | rfl)
    (case k_is_divided => first | k_is | kernel_rfl | rfl)
    (case a_is_least_of => first | k_is | kernel_rfl | rfl)
    (case l_is_least_of => first | k_is | kernel_rfl | rfl)
    (case cc_is_least_of => first | k_is | kernel_rfl | rfl)
    (case k_is_least_of => first | k_is | kernel_rfl | rfl)
    (case a_least_of => first | k_is | kernel_rfl | rfl)
    (case l_least_of => first | k_is | kernel_rfl | rfl)
    (case cc_least_of => first | k_is | kernel_rfl | rfl)
    (case k_least_of => first | k_is | kernel_rfl | rfl)
    (case t_least_of => first | k_is | kernel_rfl | rfl)
    (case a_lot_text => first | k_is | kernel_rfl | rfl)
    (case l_lot_text => first | k_is | kernel_rfl | rfl)
    (case cc_lot_text => first | k_is | kernel_rfl | rfl)
    (case k_lot_text => first | k_is | kernel_rfl | rfl)
    (case a_word_of => first | k_is | kernel_rfl | rfl)
    (case l_word_of => first | k_is | kernel_rfl | rfl)
    (case cc_word_of => first | k_is | kernel_rfl | rfl)
    (case k_word_of => first | k_is | kernel_rfl | rfl)
    (case a_letter_text => first | k_is | kernel_rfl | rfl)
    (case l_letter_text => first | k_is | kernel_rfl | rfl)
    (case cc_letter_text => first | k_is | kernel_rfl | rfl)
    (case k_letter_text => first | k_is | kernel_rfl | rfl)
    (case a_are_products => first | k_is | kernel_rfl | rfl)
    (case l_are_products => first | k_is | kernel_rfl | rfl)
    (case cc_are_products => first | k_is | kernel_rfl | rfl)
    (case k_are_products => first | k_is | kernel_rfl | rfl)
    (case a_made_lot => first | k_is | kernel_rfl | rfl)
    (case l_made_lot => first | k_is | kernel_rfl | rfl)
    (case cc_made_lot => first | k_is | kernel_rfl | rfl)
    (case k_made_lot => first | k_is | kernel_rfl | rfl)
    (case a_check_letters => first | k_is | kernel_rfl | rfl)
    (case l_check_letters => first | k_is | kernel_rfl | rfl)
    (case cc_check_letters => first | k_is | kernel_rfl | rfl)
    (case k_check_letters => first | k_is | kernel_rfl | rfl)
    (case a_limited_members => first | k_is | kernel_rfl | rfl)
    (case l_limited_members => first | k_is | kernel_rfl | rfl)
    (case cc_limited_members => first | k_is | kernel_rfl | rfl)
    (case k_limited_members => first | k_is | kernel_rfl | rfl)
    (case a_has_great_exponent => first | k_is | kernel_rfl | rfl)
    (case l_has_great_exponent => first | k_is | kernel_rfl | rfl)
    (case cc_has_great_exponent => first | k_is | kernel_rfl | rfl)
    (case k_has_great_exponent => first | k_is | kernel_rfl | rfl)
    (case a_w_pail => first | k_is | kernel_rfl | rfl)
    (case l_w_pail => first | k_is | kernel_rfl | rfl)
    (case cc_w_pail => first | k_is | kernel_rfl | rfl)
    (case k_w_pail => first | k_is | kernel_rfl | rfl)
    (case a_w_dipped => first | k_is | kernel_rfl | rfl)
    (case l_w_dipped => first | k_is | kernel_rfl | rfl)
    (case cc_w_dipped => first | k_is | kernel_rfl | rfl)
    (case k_w_dipped => first | k_is | kernel_rfl | rfl)
    (case a_w_some => first | k_is | kernel_rfl | rfl)
    (case l_w_some => first | k_is | kernel_rfl | rfl)
    (case cc_w_some => first | k_is | kernel_rfl | rfl)
    (case k_w_some => first | k_is | kernel_rfl | rfl)
    (case a_w_product => first | k_is | kernel_rfl | rfl)
    (case l_w_product => first | k_is | kernel_rfl | rfl)
    (case cc_w_product => first | k_is | kernel_rfl | rfl)
    (case k_w_product => first | k_is | kernel_rfl | rfl)
    (case a_w_products => first | k_is | kernel_rfl | rfl)
    (case l_w_products => first | k_is | kernel_rfl | rfl)
    (case cc_w_products => first | k_is | kernel_rfl | rfl)
    (case k_w_products => first | k_is | kernel_rfl | rfl)
    (case a_w_divides => first | k_is | kernel_rfl | rfl)
    (case l_w_divides => first | k_is | kernel_rfl | rfl)
    (case cc_w_divides => first | k_is | kernel_rfl | rfl)
    (case k_w_divides => first | k_is | kernel_rfl | rfl)
    (case a_w_least => first | k_is | kernel_rfl | rfl)
    (case l_w_least => first | k_is | kernel_rfl | rfl)
    (case cc_w_least => first | k_is | kernel_rfl | rfl)
    (case k_w_least => first | k_is | kernel_rfl | rfl)
    (case a_w_has => first | k_is | kernel_rfl | rfl)
    (case l_w_has => first | k_is | kernel_rfl | rfl)
    (case cc_w_has => first | k_is | kernel_rfl | rfl)
    (case k_w_has => first | k_is | kernel_rfl | rfl)
    (case a_w_lessened => first | k_is | kernel_rfl | rfl)
    (case l_w_lessened => first | k_is | kernel_rfl | rfl)
    (case cc_w_lessened => first | k_is | kernel_rfl | rfl)
    (case k_w_lessened => first | k_is | kernel_rfl | rfl)
    (case a_w_lot_text => first | k_is | kernel_rfl | rfl)
    (case l_w_lot_text => first | k_is | kernel_rfl | rfl)
    (case cc_w_lot_text => first | k_is | kernel_rfl | rfl)
    (case k_w_lot_text => first | k_is | kernel_rfl | rfl)
    (case a_w_right => first | k_is | kernel_rfl | rfl)
    (case l_w_right => first | k_is | kernel_rfl | rfl)
    (case cc_w_right => first | k_is | kernel_rfl | rfl)
    (case k_w_right => first | k_is | kernel_rfl | rfl)
    (case a_law => first | k_is | kernel_rfl | rfl)
    (case l_law => first | k_is | kernel_rfl | rfl)
    (case cc_law => first | k_is | kernel_rfl | rfl)
    (case k_law => first | k_is | kernel_rfl | rfl)
    (case aC => first | k_is | kernel_rfl | rfl)
    (case a_init => first | k_is | kernel_rfl | rfl)
    (case i_init => first | k_is | kernel_rfl | rfl)
    (case l_init => first | k_is | kernel_rfl | rfl)
    (case cc_init => first | k_is | kernel_rfl | rfl)
    (case k_init => first | k_is | kernel_rfl | rfl)
    (case a_has => first | k_is | kernel_rfl | rfl)
    (case i_has => first | k_is | kernel_rfl | rfl)
    (case l_has => first | k_is | kernel_rfl | rfl)
    (case cc_has => first | k_is | kernel_rfl | rfl)
    (case k_has => first | k_is | kernel_rfl | rfl)
    (case a_eq => first | k_is | kernel_rfl | rfl)
    (case i_eq => first | k_is | kernel_rfl | rfl)
    (case l_eq => first | k_is | kernel_rfl | rfl)
    (case cc_eq => first | k_is | kernel_rfl | rfl)
    (case k_eq => first | k_is | kernel_rfl | rfl)
    (case a_len => first | k_is | kernel_rfl | rfl)
    (case i_len => first | k_is | kernel_rfl | rfl)
    (case l_len => first | k_is | kernel_rfl | rfl)
    (case cc_len => first | k_is | kernel_rfl | rfl)
    (case k_len => first | k_is | kernel_rfl | rfl)
    (case a_iter => first | k_is | kernel_rfl | rfl)
    (case i_iter => first | k_is | kernel_rfl | rfl)
    (case l_iter => first | k_is | kernel_rfl | rfl)
    (case cc_iter => first | k_is | kernel_rfl | rfl)
    (case k_iter => first | k_is | kernel_rfl | rfl)
    (case a_str => first | k_is | kernel_rfl | rfl)
    (case i_str => first | k_is | kernel_rfl | rfl)
    (case l_str => first | k_is | kernel_rfl | rfl)
    (case cc_str => first | k_is | kernel_rfl | rfl)
    (case k_str => first | k_is | kernel_rfl | rfl)
    (case a_bool => first | k_is | kernel_rfl | rfl)
    (case i_bool => first | k_is | kernel_rfl | rfl)
    (case l_bool => first | k_is | kernel_rfl | rfl)
    (case cc_bool => first | k_is | kernel_rfl | rfl)
    (case k_bool => first | k_is | kernel_rfl | rfl)
    (case a_letters => first | k_is | kernel_rfl | rfl)
    (case g_letters => first | k_is | kernel_rfl | rfl)
    (case tk_letters => first | k_is | kernel_rfl | rfl)
    (case r_letters => first | k_is | kernel_rfl | rfl)
    (case l_letters => first | k_is | kernel_rfl | rfl)
    (case cc_letters => first | k_is | kernel_rfl | rfl)
    (case k_letters => first | k_is | kernel_rfl | rfl)
    (case a_members => first | k_is | kernel_rfl | rfl)
    (case g_members => first | k_is | kernel_rfl | rfl)
    (case tk_members => first | k_is | kernel_rfl | rfl)
    (case r_members => first | k_is | kernel_rfl | rfl)
    (case l_members => first | k_is | kernel_rfl | rfl)
    (case cc_members => first | k_is | kernel_rfl | rfl)
    (case k_members => first | k_is | kernel_rfl | rfl)
    (case a_degrees => first | k_is | kernel_rfl | rfl)
    (case g_degrees => first | k_is | kernel_rfl | rfl)
    (case tk_degrees => first | k_is | kernel_rfl | rfl)
    (case r_degrees => first | k_is | kernel_rfl | rfl)
    (case l_degrees => first | k_is | kernel_rfl | rfl)
    (case cc_degrees => first | k_is | kernel_rfl | rfl)
    (case k_degrees => first | k_is | kernel_rfl | rfl)
    (case a_is_all => first | k_is | kernel_rfl | rfl)
    (case g_is_all => first | k_is | kernel_rfl | rfl)
    (case tk_is_all => first | k_is | kernel_rfl | rfl)
    (case r_is_all => first | k_is | kernel_rfl | rfl)
    (case l_is_all => first | k_is | kernel_rfl | rfl)
    (case cc_is_all => first | k_is | kernel_rfl | rfl)
    (case k_is_all => first | k_is | kernel_rfl | rfl)
    (case a_is_squarefree => first | k_is | kernel_rfl | rfl)
    (case g_is_squarefree => first | k_is | kernel_rfl | rfl)
    (case tk_is_squarefree => first | k_is | kernel_rfl | rfl)
    (case r_is_squarefree => first | k_is | kernel_rfl | rfl)
    (case l_is_squarefree => first | k_is | kernel_rfl | rfl)
    (case cc_is_squarefree => first | k_is | kernel_rfl | rfl)
    (case k_is_squarefree => first | k_is | kernel_rfl | rfl)
    (case pgC => first | k_is | kernel_rfl | rfl)
    (case hdC => first | k_is | kernel_rfl | rfl)
    (case poC => first | k_is | kernel_rfl | rfl)
    (case saC => first | k_is | kernel_rfl | rfl)
    (case mkC => first | k_is | kernel_rfl | rfl)
    (case kcC => first | k_is | kernel_rfl | rfl)
    (case nL => first | k_is | kernel_rfl | rfl)
    (case nM => first | k_is | kernel_rfl | rfl)
    (case c1 => first | k_is | kernel_rfl | rfl)
    (case c2 => first | k_is | kernel_rfl | rfl)
    (case c3 => first | k_is | kernel_rfl | rfl)
    (case hm => first | k_is | kernel_rfl | rfl)
    (case kit => first | k_is | kernel_rfl | rfl)
    (case kk1 => first | k_is | kernel_rfl | rfl)
    (case kk2 => first | k_is | kernel_rfl | rfl)
    (case kkt => first | k_is | kernel_rfl | rfl)
    (case ss1 => first | k_is | kernel_rfl | rfl)
    (case ss2 => first | k_is | kernel_rfl | rfl)
    (case hne => first | k_is | kernel_rfl | rfl)
    (case zz_iter => first | k_is | kernel_rfl | rfl)
    (case z_isinstance => first | k_is | kernel_rfl | rfl)
    (case z_int => first | k_is | kernel_rfl | rfl)
    (case z_bool => first | k_is | kernel_rfl | rfl)
    (case z_tuple => first | k_is | kernel_rfl | rfl)
    (case z_len => first | k_is | kernel_rfl | rfl)
    (case z_all => first | k_is | kernel_rfl | rfl)
    (case z_zip => first | k_is | kernel_rfl | rfl)
    (case z_sorted => first | k_is | kernel_rfl | rfl)
    (case z_set => first | k_is | kernel_rfl | rfl)
    (case z_enumerate => first | k_is | kernel_rfl | rfl)
    (case z_range => first | k_is | kernel_rfl | rfl)
    (case z_max => first | k_is | kernel_rfl | rfl)
    (case z_sum => first | k_is | kernel_rfl | rfl)
    (case z_abs => first | k_is | kernel_rfl | rfl)
    (case z_min => first | k_is | kernel_rfl | rfl)
    (case z_str => first | k_is | kernel_rfl | rfl)
    (case z_list => first | k_is | kernel_rfl | rfl)
    (case g_MAX_LETTERS => first | k_is | kernel_rfl | rfl)
    (case g_MAX_EXPONENT => first | k_is | kernel_rfl | rfl)
    (case g_LONGEST_EXPONENT => first | k_is | kernel_rfl | rfl)
    (case g_MAX_MEMBER_EXPONENT => first | k_is | kernel_rfl | rfl)
    (case g_MAX_MEMBERS => first | k_is | kernel_rfl | rfl)
    (case g_MAX_PASSED => first | k_is | kernel_rfl | rfl)
    (case g_MAX_POWER => first | k_is | kernel_rfl | rfl)
