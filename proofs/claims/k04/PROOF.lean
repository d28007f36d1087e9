import PyProof.Rows.All
import Wide.All
import OpenK.AllK
import Wide.FinOn
import HandS.Base
import HandS.Call
import HandS.List
import HandS.Comp
import HandS.Ends
import HandS.Iter
import HandS.Words
import HandS.WordsList
import HandS.TupMul
import HandS.TupAny
import HandS.IsInst
import HandS.Zip
import HandS.Style
import HandS.Wide
import HandS.GenList
import KE.KTupSum
import KE.KEqSeq
import HandS.ForExc
import HandS.TryMany
import HandS.ExcInit
import HandS.ExcField
import HandS.Lambda
import KE.KExcInit
import HandS.CallLocal
import HandS.EndTab
import PySem.Challenge.RW_pureladders_k04_whole_products_by_their
set_option Elab.async false
set_option linter.all false
set_option maxRecDepth 100000
set_option maxHeartbeats 4000000
/-! rules that the layer lacks -/
namespace L5
open PySem PySem.Spec PyProof.Rows L2
/-! ### powers of great numbers -/
def CPowW (i j : Int) : Prop := 0 ≤ j ∧ (Builtin.Int.intBits i : Int) * j ≤ 2 ^ 27
theorem op_powW {X : Cx} : OpR X (binaryOp .Pow) (rI CPowW fun i j => .int (i ^ j.toNat)) := opI fun _ _ _ _ _ _ _ hc q => pow_int hc.1 hc.2 q
/-! ### sum and max of a tuple of ints -/
section
variable {pr : Program} {wd : World} {A : Around} {E : Value → Shared → Prop} {s : Shared} {tp : Addr} {us : List Value} {ms : List Int} {G : Value → Shared → Prop}
/-- a row of ints, as the library's walks want it -/
theorem items_of (hi : IntsAre us ms) : ∃ ws : Array (Int × Tok), us.toArray = intItems ws ∧ ws.toList.map (·.1) = ms := by
  obtain ⟨ws, ew⟩ := hi.allInts.items
  refine ⟨ws, ew, ?_⟩
  rw [← nums_intItems, ← ew]
  exact hi.numsOf
abbrev Stays (s : Shared) (h : Heap) : Prop := ∀ b o, s.heap.get? b = some o → h.get? b = some o
theorem sum_of_tuple (hh : A.handled = none) (ht : s.heap.IsTuple tp us.toArray) (hi : IntsAre us ms) (q : ∀ h n t, Stays s h → G (.int ms.sum t) { s with heap := h, toks := n }) :
    wpAny (model pr wd) A (call (.builtin "sum") [.ref tp]) G E s := by
  obtain ⟨ws, ew, en⟩ := items_of hi
  rw [ew] at ht
  refine PySem.W.ktm_sumG hh ht fun h n t kept => ?_
  have g := q h n t kept
  rw [← en] at g
  rw [preSum_eq, List.take_of_length_le (by rw [List.length_map, Array.length_toList]; exact Nat.le_refl _)]
  exact g
theorem max_of_tuple (hh : A.handled = none) (ht : s.heap.IsTuple tp us.toArray) (hi : IntsAre us ms) (some1 : 0 < ms.length) (q : ∀ h n M t, Stays s h → M ∈ ms → (∀ a, a ∈ ms → a ≤ M) → G (.int M t) { s with heap := h, toks := n }) :
    wpAny (model pr wd) A (call (.builtin "max") [.ref tp]) G E s := by
  obtain ⟨ws, ew, en⟩ := items_of hi
  subst en
  rw [ew] at ht
  have pos : 0 < ws.size := by simpa using some1
  have esz : (intItems ws).size = ws.size := by simp [intItems]
  obtain ⟨ob, hob, _⟩ := id ht
  have apart : tp ≠ s.heap.objs.size := Nat.ne_of_lt (Heap.lt_size hob)
  refine call_max_walk (wpAny_pyIter_tuple ht ?_)
  refine ⟨_, _, _, _, _, _, _, rfl, Walks.tuple (A := A.in1) hh s.heap.objs.size tp apart (intItems ws), ⟨⟨_, Heap.get?_push_size _ rfl, rfl, rfl⟩, ht.at fun o e => Heap.get?_push_of_some _ e⟩, fun b hb => ?_, by rw [esz]; exact pos, CmpOf.ints_gt (numAt ws) (fun _ _ => intItems_at), fun v h n hv kept => ?_⟩
  · have two : b = s.heap.objs.size ∨ b = tp := by simpa using hb
    rcases two with rfl | rfl
    · exact Heap.lt_size (o := _) (Heap.get?_push_size _ rfl)
    · exact Heap.lt_size (o := ob) (Heap.get?_push_of_some _ hob)
  · obtain ⟨t, rfl⟩ := intItems_at hv
    rw [esz] at *
    obtain ⟨top1, top2⟩ := argBest_gt (numAt ws) (ws.size - 1)
    have at_of : ∀ i, numAt ws i = (ws.toList.map (·.1)).getD i 0 := fun i => numAt_eq ..
    refine q h n _ t (fun b o e => kept b o (fun hb => ?_) (Heap.get?_push_of_some _ e)) ?_ fun a ha => ?_
    · rw [List.mem_singleton.mp hb] at e
      exact Nat.lt_irrefl _ (Heap.lt_size e)
    · rw [at_of]
      refine PySem.getD_mem ?_
      rw [List.length_map, Array.length_toList]
      omega
    · obtain ⟨i, less, rfl⟩ := mem_getD ha
      rw [List.length_map, Array.length_toList] at less
      rw [← at_of]
      exact top2 i (by omega)
end
section
variable {X : Cx}
def rSumT (K : PySem.W.Frag) : List V → Hp → VK → Prop := fun vs H Q => ∃ (a : Addr) (ns : List Int), vs = [V.ref a] ∧ SqT K H a (ns.map V.int) ∧ Q (.int ns.sum) H
theorem cr_sumT (calm : X.calm = true) : CallR X (.builtin "sum") (rSumT X.K) := fun _ _ _ _ _ _ _ I r h => by
  obtain ⟨_, _, rfl, ht, q⟩ := h
  obtain ⟨_, rv, plain, _⟩ := I.tuple ht
  rw [Vals.ref1 r]
  exact sum_of_tuple (I.ok.hd calm) plain rv.ints fun _ _ _ kept => ⟨.int _, _, I.kept kept, ⟨_, rfl⟩, q⟩
def rMaxT (K : PySem.W.Frag) : List V → Hp → VK → Prop := fun vs H Q => ∃ (a : Addr) (ns : List Int), vs = [V.ref a] ∧ SqT K H a (ns.map V.int) ∧ 0 < ns.length ∧ ∀ m, m ∈ ns → (∀ y, y ∈ ns → y ≤ m) → Q (.int m) H
theorem cr_maxT (calm : X.calm = true) : CallR X (.builtin "max") (rMaxT X.K) := fun _ _ _ _ _ _ _ I r h => by
  obtain ⟨_, _, rfl, ht, some1, q⟩ := h
  obtain ⟨_, rv, plain, _⟩ := I.tuple ht
  rw [Vals.ref1 r]
  exact max_of_tuple (I.ok.hd calm) plain rv.ints some1 fun _ _ m _ kept g1 g2 => ⟨.int m, _, I.kept kept, ⟨_, rfl⟩, q m g1 g2⟩
end
/-! ### tuple * int, any int: the tuple itself, the empty one, or a longer one -/
abbrev tupObj (items : Array Value) (n : Nat) (dd : Option Addr) (sl : Array (Option Value)) : Obj := { cls := .type "tuple", dict := dd, data := .seq items n, slots := sl }
theorem off_of {b : Bool} (h : b = false) : decide (b = true) = false := decide_eq_false (Bool.eq_false_iff.mp h)
theorem mul_same (tp : Addr) (items : Array Value) (n : Nat) (dd : Option Addr) (sl : Array (Option Value)) (x : Int) (u : Tok) (fits : (decide (x < -(2 ^ 63)) || decide (x ≥ 2 ^ 63)) = false) (same : (items.isEmpty || x == 1) = true) :
    Meets (Builtin.«tuple.__mul__» ⟨[.ref tp, .int x u], []⟩) (fun _ R s => s.heap.get? tp = some (tupObj items n dd sl) ∧ R (.ok (.ret (Value.ref tp))) { s with heap := s.heap, toks := s.toks }) :=
  .of_wp fun _ _ _ _ st both => by
    obtain ⟨_, _, _, _, _⟩ := st
    obtain ⟨at1, q⟩ := both
    have ix := AutoSeq1.idx_int
    wp_walk using wpAny_loadPart' at1
    repeat (first
      | (refine wpAny_ite_false (off_of fits) ?_; wp_walk using wpAny_loadPart' at1)
      | (refine wpAny_ite_true (decide_eq_true same) ?_; wp_walk using wpAny_loadPart' at1))
    exact ⟨_, rfl, q⟩
theorem mul_none (tp : Addr) (items : Array Value) (n : Nat) (dd : Option Addr) (sl : Array (Option Value)) (x : Int) (u : Tok) (fits : (decide (x < -(2 ^ 63)) || decide (x ≥ 2 ^ 63)) = false) (other : (items.isEmpty || x == 1) = false) (less : (decide (x ≤ 0) || items.isEmpty) = true) :
    Meets (Builtin.«tuple.__mul__» ⟨[.ref tp, .int x u], []⟩) (fun _ R s => s.heap.get? tp = some (tupObj items n dd sl) ∧
      R (.ok (.ret (Value.ref s.heap.objs.size))) { s with heap := s.heap.push { cls := Value.type "tuple", data := Data.seq #[] }, toks := s.toks }) :=
  .of_wp fun _ _ _ _ st both => by
    obtain ⟨_, _, _, _, _⟩ := st
    obtain ⟨at1, q⟩ := both
    have ix := AutoSeq1.idx_int
    wp_walk using wpAny_loadPart' at1
    repeat (first
      | (refine wpAny_ite_false (off_of fits) ?_; wp_walk using wpAny_loadPart' at1)
      | (refine wpAny_ite_false (off_of other) ?_; wp_walk using wpAny_loadPart' at1)
      | (refine wpAny_ite_true (decide_eq_true less) ?_; wp_walk using wpAny_loadPart' at1))
    exact ⟨_, rfl, q⟩
def rRepA (K : PySem.W.Frag) : R2 := fun x y H Q => ∃ l k xs, x = .ref l ∧ y = .int k ∧ SqT K H l xs ∧ xs ≠ [] ∧ -1000 ≤ k ∧ k ≤ 1000 ∧ xs.length ≤ 1000 ∧
  (k = 1 → Q (.ref l) H) ∧ (k ≠ 1 → ∀ p, H p = none → Q (.ref p) (upd H p (.tup (List.replicate k.toNat xs).flatten)))
section
variable {X : Cx}
theorem op_repA : OpR X (binaryOp .Mult) (rRepA X.K) := fun pins s σ H x y v u Q I rx ry h => by
  obtain ⟨tp, k, xs, rfl, rfl, isT, full, lo, hi, short, qa, qb⟩ := h
  by_cases two : 2 ≤ k
  · exact op_repT pins s σ H _ _ v u Q I rx ry ⟨tp, k, xs, rfl, rfl, isT, full, two, hi, short, qb (by omega)⟩
  cases rx
  obtain ⟨tk, rfl⟩ := ry
  obtain ⟨its, r, ⟨⟨c, dd, dt, sl⟩, ho, hc, n, hd⟩, _⟩ := I.tuple isT
  simp only at hc hd
  subst hc hd
  have filled : its.toArray.isEmpty = false := by
    cases its with
    | nil =>
      cases r
      exact absurd rfl full
    | cons _ _ => rfl
  have fits : (decide (k < -(2 ^ 63)) || decide (k ≥ 2 ^ 63)) = false := Bool.or_eq_false_iff.mpr ⟨decide_eq_false (by omega), decide_eq_false (by omega)⟩
  by_cases one : k = 1
  · subst one
    refine wpAny_binaryOp_repeat_ref (T := "tuple") (U := "int") (by decide) ⟨_, ho, rfl⟩ (fun z => typeIs_int z _ tk) noFill_tuple_mul F.fills_int_mul F.slot_int_rmul repeat_tuple F.slot_int_index.lookup
      (call_meets F.slot_int_rmul (typeIs_int s _ tk) F.entry_int_rmul (F.args_int_rmul_2 _ _) (int_rmul_tuple _ tk tp its.toArray n dd sl)
        ⟨ho, rfl, ⟨_, ho, rfl⟩, call_meets F.slot_tuple_mul ⟨_, ho, rfl⟩ F.entry_tuple_mul (F.args_tuple_mul_2 _ _) (mul_same tp its.toArray n dd sl 1 tk fits (by rw [filled]; rfl)) ⟨ho, ?_⟩⟩)
    exact ⟨.ref tp, H, I, rfl, qa rfl⟩
  · have other : (its.toArray.isEmpty || k == 1) = false := Bool.or_eq_false_iff.mpr ⟨filled, beq_eq_false_iff_ne.mpr one⟩
    have less : (decide (k ≤ 0) || its.toArray.isEmpty) = true := Bool.or_eq_true_iff.mpr (.inl (decide_eq_true (by omega)))
    refine wpAny_binaryOp_repeat_ref (T := "tuple") (U := "int") (by decide) ⟨_, ho, rfl⟩ (fun z => typeIs_int z k tk) noFill_tuple_mul F.fills_int_mul F.slot_int_rmul repeat_tuple F.slot_int_index.lookup
      (call_meets F.slot_int_rmul (typeIs_int s k tk) F.entry_int_rmul (F.args_int_rmul_2 _ _) (int_rmul_tuple k tk tp its.toArray n dd sl)
        ⟨ho, rfl, ⟨_, ho, rfl⟩, call_meets F.slot_tuple_mul ⟨_, ho, rfl⟩ F.entry_tuple_mul (F.args_tuple_mul_2 _ _) (mul_none tp its.toArray n dd sl k tk fits other less) ⟨ho, ?_⟩⟩)
    have e0 : (List.replicate k.toNat xs).flatten = [] := by
      rw [show k.toNat = 0 by omega]
      rfl
    have q := qb one s.heap.objs.size (I.hok.fresh (Nat.le_refl _))
    rw [e0] at q
    exact ⟨.ref s.heap.objs.size, _, I.laid (t' := s.toks) (o := .tup []) (fun _ _ e => Heap.get?_push_of_some _ e) (Nat.le_refl _) ⟨Nat.zero_le _, [], .nil, IsTup.new _ _⟩, rfl, q⟩
end
/-! ### words for what stands in the heap -/
section
variable {K : PySem.W.Frag} {H H' : Hp}
abbrev nv (t : List Nat) : List V := t.map fun n => V.int ((n : Nat) : Int)
theorem nv_ints (t : List Nat) : nv t = (t.map fun n => ((n : Nat) : Int)).map V.int := by
  rw [List.map_map]
  rfl
theorem nv_len (t : List Nat) : (nv t).length = t.length := List.length_map _
theorem nv_app (t u : List Nat) : nv (t ++ u) = nv t ++ nv u := List.map_append
theorem nv_get {t : List Nat} {i : Nat} {x : V} (h : (nv t)[i]? = some x) : ∃ n, t[i]? = some n ∧ x = .int ((n : Nat) : Int) := by
  rw [List.getElem?_map] at h
  cases e : t[i]? with
  | none =>
    rw [e] at h
    cases h
  | some n =>
    rw [e] at h
    exact ⟨n, rfl, (Option.some.inj h).symm⟩
theorem nv_at {t : List Nat} {i n : Nat} (h : t[i]? = some n) : atI (nv t) (i : Int) = some (.int ((n : Nat) : Int)) := atI_nat (by rw [List.getElem?_map, h] <;> rfl)
theorem sizeK {n : Nat} (h : n ≤ 1000000) : n < sizeLine := Nat.lt_of_le_of_lt h (by decide)
theorem same_updL {p : Addr} {o : HO} (s : Same H H') (hp : H p = none) : Same H (upd H' p o) := fun b u q => by
  rw [upd_ne (ne_of_none q hp)]
  exact s b u q
theorem sqt_updL {a p : Addr} {xs ys : List V} {o : HO} (hp : H p = some (.lst ys)) (h : SqT K H a xs) : SqT K (upd H p o) a xs := by
  have ne : ∀ u, H a = some u → u ≠ .lst ys → a ≠ p := fun u e n z => by
    rw [z, hp] at e
    exact n (Option.some.inj e).symm
  rcases h with (h | ⟨o, h⟩) | h
  · exact .inl (.inl (by rw [upd_ne (ne _ h (by intro z; cases z))]; exact h))
  · exact .inl (.inr ⟨o, by rw [upd_ne (ne _ h (by intro z; cases z))]; exact h⟩)
  · exact .inr h
theorem sql_updL {a p : Addr} {xs : List V} {o : HO} (hne : a ≠ p) (h : SqL K H a xs) : SqL K (upd H p o) a xs := by
  rcases h with (h | ⟨o, h⟩) | h
  · exact .inl (.inl (by rw [upd_ne hne]; exact h))
  · exact .inl (.inr ⟨o, by rw [upd_ne hne]; exact h⟩)
  · exact .inr h
theorem sum_cast (t : List Nat) : (t.map fun n => ((n : Nat) : Int)).sum = ((t.sum : Nat) : Int) := by
  induction t with
  | nil => rfl
  | cons x r ih => rw [List.map_cons, List.sum_cons, List.sum_cons, ih]; omega
theorem same_sqt {a : Addr} {xs : List V} (e : Same H H') (h : SqT K H a xs) : SqT K H' a xs := by
  rcases h with (h | ⟨o, h⟩) | h
  · exact .inl (.inl (e _ _ h))
  · exact .inl (.inr ⟨o, e _ _ h⟩)
  · exact .inr h
theorem same_new {p : Addr} (h : H p = none) (o : HO) : Same H (upd H p o) := fun b u q => by rw [upd_ne (ne_of_none q h)]; exact q
def Tups (K : PySem.W.Frag) (H : Hp) : List Addr → List (List Nat) → Prop := Paired fun a t => SqT K H a (nv t)
theorem Tups.same (e : Same H H') : ∀ {rs : List Addr} {L : List (List Nat)}, Tups K H rs L → Tups K H' rs L
  | _, _, .nil => .nil
  | _, _, .cons h t => .cons (same_sqt e h) (Tups.same e t)
theorem Tups.updL {p : Addr} {ys : List V} {o : HO} (hp : H p = some (.lst ys)) : ∀ {rs : List Addr} {L : List (List Nat)}, Tups K H rs L → Tups K (upd H p o) rs L
  | _, _, .nil => .nil
  | _, _, .cons h t => .cons (sqt_updL hp h) (Tups.updL hp t)
theorem Tups.length : ∀ {rs : List Addr} {L : List (List Nat)}, Tups K H rs L → rs.length = L.length
  | _, _, .nil => rfl
  | _, _, .cons _ t => congrArg (· + 1) (Tups.length t)
theorem Tups.app : ∀ {rs qs : List Addr} {L M : List (List Nat)}, Tups K H rs L → Tups K H qs M → Tups K H (rs ++ qs) (L ++ M)
  | _, _, _, _, .nil, s => s
  | _, _, _, _, .cons r t, s => .cons r (Tups.app t s)
theorem Tups.rev {rs : List Addr} {L : List (List Nat)} (h : Tups K H rs L) : Tups K H rs.reverse L.reverse := by
  induction h with
  | nil => exact .nil
  | cons r t ih =>
    rw [List.reverse_cons, List.reverse_cons]
    exact ih.app (.cons r .nil)
theorem Tups.get : ∀ {rs : List Addr} {L : List (List Nat)} {i : Nat} {a : Addr}, Tups K H rs L → rs[i]? = some a → ∃ t, L[i]? = some t ∧ SqT K H a (nv t)
  | _, _, _, _, .nil, e => by simp at e
  | _, _, 0, _, .cons r _, e => by simp at e; subst e; exact ⟨_, rfl, r⟩
  | _, _, i + 1, a, .cons _ t, e => by
    obtain ⟨u, h1, h2⟩ := Tups.get (i := i) (a := a) t (by simpa using e)
    exact ⟨u, by simpa using h1, h2⟩
theorem sqt_ty {a : Addr} {xs : List V} (h : SqT K H a xs) : TyX K H (.ref a) (.type "tuple") := by
  rcases h with (h | ⟨o, h⟩) | ⟨o, its, n, e, c, _⟩
  · exact .base (.tup h)
  · exact .fTuple h
  · exact .kTuple e c
/-- as data -/
abbrev encT (t : List Nat) : PyData := .tuple (t.map fun n => PyData.int ((n : Nat) : Int))
theorem dp_nats : ∀ (t : List Nat), DpAll K H (nv t) (t.map fun n => PyData.int ((n : Nat) : Int))
  | [] => .nil
  | n :: t => .cons (.int _) (dp_nats t)
theorem dp_tup {a : Addr} {t : List Nat} (h : SqT K H a (nv t)) : Dp K H (.ref a) (encT t) := .tup h (dp_nats t)
theorem dp_tups : ∀ {rs : List Addr} {L : List (List Nat)}, Tups K H rs L → DpAll K H (rs.map V.ref) (L.map encT)
  | _, _, .nil => .nil
  | _, _, .cons h t => .cons (dp_tup h) (dp_tups t)
theorem can_nats : ∀ t : List Nat, PyData.canLayAll0 (t.map fun n => PyData.int ((n : Nat) : Int)) = true ∧ PyData.depthAll (t.map fun n => PyData.int ((n : Nat) : Int)) = 0
  | [] => by simp [PyData.canLayAll0, PyData.depthAll]
  | n :: t => by
    have h := can_nats t
    simp only [List.map_cons, PyData.canLayAll0, PyData.depthAll, h.1, h.2, PyData.canLay0, PyData.depth]
    simp
theorem can_tups : ∀ L : List (List Nat), PyData.canLayAll0 (L.map encT) = true ∧ PyData.depthAll (L.map encT) ≤ 1
  | [] => by simp [PyData.canLayAll0, PyData.depthAll]
  | t :: L => by
    have h := can_tups L
    have g := can_nats t
    simp only [List.map_cons, PyData.canLayAll0, PyData.depthAll, h.1, PyData.canLay0, PyData.depth, g.1, g.2]
    exact ⟨by simp, by omega⟩
theorem shaped_tups (L : List (List Nat)) : SeqAt.shaped (.list (L.map encT)) = true := by
  have h := can_tups L
  unfold SeqAt.shaped
  simp only [PyData.canLay0, PyData.depth, h.1, Bool.true_and]
  exact decide_eq_true (by omega)
theorem eqv_tups (L : List (List Nat)) : PyData.eqv (.list (L.map encT)) (.list (L.map encT)) = true := SeqAt.eqv_refl _ (by
  simp only [PyData.canLay0]
  exact (can_tups L).1)
theorem shaped_tup (t : List Nat) : SeqAt.shaped (encT t) = true := by
  have g := can_nats t
  unfold SeqAt.shaped
  simp only [encT, PyData.canLay0, PyData.depth, g.1, g.2, Bool.true_and]
  exact decide_eq_true (by omega)
theorem eqv_tup (t : List Nat) : PyData.eqv (encT t) (encT t) = true := SeqAt.eqv_refl _ (by
  simp only [encT, PyData.canLay0]
  exact (can_nats t).1)
end
end L5

/-! own exceptions with one field, over any built-in base; a try with several clauses, named or not -/
namespace XX
open PySem PySem.Spec PyProof.Rows L2 Builtin.ObjectAttr
/-! ### self.name = v of a fresh exception, whatever its built-in base is -/
section
variable {pr : Program} {wd : World} {A : Around} {R : Result → Shared → Prop} {hp : Heap} {g : Array GenState} {dr : Drawn} {t : Nat} {os : OsState} {B : String} {bmB : List Value}
theorem first_field {K : PySem.W.Frag} {name : Str} {tk : Tok} {v : Value} {x C : Addr} {fv : Array Value} {cd : ClassData} (SF : StoreFacts B bmB "object.__setattr__" "object") (kin : K.In hp)
    (hx : hp.get? x = some { cls := .ref C, data := .fields fv }) (hcd : PySem.W.clsIn K C = some cd) (over : PySem.W.excOver K C bmB = true) (has : cd.hasDict = true) (no : PySem.W.findIn K (.ref C) name = some none)
    (q : ∀ h' tk' dx, (∀ b o, b ≠ x → hp.get? b = some o → h'.get? b = some o) → hp.objs.size ≤ dx → dx ≠ x → h'.get? x = some { cls := .ref C, dict := some dx, data := .fields fv } →
      h'.Ns1 dx (fun y => if y = name then some v else none) → R (.ok (.ret .none)) ⟨h', g, dr, tk', os⟩) :
    codeAny (model pr wd) A (.call (.builtin "object.__setattr__") ⟨[.ref x, .str name tk, v], []⟩) R ⟨hp, g, dr, t, os⟩ := by
  have taker : PySem.W.takerIn K C name = some none := by
    unfold PySem.W.takerIn
    rw [no]
    rfl
  refine PySem.W.osa_openX (s := ⟨hp, g, dr, t, os⟩) (ox := { cls := .ref C, data := .fields fv }) (od := none) SF kin ⟨hx, rfl, rfl, trivial⟩ over taker fun b => ?_
  have away : x ≠ hp.objs.size := Nat.ne_of_lt (Heap.lt_size hx)
  have known : PySem.W.Looks (model pr wd) hp (classData C) cd := PySem.W.looks_clsIn kin hcd
  show wpAny _ _ (storeInOwnDict (.ref x) (.ref C) (.str name tk) name v b) _ _ _
  obtain ⟨_, _, _, _, _, hd, _, _, _, _, _⟩ := cd
  dsimp only at has
  subst has
  unfold storeInOwnDict ownDictForStores
  repeat (first | with_reducible refine HandSPX.store_in_new ?_ ?_ | with_reducible refine wpAny_loadPart_at hx ?_ | with_reducible refine known.at ?_ | wp_step)
  · exact ⟨_, #[], _, (Heap.get?_update_ne _ _ _ _ away.symm).trans (Heap.get?_push_at rfl rfl), rfl, fun e he => absurd he (by simp), fun _ => rfl⟩
  · intro h' tk' one same
    have still : (hp.push { cls := .type "dict", data := .dict #[] }).get? x = some { cls := .ref C, data := .fields fv } := Heap.get?_push_of_some _ hx
    exact q h' tk' hp.objs.size (fun b' o ne ob => (same.2 b' (Nat.ne_of_lt (Heap.lt_size ob))).trans ((Heap.get?_update_ne _ _ _ _ ne).trans (Heap.get?_push_of_some _ ob))) (Nat.le_refl _) away.symm
      ((same.2 x away).trans (Heap.get?_update_self _ still rfl)) one
end
/-- what the written part says of such a class -/
structure OexB (K : PySem.W.Frag) (C : Addr) (bmB : List Value) (newId : String) : Prop where
  cls : ∃ nm q N bs bm sn sub ab col dd k0 k1 k2 k3 k5, K.lookup C = some (excClassObj nm q C N bs bm true sn sub ab col dd k0 k1 k2 k3 k5 newId) ∧ PySem.W.excTail bmB bm = true
  sa : PySem.W.findIn K (.ref C) "__setattr__" = some (some (.builtin "object.__setattr__"))
  exC : PySem.W.subIn K (.ref C) (.type "BaseException") = some true
  tyC : PySem.W.typeIn K (.ref C) = some (.type "type")
  kC : PySem.W.keepIn K (.ref C) = true
section
variable {X : Cx} {pins : List (Addr × Obj)} {σ : L2.St} {H : Hp} {s : Shared} {a C : Addr} {f : Str} {y : V} {u : Value} {Q : Unit → Shared → Prop} {E : Value → Shared → Prop} {A : Around} {B newId initId : String} {bmB : List Value}
theorem ost_first (SF : StoreFacts B bmB "object.__setattr__" "object") (T : OexB X.K C bmB newId) (I : Inv X pins σ H s) (e : H a = some (exo a C none)) (no : PySem.W.findIn X.K (.ref C) f = some none) (ry : RelV y u)
    (q : ∀ dx s', H dx = none → dx ≠ a → Inv X pins σ (upd (upd H dx (exd dx [(f, y)])) a (exo a C (some dx))) s' → Q () s') : wpAny (model X.prog X.w) A (setAttr (.ref a) f u) Q E s := by
  obtain ⟨nm, qn, N, bs, bm, sn, sub, ab, col, dd, k0, k1, k2, k3, k5, hC, tail⟩ := T.cls
  have hcl : PySem.W.clsIn X.K C = some { name := nm, bases := bs, mro := .ref C :: bm, ns := N, qualname := qn, hasDict := true, slotNames := sn, subclasses := sub, abstract := ab, collection := col, hasDel := false } := by
    unfold PySem.W.clsIn
    rw [hC] <;> rfl
  have over : PySem.W.excOver X.K C bmB = true := by
    unfold PySem.W.excOver
    rw [hcl]
    show (C == C && PySem.W.excTail bmB bm) = true
    rw [tail, beq_self_eq_true] <;> rfl
  obtain ⟨t1, ho⟩ := exo_at I.hok e
  obtain ⟨hp, g, dr, t, os⟩ := s
  refine PySem.W.set_plain I.kIn (ox := { cls := .ref C, dict := none, data := .fields #[.ref t1, .none, .none, .none, .bool false, .none] }) (od := none) ⟨ho, rfl, rfl, trivial⟩ T.sa ?_
  refine first_field SF I.kIn ho hcl over rfl no fun h' tk' dx kept young away hx one => ?_
  have free : H dx = none := I.hok.fresh young
  have old : ∀ {b : Addr} {o : Obj}, hp.get? b = some o → b ≠ dx := fun z => Nat.ne_of_lt (Nat.lt_of_lt_of_le (Heap.lt_size z) young)
  have other : ∀ {b : Addr}, H b = none → b ≠ a := fun {b} n z => by
    rw [z, e] at n
    cases n
  have U : Un X.fs [] H (upd (upd H dx (exd dx [(f, y)])) a (exo a C (some dx))) hp h' := {
    keep := fun b o z n _ _ => kept b o (other n) z
    slot := fun b o z n _ _ => ⟨o.slots, kept b o (other n) z⟩
    free := fun b o z n _ => by rw [upd_ne (other n), upd_ne (old z)]; exact n
    there := fun b o z _ => by
      by_cases hb : b = a
      · rw [hb]
        exact ⟨_, hx⟩
      · exact ⟨o, kept b o hb z⟩
    tups := fun b xs z => by rw [upd_ne (at_ne e z exo_tup), upd_ne (ne_of_none z free)]; exact z
    frzs := fun b o v z => by rw [upd_ne (at_ne e z exo_frz), upd_ne (ne_of_none z free)]; exact z
    tbls := fun b ps z => ⟨#[], by rw [upd_ne (at_ne e z exo_tbl), upd_ne (ne_of_none z free), z]; simp⟩ }
  refine q dx _ free away (I.un (t' := tk') U fun b o z => ?_)
  by_cases hb : b = a
  · subst hb
    rw [upd_same] at z
    cases z
    exact exo_ok hx
  rw [upd_ne hb] at z
  by_cases hd : b = dx
  · subst hd
    rw [upd_same] at z
    cases z
    exact exd_ok one (relO_put (fs := []) ry fun _ => True.intro)
  · rw [upd_ne hd] at z
    refine (I.hok b o z).stay (fun c v hc ob => kept c v (fun ca => ?_) ob) (fun c hc => ?_) fun c xs hc => ?_
    · rcases hc with hc | hc
      · exact hb (hc ▸ ca)
      · exact at_ne e hc exo_own ca
    · rw [upd_ne (at_ne e hc exo_own), upd_ne (ne_of_none hc free)]
      exact hc
    · rw [upd_ne (at_ne e hc exo_tup), upd_ne (ne_of_none hc free)]
      exact hc
/-- self.f = e, of an exception that has no dict -/
def tOst1 (K : PySem.W.Frag) (bmB : List Value) (newId : String) (f : Str) (to te : TE) : TS := fun D σ H => te σ H fun y H1 => to σ H1 fun x H2 => ∃ a C : Addr, x = .ref a ∧ OexB K C bmB newId ∧ PySem.W.findIn K (.ref C) f = some none ∧
  H2 a = some (exo a C none) ∧ ∀ dx, H2 dx = none → dx ≠ a → D.nx σ (upd (upd H2 dx (exd dx [(f, y)])) a (exo a C (some dx)))
theorem ps_ost1 {o e : Expr} {to te : TE} {p' pos : Pos} (SF : StoreFacts B bmB "object.__setattr__" "object") (ho : PE X o to) (he : PE X e te) (hs : swapsWith e (some (.Attribute o f p')) pos.line X.env = pure false := by rfl) : PS X (.Assign [.Attribute o f p'] e pos) (tOst1 X.K bmB newId f to te) :=
  ⟨fun pins s σ H D I h => plainObj_wpAny_Assign_Attribute (thn (he.run pins s σ H _ I h) fun v s1 ⟨_, _, I1, r1, q1⟩ => thn (ho.run pins s1 σ _ _ I1 q1) fun u s2 ⟨_, _, I2, r2, q2⟩ => by
    obtain ⟨a, C, rfl, T, no, ea, q⟩ := q2
    obtain rfl : u = Value.ref a := r2
    exact ost_first SF T I2 ea no r1 fun dx s' n ne J => ⟨σ, _, J, q dx n ne⟩) hs⟩
theorem pmk_oexB {CX : CXT} {x : Str} {fI : Addr} {k : Nat} {fd : FuncData} {ps : List Str} {sp : Sp} {ds : List Value} {dvs : List V} {e : Expr} {es : List Expr} {ta : TA} {p pos : Pos} (F : ExcBaseFacts B newId initId bmB) (T : OexB X.K C bmB newId) (iC : PySem.W.findIn X.K (.ref C) "__init__" = some (some (.ref fI)))
    (tI : PySem.W.typeIn X.K (.ref fI) = some (.type "function")) (F1 : FnOk X.prog X.w X.K X.mg X.base CX k fI fd ps sp) (hr : Room (k + 1) X.A) (hb : Binds X.K fd ps ds) (hd : Vals dvs ds) (hx : Passes CX X (fun _ _ _ => False)) (hg : Gl X x) (hm : X.mg x = some (.ref C)) (ha : PA X (e :: es) ta)
    (hdb : (x == ("__debug__" : Str)) = false := by decide) (he : starEach (e :: es) X.env = (false, eval e X.env) :: starEach es X.env := by rfl) (hpl : (backTo pos (starEach es X.env)).any (·.1) = false := by rfl) :
    PMk X (.Call (.Name x p) (e :: es) [] pos) (tMkO C sp dvs ta) := fun pins s σ H Q I h => by
  obtain ⟨nm, qn, N, bs, bm, sn, sub, ab, col, dd, k0, k1, k2, k3, k5, hC, tail⟩ := T.cls
  refine wpAny_Call_Name_kw (ld_glob I hg hm ?_ hdb)
  refine PySem.W.callWith_K (h₀ := X.base) I.ok.mod.kin T.kC (thn (ha.run pos pins s σ H _ I h) fun us s1 ⟨vs, H1, I1, r1, few, q1⟩ => ⟨I1.kIn, ?_⟩) he hpl
  show wpAny _ _ (call (.ref C) us) _ _ _
  obtain ⟨hp, g, dr, tk, os⟩ := s1
  have up1 : hp.objs.size ≤ hp.objs.size + 1 := Nat.le_succ _
  have hq := q1 (hp.objs.size + 1) (I1.hok.fresh up1)
  have kk : ∀ b o, hp.get? b = some o → ((hp.push (PySem.W.kdv_tup us)).push (PySem.HandSPX.excO C hp.objs.size)).get? b = some o := fun b o z => Heap.get?_push_of_some _ (Heap.get?_push_of_some _ z)
  have made : ((hp.push (PySem.W.kdv_tup us)).push (PySem.HandSPX.excO C hp.objs.size)).get? (hp.objs.size + 1) = some (PySem.HandSPX.excO C hp.objs.size) := by heap_get
  have I2 : Inv X pins σ (upd H1 (hp.objs.size + 1) (exo (hp.objs.size + 1) C none)) ⟨(hp.push (PySem.W.kdv_tup us)).push (PySem.HandSPX.excO C hp.objs.size), g, dr, tk, os⟩ :=
    I1.laid (t' := tk) (a := hp.objs.size + 1) (o := exo (hp.objs.size + 1) C none) (h' := (hp.push (PySem.W.kdv_tup us)).push (PySem.HandSPX.excO C hp.objs.size)) kk up1 (exo_ok made)
  have r2 : Vals (V.ref (hp.objs.size + 1) :: (vs ++ dvs)) (Value.ref (hp.objs.size + 1) :: (us ++ ds)) := .cons rfl (r1.append hd)
  have many : (Value.ref (hp.objs.size + 1) :: us ++ ds).length = ps.length := by
    have z := r2.length
    rw [F1.len _ _ _ _ hq] at z
    exact z.symm
  have fits : us.length ≤ sizeLine := by
    rw [← Paired.length r1, sizeLine_eq]
    omega
  refine wpAny_call (PySem.HandSPX.call_own F (fun Y => PySem.W.excTail_contains Y bm tail) (I1.kIn _ _ hC) (PySem.W.looks_findIn I1.kIn iC) (fun self => PySem.W.bind_fn I1.kIn self tI) fits
    (codeAny_mono (F1.run _ X.stack _ _ ⟨Value.ref (hp.objs.size + 1) :: us, []⟩ (Value.ref (hp.objs.size + 1) :: (us ++ ds)) _ _ (fun _ _ _ => False) (hr.make C us []) (I2.env0.make C us []) (hb _ (Value.ref (hp.objs.size + 1) :: us) I2.kIn many) r2 hq) fun r s' z => ?_))
  cases r with
  | error er => exact hx pins σ _ _ er s' I2 z
  | ok fl =>
    cases fl with
    | ret u =>
      obtain ⟨v, H2, os2, bare2, un2, hok2, rv, rfl, d, fs, ea, ed, hd1, q2⟩ := z
      obtain ⟨h2, g2, d2, t2, os'⟩ := s'
      exact ⟨rv, mk_end (raises_own T.exC T.tyC) I1 up1 kk un2 hok2 os2 bare2 ea ed hd1 q2⟩
    | next => exact False.elim z
    | brk => exact False.elim z
    | cont => exact False.elim z
end
end XX

/-! a try with several clauses, each with a name or without one -/
namespace XX
open PySem PySem.Spec PyProof.Rows L2
/-- a clause: its class, the slot of its name, the reading of its suite -/
structure Clause where
  cls : Value
  slot : Option Nat
  ts : Addr → Value → Option Addr → TS
/-- behind a suite the clause's name is gone -/
def Ends.gone (D : Ends) (i : Nat) : Ends := { nx := fun σ H => D.nx (σ.set i none) H, rt := D.rt, bk := fun σ H => D.bk (σ.set i none) H, ct := fun σ H => D.ct (σ.set i none) H }
def Clause.go (c : Clause) (a : Addr) (cls : Value) (d : Option Addr) (D : Ends) (σ : L2.St) (H : Hp) : Prop := match c.slot with
  | none => c.ts a cls d D σ H
  | some i => c.ts a cls d (Ends.gone D i) (σ.set i (some (.ref a))) H
def wMix (K : PySem.W.Frag) (out : WX) (D : Ends) : List Clause → WX
  | [] => out
  | c :: r => fun cls d σ H => ∃ b, PySem.W.exmOne K cls c.cls = some b ∧ (b = true → ∀ a, H a = none → c.go a cls d D σ H) ∧ (b = false → wMix K out D r cls d σ H)
def NameOk (X : Cx) : Option Str → Option Nat → Prop
  | none, none => True
  | some n, some i => X.N[i]? = some n ∧ X.env.kindOf n = some .local
  | _, _ => False
inductive MixOk (X : Cx) : List ExceptHandler → List Clause → Prop
  | nil : MixOk X [] []
  | cons {x : Str} {nm : Option Str} {c : Clause} {st : Stmt} {suite : List Stmt} {np pp : Pos} {hds : List ExceptHandler} {l : List Clause} (names : Names X x c.cls) (ok : NameOk X nm c.slot)
      (body : ∀ (a : Addr) (oe : Obj) (cls : Value) (d : Option Addr) (pn : List (Addr × Obj)), Zc cls d oe → (∃ vs, oe.data = .fields vs) → PSs (X.suite a ((a, oe) :: pn)) (st :: suite) (c.ts a cls d)) (rest : MixOk X hds l) :
      MixOk X (.ExceptHandler (some (.Name x np)) nm (st :: suite) pp :: hds) (c :: l)
section
variable {X : Cx} {body : List Stmt} {h0 : ExceptHandler} {hds : List ExceptHandler} {l : List Clause} {pos : Pos} {tb : WX → TS} {out : WX}
theorem ps_try_mix (hs : X.stack = X.env :: X.outer) (hf : X.env.frame = some X.env.locals) (nodup : X.N.Nodup) (tk : Takes X out)
    (hb : ∀ (W : WX) (pn : List (Addr × Obj)) (xe : Value → Shared → Prop), Takes (X.tr pn xe) W → PassesOwn (model X.prog X.w) X.A X.env xe → PSs (X.tr pn xe) body (tb W))
    (hh : MixOk X (h0 :: hds) l) : PS X (.Try body (h0 :: hds) [] [] pos) (fun D σ H => tb (wMix X.K out D l) D σ H) := by
  refine ⟨fun pins s σ H D I h => ?_⟩
  have ok := I.ok
  have frames : X.A.frames = some (X.env :: X.outer) := by rw [ok.frames, hs]
  refine wpAny_Try_except ?_
  refine wpAny_mono ((hb (wMix X.K out D l) (X.pn ++ pins) (fun e s1 => wpAny (model X.prog X.w) X.A (noteFrame e X.env) (fun _ s2 => wpAny (model X.prog X.w) X.A (setFlight e none) (fun _ s3 =>
    wpAny (model X.prog X.w) X.A (handleBy e X.env (h0 :: hds)) (SP X pins D) X.xe s3) X.xe s2) X.xe s1) (fun u s' air => ?_) PassesOwn.looking).run [] s σ H D (I.toTry _) h) (fun f s1 sp => ?_) (fun e s1 he => he)
  · obtain ⟨a, B, sI, pins', σ', H', cls, d, rfl, J', nb, up, sky, na, os, ag, wish⟩ := air
    have J : Inv X pins σ' H' sI := J'.ofTry ok
    rw [hs] at sky
    show wpAny (model X.prog X.w) X.A (noteFrame (.ref a) X.env) _ _ _
    refine Sky.land Zc.steady frames hf sky fun h3 fl3 up3 => ?_
    have J3 : Inv X pins σ' H' { s' with heap := h3 } := J.landed nb fl3.1 (up.trans up3) os ag
    obtain ⟨oe3, vs3, at3, z3, d3⟩ := fl3.there
    have inAir : a ∉ frs (X.env :: X.outer) := fun hm => by
      obtain ⟨_, o', e', hnf⟩ := fl3.2.2.1.mem hm
      rw [at3] at e'
      cases e'
      exact hnf _ d3
    have nL : a ≠ X.env.locals := fun z => inAir (List.mem_filterMap.mpr ⟨X.env, List.mem_cons_self, by rw [hf, z]⟩)
    have nF : a ∉ X.fs := fun hm => by
      obtain ⟨e, he, q⟩ := List.mem_filterMap.mp hm
      exact inAir (List.mem_filterMap.mpr ⟨e, List.mem_cons_of_mem _ he, q⟩)
    have S3 := J3.suite at3 d3 na nL nF
    have clauses : ∀ {hds' : List ExceptHandler} {l' : List Clause}, MixOk X hds' l' → wMix X.K out D l' cls d σ' H' →
        wpAny (model X.prog X.w) X.A (handleBy (.ref a) X.env hds') (SP X pins D) X.xe { s' with heap := h3 } := by
      intro hds' l' hk
      induction hk with
      | nil =>
        intro wish'
        refine wpAny_handleBy_nil ?_
        obtain ⟨_, _, _, oe, vs, T, oT, ts', he, hz, hd, h1, hr⟩ := id fl3
        unfold PySem.passOn
        refine wpAny_bind (wpAny_field he hd h1 ?_)
        rw [if_neg (show ¬ ((Value.ref T == Value.none) = true) from by simp)]
        have on : wpAny (model X.prog X.w) X.A (setFlight (.ref a) X.env.frame) (fun _ s4 => wpAny (model X.prog X.w) X.A (throw (.ref a) : Sem Flow) (SP X pins D) X.xe s4) X.xe { s' with heap := h3 } := by
          rw [hf]
          refine HandSPX.setFlight_upZ fl3 fun h4 hh4 up4 => wpAny_throw (tk _ _ ?_)
          exact ⟨a, B, sI, pins, σ', H', cls, d, rfl, J, nb, (up.trans up3).trans up4, .inr (.inr (by rw [hs]; exact hh4)), na, os, ag, wish'⟩
        first
          | exact wpAny_bind (wpAny_pure (wpAny_bind on))
          | exact wpAny_bind on
      | @cons x nm c st suite np pp hds2 l2 names named bodyOk rest ih =>
        intro wish'
        obtain ⟨b, hb1, yes, no⟩ := wish'
        refine wpAny_handleBy_cons (codeAny_handlers_test ?_) (by intro q; cases q)
        have LT : PySem.W.Looks (model X.prog X.w) h3 (typeOf (.ref a)) cls := fun A Q E s k q => wpAny_typeOf_ref (k _ _ at3) (by rw [z3.1]; exact q)
        have LM := PySem.W.exm_one (M := model X.prog X.w) (J3.kIn) LT hb1
        have test : ∀ {Q : Value → Shared → Prop} {E : Value → Shared → Prop}, Q c.cls { s' with heap := h3 } → wpAny (model X.prog X.w) (X.A.mark (some (.ref a))) (eval (.Name x np) X.env) Q E { s' with heap := h3 } := fun {Q E} q => by
          obtain ⟨hg, hdbg, hm | ⟨hm, hv, hnn⟩⟩ := names
          · exact ld_glob (X := X.suite a ((a, oe3) :: (X.pn ++ pins))) S3 hg hm q hdbg
          · exact ld_blt (X := X.suite a ((a, oe3) :: (X.pn ++ pins))) S3 hg hm hv q hnn hdbg
        refine test (LM.here ?_)
        cases b with
        | false =>
          show wpAny _ X.A (handleBy (.ref a) X.env hds2) _ _ _
          exact ih (no rfl)
        | true =>
          have go := yes rfl a na
          obtain ⟨ccls, slot, cts⟩ := c
          cases nm with
          | none =>
            cases slot with
            | some i => exact named.elim
            | none =>
              refine codeAny_handlers_suite ?_
              refine HandSPX.lands_againZ fl3 fun h4 fl4 up4 => ?_
              have J4 : Inv X pins σ' H' { s' with heap := h4 } := J.landed nb fl4.1 ((up.trans up3).trans up4) os ag
              obtain ⟨oe4, vs4, at4, z4, d4⟩ := fl4.there
              refine wpAny_mono ((bodyOk a oe4 cls d (X.pn ++ pins) z4 ⟨_, d4⟩).run [] _ _ H' _ (J4.suite at4 d4 na nL nF) go) (fun f s6 sp => ?_) (fun _ _ z => False.elim z)
              cases f with
              | ret u =>
                obtain ⟨_, _, _, S6, r6, q6⟩ := sp
                exact ⟨_, _, _, S6.unsuite ok, r6, q6⟩
              | next =>
                obtain ⟨_, _, S6, q6⟩ := sp
                exact ⟨_, _, S6.unsuite ok, q6⟩
              | brk =>
                obtain ⟨_, _, S6, q6⟩ := sp
                exact ⟨_, _, S6.unsuite ok, q6⟩
              | cont =>
                obtain ⟨_, _, S6, q6⟩ := sp
                exact ⟨_, _, S6.unsuite ok, q6⟩
          | some n =>
            cases slot with
            | none => exact named.elim
            | some i =>
              obtain ⟨ni, nl⟩ := named
              refine codeAny_handlers_suite_as ?_
              refine HandSPX.lands_againZ fl3 fun h4 fl4 up4 => ?_
              have J4 : Inv X pins σ' H' { s' with heap := h4 } := J.landed nb fl4.1 ((up.trans up3).trans up4) os ag
              obtain ⟨oe4, vs4, at4, z4, d4⟩ := fl4.there
              refine store_ok (X := X.suite a ((a, oe4) :: (X.pn ++ pins))) (v := .ref a) (J4.suite at4 d4 na nL nF) nodup ni (.inl nl) rfl (fun s5 S5 => ?_) (.inr nl)
              refine wpAny_mono ((bodyOk a oe4 cls d (X.pn ++ pins) z4 ⟨_, d4⟩).run [] s5 _ H' _ S5 go) (fun f s6 sp => ?_) (fun _ _ z => False.elim z)
              have leave : ∀ {σ6 : L2.St} {H6 : Hp} {Q : Shared → Prop}, Inv (X.suite a ((a, oe4) :: (X.pn ++ pins))) [] σ6 H6 s6 → (∀ s7, Inv X pins (σ6.set i none) H6 s7 → Q s7) →
                  wpAny (model X.prog X.w) X.A (do bindName X.env n .none; unbindBehindTheSuite X.env n pp) (fun _ s7 => Q s7) X.xe s6 := fun {σ6 H6 Q} S6 hq => gone_ok (S6.unsuite ok) nodup ni nl hq
              cases f with
              | ret u =>
                obtain ⟨_, _, _, S6, r6, q6⟩ := sp
                exact leave S6 fun s7 J7 => ⟨_, _, _, J7, r6, q6⟩
              | next =>
                obtain ⟨_, _, S6, q6⟩ := sp
                exact leave S6 fun s7 J7 => ⟨_, _, J7, q6⟩
              | brk =>
                obtain ⟨_, _, S6, q6⟩ := sp
                exact leave S6 fun s7 J7 => ⟨_, _, J7, q6⟩
              | cont =>
                obtain ⟨_, _, S6, q6⟩ := sp
                exact leave S6 fun s7 J7 => ⟨_, _, J7, q6⟩
    exact clauses hh wish
  · cases f with
    | ret u =>
      obtain ⟨v, σ', H', J', r, q⟩ := sp
      exact ⟨v, σ', H', J'.ofTry ok, r, q⟩
    | next =>
      obtain ⟨σ', H', J', q⟩ := sp
      exact wpAny_execs_nil ⟨σ', H', J'.ofTry ok, q⟩
    | brk =>
      obtain ⟨σ', H', J', q⟩ := sp
      exact ⟨σ', H', J'.ofTry ok, q⟩
    | cont =>
      obtain ⟨σ', H', J', q⟩ := sp
      exact ⟨σ', H', J'.ofTry ok, q⟩
end
end XX

namespace K4
open PySem PySem.Spec PyProof.Rows L2 RZ L5 XX
/-! ### the text by places -/
def topS (i : Nat) : Stmt := PySem.Challenge.pw_pureladders_k04_whole_products_by_their.main.body.getD i (.Pass ⟨0, 0, 0, 0⟩)
abbrev s_is_number : Stmt := topS 7
abbrev N_is_number : List Str := ["value"]
theorem sc_is_number : FnScope N_is_number ["value"] (defScope s_is_number) := ⟨rfl, rfl, rfl, by decide +kernel, rfl, by decide +kernel, by decide +kernel⟩
abbrev s_is_within : Stmt := topS 8
abbrev N_is_within : List Str := ["value", "least", "most"]
theorem sc_is_within : FnScope N_is_within ["value", "least", "most"] (defScope s_is_within) := ⟨rfl, rfl, rfl, by decide +kernel, rfl, by decide +kernel, by decide +kernel⟩
abbrev s_check_within : Stmt := topS 9
abbrev N_check_within : List Str := ["value", "least", "most"]
theorem sc_check_within : FnScope N_check_within ["value", "least", "most"] (defScope s_check_within) := ⟨rfl, rfl, rfl, by decide +kernel, rfl, by decide +kernel, by decide +kernel⟩
abbrev s_are_exponents : Stmt := topS 11
abbrev N_are_exponents : List Str := ["value", "letters", "most", "exponent"]
theorem sc_are_exponents : FnScope N_are_exponents ["value", "letters", "most"] (defScope s_are_exponents) := ⟨rfl, rfl, rfl, by decide +kernel, rfl, by decide +kernel, by decide +kernel⟩
abbrev s_fits : Stmt := topS 12
abbrev N_fits : List Str := ["one", "other", "low", "high"]
theorem sc_fits : FnScope N_fits ["one", "other"] (defScope s_fits) := ⟨rfl, rfl, rfl, by decide +kernel, rfl, by decide +kernel, by decide +kernel⟩
abbrev s_greater : Stmt := topS 13
abbrev N_greater : List Str := ["one", "other", "a", "b"]
theorem sc_greater : FnScope N_greater ["one", "other"] (defScope s_greater) := ⟨rfl, rfl, rfl, by decide +kernel, rfl, by decide +kernel, by decide +kernel⟩
abbrev s_lesser : Stmt := topS 14
abbrev N_lesser : List Str := ["one", "other", "a", "b"]
theorem sc_lesser : FnScope N_lesser ["one", "other"] (defScope s_lesser) := ⟨rfl, rfl, rfl, by decide +kernel, rfl, by decide +kernel, by decide +kernel⟩
abbrev s_added : Stmt := topS 15
abbrev N_added : List Str := ["one", "other", "a", "b"]
theorem sc_added : FnScope N_added ["one", "other"] (defScope s_added) := ⟨rfl, rfl, rfl, by decide +kernel, rfl, by decide +kernel, by decide +kernel⟩
abbrev s_taken_off : Stmt := topS 16
abbrev N_taken_off : List Str := ["one", "other", "a", "b"]
theorem sc_taken_off : FnScope N_taken_off ["one", "other"] (defScope s_taken_off) := ⟨rfl, rfl, rfl, by decide +kernel, rfl, by decide +kernel, by decide +kernel⟩
abbrev s_check_product : Stmt := topS 20
abbrev N_check_product : List Str := ["value", "letters"]
theorem sc_check_product : FnScope N_check_product ["value", "letters"] (defScope s_check_product) := ⟨rfl, rfl, rfl, by decide +kernel, rfl, by decide +kernel, by decide +kernel⟩
abbrev s_check_any_product : Stmt := topS 21
abbrev N_check_any_product : List Str := ["value"]
theorem sc_check_any_product : FnScope N_check_any_product ["value"] (defScope s_check_any_product) := ⟨rfl, rfl, rfl, by decide +kernel, rfl, by decide +kernel, by decide +kernel⟩
abbrev s_check_both : Stmt := topS 22
abbrev N_check_both : List Str := ["one", "other"]
theorem sc_check_both : FnScope N_check_both ["one", "other"] (defScope s_check_both) := ⟨rfl, rfl, rfl, by decide +kernel, rfl, by decide +kernel, by decide +kernel⟩
abbrev s_degree_of : Stmt := topS 23
abbrev N_degree_of : List Str := ["product"]
theorem sc_degree_of : FnScope N_degree_of ["product"] (defScope s_degree_of) := ⟨rfl, rfl, rfl, by decide +kernel, rfl, by decide +kernel, by decide +kernel⟩
abbrev s_is_product : Stmt := topS 24
abbrev N_is_product : List Str := ["letters", "value"]
theorem sc_is_product : FnScope N_is_product ["letters", "value"] (defScope s_is_product) := ⟨rfl, rfl, rfl, by decide +kernel, rfl, by decide +kernel, by decide +kernel⟩
abbrev s_does_divide : Stmt := topS 25
abbrev N_does_divide : List Str := ["one", "other"]
theorem sc_does_divide : FnScope N_does_divide ["one", "other"] (defScope s_does_divide) := ⟨rfl, rfl, rfl, by decide +kernel, rfl, by decide +kernel, by decide +kernel⟩
abbrev s_multiple_of : Stmt := topS 26
abbrev N_multiple_of : List Str := ["one", "other"]
theorem sc_multiple_of : FnScope N_multiple_of ["one", "other"] (defScope s_multiple_of) := ⟨rfl, rfl, rfl, by decide +kernel, rfl, by decide +kernel, by decide +kernel⟩
abbrev s_divisor_of : Stmt := topS 27
abbrev N_divisor_of : List Str := ["one", "other"]
theorem sc_divisor_of : FnScope N_divisor_of ["one", "other"] (defScope s_divisor_of) := ⟨rfl, rfl, rfl, by decide +kernel, rfl, by decide +kernel, by decide +kernel⟩
abbrev s_product_times : Stmt := topS 28
abbrev N_product_times : List Str := ["one", "other", "both"]
theorem sc_product_times : FnScope N_product_times ["one", "other"] (defScope s_product_times) := ⟨rfl, rfl, rfl, by decide +kernel, rfl, by decide +kernel, by decide +kernel⟩
abbrev s_quotient_of : Stmt := topS 29
abbrev N_quotient_of : List Str := ["one", "other"]
theorem sc_quotient_of : FnScope N_quotient_of ["one", "other"] (defScope s_quotient_of) := ⟨rfl, rfl, rfl, by decide +kernel, rfl, by decide +kernel, by decide +kernel⟩
abbrev s_w_pail : Stmt := topS 31
abbrev N_w_pail : List Str := ["_law_script", "_law_spot", "_law_cell", "_law_great_here", "_law_mixed"]
theorem sc_w_pail : FnScope N_w_pail ["_law_script", "_law_spot"] (defScope s_w_pail) := ⟨rfl, rfl, rfl, by decide +kernel, rfl, by decide +kernel, by decide +kernel⟩
abbrev s_w_dipped : Stmt := topS 32
abbrev N_w_dipped : List Str := ["_law_pail_here", "_law_many", "_law_found", "_law_one", "_law_two"]
theorem sc_w_dipped : FnScope N_w_dipped ["_law_pail_here", "_law_many"] (defScope s_w_dipped) := ⟨rfl, rfl, rfl, by decide +kernel, rfl, by decide +kernel, by decide +kernel⟩
abbrev s_w_some : Stmt := topS 33
abbrev N_w_some : List Str := ["_law_pail_here", "_law_items"]
theorem sc_w_some : FnScope N_w_some ["_law_pail_here", "_law_items"] (defScope s_w_some) := ⟨rfl, rfl, rfl, by decide +kernel, rfl, by decide +kernel, by decide +kernel⟩
abbrev s_w_product : Stmt := topS 34
abbrev N_w_product : List Str := ["_law_pail_here", "_law_letters", "_law_most", "_law_top", "_law_at"]
theorem sc_w_product : FnScope N_w_product ["_law_pail_here", "_law_letters", "_law_most"] (defScope s_w_product) := ⟨rfl, rfl, rfl, by decide +kernel, rfl, by decide +kernel, by decide +kernel⟩
abbrev s_w_divides : Stmt := topS 35
abbrev N_w_divides : List Str := ["_law_one", "_law_other", "_law_at"]
theorem sc_w_divides : FnScope N_w_divides ["_law_one", "_law_other"] (defScope s_w_divides) := ⟨rfl, rfl, rfl, by decide +kernel, rfl, by decide +kernel, by decide +kernel⟩
abbrev s_w_joined : Stmt := topS 36
abbrev N_w_joined : List Str := ["_law_one", "_law_other", "_law_left", "_law_right_here"]
theorem sc_w_joined : FnScope N_w_joined ["_law_one", "_law_other"] (defScope s_w_joined) := ⟨rfl, rfl, rfl, by decide +kernel, rfl, by decide +kernel, by decide +kernel⟩
abbrev s_w_added : Stmt := topS 37
abbrev N_w_added : List Str := ["_law_one", "_law_other", "_law_left", "_law_right_here"]
theorem sc_w_added : FnScope N_w_added ["_law_one", "_law_other"] (defScope s_w_added) := ⟨rfl, rfl, rfl, by decide +kernel, rfl, by decide +kernel, by decide +kernel⟩
abbrev s_w_told : Stmt := topS 38
abbrev N_w_told : List Str := ["_law_call", "error"]
theorem sc_w_told : FnScope N_w_told ["_law_call"] (defScope s_w_told) := ⟨rfl, rfl, rfl, by decide +kernel, rfl, by decide +kernel, by decide +kernel⟩
abbrev s_w_great : Stmt := topS 39
abbrev N_w_great : List Str := ["_law_pail_here", "_law_letters", "_law_at"]
theorem sc_w_great : FnScope N_w_great ["_law_pail_here", "_law_letters"] (defScope s_w_great) := ⟨rfl, rfl, rfl, by decide +kernel, rfl, by decide +kernel, by decide +kernel⟩
abbrev s_w_near : Stmt := topS 40
abbrev N_w_near : List Str := ["_law_pail_here", "_law_one", "_law_at", "_law_found", "_law_odd"]
theorem sc_w_near : FnScope N_w_near ["_law_pail_here", "_law_one"] (defScope s_w_near) := ⟨rfl, rfl, rfl, by decide +kernel, rfl, by decide +kernel, by decide +kernel⟩
abbrev s_w_is : Stmt := topS 41
abbrev N_w_is : List Str := ["_law_letters", "_law_value", "_law_whole", "_law_one"]
theorem sc_w_is : FnScope N_w_is ["_law_letters", "_law_value"] (defScope s_w_is) := ⟨rfl, rfl, rfl, by decide +kernel, rfl, by decide +kernel, by decide +kernel⟩
abbrev s_w_two_right : Stmt := topS 42
abbrev N_w_two_right : List Str := ["_law_one", "_law_other", "_law_low", "_law_both", "_law_rest", "_law_due", "_law_left", "_law_right_here"]
theorem sc_w_two_right : FnScope N_w_two_right ["_law_one", "_law_other"] (defScope s_w_two_right) := ⟨rfl, rfl, rfl, by decide +kernel, rfl, by decide +kernel, by decide +kernel⟩
abbrev s_w_right : Stmt := topS 43
abbrev N_w_right : List Str := ["_law_pail_here", "_law_letters", "_law_other", "_law_pairs", "_law_is_one", "_law_wrong", "_law_call", "_law_one", "_law_value", "_law_pair"]
theorem sc_w_right : FnScope N_w_right ["_law_pail_here"] (defScope s_w_right) := ⟨rfl, rfl, rfl, by decide +kernel, rfl, by decide +kernel, by decide +kernel⟩
abbrev s_law : Stmt := topS 44
abbrev N_law : List Str := ["_law_script", "_law_spot", "_law_pail_here", "_law_told_here"]
theorem sc_law : FnScope N_law ["_law_script"] (defScope s_law) := ⟨rfl, rfl, rfl, by decide +kernel, rfl, by decide +kernel, by decide +kernel⟩
abbrev si_TooMany : Stmt := inClass (topS 4) 0
abbrev Ni_TooMany : List Str := ["self", "most"]
theorem sci_TooMany : FnScope Ni_TooMany ["self", "most"] (defScope si_TooMany) := ⟨rfl, rfl, rfl, by decide +kernel, rfl, by decide +kernel, by decide +kernel⟩
abbrev si_Refused : Stmt := inClass (topS 5) 0
abbrev Ni_Refused : List Str := ["self", "reason"]
theorem sci_Refused : FnScope Ni_Refused ["self", "reason"] (defScope si_Refused) := ⟨rfl, rfl, rfl, by decide +kernel, rfl, by decide +kernel, by decide +kernel⟩
/-! ### what the top has written -/
/-- a maker of lambdas: its code object is known -/
structure FunC (K : PySem.W.Frag) (x qual : Str) (st : Stmt) (f : Addr) (fd : FuncData) (c : Addr) : Prop where
  ex : ∃ (oc : Value) (od : Option Addr) (kV doc pm : Value) (an : Option Addr) (ct : Value) (osl : Array (Option Value)),
    fd = PySem.W.fnOf x qual (defArgs st) (defBody st) (defScope st) .none kV doc pm an (.ref c) ct ∧ K.lookup f = some ⟨oc, od, .func fd, osl⟩ ∧ PySem.W.codeIn K (.ref c) qual = true
structure Txt (K : PySem.W.Frag) (mg : Str → Option Value) where
  a_is_number : Addr
  d_is_number : FuncData
  F_is_number : Fun K "is_number" "is_number" s_is_number a_is_number d_is_number
  b_is_number : Binds K d_is_number ["value"] []
  m_is_number : mg "is_number" = some (.ref a_is_number)
  a_is_within : Addr
  d_is_within : FuncData
  F_is_within : Fun K "is_within" "is_within" s_is_within a_is_within d_is_within
  b_is_within : Binds K d_is_within ["value", "least", "most"] []
  m_is_within : mg "is_within" = some (.ref a_is_within)
  a_check_within : Addr
  d_check_within : FuncData
  F_check_within : Fun K "check_within" "check_within" s_check_within a_check_within d_check_within
  b_check_within : Binds K d_check_within ["value", "least", "most"] []
  m_check_within : mg "check_within" = some (.ref a_check_within)
  a_are_exponents : Addr
  d_are_exponents : FuncData
  F_are_exponents : Fun K "are_exponents" "are_exponents" s_are_exponents a_are_exponents d_are_exponents
  b_are_exponents : Binds K d_are_exponents ["value", "letters", "most"] []
  m_are_exponents : mg "are_exponents" = some (.ref a_are_exponents)
  a_fits : Addr
  d_fits : FuncData
  F_fits : Fun K "fits" "fits" s_fits a_fits d_fits
  b_fits : Binds K d_fits ["one", "other"] []
  m_fits : mg "fits" = some (.ref a_fits)
  a_greater : Addr
  d_greater : FuncData
  F_greater : Fun K "greater" "greater" s_greater a_greater d_greater
  b_greater : Binds K d_greater ["one", "other"] []
  m_greater : mg "greater" = some (.ref a_greater)
  a_lesser : Addr
  d_lesser : FuncData
  F_lesser : Fun K "lesser" "lesser" s_lesser a_lesser d_lesser
  b_lesser : Binds K d_lesser ["one", "other"] []
  m_lesser : mg "lesser" = some (.ref a_lesser)
  a_added : Addr
  d_added : FuncData
  F_added : Fun K "added" "added" s_added a_added d_added
  b_added : Binds K d_added ["one", "other"] []
  m_added : mg "added" = some (.ref a_added)
  a_taken_off : Addr
  d_taken_off : FuncData
  F_taken_off : Fun K "taken_off" "taken_off" s_taken_off a_taken_off d_taken_off
  b_taken_off : Binds K d_taken_off ["one", "other"] []
  m_taken_off : mg "taken_off" = some (.ref a_taken_off)
  a_check_product : Addr
  d_check_product : FuncData
  F_check_product : Fun K "check_product" "check_product" s_check_product a_check_product d_check_product
  b_check_product : Binds K d_check_product ["value", "letters"] []
  m_check_product : mg "check_product" = some (.ref a_check_product)
  a_check_any_product : Addr
  d_check_any_product : FuncData
  F_check_any_product : Fun K "check_any_product" "check_any_product" s_check_any_product a_check_any_product d_check_any_product
  b_check_any_product : Binds K d_check_any_product ["value"] []
  m_check_any_product : mg "check_any_product" = some (.ref a_check_any_product)
  a_check_both : Addr
  d_check_both : FuncData
  F_check_both : Fun K "check_both" "check_both" s_check_both a_check_both d_check_both
  b_check_both : Binds K d_check_both ["one", "other"] []
  m_check_both : mg "check_both" = some (.ref a_check_both)
  a_degree_of : Addr
  d_degree_of : FuncData
  F_degree_of : Fun K "degree_of" "degree_of" s_degree_of a_degree_of d_degree_of
  b_degree_of : Binds K d_degree_of ["product"] []
  m_degree_of : mg "degree_of" = some (.ref a_degree_of)
  a_is_product : Addr
  d_is_product : FuncData
  F_is_product : Fun K "is_product" "is_product" s_is_product a_is_product d_is_product
  b_is_product : Binds K d_is_product ["letters", "value"] []
  m_is_product : mg "is_product" = some (.ref a_is_product)
  a_does_divide : Addr
  d_does_divide : FuncData
  F_does_divide : Fun K "does_divide" "does_divide" s_does_divide a_does_divide d_does_divide
  b_does_divide : Binds K d_does_divide ["one", "other"] []
  m_does_divide : mg "does_divide" = some (.ref a_does_divide)
  a_multiple_of : Addr
  d_multiple_of : FuncData
  F_multiple_of : Fun K "multiple_of" "multiple_of" s_multiple_of a_multiple_of d_multiple_of
  b_multiple_of : Binds K d_multiple_of ["one", "other"] []
  m_multiple_of : mg "multiple_of" = some (.ref a_multiple_of)
  a_divisor_of : Addr
  d_divisor_of : FuncData
  F_divisor_of : Fun K "divisor_of" "divisor_of" s_divisor_of a_divisor_of d_divisor_of
  b_divisor_of : Binds K d_divisor_of ["one", "other"] []
  m_divisor_of : mg "divisor_of" = some (.ref a_divisor_of)
  a_product_times : Addr
  d_product_times : FuncData
  F_product_times : Fun K "product_times" "product_times" s_product_times a_product_times d_product_times
  b_product_times : Binds K d_product_times ["one", "other"] []
  m_product_times : mg "product_times" = some (.ref a_product_times)
  a_quotient_of : Addr
  d_quotient_of : FuncData
  F_quotient_of : Fun K "quotient_of" "quotient_of" s_quotient_of a_quotient_of d_quotient_of
  b_quotient_of : Binds K d_quotient_of ["one", "other"] []
  m_quotient_of : mg "quotient_of" = some (.ref a_quotient_of)
  a_w_pail : Addr
  d_w_pail : FuncData
  F_w_pail : Fun K "_law_pail" "_law_pail" s_w_pail a_w_pail d_w_pail
  b_w_pail : Binds K d_w_pail ["_law_script", "_law_spot"] []
  m_w_pail : mg "_law_pail" = some (.ref a_w_pail)
  a_w_dipped : Addr
  d_w_dipped : FuncData
  F_w_dipped : Fun K "_law_dipped" "_law_dipped" s_w_dipped a_w_dipped d_w_dipped
  b_w_dipped : Binds K d_w_dipped ["_law_pail_here", "_law_many"] []
  m_w_dipped : mg "_law_dipped" = some (.ref a_w_dipped)
  a_w_some : Addr
  d_w_some : FuncData
  F_w_some : Fun K "_law_some" "_law_some" s_w_some a_w_some d_w_some
  b_w_some : Binds K d_w_some ["_law_pail_here", "_law_items"] []
  m_w_some : mg "_law_some" = some (.ref a_w_some)
  a_w_product : Addr
  d_w_product : FuncData
  F_w_product : Fun K "_law_product" "_law_product" s_w_product a_w_product d_w_product
  b_w_product : Binds K d_w_product ["_law_pail_here", "_law_letters", "_law_most"] []
  m_w_product : mg "_law_product" = some (.ref a_w_product)
  a_w_divides : Addr
  d_w_divides : FuncData
  F_w_divides : Fun K "_law_divides" "_law_divides" s_w_divides a_w_divides d_w_divides
  b_w_divides : Binds K d_w_divides ["_law_one", "_law_other"] []
  m_w_divides : mg "_law_divides" = some (.ref a_w_divides)
  a_w_joined : Addr
  d_w_joined : FuncData
  F_w_joined : Fun K "_law_joined" "_law_joined" s_w_joined a_w_joined d_w_joined
  b_w_joined : Binds K d_w_joined ["_law_one", "_law_other"] []
  m_w_joined : mg "_law_joined" = some (.ref a_w_joined)
  a_w_added : Addr
  d_w_added : FuncData
  F_w_added : Fun K "_law_added" "_law_added" s_w_added a_w_added d_w_added
  b_w_added : Binds K d_w_added ["_law_one", "_law_other"] []
  m_w_added : mg "_law_added" = some (.ref a_w_added)
  a_w_told : Addr
  d_w_told : FuncData
  F_w_told : Fun K "_law_told" "_law_told" s_w_told a_w_told d_w_told
  b_w_told : Binds K d_w_told ["_law_call"] []
  m_w_told : mg "_law_told" = some (.ref a_w_told)
  a_w_great : Addr
  d_w_great : FuncData
  F_w_great : Fun K "_law_great" "_law_great" s_w_great a_w_great d_w_great
  b_w_great : Binds K d_w_great ["_law_pail_here", "_law_letters"] []
  m_w_great : mg "_law_great" = some (.ref a_w_great)
  a_w_near : Addr
  d_w_near : FuncData
  F_w_near : Fun K "_law_near" "_law_near" s_w_near a_w_near d_w_near
  b_w_near : Binds K d_w_near ["_law_pail_here", "_law_one"] []
  m_w_near : mg "_law_near" = some (.ref a_w_near)
  a_w_is : Addr
  d_w_is : FuncData
  F_w_is : Fun K "_law_is" "_law_is" s_w_is a_w_is d_w_is
  b_w_is : Binds K d_w_is ["_law_letters", "_law_value"] []
  m_w_is : mg "_law_is" = some (.ref a_w_is)
  a_w_two_right : Addr
  d_w_two_right : FuncData
  F_w_two_right : Fun K "_law_two_right" "_law_two_right" s_w_two_right a_w_two_right d_w_two_right
  c_w_two_right : Addr
  G_w_two_right : FunC K "_law_two_right" "_law_two_right" s_w_two_right a_w_two_right d_w_two_right c_w_two_right
  b_w_two_right : Binds K d_w_two_right ["_law_one", "_law_other"] []
  m_w_two_right : mg "_law_two_right" = some (.ref a_w_two_right)
  a_w_right : Addr
  d_w_right : FuncData
  F_w_right : Fun K "_law_right" "_law_right" s_w_right a_w_right d_w_right
  c_w_right : Addr
  G_w_right : FunC K "_law_right" "_law_right" s_w_right a_w_right d_w_right c_w_right
  b_w_right : Binds K d_w_right ["_law_pail_here"] []
  m_w_right : mg "_law_right" = some (.ref a_w_right)
  a_law : Addr
  d_law : FuncData
  F_law : Fun K "law" "law" s_law a_law d_law
  b_law : Binds K d_law ["_law_script"] []
  m_law : mg "law" = some (.ref a_law)
  z_isinstance : mg "isinstance" = none
  z_int : mg "int" = none
  z_bool : mg "bool" = none
  z_tuple : mg "tuple" = none
  z_len : mg "len" = none
  z_all : mg "all" = none
  z_zip : mg "zip" = none
  z_max : mg "max" = none
  z_min : mg "min" = none
  z_sum : mg "sum" = none
  z_abs : mg "abs" = none
  z_range : mg "range" = none
  z_list : mg "list" = none
  t_MAX_LETTERS : Nat
  c_MAX_LETTERS : mg "MAX_LETTERS" = some (.int 8 t_MAX_LETTERS)
  t_MAX_EXPONENT : Nat
  c_MAX_EXPONENT : mg "MAX_EXPONENT" = some (.int 60 t_MAX_EXPONENT)
  C_InvalidProduct : Addr
  g_InvalidProduct : mg "InvalidProduct" = some (.ref C_InvalidProduct)
  bE_InvalidProduct : PySem.W.subIn K (.ref C_InvalidProduct) (.type "BaseException") = some true
  tE_InvalidProduct : PySem.W.typeIn K (.ref C_InvalidProduct) = some (.type "type")
  k_InvalidProduct : PySem.W.keepIn K (.ref C_InvalidProduct) = true
  e_InvalidProduct : PySem.W.excIn K C_InvalidProduct [.type "ValueError", .type "Exception", .type "BaseException", .type "object"] "ValueError.__new__" = true
  C_TooMany : Addr
  g_TooMany : mg "TooMany" = some (.ref C_TooMany)
  bE_TooMany : PySem.W.subIn K (.ref C_TooMany) (.type "BaseException") = some true
  tE_TooMany : PySem.W.typeIn K (.ref C_TooMany) = some (.type "type")
  k_TooMany : PySem.W.keepIn K (.ref C_TooMany) = true
  o_TooMany : OexB K C_TooMany [.type "OverflowError", .type "ArithmeticError", .type "Exception", .type "BaseException", .type "object"] "OverflowError.__new__"
  f_TooMany : Addr
  d_TooMany : FuncData
  i_TooMany : PySem.W.findIn K (.ref C_TooMany) "__init__" = some (some (.ref f_TooMany))
  ti_TooMany : PySem.W.typeIn K (.ref f_TooMany) = some (.type "function")
  F_TooMany : Fun K "__init__" "TooMany.__init__" si_TooMany f_TooMany d_TooMany
  b_TooMany : Binds K d_TooMany ["self", "most"] []
  n_TooMany : PySem.W.findIn K (.ref C_TooMany) "most" = some none
  x_TooMany : XfC K C_TooMany
  C_Refused : Addr
  g_Refused : mg "Refused" = some (.ref C_Refused)
  bE_Refused : PySem.W.subIn K (.ref C_Refused) (.type "BaseException") = some true
  tE_Refused : PySem.W.typeIn K (.ref C_Refused) = some (.type "type")
  k_Refused : PySem.W.keepIn K (.ref C_Refused) = true
  o_Refused : OexB K C_Refused [.type "ArithmeticError", .type "Exception", .type "BaseException", .type "object"] "ArithmeticError.__new__"
  f_Refused : Addr
  d_Refused : FuncData
  i_Refused : PySem.W.findIn K (.ref C_Refused) "__init__" = some (some (.ref f_Refused))
  ti_Refused : PySem.W.typeIn K (.ref f_Refused) = some (.type "function")
  F_Refused : Fun K "__init__" "Refused.__init__" si_Refused f_Refused d_Refused
  b_Refused : Binds K d_Refused ["self", "reason"] []
  n_Refused : PySem.W.findIn K (.ref C_Refused) "reason" = some none
  x_Refused : XfC K C_Refused
  h_InvalidProduct_InvalidProduct : PySem.W.exmOne K (.ref C_InvalidProduct) (.ref C_InvalidProduct) = some true
  h_InvalidProduct_TooMany : PySem.W.exmOne K (.ref C_InvalidProduct) (.ref C_TooMany) = some false
  h_InvalidProduct_Refused : PySem.W.exmOne K (.ref C_InvalidProduct) (.ref C_Refused) = some false
  h_TooMany_InvalidProduct : PySem.W.exmOne K (.ref C_TooMany) (.ref C_InvalidProduct) = some false
  h_TooMany_TooMany : PySem.W.exmOne K (.ref C_TooMany) (.ref C_TooMany) = some true
  h_TooMany_Refused : PySem.W.exmOne K (.ref C_TooMany) (.ref C_Refused) = some false
  h_Refused_InvalidProduct : PySem.W.exmOne K (.ref C_Refused) (.ref C_InvalidProduct) = some false
  h_Refused_TooMany : PySem.W.exmOne K (.ref C_Refused) (.ref C_TooMany) = some false
  h_Refused_Refused : PySem.W.exmOne K (.ref C_Refused) (.ref C_Refused) = some true
end K4

namespace K4
open PySem PySem.Spec PyProof.Rows L2 RZ L5 XX
abbrev qTwo : Str := "_law_two_right.<locals>.<lambda>"
abbrev qRight : Str := "_law_right.<locals>.<lambda>"
/-- the two tables of code objects -/
abbrev TT2 : List (Addr × Str) := [(287, qTwo), (292, qRight)]
theorem tab_new {H : Hp} {P : Addr} {q : Str} (h : H P = some (.tbl #[])) : LamX.TabS H P q := ⟨#[], h, True.intro, fun pos cv e => by simp [codeAmong] at e⟩
theorem tabs0 {H : Hp} (h1 : H 287 = some (.tbl #[])) (h2 : H 292 = some (.tbl #[])) : LamX.Tabs TT2 H := fun p hp => by
  rcases List.mem_cons.mp hp with rfl | hp
  · exact tab_new h1
  rcases List.mem_cons.mp hp with rfl | hp
  · exact tab_new h2
  cases hp
def sp_law (K : PySem.W.Frag) : Sp := fun vs H Q _ => ∃ (a : Addr) (ns : List Int), vs = [.ref a] ∧ SqL K H a (ns.map V.int) ∧ ns.length ≤ 63 ∧ LamX.Tabs TT2 H ∧ ∀ H', Q (.bl true) H'
end K4

namespace K4
open PySem PySem.Spec PyProof.Rows L2 RZ L5 XX
section
variable {K : PySem.W.Frag} {H H' : Hp}
/-! ### values of any kind -/
/-- an entry: some i where it is an integer, no bool -/
inductive El (K : PySem.W.Frag) (H : Hp) : V → Option Int → Prop
  | int (i : Int) : El K H (.int i) (some i)
  | bl (b : Bool) : El K H (.bl b) none
  | non : El K H .non none
  | str (x : Str) : El K H (.str x) none
  | tup {a : Addr} {xs : List V} (h : SqT K H a xs) : El K H (.ref a) none
theorem El.same (s : Same H H') {v : V} {o : Option Int} (h : El K H v o) : El K H' v o := by
  cases h with
  | int i => exact .int i
  | bl b => exact .bl b
  | non => exact .non
  | str x => exact .str x
  | tup h => exact .tup (same_sqt s h)
theorem El.isi {v : V} {o : Option Int} (h : El K H v o) : ∃ t bi bb, TyX K H v t ∧ PySem.W.kitOne K t (.type "int") = some bi ∧ PySem.W.kitOne K t (.type "bool") = some bb ∧ o.isSome = (bi && !bb) ∧ ∀ i, o = some i → v = .int i := by
  cases h with
  | int i => exact ⟨_, true, false, .base (.int i), kit_ty (by decide +kernel), kit_ty (by decide +kernel), rfl, fun j e => by cases e; rfl⟩
  | bl b => exact ⟨_, true, true, .base (.bl b), kit_ty (by decide +kernel), kit_ty (by decide +kernel), rfl, fun j e => by cases e⟩
  | non => exact ⟨_, false, false, .base .non, kit_ty (by decide +kernel), kit_ty (by decide +kernel), rfl, fun j e => by cases e⟩
  | str x => exact ⟨_, false, false, .base (.str x), kit_ty (by decide +kernel), kit_ty (by decide +kernel), rfl, fun j e => by cases e⟩
  | tup h => exact ⟨_, false, false, sqt_ty h, kit_ty (by decide +kernel), kit_ty (by decide +kernel), rfl, fun j e => by cases e⟩
abbrev Els (K : PySem.W.Frag) (H : Hp) : List V → List (Option Int) → Prop := Paired (El K H)
theorem Els.same (s : Same H H') : ∀ {vs : List V} {os : List (Option Int)}, Els K H vs os → Els K H' vs os
  | _, _, .nil => .nil
  | _, _, .cons h t => .cons (h.same s) (Els.same s t)
theorem Els.length : ∀ {vs : List V} {os : List (Option Int)}, Els K H vs os → vs.length = os.length
  | _, _, .nil => rfl
  | _, _, .cons _ t => congrArg (· + 1) (Els.length t)
theorem Els.get : ∀ {vs : List V} {os : List (Option Int)} {i : Nat} {v : V}, Els K H vs os → vs[i]? = some v → ∃ o, os[i]? = some o ∧ El K H v o
  | _, _, _, _, .nil, e => by simp at e
  | _, _, 0, _, .cons h _, e => by simp at e; subst e; exact ⟨_, rfl, h⟩
  | _, _, i + 1, v, .cons _ t, e => by
    obtain ⟨u, h1, h2⟩ := Els.get (i := i) (v := v) t (by simpa using e)
    exact ⟨u, by simpa using h1, h2⟩
theorem Els.app : ∀ {vs us : List V} {os ps : List (Option Int)}, Els K H vs os → Els K H us ps → Els K H (vs ++ us) (os ++ ps)
  | _, _, _, _, .nil, s => s
  | _, _, _, _, .cons r t, s => .cons r (Els.app t s)
theorem els_nv : ∀ t : List Nat, Els K H (nv t) (t.map fun n => some ((n : Nat) : Int))
  | [] => .nil
  | n :: t => .cons (.int _) (els_nv t)
/-- a value: some os where it is a tuple -/
inductive Va (K : PySem.W.Frag) (H : Hp) : V → Option (List (Option Int)) → Prop
  | tup {a : Addr} {vs : List V} {os : List (Option Int)} (h : SqT K H a vs) (e : Els K H vs os) (hl : vs.length ≤ 1000) : Va K H (.ref a) (some os)
  | lst {a : Addr} {xs : List V} (h : SqL K H a xs) : Va K H (.ref a) none
  | dic {a : Addr} (h : H a = some (.dK [])) : Va K H (.ref a) none
  | non : Va K H .non none
  | int (i : Int) : Va K H (.int i) none
  | str (x : Str) : Va K H (.str x) none
theorem same_sql {a : Addr} {xs : List V} (e : Same H H') (h : SqL K H a xs) : SqL K H' a xs := by
  rcases h with (h | ⟨o, h⟩) | h
  · exact .inl (.inl (e _ _ h))
  · exact .inl (.inr ⟨o, e _ _ h⟩)
  · exact .inr h
theorem sql_ty {a : Addr} {xs : List V} (h : SqL K H a xs) : TyX K H (.ref a) (.type "list") := by
  rcases h with (h | ⟨o, h⟩) | ⟨o, its, n, e, c, _⟩
  · exact .base (.lst h)
  · exact .base (.frz h)
  · exact .kList e c
theorem Va.same (s : Same H H') {v : V} {d : Option (List (Option Int))} (h : Va K H v d) : Va K H' v d := by
  cases h with
  | tup h e hl => exact .tup (same_sqt s h) (e.same s) hl
  | lst h => exact .lst (same_sql s h)
  | dic h => exact .dic (s _ _ h)
  | non => exact .non
  | int i => exact .int i
  | str x => exact .str x
theorem Va.isi {v : V} {d : Option (List (Option Int))} (h : Va K H v d) : ∃ t, TyX K H v t ∧ PySem.W.kitOne K t (.type "tuple") = some d.isSome := by
  cases h with
  | tup h e hl => exact ⟨_, sqt_ty h, kit_ty (show kitB "tuple" "tuple" = some true by decide +kernel)⟩
  | lst h => exact ⟨_, sql_ty h, kit_ty (by decide +kernel)⟩
  | dic h => exact ⟨_, .base (.dK h), kit_ty (by decide +kernel)⟩
  | non => exact ⟨_, .base .non, kit_ty (by decide +kernel)⟩
  | int i => exact ⟨_, .base (.int i), kit_ty (by decide +kernel)⟩
  | str x => exact ⟨_, .base (.str x), kit_ty (by decide +kernel)⟩
theorem Va.get {v : V} {os : List (Option Int)} (h : Va K H v (some os)) : ∃ a vs, v = .ref a ∧ SqT K H a vs ∧ Els K H vs os ∧ vs.length ≤ 1000 := by
  cases h with
  | tup h e hl => exact ⟨_, _, rfl, h, e, hl⟩
/-! ### what the program asks of them -/
def inB (o : Option Int) (a b : Int) : Bool := match o with
  | some i => decide (a ≤ i) && decide (i ≤ b)
  | none => false
def areB (d : Option (List (Option Int))) (n m : Int) : Bool := match d with
  | some os => decide (((os.length : Nat) : Int) = n) && os.all fun o => inB o 0 m
  | none => false
def anyB (d : Option (List (Option Int))) : Bool := match d with
  | some os => decide (1 ≤ os.length) && decide (os.length ≤ 8) && areB d ((os.length : Nat) : Int) 60
  | none => false
def Prod60 (t : List Nat) : Prop := 1 ≤ t.length ∧ t.length ≤ 8 ∧ ∀ e ∈ t, e ≤ 60
theorem els_nat : ∀ {vs : List V} {os : List (Option Int)}, Els K H vs os → (os.all fun o => inB o 0 60) = true → ∃ u : List Nat, vs = nv u ∧ os = (u.map fun n => some ((n : Nat) : Int)) ∧ ∀ e ∈ u, e ≤ 60
  | _, _, .nil, _ => ⟨[], rfl, rfl, fun _ h => nomatch h⟩
  | _, _, .cons h t, ha => by
    rw [List.all_cons, Bool.and_eq_true] at ha
    obtain ⟨u, rfl, rfl, hu⟩ := els_nat t ha.2
    cases h with
    | int i =>
      have h1 : (decide ((0 : Int) ≤ i) && decide (i ≤ 60)) = true := ha.1
      rw [Bool.and_eq_true] at h1
      have h2 := of_decide_eq_true h1.1
      have h3 := of_decide_eq_true h1.2
      refine ⟨i.toNat :: u, ?_, ?_, fun e he => ?_⟩
      · show _ = V.int _ :: nv u
        rw [show ((i.toNat : Nat) : Int) = i by omega]
      · show _ = some _ :: _
        rw [show ((i.toNat : Nat) : Int) = i by omega]
      · rcases List.mem_cons.mp he with rfl | he
        · omega
        · exact hu e he
    | bl b => cases ha.1
    | non => cases ha.1
    | str x => cases ha.1
    | tup h => cases ha.1
theorem are_get {v : V} {d : Option (List (Option Int))} {n : Nat} (h : Va K H v d) (e : areB d ((n : Nat) : Int) 60 = true) : ∃ r u, v = .ref r ∧ SqT K H r (nv u) ∧ u.length = n ∧ (∀ e ∈ u, e ≤ 60) ∧ d = some (u.map fun n => some ((n : Nat) : Int)) := by
  cases d with
  | none => cases e
  | some os =>
    obtain ⟨a, vs, rfl, hT, hE, _⟩ := h.get
    have e' : (decide (((os.length : Nat) : Int) = ((n : Nat) : Int)) && os.all fun o => inB o 0 60) = true := e
    rw [Bool.and_eq_true] at e'
    obtain ⟨u, rfl, rfl, hu⟩ := els_nat hE e'.2
    have hl := of_decide_eq_true e'.1
    rw [List.length_map] at hl
    exact ⟨a, u, rfl, hT, by omega, hu, rfl⟩
theorem are_prod {t : List Nat} (h : ∀ e ∈ t, e ≤ 60) : areB (some (t.map fun n => some ((n : Nat) : Int))) ((t.length : Nat) : Int) 60 = true := by
  refine Bool.and_eq_true_iff.mpr ⟨decide_eq_true (by rw [List.length_map]), List.all_eq_true.mpr fun o ho => ?_⟩
  obtain ⟨n, hn, rfl⟩ := List.mem_map.mp ho
  have := h n hn
  show (decide ((0 : Int) ≤ ((n : Nat) : Int)) && decide (((n : Nat) : Int) ≤ 60)) = true
  rw [decide_eq_true (show (0 : Int) ≤ ((n : Nat) : Int) by omega), decide_eq_true (show ((n : Nat) : Int) ≤ 60 by omega)]
  rfl
theorem va_prod {a : Addr} {t : List Nat} (h : SqT K H a (nv t)) (hl : t.length ≤ 1000) : Va K H (.ref a) (some (t.map fun n => some ((n : Nat) : Int))) := .tup h (els_nv t) (by rw [nv_len]; exact hl)
end
end K4

namespace K4
open PySem PySem.Spec PyProof.Rows L2 RZ L5 XX
theorem take_more {α : Type} {l : List α} {i : Nat} {x : α} (h : l[i]? = some x) : l.take (i + 1) = l.take i ++ [x] := by
  rw [List.take_add_one, h]
  rfl
section
variable {P : Program} {w : World} {K : PySem.W.Frag} {mg : Str → Option Value} {base : Heap}
/-! ### is_number, is_within, are_exponents, check_within, of any value -/
def sp_num (K : PySem.W.Frag) : Sp := fun vs H Q _ => ∃ v o, vs = [v] ∧ El K H v o ∧ Q (.bl o.isSome) H
theorem ok_num (T : Txt K mg) : FnOk P w K mg base CX0 1 T.a_is_number T.d_is_number ["value"] (sp_num K) := by
  refine T.F_is_number.ok sc_is_number (fun vs H Q E h => ?_) (fun cdv A outer s H vs Q E hr h => ?_)
  · obtain ⟨v, o, rfl, _⟩ := h
    rfl
  · obtain ⟨v, o, rfl, he, q⟩ := h
    refine ⟨_, pss_one (ps_ret (pe_and (pe_callB call_isi (by rfl) T.z_isinstance boot_isinstance (pa_cons (pv 0) (pa_cons (pe_bltn (v := .ty "int") (by rfl) T.z_int boot_int rfl) pa_nil)))
      (pe_one (pe_not (pe_callB call_isi (by rfl) T.z_isinstance boot_isinstance (pa_cons (pv 0) (pa_cons (pe_bltn (v := .ty "bool") (by rfl) T.z_bool boot_bool rfl) pa_nil))))))), ?_⟩
    obtain ⟨t, bi, bb, ty, e1, e2, e3, _⟩ := he.isi
    refine ⟨_, rfl, _, _, _, _, bi, rfl, .ty _, ty, e1, bi, rfl, ?_⟩
    cases bi with
    | true =>
      refine iteT ⟨_, rfl, _, _, _, _, bb, rfl, .ty _, ty, e2, bb, rfl, ?_⟩
      rw [e3] at q
      exact q
    | false =>
      refine iteF ?_
      rw [e3] at q
      exact q
def sp_within (K : PySem.W.Frag) : Sp := fun vs H Q _ => ∃ v o, ∃ a b : Int, vs = [v, .int a, .int b] ∧ El K H v o ∧ Q (.bl (inB o a b)) H
theorem ok_within (T : Txt K mg) : FnOk P w K mg base CX0 2 T.a_is_within T.d_is_within ["value", "least", "most"] (sp_within K) := by
  refine T.F_is_within.ok sc_is_within (fun vs H Q E h => ?_) (fun cdv A outer s H vs Q E hr h => ?_)
  · obtain ⟨v, o, a, b, rfl, _⟩ := h
    rfl
  · obtain ⟨v, o, a, b, rfl, he, q⟩ := h
    refine ⟨_, pss_one (ps_ret (pe_and (pe_call (ok_num T) hr (by rfl) T.m_is_number T.F_is_number.kp T.b_is_number .nil pass0 (pa_cons (pv 0) pa_nil)) (pe_one (pe_chain op_le op_le (pv 1) (pv 0) (pv 2))))), ?_⟩
    refine ⟨_, rfl, v, o, rfl, he, o.isSome, rfl, ?_⟩
    cases o with
    | none => exact iteF q
    | some i =>
      obtain ⟨_, _, _, _, _, _, _, e⟩ := he.isi
      obtain rfl := e i rfl
      refine iteT ?_
      refine ⟨_, rfl, _, rfl, _, _, rfl, rfl, _, rfl, ite2 (fun c => ?_) (fun c => ?_)⟩
      · refine ⟨_, rfl, _, _, rfl, rfl, ?_⟩
        have q' : Q (.bl (decide (a ≤ i) && decide (i ≤ b))) H := q
        rw [c] at q'
        exact q'
      · have q' : Q (.bl (decide (a ≤ i) && decide (i ≤ b))) H := q
        rw [Bool.eq_false_iff.mpr c] at q'
        exact q'
def sp_checkw : Sp := fun vs H Q _ => ∃ i a b : Int, vs = [.int i, .int a, .int b] ∧ a ≤ i ∧ i ≤ b ∧ Q .non H
theorem ok_checkw (T : Txt K mg) : FnOk P w K mg base CX0 3 T.a_check_within T.d_check_within ["value", "least", "most"] sp_checkw := by
  refine T.F_check_within.ok sc_check_within (fun vs H Q E h => ?_) (fun cdv A outer s H vs Q E hr h => ?_)
  · obtain ⟨i, a, b, rfl, _⟩ := h
    rfl
  · obtain ⟨i, a, b, rfl, h1, h2, q⟩ := h
    refine ⟨_, pss_one (ps_if (pt_not (pt_val (pe_call (ok_within T) hr (by rfl) T.m_is_within T.F_is_within.kp T.b_is_within .nil pass0 (pa_cons (pv 0) (pa_cons (pv 1) (pa_cons (pv 2) pa_nil)))))) (pss_one ps_never) pss_nil), ?_⟩
    refine ⟨_, rfl, _, rfl, _, rfl, _, some i, a, b, rfl, .int i, true, ?_, iteF q⟩
    refine congrArg V.bl ?_
    show (decide (a ≤ i) && decide (i ≤ b)) = true
    rw [decide_eq_true h1, decide_eq_true h2]
    rfl
def sp_are (K : PySem.W.Frag) : Sp := fun vs H Q _ => ∃ v d, ∃ n m : Int, vs = [v, .int n, .int m] ∧ Va K H v d ∧ ∀ H', Same H H' → Q (.bl (areB d n m)) H'
theorem ok_are (T : Txt K mg) : FnOk P w K mg base CX0 3 T.a_are_exponents T.d_are_exponents ["value", "letters", "most"] (sp_are K) := by
  refine T.F_are_exponents.ok sc_are_exponents (fun vs H Q E h => ?_) (fun cdv A outer s H vs Q E hr h => ?_)
  · obtain ⟨v, d, n, m, rfl, _⟩ := h
    rfl
  · obtain ⟨v, d, n, m, rfl, hv, q⟩ := h
    refine ⟨_, pss_cons (ps_if (PW.pt (pw_or (pt_not (pt_val (pe_callB call_isi (by rfl) T.z_isinstance boot_isinstance (pa_cons (pv 0) (pa_cons (pe_bltn (v := .ty "tuple") (by rfl) T.z_tuple boot_tuple rfl) pa_nil)))))
        (pw_or1 (pt_cmpR op_ne (pe_callB call_len_seq (by rfl) T.z_len boot_len (pa_cons (pv 0) pa_nil)) (pv 1) (nomark _))))) (pss_one (ps_ret pe_bl)) pss_nil)
      (pss_one (ps_ret (pe_callB (cr_all rfl) (by rfl) T.z_all (by decide +kernel) (pa_cons
        (pe_lc (own := [("exponent", 3)]) (g := gName 3) (tt := tYes) rfl sc_are_exponents.nd (pi_tup (pv 0)) (blkOk_by (own := [("exponent", 3)]) (N := N_are_exponents) (sc := defScope s_are_exponents) (by decide +kernel))
          (fun _ _ _ _ _ => pg_name (i := 3) sc_are_exponents.nd rfl (Or.inl rfl)) (fun _ _ _ _ _ => pts_nil)
          (fun _ _ _ _ _ => pe_call (ok_within T) hr (by rfl) T.m_is_within T.F_is_within.kp T.b_is_within .nil pass0 (pa_cons (pv 3) (pa_cons pe_int (pa_cons (pv 2) pa_nil))))) pa_nil)))), ?_⟩
    obtain ⟨t, ty, et⟩ := hv.isi
    refine ⟨_, rfl, _, _, _, _, _, rfl, .ty _, ty, et, _, rfl, ?_⟩
    cases d with
    | none => exact iteT (q H (Same.refl H))
    | some os =>
      obtain ⟨p, xs, rfl, hT, hE, hz⟩ := hv.get
      refine iteF ⟨_, rfl, p, _, rfl, .inr hT, _, rfl, ?_⟩
      have hlen := hE.length
      refine ⟨rfl, _, rfl, ite2 (fun c => ?_) (fun c => ?_)⟩
      · have c' : ¬ ((os.length : Nat) : Int) = n := fun z => by
          rw [hlen, z, decide_eq_true rfl] at c
          cases c
        have e1 : areB (some os) n m = false := by
          show (decide _ && _) = false
          rw [decide_eq_false c']
          rfl
        have := q H (Same.refl H)
        rw [e1] at this
        exact this
      · have c' : ((os.length : Nat) : Int) = n := by
          by_cases z : ((os.length : Nat) : Int) = n
          · exact z
          · exact absurd (by rw [hlen, decide_eq_false (fun y => z (V.int.inj y))]; rfl) c
        refine ⟨_, rfl, p, rfl, ⟨_, hT⟩, fun D hD => ?_⟩
        have s1 : Same H (upd H D (.lst [])) := same_new hD _
        refine lc_tup (K := K) (a := p) (xs := xs) (fun i H' => Same H H' ∧ H' D = some (.lst (((os.take i).map fun o => inB o 0 m).map V.bl))) ⟨s1, upd_same⟩ (fun i H' _ h => same_sqt h.1 hT) (fun i x H' hi h => ?_) (fun H' h => ?_)
        · obtain ⟨sm, eD⟩ := h
          obtain ⟨o, ho, hx⟩ := hE.get hi
          have hlt : i < xs.length := (List.getElem?_eq_some_iff.mp hi).1
          refine ⟨rfl, _, rfl, _, rfl, x, o, _, _, rfl, hx.same sm, ?_⟩
          refine ⟨_, eD, by rw [List.length_map, List.length_map, List.length_take]; exact sizeK (by omega), same_updL sm hD, ?_⟩
          rw [upd_same, take_more ho, List.map_append, List.map_append]
          rfl
        · obtain ⟨sm, eD⟩ := h
          rw [hlen, List.take_length] at eD
          refine ⟨D, _, rfl, SqL.of eD, ?_⟩
          have e1 : areB (some os) n m = (os.map fun o => inB o 0 m).all id := by
            show (decide _ && _) = _
            rw [decide_eq_true c', Bool.true_and, List.all_map]
            rfl
          have := q H' sm
          rw [e1] at this
          exact this
end
end K4

namespace K4
open PySem PySem.Spec PyProof.Rows L2 RZ L5 XX
section
variable {P : Program} {w : World} {K : PySem.W.Frag} {mg : Str → Option Value} {base : Heap}
/-! ### check_product, check_any_product, check_both: they may raise -/
def sp_checkp (K : PySem.W.Frag) (CP : Addr) : Sp := fun vs H Q E => ∃ v d, ∃ n : Int, vs = [v, .int n] ∧ Va K H v d ∧ (areB d n 60 = true → ∀ H', Same H H' → Q .non H') ∧ (areB d n 60 = false → ∀ H', Same H H' → E (.ref CP) none H')
theorem ok_checkp (T : Txt K mg) : FnOk P w K mg base (L2.CX P w) 4 T.a_check_product T.d_check_product ["value", "letters"] (sp_checkp K T.C_InvalidProduct) := by
  refine T.F_check_product.okX sc_check_product (fun vs H Q E h => ?_) (fun cdv A outer s H vs Q E hr h => ?_)
  · obtain ⟨v, d, n, rfl, _⟩ := h
    rfl
  · obtain ⟨v, d, n, rfl, hv, q1, q2⟩ := h
    refine ⟨_, pss_one (ps_if (pt_not (pt_val (pe_call (ok_are T) hr (by rfl) T.m_are_exponents T.F_are_exponents.kp T.b_are_exponents .nil pass0 (pa_cons (pv 0) (pa_cons (pv 1) (pa_cons (pe_glob (v := .int 60) rfl T.c_MAX_EXPONENT ⟨_, rfl⟩) pa_nil))))))
      (pss_one (ps_raise rfl (takes_of rfl rfl rfl rfl) (pmk_own PySem.F.excBase_ValueError T.e_InvalidProduct T.g_InvalidProduct T.k_InvalidProduct (raises_own T.bE_InvalidProduct T.tE_InvalidProduct) (by exact rfl)))) pss_nil), ?_⟩
    refine ⟨_, rfl, _, rfl, v, d, n, 60, rfl, hv, fun H' sm => ⟨_, rfl, ?_⟩⟩
    cases e : areB d n 60 with
    | true => exact iteF (q1 e H' sm)
    | false => exact iteT (q2 e H' sm)
def sp_any (K : PySem.W.Frag) (CP : Addr) : Sp := fun vs H Q E => ∃ v d, vs = [v] ∧ Va K H v d ∧ (anyB d = true → ∀ H', Same H H' → Q .non H') ∧ (anyB d = false → ∀ H', Same H H' → E (.ref CP) none H')
theorem ok_any (T : Txt K mg) : FnOk P w K mg base (L2.CX P w) 5 T.a_check_any_product T.d_check_any_product ["value"] (sp_any K T.C_InvalidProduct) := by
  refine T.F_check_any_product.okX sc_check_any_product (fun vs H Q E h => ?_) (fun cdv A outer s H vs Q E hr h => ?_)
  · obtain ⟨v, d, rfl, _⟩ := h
    rfl
  · obtain ⟨v, d, rfl, hv, q1, q2⟩ := h
    refine ⟨_, pss_cons (ps_if (PW.pt (pw_or (pt_not (pt_val (pe_callB call_isi (by rfl) T.z_isinstance boot_isinstance (pa_cons (pv 0) (pa_cons (pe_bltn (v := .ty "tuple") (by rfl) T.z_tuple boot_tuple rfl) pa_nil)))))
        (pw_or1 (pt_not (pt_chain op_le op_le pe_int (pe_callB call_len_seq (by rfl) T.z_len boot_len (pa_cons (pv 0) pa_nil)) (pe_glob (v := .int 8) rfl T.c_MAX_LETTERS ⟨_, rfl⟩))))))
        (pss_one (ps_raise rfl (takes_of rfl rfl rfl rfl) (pmk_own PySem.F.excBase_ValueError T.e_InvalidProduct T.g_InvalidProduct T.k_InvalidProduct (raises_own T.bE_InvalidProduct T.tE_InvalidProduct) (by exact rfl)))) pss_nil)
      (pss_one (ps_expr (pe_call (ok_checkp T) hr (by rfl) T.m_check_product T.F_check_product.kp T.b_check_product .nil (passes_call (takes_of rfl rfl rfl rfl) fun _ _ _ _ z => z) (pa_cons (pv 0) (pa_cons (pe_callB call_len_seq (by rfl) T.z_len boot_len (pa_cons (pv 0) pa_nil)) pa_nil))))), ?_⟩
    obtain ⟨t, ty, et⟩ := hv.isi
    refine ⟨_, rfl, _, _, _, _, _, rfl, .ty _, ty, et, _, rfl, ?_⟩
    cases d with
    | none => exact iteT (q2 rfl H (Same.refl H))
    | some os =>
      obtain ⟨p, xs, rfl, hT, hE, hz⟩ := hv.get
      have hlen := hE.length
      have ea : anyB (some os) = (decide (1 ≤ os.length) && decide (os.length ≤ 8) && areB (some os) ((os.length : Nat) : Int) 60) := rfl
      have lead : (decide (1 ≤ os.length) && decide (os.length ≤ 8)) = true → ∀ H', Same H H' → sp_checkp K T.C_InvalidProduct [.ref p, .int ((xs.length : Nat) : Int)] H' (fun _ H'' => Q .non H'') E := fun c H' sm => by
        rw [c, Bool.true_and] at ea
        refine ⟨_, some os, _, rfl, hv.same sm, fun e H'' s2 => q1 ?_ H'' (sm.trans s2), fun e H'' s2 => q2 ?_ H'' (sm.trans s2)⟩
        · rw [ea, ← hlen]; exact e
        · rw [ea, ← hlen]; exact e
      have off : (decide (1 ≤ os.length) && decide (os.length ≤ 8)) = false → E (.ref T.C_InvalidProduct) none H := fun c => q2 (by rw [ea, c]; rfl) H (Same.refl H)
      refine iteF ⟨_, rfl, p, _, rfl, .inr hT, _, _, rfl, rfl, _, rfl, ite2 (fun c => ?_) (fun c => ?_)⟩
      · have c' := of_decide_eq_true c
        refine ⟨_, _, rfl, rfl, _, rfl, ite2 (fun c2 => ?_) (fun c2 => ?_)⟩
        · refine off ?_
          have : ¬ (((xs.length : Nat) : Int) ≤ 8) := fun z => by
            rw [decide_eq_true z] at c2
            cases c2
          rw [decide_eq_false (p := os.length ≤ 8) (by omega), Bool.and_false]
        · have : (((xs.length : Nat) : Int) ≤ 8) := by
            by_cases z : ((xs.length : Nat) : Int) ≤ 8
            · exact z
            · exact absurd (by rw [decide_eq_false z]; rfl) c2
          refine ⟨_, rfl, _, rfl, p, _, rfl, .inr hT, ?_⟩
          exact lead (by rw [decide_eq_true (p := 1 ≤ os.length) (by omega), decide_eq_true (p := os.length ≤ 8) (by omega)]; rfl) H (Same.refl H)
      · have c' : ¬ (1 : Int) ≤ ((xs.length : Nat) : Int) := fun z => c (decide_eq_true z)
        refine ⟨_, rfl, iteT (off ?_)⟩
        rw [decide_eq_false (p := 1 ≤ os.length) (by omega), Bool.false_and]
def sp_both (K : PySem.W.Frag) (CP : Addr) : Sp := fun vs H Q E => ∃ p t v d, vs = [.ref p, v] ∧ SqT K H p (nv t) ∧ Prod60 t ∧ Va K H v d ∧ (areB d ((t.length : Nat) : Int) 60 = true → ∀ H', Same H H' → Q .non H') ∧ (areB d ((t.length : Nat) : Int) 60 = false → ∀ H', Same H H' → E (.ref CP) none H')
theorem any_prod {t : List Nat} (h : Prod60 t) : anyB (some (t.map fun n => some ((n : Nat) : Int))) = true := by
  show (decide (1 ≤ (t.map fun n => some ((n : Nat) : Int)).length) && decide ((t.map fun n => some ((n : Nat) : Int)).length ≤ 8) && areB _ (((t.map fun n => some ((n : Nat) : Int)).length : Nat) : Int) 60) = true
  rw [List.length_map, are_prod h.2.2, decide_eq_true h.1, decide_eq_true h.2.1]
  rfl
theorem ok_both (T : Txt K mg) : FnOk P w K mg base (L2.CX P w) 6 T.a_check_both T.d_check_both ["one", "other"] (sp_both K T.C_InvalidProduct) := by
  refine T.F_check_both.okX sc_check_both (fun vs H Q E h => ?_) (fun cdv A outer s H vs Q E hr h => ?_)
  · obtain ⟨p, t, v, d, rfl, _⟩ := h
    rfl
  · obtain ⟨p, t, v, d, rfl, hT, hp, hv, q1, q2⟩ := h
    refine ⟨_, pss_cons (ps_expr (pe_call (ok_any T) hr (by rfl) T.m_check_any_product T.F_check_any_product.kp T.b_check_any_product .nil (passes_call (takes_of rfl rfl rfl rfl) fun _ _ _ _ z => z) (pa_cons (pv 0) pa_nil)))
      (pss_one (ps_expr (pe_call (ok_checkp T) (hr.mono (by decide)) (by rfl) T.m_check_product T.F_check_product.kp T.b_check_product .nil (passes_call (takes_of rfl rfl rfl rfl) fun _ _ _ _ z => z) (pa_cons (pv 1) (pa_cons (pe_callB call_len_seq (by rfl) T.z_len boot_len (pa_cons (pv 0) pa_nil)) pa_nil))))), ?_⟩
    have h8 := hp.2.1
    refine ⟨_, rfl, _, _, rfl, va_prod hT (by omega), fun _ H1 s1 => ?_, fun e => ?_⟩
    · refine ⟨_, rfl, _, rfl, p, _, rfl, .inr (same_sqt s1 hT), v, d, _, rfl, hv.same s1, ?_⟩
      rw [nv_len]
      exact ⟨fun e H2 s2 => q1 e H2 (s1.trans s2), fun e H2 s2 => q2 e H2 (s1.trans s2)⟩
    · rw [any_prod hp] at e
      cases e
end
end K4

namespace K4
open PySem PySem.Spec PyProof.Rows L2 RZ L5 XX
section
variable {P : Program} {w : World} {K : PySem.W.Frag} {mg : Str → Option Value} {base : Heap}
/-! ### a comprehension over zip of two tuples of one length -/
abbrev lcTurn (D : Addr) (g : TG) (tt : TT) (te : TE) (vs : List Nat) (σ : L2.St) (Nx : Hp → Prop) (v : V) (H : Hp) : Prop := g v (wipe σ vs) H fun σ2 H2 => wipe σ2 vs = wipe σ vs ∧ tt σ2 H2 fun b H3 =>
  if b = true then te σ2 H3 fun y H4 => ∃ acc, H4 D = some (.lst acc) ∧ acc.length < sizeLine ∧ Nx (upd H4 D (.lst (acc ++ [y]))) else Nx H3
theorem lc_zipT {a b : Addr} {xs ys : List V} {g : TG} {tt : TT} {te : TE} {vs : List Nat} {σ : L2.St} {H1 : Hp} {D : Addr} {Qd : Hp → Prop} (hl : xs.length = ys.length) (Pv : Nat → Hp → Prop) (h0 : Pv 0 (upd H1 D (.lst []))) (hq : ∀ i H, Pv i H → SqT K H a xs ∧ SqT K H b ys)
    (hs : ∀ (i : Nat) (x y : V) (T : Addr) (H : Hp), xs[i]? = some x → ys[i]? = some y → Pv i H → H T = none → lcTurn D g tt te vs σ (Pv (i + 1)) (.ref T) (upd H T (.tup [x, y]))) (hd : ∀ H, Pv xs.length H → Qd H) :
    ∃ W : Nat → Nat → Hp → Prop, (∃ m, W 0 m (upd H1 D (.lst []))) ∧ ∀ i m H0, W i m H0 →
      ((ItzT K a b).stop i H0 ∧ Qd H0) ∨ ((ItzT K a b).go i H0 ∧ ∃ Nx : Hp → Prop, (∀ H', Nx H' → ∃ m', m' < m ∧ W (i + 1) m' H') ∧ ∀ v H', (ItzT K a b).yld i H0 v H' → lcTurn D g tt te vs σ Nx v H') := by
  refine ⟨fun i m H => i + m = xs.length ∧ Pv i H, ⟨xs.length, Nat.zero_add _, h0⟩, fun i m H0 hw => ?_⟩
  obtain ⟨em, pi⟩ := hw
  obtain ⟨ta, tb⟩ := hq i H0 pi
  cases m with
  | zero =>
    have ei : i = xs.length := em
    subst ei
    exact .inl ⟨⟨xs, ys, ta, tb, Or.inl (Nat.le_refl _)⟩, hd H0 pi⟩
  | succ m =>
    have i1 : i < xs.length := by omega
    have i2 : i < ys.length := hl ▸ i1
    refine .inr ⟨⟨xs, ys, _, _, ta, tb, List.getElem?_eq_getElem i1, List.getElem?_eq_getElem i2⟩, Pv (i + 1), fun H' p => ⟨m, Nat.lt_succ_self m, by omega, p⟩, fun v H' out => ?_⟩
    obtain ⟨T, _, _, rfl, free, rfl, fx, fy⟩ := out
    exact hs i _ _ T H0 (fx xs ta) (fy ys tb) pi free
theorem getD_at {t : List Nat} {i : Nat} (h : i < t.length) : t[i]? = some (t.getD i 0) := by
  rw [List.getD_eq_getElem?_getD, List.getElem?_eq_getElem h]
  rfl
theorem nv_take (t : List Nat) (k : Nat) : nv (t.take k) = (nv t).take k := List.map_take
theorem cut_to (xs : List V) (k : Nat) (h : k ≤ xs.length) : cutV xs none (some (k : Int)) = xs.take k := by
  unfold cutV
  rw [show HT.sIx xs.length xs.length (some (k : Int)) = min k xs.length from HT.sIx_nat xs.length xs.length k, HT.sIx_none, Nat.min_eq_left h]
  rfl
/-! ### tuple rules whose answer is told alike in all cases -/
def rCatB (K : PySem.W.Frag) : R2 := fun x y H Q => ∃ a b xs ys, x = .ref a ∧ y = .ref b ∧ SqT K H a xs ∧ SqT K H b ys ∧ xs.length + ys.length ≤ sizeLine ∧ ∀ H' z, Same H H' → SqT K H' z (xs ++ ys) → Q (.ref z) H'
theorem op_catB {X : Cx} : OpR X (binaryOp .Add) (rCatB X.K) := by
  intro pins s σ H x y v u Q I rx ry h
  obtain ⟨a, b, xs, ys, rfl, rfl, hx, hy, hz, q⟩ := h
  refine op_catA pins s σ H _ _ v u Q I rx ry ⟨a, b, xs, ys, rfl, rfl, hx, hy, hz, fun e => ?_, fun _ e => ?_, fun _ _ p hp => q _ p (same_new hp _) (SqT.of upd_same)⟩
  · subst e
    exact q H b (Same.refl H) hy
  · subst e
    rw [List.append_nil] at q
    exact q H a (Same.refl H) hx
def rSlB (K : PySem.W.Frag) : V → Option Int → Option Int → Hp → VK → Prop := fun x lo hi H Q => ∃ a xs, x = .ref a ∧ SqT K H a xs ∧ ∀ H' z, Same H H' → SqT K H' z (cutV xs lo hi) → Q (.ref z) H'
theorem sl_tupB {X : Cx} : SlR X (rSlB X.K) := by
  intro pins s σ H x v vl vu lo hi sl Q I rx hs pl pu h
  obtain ⟨a, xs, rfl, hx, q⟩ := h
  refine sl_tupA pins s σ H _ v vl vu lo hi sl Q I rx hs pl pu ⟨a, xs, rfl, hx, fun e => ?_, fun _ p hp => q _ p (same_new hp _) (SqT.of upd_same)⟩
  have e2 : cutV xs lo hi = xs := by
    unfold cutV
    rw [e.1, e.2]
    exact List.take_length
  rw [e2] at q
  exact q H a (Same.refl H) hx
/-! ### all but the pail stands -/
def Bar (p : Addr) (H H' : Hp) : Prop := ∀ b o, b ≠ p → H b = some o → H' b = some o
theorem Bar.trans {p : Addr} {A B C : Hp} (a : Bar p A B) (b : Bar p B C) : Bar p A C := fun c o n h => b c o n (a c o n h)
theorem Bar.same {p : Addr} {A B : Hp} (a : Same A B) : Bar p A B := fun c o _ h => a c o h
theorem Bar.upd {p : Addr} {A : Hp} {o : HO} : Bar p A (upd A p o) := fun c u n h => by
  rw [upd_ne n]
  exact h
theorem passG {X : Cx} : Passes (CX X.prog X.w) X E0 := fun _ _ _ _ _ _ _ c => by
  obtain ⟨_, _, _, _, _, _, _, _, _, _, _, _, no⟩ := c
  exact no.elim
theorem nostop : NoStop K E0 := fun _ _ _ no => no.elim
theorem ref_get {rs : List Addr} {i : Nat} {x : V} (h : (rs.map V.ref)[i]? = some x) : ∃ a, rs[i]? = some a ∧ x = .ref a := by
  rw [List.getElem?_map] at h
  cases e : rs[i]? with
  | none =>
    rw [e] at h
    cases h
  | some n =>
    rw [e] at h
    exact ⟨n, rfl, (Option.some.inj h).symm⟩
end
section
variable {P : Program} {w : World} {K : PySem.W.Frag} {mg : Str → Option Value} {base : Heap}
/-! ### the law's own draws -/
abbrev pailO (g x c : Int) : HO := .lst [.int g, .int x, .int c]
def sp_pail (K : PySem.W.Frag) : Sp := fun vs H Q _ => ∃ (a : Addr) (ns : List Int) (k : Nat), vs = [.ref a, .int ((k : Nat) : Int)] ∧ SqL K H a (ns.map V.int) ∧ k < 1000 ∧ ∀ (H' : Hp) (r : Addr) (g x c : Int), Same H H' → H r = none → H' r = some (pailO g x c) → Q (.ref r) H'
theorem mpos {j : Int} (h : (0 : Int) < j) : (0 : Int) < j := h
theorem same_back {H H' : Hp} (s : Same H H') {r : Addr} (h : H' r = none) : H r = none := s.free h
theorem PE.weak {X : Cx} {e : Expr} {t t' : TE} (h : PE X e t) (i : ∀ σ H Q, t' σ H Q → t σ H Q) : PE X e t' := ⟨fun pins s σ H Q I h' => h.run pins s σ H Q I (i σ H Q h')⟩
theorem ok_pail (T : Txt K mg) : FnOk P w K mg base CX0 1 T.a_w_pail T.d_w_pail ["_law_script", "_law_spot"] (sp_pail K) := by
  refine T.F_w_pail.ok sc_w_pail (fun vs H Q E h => ?_) (fun cdv A outer s H vs Q E hr h => ?_)
  · obtain ⟨a, ns, k, rfl, _⟩ := h
    rfl
  · obtain ⟨a, ns, k, rfl, hS, hk, q⟩ := h
    refine ⟨_, pss_cons (ps_set (i := 2) sc_w_pail.nd rfl (Or.inl rfl) (PE.weak (t' := fun σ' H' Q' => σ' = start N_w_pail [.ref a, .int ((k : Nat) : Int)] ∧ H' = H ∧ ∀ (i : Int) H1, Same H H1 → Q' (.int i) H1) (pe_ifExp (pt_cmpR op_lt (pv 1) (pe_callB call_len_seq (by rfl) T.z_len boot_len (pa_cons (pv 0) pa_nil)) (nomark _))
        (pe_callTy call_int1 (by rfl) T.z_int boot_int (pa_cons (pe_ix ix_list (pv 0) (pv 1) (fun _ _ => rfl)) pa_nil))
        (pe_op op_add (pe_op op_add (pe_op op_mul pe_int (pv 1)) pe_int) (pe_op op_mod (pe_callTy call_int1 (by rfl) T.z_int boot_int (pa_cons (pe_callB (cr_sum rfl) (by rfl) T.z_sum boot_sum (pa_cons (pe_slice sl_list (pv 0) po_none (po_some pe_int)) pa_nil)) pa_nil)) pe_int))) ?imp))
      (pss_cons (ps_set (i := 3) sc_w_pail.nd rfl (Or.inl rfl) (pe_op op_mod (pe_callTy call_int1 (by rfl) T.z_int boot_int (pa_cons (pe_callB call_abs (by rfl) T.z_abs boot_abs (pa_cons (pv 2) pa_nil)) pa_nil)) (pe_op op_powW (pe_op op_pow pe_int pe_int) pe_int)))
      (pss_cons (ps_set (i := 4) sc_w_pail.nd rfl (Or.inl rfl) (pe_op op_mod (pe_callTy call_int1 (by rfl) T.z_int boot_int (pa_cons (pe_op op_add (pe_op op_add (pe_op op_add (pe_op op_mul (pe_op op_mod (pv 3) pe_int) pe_int) (pe_op op_mul pe_int (pv 1))) (pe_op op_mul pe_int (pe_callTy call_int1 (by rfl) T.z_int boot_int (pa_cons (pe_cmpR op_lt (pv 2) pe_int (nomark _)) pa_nil)))) pe_int) pa_nil)) pe_int))
      (pss_one (ps_ret (pe_lst (pa_cons (pe_callB (call_max2 rfl) (by rfl) T.z_max boot_max (pa_cons pe_int (pa_cons (pe_op op_sub (pv 3) (pe_op op_pow pe_int pe_int)) pa_nil))) (pa_cons (pv 4) (pa_cons pe_int pa_nil)))))))), ?_⟩
    case imp =>
      rintro σ' H' Q' ⟨rfl, rfl, h⟩
      refine ⟨_, rfl, _, rfl, a, _, rfl, .inl hS, _, _, rfl, rfl, _, rfl, ite2 (fun c => ?_) (fun c => ?_)⟩
      · have c' := of_decide_eq_true c
        rw [List.length_map] at c'
        have hlt : k < ns.length := by omega
        refine ⟨_, rfl, _, rfl, a, _, _, .int ns[k], rfl, rfl, hS, atI_nat (by rw [List.getElem?_map, List.getElem?_eq_getElem hlt] <;> rfl), .inl ⟨_, rfl, ?_⟩⟩
        exact h _ _ (Same.refl _)
      · refine ⟨_, rfl, _, _, rfl, rfl, .inl ⟨by decide, by decide⟩, _, _, rfl, rfl, _, rfl, _, rfl, a, _, rfl, hS, fun z hz => ?_⟩
        have e1 : cutV (ns.map V.int) none (some 1) = (ns.take 1).map V.int := by
          unfold cutV
          rw [show HT.sIx (ns.map V.int).length (ns.map V.int).length (some 1) = min 1 (ns.map V.int).length from HT.sIx_nat _ _ 1, HT.sIx_none, List.map_take]
          show List.take (min 1 (ns.map V.int).length) (ns.map V.int) = _
          rcases ns with _ | ⟨n, r⟩
          · rfl
          · rw [List.map_cons, List.length_cons, show min 1 ((r.map V.int).length + 1) = 1 by omega]
        refine ⟨z, ns.take 1, rfl, SqL.of (by rw [upd_same, e1]), .inl ⟨_, rfl, _, _, rfl, rfl, mpos (by decide), _, _, rfl, rfl, ?_⟩⟩
        exact h _ _ (same_new hz _)
    refine ⟨rfl, rfl, fun cell H1 s1 => ?_⟩
    refine ⟨_, rfl, _, rfl, .inl ⟨_, rfl, _, _, rfl, rfl, ⟨by decide, by decide, by decide⟩, _, _, rfl, rfl, ⟨by decide, by decide +kernel⟩, _, _, rfl, rfl, Int.pow_pos (Int.pow_pos (by decide)), ?_⟩⟩
    refine ⟨_, rfl, _, _, rfl, rfl, mpos (by decide), _, _, rfl, rfl, .inr ⟨by decide, by decide⟩, _, rfl, _, _, rfl, rfl, .inl ⟨by decide, by decide⟩, _, _, rfl, rfl, _, rfl, _, _, rfl, rfl, .inr ⟨_, rfl, _, _, rfl, rfl, .inl ⟨by decide, by decide⟩, _, _, rfl, rfl, _, _, rfl, rfl, .inl ⟨_, rfl, _, _, rfl, rfl, mpos (by decide), ?_⟩⟩⟩
    refine ⟨_, rfl, _, _, rfl, rfl, ⟨by decide, by decide, by decide⟩, _, _, rfl, rfl, _, _, rfl, _, rfl, by show 3 ≤ sizeLine; decide, fun z hz => ?_⟩
    exact q _ z _ _ _ (s1.trans (same_new hz _)) (s1.free hz) upd_same
abbrev rDip (H : Hp) (p : Addr) (m : Int) (Q : VK) : Prop := ∀ g x c r : Int, 0 ≤ r → r < m → Q (.int r) (upd H p (pailO g x c))
def sp_dip : Sp := fun vs H Q _ => ∃ (p : Addr) (m g x c : Int), vs = [.ref p, .int m] ∧ H p = some (pailO g x c) ∧ 0 < m ∧ m < 1073741824 ∧ rDip H p m Q
theorem ok_dip (T : Txt K mg) : FnOk P w K mg base CX0 1 T.a_w_dipped T.d_w_dipped ["_law_pail_here", "_law_many"] sp_dip := by
  refine T.F_w_dipped.ok sc_w_dipped (fun vs H Q E h => ?_) (fun cdv A outer s H vs Q E hr h => ?_)
  · obtain ⟨p, m, g, x, c, rfl, _⟩ := h
    rfl
  · obtain ⟨p, m, g, x, c, rfl, hp, h0, h1, q⟩ := h
    refine ⟨_, pss_cons (ps_if (pt_cmpR op_gt (pe_ix ix_list (pv 0) pe_int (fun _ _ => rfl)) pe_int (nomark _))
        (pss_cons (ps_set (i := 2) sc_w_dipped.nd rfl (Or.inl rfl) (pe_op op_mod (pe_callTy call_int1 (by rfl) T.z_int boot_int (pa_cons (pe_ix ix_list (pv 0) pe_int (fun _ _ => rfl)) pa_nil)) (pv 1)))
        (pss_cons (ps_asg (pe_op op_fdiv (pe_ix ix_list (pv 0) pe_int (fun _ _ => rfl)) (pv 1)) (pg_sub (pv 0) pe_int set_list))
        (pss_one (ps_ret (pv 2))))) pss_nil)
      (pss_cons (ps_asg (pe_op op_add (pe_ix ix_list (pv 0) pe_int (fun _ _ => rfl)) pe_int) (pg_sub (pv 0) pe_int set_list))
      (pss_cons (ps_set (i := 3) sc_w_dipped.nd rfl (Or.inl rfl) (pe_op op_mod (pe_callTy call_int1 (by rfl) T.z_int boot_int (pa_cons (pe_op op_add (pe_ix ix_list (pv 0) pe_int (fun _ _ => rfl)) (pe_op op_mul pe_int (pe_ix ix_list (pv 0) pe_int (fun _ _ => rfl)))) pa_nil)) pe_int))
      (pss_cons (ps_set (i := 4) sc_w_dipped.nd rfl (Or.inl rfl) (pe_op op_add (pe_op op_add (pe_op op_mul (pe_op op_mod (pe_callTy call_int1 (by rfl) T.z_int boot_int (pa_cons (pe_op op_mul (pv 3) (pv 3)) pa_nil)) pe_int) pe_int) (pv 3)) (pe_op op_mul pe_int (pe_ix ix_list (pv 0) pe_int (fun _ _ => rfl)))))
      (pss_one (ps_ret (pe_op op_mod (pe_callTy call_int1 (by rfl) T.z_int boot_int (pa_cons (pe_op op_fdiv (pv 4) pe_int) pa_nil)) (pv 1))))))), ?_⟩
    have a0 : atI [V.int g, V.int x, V.int c] (0 : Int) = some (.int g) := rfl
    refine ⟨_, rfl, p, _, _, _, rfl, rfl, SqL.of hp, a0, _, _, rfl, rfl, _, rfl, ite2 (fun d => ?_) (fun d => ?_)⟩
    · refine ⟨_, rfl, p, _, _, _, rfl, rfl, SqL.of hp, a0, .inl ⟨_, rfl, _, rfl, _, _, rfl, rfl, h0, ?_⟩⟩
      refine ⟨_, rfl, p, _, _, _, rfl, rfl, SqL.of hp, a0, _, rfl, _, _, rfl, rfl, ⟨h0, h1⟩, ?_⟩
      refine ⟨_, rfl, p, _, _, 0, rfl, rfl, hp, rfl, ?_⟩
      exact ⟨_, rfl, q _ _ _ _ (Int.emod_nonneg _ (by omega)) (Int.emod_lt_of_pos _ h0)⟩
    · have a2 : atI [V.int g, V.int x, V.int c] (2 : Int) = some (.int c) := rfl
      refine ⟨_, rfl, p, _, _, _, rfl, rfl, SqL.of hp, a2, _, _, rfl, rfl, _, rfl, p, _, _, 2, rfl, rfl, hp, rfl, ?_⟩
      have hp' : (upd H p (.lst [V.int g, V.int x, V.int (c + 1)])) p = some (.lst [V.int g, V.int x, V.int (c + 1)]) := upd_same
      have b1 : atI [V.int g, V.int x, V.int (c + 1)] (1 : Int) = some (.int x) := rfl
      have b2 : atI [V.int g, V.int x, V.int (c + 1)] (2 : Int) = some (.int (c + 1)) := rfl
      refine ⟨_, rfl, p, _, _, _, rfl, rfl, SqL.of hp', b1, _, rfl, p, _, _, _, rfl, rfl, SqL.of hp', b2, _, _, rfl, rfl, .inl ⟨by decide, by decide⟩, _, _, rfl, rfl, .inl ⟨_, rfl, _, _, rfl, rfl, mpos (by decide), ?_⟩⟩
      have r0 := Int.emod_nonneg (x + 49979693 * (c + 1)) (show (2305843009213693907 : Int) ≠ 0 by decide)
      have r1 := Int.emod_lt_of_pos (x + 49979693 * (c + 1)) (show (0 : Int) < 2305843009213693907 by decide)
      generalize (x + 49979693 * (c + 1)) % 2305843009213693907 = one at r0 r1 ⊢
      refine ⟨_, rfl, _, rfl, _, _, rfl, rfl, .inl ⟨by omega, by omega⟩, .inl ⟨_, rfl, _, _, rfl, rfl, mpos (by decide), _, _, rfl, rfl, .inr ⟨by decide, by decide⟩, _, rfl, _, _, rfl, rfl, _, rfl, p, _, _, _, rfl, rfl, SqL.of hp', b2, _, _, rfl, rfl, .inl ⟨by decide, by decide⟩, _, _, rfl, rfl, ?_⟩⟩
      refine ⟨_, rfl, _, _, rfl, rfl, ⟨by decide, by decide⟩, .inl ⟨_, rfl, _, rfl, _, _, rfl, rfl, h0, ?_⟩⟩
      exact q _ _ _ _ (Int.emod_nonneg _ (by omega)) (Int.emod_lt_of_pos _ h0)
/-- items[dipped(pail, len(items))] -/
def sp_some (K : PySem.W.Frag) : Sp := fun vs H Q _ => ∃ (p a : Addr) (xs : List V) (g x c : Int), vs = [.ref p, .ref a] ∧ H p = some (pailO g x c) ∧ a ≠ p ∧ SqL K H a xs ∧ xs ≠ [] ∧ xs.length ≤ 1000 ∧ ∀ g x c v, v ∈ xs → Q v (upd H p (pailO g x c))
theorem ok_some (T : Txt K mg) : FnOk P w K mg base CX0 2 T.a_w_some T.d_w_some ["_law_pail_here", "_law_items"] (sp_some K) := by
  refine T.F_w_some.ok sc_w_some (fun vs H Q E h => ?_) (fun cdv A outer s H vs Q E hr h => ?_)
  · obtain ⟨p, a, xs, g, x, c, rfl, _⟩ := h
    rfl
  · obtain ⟨p, a, xs, g, x, c, rfl, hp, hne, hS, hn, hz, q⟩ := h
    refine ⟨_, pss_one (ps_ret (pe_ix ix_list (pv 1) (pe_call (ok_dip T) hr (by rfl) T.m_w_dipped T.F_w_dipped.kp T.b_w_dipped .nil pass0 (pa_cons (pv 0) (pa_cons (pe_callB call_len_seq (by rfl) T.z_len boot_len (pa_cons (pv 1) pa_nil)) pa_nil))) (fun _ _ => rfl))), ?_⟩
    have hpos : 0 < xs.length := List.length_pos_iff.mpr hn
    refine ⟨_, rfl, _, rfl, _, rfl, a, _, rfl, .inl hS, p, _, g, x, c, rfl, hp, by omega, by omega, fun g' x' c' r h0 h1 => ?_⟩
    have hlt : r.toNat < xs.length := by omega
    refine ⟨a, xs, r, xs[r.toNat], rfl, rfl, sql_updL hne hS, ?_, q _ _ _ _ (List.getElem_mem hlt)⟩
    have := atI_nat (xs := xs) (List.getElem?_eq_getElem hlt)
    rw [show ((r.toNat : Nat) : Int) = r by omega] at this
    exact this
end
end K4

namespace K4
open PySem PySem.Spec PyProof.Rows L2 RZ L5 XX
section
variable {P : Program} {w : World} {K : PySem.W.Frag} {mg : Str → Option Value} {base : Heap}
/-! ### exponent by exponent -/
abbrev zi (F : Nat → Nat → Int) (t u : List Nat) : List Int := List.zipWith F t u
abbrev addZ (a b : Nat) : Int := ((a : Nat) : Int) + ((b : Nat) : Int)
abbrev subZ (a b : Nat) : Int := ((a : Nat) : Int) - ((b : Nat) : Int)
abbrev maxZ (a b : Nat) : Int := if ((b : Nat) : Int) > ((a : Nat) : Int) then ((b : Nat) : Int) else ((a : Nat) : Int)
abbrev minZ (a b : Nat) : Int := if ((b : Nat) : Int) < ((a : Nat) : Int) then ((b : Nat) : Int) else ((a : Nat) : Int)
abbrev offZ (a b : Nat) : Int := if 0 > subZ a b then 0 else subZ a b
theorem zi_get {F : Nat → Nat → Int} {t u : List Nat} {i n m : Nat} (h1 : t[i]? = some n) (h2 : u[i]? = some m) : (zi F t u)[i]? = some (F n m) := by
  rw [List.getElem?_zipWith, h1, h2]
def sp_zip (K : PySem.W.Frag) (F : Nat → Nat → Int) : Sp := fun vs H Q _ => ∃ (p r : Addr) (t u : List Nat), vs = [.ref p, .ref r] ∧ SqT K H p (nv t) ∧ SqT K H r (nv u) ∧ u.length = t.length ∧ t.length ≤ 1000 ∧ ∀ H' z, Same H H' → SqT K H' z ((zi F t u).map V.int) → Q (.ref z) H'
theorem ok_greater (T : Txt K mg) : FnOk P w K mg base CX0 1 T.a_greater T.d_greater ["one", "other"] (sp_zip K maxZ) := by
  refine T.F_greater.ok sc_greater (fun vs H Q E h => ?_) (fun cdv A outer s H vs Q E hr h => ?_)
  · obtain ⟨p, r, t, u, rfl, _⟩ := h
    rfl
  · obtain ⟨p, r, t, u, rfl, hT, hU, hl, hz, q⟩ := h
    refine ⟨_, pss_one (ps_ret (pe_callTy call_tuple_of (by rfl) T.z_tuple boot_tuple (pa_cons
      (pe_lc (own := [("a", 2), ("b", 3)]) (g := gTup K 2 (gCons (gName 2) (gCons (gName 3) gNil))) (tt := tYes) rfl sc_greater.nd (pi_zipA (by rfl) T.z_zip (pa_cons (pv 0) (pa_cons (pv 1) pa_nil))) (blkOk_by (own := [("a", 2), ("b", 3)]) (N := N_greater) (sc := defScope s_greater) (by decide +kernel))
        (fun _ _ _ _ _ => pg_tup (by rfl) (pgs_cons (pg_name (i := 2) sc_greater.nd rfl (Or.inl rfl)) (pgs_cons (pg_name (i := 3) sc_greater.nd rfl (Or.inl rfl)) pgs_nil))) (fun _ _ _ _ _ => pts_nil)
        (fun _ _ _ _ _ => pe_callB (call_max2 rfl) (by rfl) T.z_max boot_max (pa_cons (pv 2) (pa_cons (pv 3) pa_nil)))) pa_nil))), ?_⟩
    refine ⟨_, rfl, _, rfl, p, r, nv t, nv u, rfl, .inr ⟨hT, hU, fun D hD => ?_⟩⟩
    have sD : Same H (upd H D (.lst [])) := same_new hD _
    refine lc_zipT (by rw [nv_len, nv_len, hl]) (fun i H' => Same H H' ∧ H' D = some (.lst (((zi maxZ t u).take i).map V.int))) ⟨sD, upd_same⟩ (fun i H' h => ⟨same_sqt h.1 hT, same_sqt h.1 hU⟩) (fun i x y T' H' hx hy h hT' => ?_) (fun H' h => ?_)
    · obtain ⟨sm, eD⟩ := h
      obtain ⟨n, hn, rfl⟩ := nv_get hx
      obtain ⟨m, hm, rfl⟩ := nv_get hy
      have hlt : i < t.length := (List.getElem?_eq_some_iff.mp hn).1
      have sT : Same H' (upd H' T' (.tup [.int ((n : Nat) : Int), .int ((m : Nat) : Int)])) := same_new hT' _
      refine ⟨T', _, rfl, SqT.of upd_same, rfl, _, _, rfl, _, _, rfl, rfl, ?_⟩
      refine ⟨rfl, _, rfl, _, rfl, _, _, rfl, ?_⟩
      refine ⟨_, sT _ _ eD, by rw [List.length_map, List.length_take]; exact sizeK (by omega), same_updL (sm.trans sT) hD, ?_⟩
      rw [upd_same, take_more (zi_get hn hm), List.map_append]
      rfl
    · obtain ⟨sm, eD⟩ := h
      have e2 : (zi maxZ t u).take (nv t).length = zi maxZ t u := List.take_of_length_le (by rw [nv_len, List.length_zipWith]; omega)
      rw [e2] at eD
      refine ⟨D, _, rfl, .inl ⟨SqL.of eD, fun z hz' => ?_⟩⟩
      have sZ : Same H (upd H' z (.tup ((zi maxZ t u).map V.int))) := sm.trans (same_new hz' _)
      exact q _ z sZ (SqT.of upd_same)
theorem ok_lesser (T : Txt K mg) : FnOk P w K mg base CX0 1 T.a_lesser T.d_lesser ["one", "other"] (sp_zip K minZ) := by
  refine T.F_lesser.ok sc_lesser (fun vs H Q E h => ?_) (fun cdv A outer s H vs Q E hr h => ?_)
  · obtain ⟨p, r, t, u, rfl, _⟩ := h
    rfl
  · obtain ⟨p, r, t, u, rfl, hT, hU, hl, hz, q⟩ := h
    refine ⟨_, pss_one (ps_ret (pe_callTy call_tuple_of (by rfl) T.z_tuple boot_tuple (pa_cons
      (pe_lc (own := [("a", 2), ("b", 3)]) (g := gTup K 2 (gCons (gName 2) (gCons (gName 3) gNil))) (tt := tYes) rfl sc_lesser.nd (pi_zipA (by rfl) T.z_zip (pa_cons (pv 0) (pa_cons (pv 1) pa_nil))) (blkOk_by (own := [("a", 2), ("b", 3)]) (N := N_lesser) (sc := defScope s_lesser) (by decide +kernel))
        (fun _ _ _ _ _ => pg_tup (by rfl) (pgs_cons (pg_name (i := 2) sc_lesser.nd rfl (Or.inl rfl)) (pgs_cons (pg_name (i := 3) sc_lesser.nd rfl (Or.inl rfl)) pgs_nil))) (fun _ _ _ _ _ => pts_nil)
        (fun _ _ _ _ _ => pe_callB (call_min2 rfl) (by rfl) T.z_min (by decide +kernel) (pa_cons (pv 2) (pa_cons (pv 3) pa_nil)))) pa_nil))), ?_⟩
    refine ⟨_, rfl, _, rfl, p, r, nv t, nv u, rfl, .inr ⟨hT, hU, fun D hD => ?_⟩⟩
    have sD : Same H (upd H D (.lst [])) := same_new hD _
    refine lc_zipT (by rw [nv_len, nv_len, hl]) (fun i H' => Same H H' ∧ H' D = some (.lst (((zi minZ t u).take i).map V.int))) ⟨sD, upd_same⟩ (fun i H' h => ⟨same_sqt h.1 hT, same_sqt h.1 hU⟩) (fun i x y T' H' hx hy h hT' => ?_) (fun H' h => ?_)
    · obtain ⟨sm, eD⟩ := h
      obtain ⟨n, hn, rfl⟩ := nv_get hx
      obtain ⟨m, hm, rfl⟩ := nv_get hy
      have hlt : i < t.length := (List.getElem?_eq_some_iff.mp hn).1
      have sT : Same H' (upd H' T' (.tup [.int ((n : Nat) : Int), .int ((m : Nat) : Int)])) := same_new hT' _
      refine ⟨T', _, rfl, SqT.of upd_same, rfl, _, _, rfl, _, _, rfl, rfl, ?_⟩
      refine ⟨rfl, _, rfl, _, rfl, _, _, rfl, ?_⟩
      refine ⟨_, sT _ _ eD, by rw [List.length_map, List.length_take]; exact sizeK (by omega), same_updL (sm.trans sT) hD, ?_⟩
      rw [upd_same, take_more (zi_get hn hm), List.map_append]
      rfl
    · obtain ⟨sm, eD⟩ := h
      have e2 : (zi minZ t u).take (nv t).length = zi minZ t u := List.take_of_length_le (by rw [nv_len, List.length_zipWith]; omega)
      rw [e2] at eD
      refine ⟨D, _, rfl, .inl ⟨SqL.of eD, fun z hz' => ?_⟩⟩
      have sZ : Same H (upd H' z (.tup ((zi minZ t u).map V.int))) := sm.trans (same_new hz' _)
      exact q _ z sZ (SqT.of upd_same)
theorem ok_added (T : Txt K mg) : FnOk P w K mg base CX0 1 T.a_added T.d_added ["one", "other"] (sp_zip K addZ) := by
  refine T.F_added.ok sc_added (fun vs H Q E h => ?_) (fun cdv A outer s H vs Q E hr h => ?_)
  · obtain ⟨p, r, t, u, rfl, _⟩ := h
    rfl
  · obtain ⟨p, r, t, u, rfl, hT, hU, hl, hz, q⟩ := h
    refine ⟨_, pss_one (ps_ret (pe_callTy call_tuple_of (by rfl) T.z_tuple boot_tuple (pa_cons
      (pe_lc (own := [("a", 2), ("b", 3)]) (g := gTup K 2 (gCons (gName 2) (gCons (gName 3) gNil))) (tt := tYes) rfl sc_added.nd (pi_zipA (by rfl) T.z_zip (pa_cons (pv 0) (pa_cons (pv 1) pa_nil))) (blkOk_by (own := [("a", 2), ("b", 3)]) (N := N_added) (sc := defScope s_added) (by decide +kernel))
        (fun _ _ _ _ _ => pg_tup (by rfl) (pgs_cons (pg_name (i := 2) sc_added.nd rfl (Or.inl rfl)) (pgs_cons (pg_name (i := 3) sc_added.nd rfl (Or.inl rfl)) pgs_nil))) (fun _ _ _ _ _ => pts_nil)
        (fun _ _ _ _ _ => pe_op op_add (pv 2) (pv 3))) pa_nil))), ?_⟩
    refine ⟨_, rfl, _, rfl, p, r, nv t, nv u, rfl, .inr ⟨hT, hU, fun D hD => ?_⟩⟩
    have sD : Same H (upd H D (.lst [])) := same_new hD _
    refine lc_zipT (by rw [nv_len, nv_len, hl]) (fun i H' => Same H H' ∧ H' D = some (.lst (((zi addZ t u).take i).map V.int))) ⟨sD, upd_same⟩ (fun i H' h => ⟨same_sqt h.1 hT, same_sqt h.1 hU⟩) (fun i x y T' H' hx hy h hT' => ?_) (fun H' h => ?_)
    · obtain ⟨sm, eD⟩ := h
      obtain ⟨n, hn, rfl⟩ := nv_get hx
      obtain ⟨m, hm, rfl⟩ := nv_get hy
      have hlt : i < t.length := (List.getElem?_eq_some_iff.mp hn).1
      have sT : Same H' (upd H' T' (.tup [.int ((n : Nat) : Int), .int ((m : Nat) : Int)])) := same_new hT' _
      refine ⟨T', _, rfl, SqT.of upd_same, rfl, _, _, rfl, _, _, rfl, rfl, ?_⟩
      refine ⟨rfl, _, rfl, _, rfl, _, _, rfl, rfl, ?_⟩
      refine ⟨_, sT _ _ eD, by rw [List.length_map, List.length_take]; exact sizeK (by omega), same_updL (sm.trans sT) hD, ?_⟩
      rw [upd_same, take_more (zi_get hn hm), List.map_append]
      rfl
    · obtain ⟨sm, eD⟩ := h
      have e2 : (zi addZ t u).take (nv t).length = zi addZ t u := List.take_of_length_le (by rw [nv_len, List.length_zipWith]; omega)
      rw [e2] at eD
      refine ⟨D, _, rfl, .inl ⟨SqL.of eD, fun z hz' => ?_⟩⟩
      have sZ : Same H (upd H' z (.tup ((zi addZ t u).map V.int))) := sm.trans (same_new hz' _)
      exact q _ z sZ (SqT.of upd_same)
theorem ok_taken_off (T : Txt K mg) : FnOk P w K mg base CX0 1 T.a_taken_off T.d_taken_off ["one", "other"] (sp_zip K offZ) := by
  refine T.F_taken_off.ok sc_taken_off (fun vs H Q E h => ?_) (fun cdv A outer s H vs Q E hr h => ?_)
  · obtain ⟨p, r, t, u, rfl, _⟩ := h
    rfl
  · obtain ⟨p, r, t, u, rfl, hT, hU, hl, hz, q⟩ := h
    refine ⟨_, pss_one (ps_ret (pe_callTy call_tuple_of (by rfl) T.z_tuple boot_tuple (pa_cons
      (pe_lc (own := [("a", 2), ("b", 3)]) (g := gTup K 2 (gCons (gName 2) (gCons (gName 3) gNil))) (tt := tYes) rfl sc_taken_off.nd (pi_zipA (by rfl) T.z_zip (pa_cons (pv 0) (pa_cons (pv 1) pa_nil))) (blkOk_by (own := [("a", 2), ("b", 3)]) (N := N_taken_off) (sc := defScope s_taken_off) (by decide +kernel))
        (fun _ _ _ _ _ => pg_tup (by rfl) (pgs_cons (pg_name (i := 2) sc_taken_off.nd rfl (Or.inl rfl)) (pgs_cons (pg_name (i := 3) sc_taken_off.nd rfl (Or.inl rfl)) pgs_nil))) (fun _ _ _ _ _ => pts_nil)
        (fun _ _ _ _ _ => pe_callB (call_max2 rfl) (by rfl) T.z_max boot_max (pa_cons (pe_op op_sub (pv 2) (pv 3)) (pa_cons pe_int pa_nil)))) pa_nil))), ?_⟩
    refine ⟨_, rfl, _, rfl, p, r, nv t, nv u, rfl, .inr ⟨hT, hU, fun D hD => ?_⟩⟩
    have sD : Same H (upd H D (.lst [])) := same_new hD _
    refine lc_zipT (by rw [nv_len, nv_len, hl]) (fun i H' => Same H H' ∧ H' D = some (.lst (((zi offZ t u).take i).map V.int))) ⟨sD, upd_same⟩ (fun i H' h => ⟨same_sqt h.1 hT, same_sqt h.1 hU⟩) (fun i x y T' H' hx hy h hT' => ?_) (fun H' h => ?_)
    · obtain ⟨sm, eD⟩ := h
      obtain ⟨n, hn, rfl⟩ := nv_get hx
      obtain ⟨m, hm, rfl⟩ := nv_get hy
      have hlt : i < t.length := (List.getElem?_eq_some_iff.mp hn).1
      have sT : Same H' (upd H' T' (.tup [.int ((n : Nat) : Int), .int ((m : Nat) : Int)])) := same_new hT' _
      refine ⟨T', _, rfl, SqT.of upd_same, rfl, _, _, rfl, _, _, rfl, rfl, ?_⟩
      refine ⟨rfl, _, rfl, _, rfl, _, _, rfl, rfl, _, _, rfl, ?_⟩
      refine ⟨_, sT _ _ eD, by rw [List.length_map, List.length_take]; exact sizeK (by omega), same_updL (sm.trans sT) hD, ?_⟩
      rw [upd_same, take_more (zi_get hn hm), List.map_append]
      rfl
    · obtain ⟨sm, eD⟩ := h
      have e2 : (zi offZ t u).take (nv t).length = zi offZ t u := List.take_of_length_le (by rw [nv_len, List.length_zipWith]; omega)
      rw [e2] at eD
      refine ⟨D, _, rfl, .inl ⟨SqL.of eD, fun z hz' => ?_⟩⟩
      have sZ : Same H (upd H' z (.tup ((zi offZ t u).map V.int))) := sm.trans (same_new hz' _)
      exact q _ z sZ (SqT.of upd_same)
theorem ok_w_joined (T : Txt K mg) : FnOk P w K mg base CX0 1 T.a_w_joined T.d_w_joined ["_law_one", "_law_other"] (sp_zip K maxZ) := by
  refine T.F_w_joined.ok sc_w_joined (fun vs H Q E h => ?_) (fun cdv A outer s H vs Q E hr h => ?_)
  · obtain ⟨p, r, t, u, rfl, _⟩ := h
    rfl
  · obtain ⟨p, r, t, u, rfl, hT, hU, hl, hz, q⟩ := h
    refine ⟨_, pss_one (ps_ret (pe_callTy call_tuple_of (by rfl) T.z_tuple boot_tuple (pa_cons
      (pe_lc (own := [("_law_left", 2), ("_law_right_here", 3)]) (g := gTup K 2 (gCons (gName 2) (gCons (gName 3) gNil))) (tt := tYes) rfl sc_w_joined.nd (pi_zipA (by rfl) T.z_zip (pa_cons (pv 0) (pa_cons (pv 1) pa_nil))) (blkOk_by (own := [("_law_left", 2), ("_law_right_here", 3)]) (N := N_w_joined) (sc := defScope s_w_joined) (by decide +kernel))
        (fun _ _ _ _ _ => pg_tup (by rfl) (pgs_cons (pg_name (i := 2) sc_w_joined.nd rfl (Or.inl rfl)) (pgs_cons (pg_name (i := 3) sc_w_joined.nd rfl (Or.inl rfl)) pgs_nil))) (fun _ _ _ _ _ => pts_nil)
        (fun _ _ _ _ _ => pe_callB (call_max2 rfl) (by rfl) T.z_max boot_max (pa_cons (pv 2) (pa_cons (pv 3) pa_nil)))) pa_nil))), ?_⟩
    refine ⟨_, rfl, _, rfl, p, r, nv t, nv u, rfl, .inr ⟨hT, hU, fun D hD => ?_⟩⟩
    have sD : Same H (upd H D (.lst [])) := same_new hD _
    refine lc_zipT (by rw [nv_len, nv_len, hl]) (fun i H' => Same H H' ∧ H' D = some (.lst (((zi maxZ t u).take i).map V.int))) ⟨sD, upd_same⟩ (fun i H' h => ⟨same_sqt h.1 hT, same_sqt h.1 hU⟩) (fun i x y T' H' hx hy h hT' => ?_) (fun H' h => ?_)
    · obtain ⟨sm, eD⟩ := h
      obtain ⟨n, hn, rfl⟩ := nv_get hx
      obtain ⟨m, hm, rfl⟩ := nv_get hy
      have hlt : i < t.length := (List.getElem?_eq_some_iff.mp hn).1
      have sT : Same H' (upd H' T' (.tup [.int ((n : Nat) : Int), .int ((m : Nat) : Int)])) := same_new hT' _
      refine ⟨T', _, rfl, SqT.of upd_same, rfl, _, _, rfl, _, _, rfl, rfl, ?_⟩
      refine ⟨rfl, _, rfl, _, rfl, _, _, rfl, ?_⟩
      refine ⟨_, sT _ _ eD, by rw [List.length_map, List.length_take]; exact sizeK (by omega), same_updL (sm.trans sT) hD, ?_⟩
      rw [upd_same, take_more (zi_get hn hm), List.map_append]
      rfl
    · obtain ⟨sm, eD⟩ := h
      have e2 : (zi maxZ t u).take (nv t).length = zi maxZ t u := List.take_of_length_le (by rw [nv_len, List.length_zipWith]; omega)
      rw [e2] at eD
      refine ⟨D, _, rfl, .inl ⟨SqL.of eD, fun z hz' => ?_⟩⟩
      have sZ : Same H (upd H' z (.tup ((zi maxZ t u).map V.int))) := sm.trans (same_new hz' _)
      exact q _ z sZ (SqT.of upd_same)
theorem ok_w_added (T : Txt K mg) : FnOk P w K mg base CX0 1 T.a_w_added T.d_w_added ["_law_one", "_law_other"] (sp_zip K addZ) := by
  refine T.F_w_added.ok sc_w_added (fun vs H Q E h => ?_) (fun cdv A outer s H vs Q E hr h => ?_)
  · obtain ⟨p, r, t, u, rfl, _⟩ := h
    rfl
  · obtain ⟨p, r, t, u, rfl, hT, hU, hl, hz, q⟩ := h
    refine ⟨_, pss_one (ps_ret (pe_callTy call_tuple_of (by rfl) T.z_tuple boot_tuple (pa_cons
      (pe_lc (own := [("_law_left", 2), ("_law_right_here", 3)]) (g := gTup K 2 (gCons (gName 2) (gCons (gName 3) gNil))) (tt := tYes) rfl sc_w_added.nd (pi_zipA (by rfl) T.z_zip (pa_cons (pv 0) (pa_cons (pv 1) pa_nil))) (blkOk_by (own := [("_law_left", 2), ("_law_right_here", 3)]) (N := N_w_added) (sc := defScope s_w_added) (by decide +kernel))
        (fun _ _ _ _ _ => pg_tup (by rfl) (pgs_cons (pg_name (i := 2) sc_w_added.nd rfl (Or.inl rfl)) (pgs_cons (pg_name (i := 3) sc_w_added.nd rfl (Or.inl rfl)) pgs_nil))) (fun _ _ _ _ _ => pts_nil)
        (fun _ _ _ _ _ => pe_op op_add (pv 2) (pv 3))) pa_nil))), ?_⟩
    refine ⟨_, rfl, _, rfl, p, r, nv t, nv u, rfl, .inr ⟨hT, hU, fun D hD => ?_⟩⟩
    have sD : Same H (upd H D (.lst [])) := same_new hD _
    refine lc_zipT (by rw [nv_len, nv_len, hl]) (fun i H' => Same H H' ∧ H' D = some (.lst (((zi addZ t u).take i).map V.int))) ⟨sD, upd_same⟩ (fun i H' h => ⟨same_sqt h.1 hT, same_sqt h.1 hU⟩) (fun i x y T' H' hx hy h hT' => ?_) (fun H' h => ?_)
    · obtain ⟨sm, eD⟩ := h
      obtain ⟨n, hn, rfl⟩ := nv_get hx
      obtain ⟨m, hm, rfl⟩ := nv_get hy
      have hlt : i < t.length := (List.getElem?_eq_some_iff.mp hn).1
      have sT : Same H' (upd H' T' (.tup [.int ((n : Nat) : Int), .int ((m : Nat) : Int)])) := same_new hT' _
      refine ⟨T', _, rfl, SqT.of upd_same, rfl, _, _, rfl, _, _, rfl, rfl, ?_⟩
      refine ⟨rfl, _, rfl, _, rfl, _, _, rfl, rfl, ?_⟩
      refine ⟨_, sT _ _ eD, by rw [List.length_map, List.length_take]; exact sizeK (by omega), same_updL (sm.trans sT) hD, ?_⟩
      rw [upd_same, take_more (zi_get hn hm), List.map_append]
      rfl
    · obtain ⟨sm, eD⟩ := h
      have e2 : (zi addZ t u).take (nv t).length = zi addZ t u := List.take_of_length_le (by rw [nv_len, List.length_zipWith]; omega)
      rw [e2] at eD
      refine ⟨D, _, rfl, .inl ⟨SqL.of eD, fun z hz' => ?_⟩⟩
      have sZ : Same H (upd H' z (.tup ((zi addZ t u).map V.int))) := sm.trans (same_new hz' _)
      exact q _ z sZ (SqT.of upd_same)
end
end K4

namespace K4
open PySem PySem.Spec PyProof.Rows L2 RZ L5 XX
section
variable {P : Program} {w : World} {K : PySem.W.Frag} {mg : Str → Option Value} {base : Heap}
/-! ### fits -/
abbrev fitL (t u : List Nat) : List Bool := List.zipWith (fun a b => decide (a ≤ b)) t u
abbrev fitB (t u : List Nat) : Bool := (fitL t u).all id
theorem fit_get {t u : List Nat} {i n m : Nat} (h1 : t[i]? = some n) (h2 : u[i]? = some m) : (fitL t u)[i]? = some (decide (n ≤ m)) := by
  rw [List.getElem?_zipWith, h1, h2]
theorem all_take_step {l : List Bool} {i : Nat} {b : Bool} (h : l[i]? = some b) : (l.take (i + 1)).all id = ((l.take i).all id && b) := by
  rw [take_more h, List.all_append]
  show _ = _
  simp
def sp_fits (K : PySem.W.Frag) : Sp := fun vs H Q _ => ∃ (p r : Addr) (t u : List Nat), vs = [.ref p, .ref r] ∧ SqT K H p (nv t) ∧ SqT K H r (nv u) ∧ u.length = t.length ∧ ∀ H', Same H H' → Q (.bl (fitB t u)) H'
theorem ok_fits (T : Txt K mg) : FnOk P w K mg base CX0 1 T.a_fits T.d_fits ["one", "other"] (sp_fits K) := by
  refine T.F_fits.ok sc_fits (fun vs H Q E h => ?_) (fun cdv A outer s H vs Q E hr h => ?_)
  · obtain ⟨p, r, t, u, rfl, _⟩ := h
    rfl
  · obtain ⟨p, r, t, u, rfl, hT, hU, hl, q⟩ := h
    refine ⟨_, pss_cons (ps_for PassesOwn.never rfl (pi_zipA (by rfl) T.z_zip (pa_cons (pv 0) (pa_cons (pv 1) pa_nil))) (pg_tup (by rfl) (pgs_cons (pg_name (i := 2) sc_fits.nd rfl (Or.inl rfl)) (pgs_cons (pg_name (i := 3) sc_fits.nd rfl (Or.inl rfl)) pgs_nil)))
        (pss_one (ps_if (pt_cmpR op_gt (pv 2) (pv 3) (nomark _)) (pss_one (ps_ret pe_bl)) pss_nil)))
      (pss_one (ps_ret pe_bl)), ?_⟩
    refine ⟨_, rfl, _, rfl, p, r, nv t, nv u, rfl, .inr ⟨hT, hU, ?_⟩⟩
    refine for_zipT (xs := nv t) (ys := nv u) (by rw [nv_len, nv_len, hl]) (fun i σ H' => ∃ v2 v3 : Option V, σ = [some (.ref p), some (.ref r), v2, v3] ∧ Same H H' ∧ ((fitL t u).take i).all id = true) ⟨none, none, rfl, Same.refl H, rfl⟩ ?_ ?_ ?_
    · rintro i σ H' ⟨v2, v3, rfl, sm, _⟩
      exact ⟨same_sqt sm hT, same_sqt sm hU⟩
    · rintro i x y T' σ H' hx hy ⟨v2, v3, rfl, sm, ha⟩ hT'
      obtain ⟨n, hn, rfl⟩ := nv_get hx
      obtain ⟨m, hm, rfl⟩ := nv_get hy
      have sT : Same H' (upd H' T' (.tup [.int ((n : Nat) : Int), .int ((m : Nat) : Int)])) := same_new hT' _
      have st := all_take_step (fit_get hn hm)
      refine ⟨T', _, rfl, SqT.of upd_same, rfl, _, _, rfl, _, _, rfl, rfl, ?_⟩
      refine ⟨_, rfl, _, rfl, _, _, rfl, rfl, _, rfl, ite2 (fun c => ?_) (fun c => ?_)⟩
      · have c' := of_decide_eq_true c
        have ef : fitB t u = false := by
          rw [ha, Bool.true_and, decide_eq_false (show ¬ n ≤ m by omega)] at st
          show (fitL t u).all id = false
          rw [← List.take_append_drop (i + 1) (fitL t u), List.all_append, st, Bool.false_and]
        rw [ef] at q
        exact q _ (sm.trans sT)
      · have c' : ¬ ((n : Nat) : Int) > ((m : Nat) : Int) := fun z => c (decide_eq_true z)
        refine ⟨_, _, rfl, sm.trans sT, ?_⟩
        rw [st, ha, decide_eq_true (show n ≤ m by omega)]
        rfl
    · rintro σ H' ⟨v2, v3, rfl, sm, ha⟩
      have ef : fitB t u = true := by
        rw [List.take_of_length_le (by rw [nv_len, List.length_zipWith]; omega)] at ha
        exact ha
      rw [ef] at q
      exact q _ sm
/-! ### degree_of, is_product -/
structure SpDeg (K : PySem.W.Frag) (CP : Addr) (vs : List V) (H : Hp) (Q : VK) (E : XK) : Prop where
  ex : ∃ v d, vs = [v] ∧ Va K H v d ∧ (anyB d = false → ∀ H', Same H H' → E (.ref CP) none H') ∧ (anyB d = true → ∀ p t, v = .ref p → SqT K H p (nv t) → Prod60 t → d = some (t.map fun n => some ((n : Nat) : Int)) → ∀ H', Same H H' → Q (.int ((t.sum : Nat) : Int)) H')
def sp_deg (K : PySem.W.Frag) (CP : Addr) : Sp := fun vs H Q E => SpDeg K CP vs H Q E
theorem any_get {H : Hp} {v : V} {d : Option (List (Option Int))} (h : Va K H v d) (e : anyB d = true) : ∃ r u, v = .ref r ∧ SqT K H r (nv u) ∧ Prod60 u ∧ d = some (u.map fun n => some ((n : Nat) : Int)) := by
  cases d with
  | none => cases e
  | some os =>
    have e' : (decide (1 ≤ os.length) && decide (os.length ≤ 8) && areB (some os) ((os.length : Nat) : Int) 60) = true := e
    rw [Bool.and_eq_true, Bool.and_eq_true] at e'
    obtain ⟨r, u, rfl, hT, hl, hu, hd⟩ := are_get h e'.2
    exact ⟨r, u, rfl, hT, ⟨by have := of_decide_eq_true e'.1.1; omega, by have := of_decide_eq_true e'.1.2; omega, hu⟩, hd⟩
theorem ok_deg (T : Txt K mg) : FnOk P w K mg base (L2.CX P w) 6 T.a_degree_of T.d_degree_of ["product"] (sp_deg K T.C_InvalidProduct) := by
  refine T.F_degree_of.okX sc_degree_of (fun vs H Q E h => ?_) (fun cdv A outer s H vs Q E hr h => ?_)
  · obtain ⟨v, d, rfl, _⟩ := h
    rfl
  · obtain ⟨v, d, rfl, hv, q2, q1⟩ := h
    refine ⟨_, pss_cons (ps_expr (pe_call (ok_any T) hr (by rfl) T.m_check_any_product T.F_check_any_product.kp T.b_check_any_product .nil (passes_call (takes_of rfl rfl rfl rfl) fun _ _ _ _ z => z) (pa_cons (pv 0) pa_nil)))
      (pss_one (ps_ret (pe_callB (cr_sumT rfl) (by rfl) T.z_sum boot_sum (pa_cons (pv 0) pa_nil)))), ?_⟩
    refine ⟨_, rfl, v, d, rfl, hv, fun e H1 s1 => ?_, q2⟩
    obtain ⟨r, u, rfl, hT, hp, hd⟩ := any_get hv e
    refine ⟨_, rfl, r, _, rfl, by rw [← nv_ints]; exact same_sqt s1 hT, ?_⟩
    rw [sum_cast]
    exact q1 e r u rfl hT hp hd H1 s1
theorem map_back1 {t u : List Nat} (h : (some (t.map fun n => some ((n : Nat) : Int)) : Option (List (Option Int))) = some (u.map fun n => some ((n : Nat) : Int))) : u = t := by
  have h' := Option.some.inj h
  exact (List.map_inj_right (f := fun n : Nat => some ((n : Nat) : Int)) (fun a b e => by have := Option.some.inj e; omega)).mp h'.symm
theorem deg_one {CP : Addr} {p : Addr} {t : List Nat} {H : Hp} {Q : VK} {E : XK} (hT : SqT K H p (nv t)) (hp : Prod60 t) (f : ∀ H', Same H H' → Q (.int ((t.sum : Nat) : Int)) H') : SpDeg K CP [.ref p] H Q E := by
  have h8 := hp.2.1
  refine ⟨.ref p, _, rfl, va_prod hT (by omega), fun e => ?_, fun _ r' u' _ _ _ hd => ?_⟩
  · rw [any_prod hp] at e
    cases e
  · rw [map_back1 hd]
    exact f
def sp_isp (K : PySem.W.Frag) : Sp := fun vs H Q _ => ∃ n : Int, ∃ v d, vs = [.int n, v] ∧ 1 ≤ n ∧ n ≤ 8 ∧ Va K H v d ∧ ∀ H', Same H H' → Q (.bl (areB d n 60)) H'
theorem ok_isp (T : Txt K mg) : FnOk P w K mg base CX0 4 T.a_is_product T.d_is_product ["letters", "value"] (sp_isp K) := by
  refine T.F_is_product.ok sc_is_product (fun vs H Q E h => ?_) (fun cdv A outer s H vs Q E hr h => ?_)
  · obtain ⟨n, v, d, rfl, _⟩ := h
    rfl
  · obtain ⟨n, v, d, rfl, h1, h8, hv, q⟩ := h
    refine ⟨_, pss_cons (ps_expr (pe_call (ok_checkw T) hr (by rfl) T.m_check_within T.F_check_within.kp T.b_check_within .nil pass0 (pa_cons (pv 0) (pa_cons pe_int (pa_cons (pe_glob (v := .int 8) rfl T.c_MAX_LETTERS ⟨_, rfl⟩) pa_nil)))))
      (pss_one (ps_ret (pe_call (ok_are T) hr (by rfl) T.m_are_exponents T.F_are_exponents.kp T.b_are_exponents .nil pass0 (pa_cons (pv 1) (pa_cons (pv 0) (pa_cons (pe_glob (v := .int 60) rfl T.c_MAX_EXPONENT ⟨_, rfl⟩) pa_nil)))))), ?_⟩
    refine ⟨_, rfl, _, _, _, rfl, by omega, by omega, ?_⟩
    exact ⟨_, rfl, _, rfl, v, d, n, 60, rfl, hv, q⟩
/-! ### own errors are made -/
def sp_ini (C : Addr) (f : Str) : Sp := fun vs H Q _ => ∃ a v, vs = [.ref a, v] ∧ H a = some (exo a C none) ∧ ∀ dx, H dx = none → dx ≠ a → Q .non (upd (upd H dx (exd dx [(f, v)])) a (exo a C (some dx)))
theorem ok_iniM (T : Txt K mg) : FnOk P w K mg base CX0 1 T.f_TooMany T.d_TooMany ["self", "most"] (sp_ini T.C_TooMany "most") := by
  refine T.F_TooMany.ok sci_TooMany (fun vs H Q E h => ?_) (fun cdv A outer s H vs Q E hr h => ?_)
  · obtain ⟨a, v, rfl, _⟩ := h
    rfl
  · obtain ⟨a, v, rfl, ha, q⟩ := h
    refine ⟨_, pss_one (ps_ost1 (newId := "OverflowError.__new__") PySem.F.store_OverflowError (pv 0) (pv 1)), ?_⟩
    exact ⟨_, rfl, _, rfl, a, _, rfl, T.o_TooMany, T.n_TooMany, ha, q⟩
theorem ok_iniR (T : Txt K mg) : FnOk P w K mg base CX0 1 T.f_Refused T.d_Refused ["self", "reason"] (sp_ini T.C_Refused "reason") := by
  refine T.F_Refused.ok sci_Refused (fun vs H Q E h => ?_) (fun cdv A outer s H vs Q E hr h => ?_)
  · obtain ⟨a, v, rfl, _⟩ := h
    rfl
  · obtain ⟨a, v, rfl, ha, q⟩ := h
    refine ⟨_, pss_one (ps_ost1 (newId := "ArithmeticError.__new__") PySem.F.store_ArithmeticError (pv 0) (pv 1)), ?_⟩
    exact ⟨_, rfl, _, rfl, a, _, rfl, T.o_Refused, T.n_Refused, ha, q⟩
/-- what a raise of such an error leaves -/
theorem ini_made {C : Addr} {f : Str} {v : V} {H : Hp} {a : Addr} {q : XK} (hl : True) (ha : H a = none) (h : ∀ H' dd, Same H H' → H' dd = some (.xd [(f, v)]) → q (.ref C) (some dd) H') :
    sp_ini C f (.ref a :: ([v] ++ [])) (upd H a (exo a C none)) (fun x H2 => x = .non ∧ ∃ (d : Addr) (fs : List (Str × V)), H2 a = some (exo a C (some d)) ∧ H2 d = some (exd d fs) ∧ H d = none ∧ q (.ref C) (some d) (upd (del H2 a) d (.xd fs))) (fun _ _ _ => False) := by
  refine ⟨a, v, rfl, upd_same, fun dx n ne => ⟨rfl, dx, _, upd_same, by rw [upd_ne ne, upd_same], by rw [upd_ne ne] at n; exact n, ?_⟩⟩
  have n' : H dx = none := by rw [upd_ne ne] at n; exact n
  refine h _ dx (fun b o e => ?_) upd_same
  have b1 : b ≠ a := fun z => by rw [z, ha] at e; cases e
  have b2 : b ≠ dx := fun z => by rw [z, n'] at e; cases e
  rw [upd_ne b2, del_ne b1, upd_ne b1, upd_ne b2, upd_ne b1]
  exact e
end
end K4

namespace K4
open PySem PySem.Spec PyProof.Rows L2 RZ L5 XX
section
variable {P : Program} {w : World} {K : PySem.W.Frag} {mg : Str → Option Value} {base : Heap}
/-! ### the five functions of two products -/
inductive Out
  | b (x : Bool)
  | t (l : List Int)
  | many
  | rest
def Fin (K : PySem.W.Frag) (CM CR : Addr) (Q : VK) (E : XK) (H : Hp) : Out → Prop
  | .b x => ∀ H', Same H H' → Q (.bl x) H'
  | .t l => ∀ H' z, Same H H' → SqT K H' z (l.map V.int) → Q (.ref z) H'
  | .many => ∀ H' dd, Same H H' → H' dd = some (.xd [("most", .int 60)]) → E (.ref CM) (some dd) H'
  | .rest => ∀ H' dd z, Same H H' → SqT K H' z [.str "rest"] → H' dd = some (.xd [("reason", .ref z)]) → E (.ref CR) (some dd) H'
theorem Fin.after {CM CR : Addr} {Q : VK} {E : XK} {H H1 : Hp} (s : Same H H1) : ∀ {o : Out}, Fin K CM CR Q E H o → Fin K CM CR Q E H1 o
  | .b _, f => fun H' s' => f H' (s.trans s')
  | .t _, f => fun H' z s' => f H' z (s.trans s')
  | .many, f => fun H' dd s' => f H' dd (s.trans s')
  | .rest, f => fun H' dd z s' => f H' dd z (s.trans s')
structure Sp5 (K : PySem.W.Frag) (CP CM CR : Addr) (g : List Nat → List Nat → Out) (vs : List V) (H : Hp) (Q : VK) (E : XK) : Prop where
  ex : ∃ p t v d, vs = [.ref p, v] ∧ SqT K H p (nv t) ∧ Prod60 t ∧ Va K H v d ∧ (areB d ((t.length : Nat) : Int) 60 = false → ∀ H', Same H H' → E (.ref CP) none H') ∧
    (areB d ((t.length : Nat) : Int) 60 = true → ∀ r u, v = .ref r → SqT K H r (nv u) → u.length = t.length → (∀ e ∈ u, e ≤ 60) → d = some (u.map fun n => some ((n : Nat) : Int)) → Fin K CM CR Q E H (g t u))
def sp5 (K : PySem.W.Frag) (CP CM CR : Addr) (g : List Nat → List Nat → Out) : Sp := fun vs H Q E => Sp5 K CP CM CR g vs H Q E
theorem map_back {t u : List Nat} (h : (some (t.map fun n => some ((n : Nat) : Int)) : Option (List (Option Int))) = some (u.map fun n => some ((n : Nat) : Int))) : u = t := by
  have h' := Option.some.inj h
  exact (List.map_inj_right (f := fun n : Nat => some ((n : Nat) : Int)) (fun a b e => by have := Option.some.inj e; omega)).mp h'.symm
/-- called with two products of one length -/
theorem sp5_two {CP CM CR : Addr} {g : List Nat → List Nat → Out} {p r : Addr} {t u : List Nat} {H : Hp} {Q : VK} {E : XK} (hT : SqT K H p (nv t)) (hU : SqT K H r (nv u)) (hp : Prod60 t) (hq : Prod60 u) (hl : u.length = t.length) (f : Fin K CM CR Q E H (g t u)) : Sp5 K CP CM CR g [.ref p, .ref r] H Q E := by
  have h8 := hq.2.1
  refine ⟨p, t, .ref r, _, rfl, hT, hp, va_prod hU (by omega), fun e => ?_, fun _ r' u' _ _ _ _ hd => ?_⟩
  · rw [← hl, are_prod hq.2.2] at e
    cases e
  · rw [map_back hd]
    exact f
def gDiv (t u : List Nat) : Out := .b (fitB t u)
def gMul (t u : List Nat) : Out := .t (zi maxZ t u)
def gLow (t u : List Nat) : Out := .t (zi minZ t u)
def gTim (t u : List Nat) : Out := if (zi addZ t u).all (fun i => decide (i ≤ 60)) = true then .t (zi addZ t u) else .many
def gQuo (t u : List Nat) : Out := if fitB u t = true then .t (zi offZ t u) else .rest
theorem ok_does_divide (T : Txt K mg) : FnOk P w K mg base (L2.CX P w) 7 T.a_does_divide T.d_does_divide ["one", "other"] (sp5 K T.C_InvalidProduct T.C_TooMany T.C_Refused gDiv) := by
  refine T.F_does_divide.okX sc_does_divide (fun vs H Q E h => ?_) (fun cdv A outer s H vs Q E hr h => ?_)
  · obtain ⟨p, t, v, d, rfl, _⟩ := h
    rfl
  · obtain ⟨p, t, v, d, rfl, hT, hp, hv, q2, q1⟩ := h
    have h8 := hp.2.1
    have h1 := hp.1
    refine ⟨_, pss_cons (ps_expr (pe_call (ok_both T) hr (by rfl) T.m_check_both T.F_check_both.kp T.b_check_both .nil (passes_call (takes_of rfl rfl rfl rfl) fun _ _ _ _ z => z) (pa_cons (pv 0) (pa_cons (pv 1) pa_nil))))
      (pss_one (ps_ret (pe_call (ok_fits T) (hr.mono (by decide)) (by rfl) T.m_fits T.F_fits.kp T.b_fits .nil pass0 (pa_cons (pv 0) (pa_cons (pv 1) pa_nil))))), ?_⟩
    refine ⟨_, rfl, _, rfl, p, t, v, d, rfl, hT, hp, hv, fun e H1 s1 => ?_, q2⟩
    obtain ⟨r, u, rfl, hU, hl, hu, hd⟩ := are_get hv e
    have fin := q1 e r u rfl hU hl hu hd
    exact ⟨_, rfl, _, rfl, p, r, t, u, rfl, same_sqt s1 hT, same_sqt s1 hU, hl, fun H2 s2 => fin H2 (s1.trans s2)⟩
theorem ok_multiple_of (T : Txt K mg) : FnOk P w K mg base (L2.CX P w) 7 T.a_multiple_of T.d_multiple_of ["one", "other"] (sp5 K T.C_InvalidProduct T.C_TooMany T.C_Refused gMul) := by
  refine T.F_multiple_of.okX sc_multiple_of (fun vs H Q E h => ?_) (fun cdv A outer s H vs Q E hr h => ?_)
  · obtain ⟨p, t, v, d, rfl, _⟩ := h
    rfl
  · obtain ⟨p, t, v, d, rfl, hT, hp, hv, q2, q1⟩ := h
    have h8 := hp.2.1
    have h1 := hp.1
    refine ⟨_, pss_cons (ps_expr (pe_call (ok_both T) hr (by rfl) T.m_check_both T.F_check_both.kp T.b_check_both .nil (passes_call (takes_of rfl rfl rfl rfl) fun _ _ _ _ z => z) (pa_cons (pv 0) (pa_cons (pv 1) pa_nil))))
      (pss_one (ps_ret (pe_call (ok_greater T) (hr.mono (by decide)) (by rfl) T.m_greater T.F_greater.kp T.b_greater .nil pass0 (pa_cons (pv 0) (pa_cons (pv 1) pa_nil))))), ?_⟩
    refine ⟨_, rfl, _, rfl, p, t, v, d, rfl, hT, hp, hv, fun e H1 s1 => ?_, q2⟩
    obtain ⟨r, u, rfl, hU, hl, hu, hd⟩ := are_get hv e
    have fin := q1 e r u rfl hU hl hu hd
    exact ⟨_, rfl, _, rfl, p, r, t, u, rfl, same_sqt s1 hT, same_sqt s1 hU, hl, by omega, fun H2 z s2 hz => fin H2 z (s1.trans s2) hz⟩
theorem ok_divisor_of (T : Txt K mg) : FnOk P w K mg base (L2.CX P w) 7 T.a_divisor_of T.d_divisor_of ["one", "other"] (sp5 K T.C_InvalidProduct T.C_TooMany T.C_Refused gLow) := by
  refine T.F_divisor_of.okX sc_divisor_of (fun vs H Q E h => ?_) (fun cdv A outer s H vs Q E hr h => ?_)
  · obtain ⟨p, t, v, d, rfl, _⟩ := h
    rfl
  · obtain ⟨p, t, v, d, rfl, hT, hp, hv, q2, q1⟩ := h
    have h8 := hp.2.1
    have h1 := hp.1
    refine ⟨_, pss_cons (ps_expr (pe_call (ok_both T) hr (by rfl) T.m_check_both T.F_check_both.kp T.b_check_both .nil (passes_call (takes_of rfl rfl rfl rfl) fun _ _ _ _ z => z) (pa_cons (pv 0) (pa_cons (pv 1) pa_nil))))
      (pss_one (ps_ret (pe_call (ok_lesser T) (hr.mono (by decide)) (by rfl) T.m_lesser T.F_lesser.kp T.b_lesser .nil pass0 (pa_cons (pv 0) (pa_cons (pv 1) pa_nil))))), ?_⟩
    refine ⟨_, rfl, _, rfl, p, t, v, d, rfl, hT, hp, hv, fun e H1 s1 => ?_, q2⟩
    obtain ⟨r, u, rfl, hU, hl, hu, hd⟩ := are_get hv e
    have fin := q1 e r u rfl hU hl hu hd
    exact ⟨_, rfl, _, rfl, p, r, t, u, rfl, same_sqt s1 hT, same_sqt s1 hU, hl, by omega, fun H2 z s2 hz => fin H2 z (s1.trans s2) hz⟩
theorem ok_product_times (T : Txt K mg) : FnOk P w K mg base (L2.CX P w) 7 T.a_product_times T.d_product_times ["one", "other"] (sp5 K T.C_InvalidProduct T.C_TooMany T.C_Refused gTim) := by
  refine T.F_product_times.okX sc_product_times (fun vs H Q E h => ?_) (fun cdv A outer s H vs Q E hr h => ?_)
  · obtain ⟨p, t, v, d, rfl, _⟩ := h
    rfl
  · obtain ⟨p, t, v, d, rfl, hT, hp, hv, q2, q1⟩ := h
    have h8 := hp.2.1
    have h1 := hp.1
    refine ⟨_, pss_cons (ps_expr (pe_call (ok_both T) hr (by rfl) T.m_check_both T.F_check_both.kp T.b_check_both .nil (passes_call (takes_of rfl rfl rfl rfl) fun _ _ _ _ z => z) (pa_cons (pv 0) (pa_cons (pv 1) pa_nil))))
      (pss_cons (ps_set (i := 2) sc_product_times.nd rfl (Or.inl rfl) (pe_call (ok_added T) (hr.mono (by decide)) (by rfl) T.m_added T.F_added.kp T.b_added .nil pass0 (pa_cons (pv 0) (pa_cons (pv 1) pa_nil))))
      (pss_cons (ps_if (pt_cmpR op_gt (pe_callB (cr_maxT rfl) (by rfl) T.z_max boot_max (pa_cons (pv 2) pa_nil)) (pe_glob (v := .int 60) rfl T.c_MAX_EXPONENT ⟨_, rfl⟩) (nomark _))
        (pss_one (ps_raise rfl (takes_of rfl rfl rfl rfl) (pmk_oexB PySem.F.excBase_OverflowError T.o_TooMany T.i_TooMany T.ti_TooMany (ok_iniM T) (hr.mono (by decide)) T.b_TooMany .nil pass0 (by rfl) T.g_TooMany (pa_cons (pe_glob (v := .int 60) rfl T.c_MAX_EXPONENT ⟨_, rfl⟩) pa_nil)))) pss_nil)
      (pss_one (ps_ret (pv 2))))), ?_⟩
    refine ⟨_, rfl, _, rfl, p, t, v, d, rfl, hT, hp, hv, fun e H1 s1 => ?_, q2⟩
    obtain ⟨r, u, rfl, hU, hl, hu, hd⟩ := are_get hv e
    have fin := q1 e r u rfl hU hl hu hd
    refine ⟨_, rfl, _, rfl, p, r, t, u, rfl, same_sqt s1 hT, same_sqt s1 hU, hl, by omega, fun H2 z s2 hZ => ?_⟩
    refine ⟨_, rfl, z, zi addZ t u, rfl, hZ, by rw [List.length_zipWith]; omega, fun m hm hmax => ?_⟩
    refine ⟨_, _, rfl, rfl, _, rfl, ite2 (fun c => ?_) (fun c => ?_)⟩
    · have c' := of_decide_eq_true c
      have eg : gTim t u = .many := if_neg fun hall => by
        have := of_decide_eq_true (List.all_eq_true.mp hall m hm)
        omega
      rw [eg] at fin
      exact ⟨by decide, fun a ha => ini_made True.intro ha fun H' dd sm hd => fin H' dd (s1.trans (s2.trans sm)) hd⟩
    · have eg : gTim t u = .t (zi addZ t u) := if_pos (List.all_eq_true.mpr fun i hi => decide_eq_true (by
        have := hmax i hi
        have : ¬ m > 60 := fun z => c (decide_eq_true z)
        omega))
      rw [eg] at fin
      exact ⟨_, rfl, fin H2 z (s1.trans s2) hZ⟩
theorem ok_quotient_of (T : Txt K mg) : FnOk P w K mg base (L2.CX P w) 7 T.a_quotient_of T.d_quotient_of ["one", "other"] (sp5 K T.C_InvalidProduct T.C_TooMany T.C_Refused gQuo) := by
  refine T.F_quotient_of.okX sc_quotient_of (fun vs H Q E h => ?_) (fun cdv A outer s H vs Q E hr h => ?_)
  · obtain ⟨p, t, v, d, rfl, _⟩ := h
    rfl
  · obtain ⟨p, t, v, d, rfl, hT, hp, hv, q2, q1⟩ := h
    have h8 := hp.2.1
    have h1 := hp.1
    refine ⟨_, pss_cons (ps_expr (pe_call (ok_both T) hr (by rfl) T.m_check_both T.F_check_both.kp T.b_check_both .nil (passes_call (takes_of rfl rfl rfl rfl) fun _ _ _ _ z => z) (pa_cons (pv 0) (pa_cons (pv 1) pa_nil))))
      (pss_cons (ps_if (pt_not (pt_val (pe_call (ok_fits T) (hr.mono (by decide)) (by rfl) T.m_fits T.F_fits.kp T.b_fits .nil pass0 (pa_cons (pv 1) (pa_cons (pv 0) pa_nil)))))
        (pss_one (ps_raise rfl (takes_of rfl rfl rfl rfl) (pmk_oexB PySem.F.excBase_ArithmeticError T.o_Refused T.i_Refused T.ti_Refused (ok_iniR T) (hr.mono (by decide)) T.b_Refused .nil pass0 (by rfl) T.g_Refused (pa_cons (pe_tup (pa_cons pe_str pa_nil)) pa_nil)))) pss_nil)
      (pss_one (ps_ret (pe_call (ok_taken_off T) (hr.mono (by decide)) (by rfl) T.m_taken_off T.F_taken_off.kp T.b_taken_off .nil pass0 (pa_cons (pv 0) (pa_cons (pv 1) pa_nil)))))), ?_⟩
    refine ⟨_, rfl, _, rfl, p, t, v, d, rfl, hT, hp, hv, fun e H1 s1 => ?_, q2⟩
    obtain ⟨r, u, rfl, hU, hl, hu, hd⟩ := are_get hv e
    have fin := q1 e r u rfl hU hl hu hd
    refine ⟨_, rfl, _, rfl, r, p, u, t, rfl, same_sqt s1 hU, same_sqt s1 hT, hl.symm, fun H2 s2 => ⟨_, rfl, ?_⟩⟩
    cases ef : fitB u t with
    | false =>
      have eg : gQuo t u = .rest := if_neg (by rw [ef]; decide)
      rw [eg] at fin
      refine iteT ⟨by show 1 ≤ sizeLine; decide, fun z hz => ⟨by show 1 ≤ 1000; decide, fun a ha => ini_made True.intro ha fun H' dd sm hd => ?_⟩⟩
      exact fin H' dd z (s1.trans (s2.trans ((same_new hz _).trans sm))) (same_sqt sm (SqT.of upd_same)) hd
    | true =>
      have eg : gQuo t u = .t (zi offZ t u) := if_pos ef
      rw [eg] at fin
      refine iteF ?_
      exact ⟨_, rfl, _, rfl, p, r, t, u, rfl, same_sqt (s1.trans s2) hT, same_sqt (s1.trans s2) hU, hl, by omega, fun H3 z s3 hz => fin H3 z (s1.trans (s2.trans s3)) hz⟩
end
end K4

namespace K4
open PySem PySem.Spec PyProof.Rows L2 RZ L5 XX
section
variable {X : Cx} {W : WX}
theorem takes_len (tk : Takes X W) : Takes X (fun cls d σ H => σ.length = X.N.length → W cls d σ H) := fun u s' x => by
  obtain ⟨a, B, sI, pins', σ', H', cls, d, e, J, nb, up, sky, na, os, ag, wish⟩ := x
  exact tk u s' ⟨a, B, sI, pins', σ', H', cls, d, e, J, nb, up, sky, na, os, ag, wish J.len⟩
/-! ### _law_told(lambda: ..) -/
def Mix (K : PySem.W.Frag) (CP CM CR : Addr) (Q : VK) : XK := fun cls d H' =>
  (cls = .ref CP ∧ ∀ r, H' r = none → Q (.ref r) (upd H' r (.tup [.str "refused", .str "product"]))) ∨
  (cls = .ref CM ∧ ∃ dd v, d = some dd ∧ H' dd = some (.xd [("most", v)]) ∧ ∀ r, H' r = none → Q (.ref r) (upd H' r (.tup [.str "refused", .str "many", v]))) ∨
  (cls = .ref CR ∧ ∃ dd v, d = some dd ∧ H' dd = some (.xd [("reason", v)]) ∧ ∀ r, H' r = none → Q (.ref r) (upd H' r (.tup [.str "refused", .str "reason", v])))
def TTold3 (K : PySem.W.Frag) (CP CM CR : Addr) : (XK → Hp → VK → Prop) → Hp → VK → Prop := fun tl H Q => tl (Mix K CP CM CR Q) H Q
theorem told_gives3 (T : Txt X.K X.mg) {g : Addr} {cdg : Value} {q : Str} :
    LamX.GivesTo X N_w_told "_law_told" (defScope s_w_told) g cdg (defBody s_w_told) "_law_call" q (TTold3 X.K T.C_InvalidProduct T.C_TooMany T.C_Refused) := by
  intro f c' s H Q tl act hc h
  refine ⟨_, pss_one (ps_try_mix (X := (cxOf C8.CX0 X.prog X.w X.K X.mg X.base N_w_told "_law_told" (defScope s_w_told) g cdg X.A X.stack s H C8.E0).nox)
      (l := [⟨.ref T.C_InvalidProduct, none, fun a cls d => _⟩, ⟨.ref T.C_TooMany, some 1, fun a cls d => _⟩, ⟨.ref T.C_Refused, some 1, fun a cls d => _⟩]) (out := fun _ _ _ _ => False)
      (tb := fun W D σ H => ∃ Ech : XK, (∀ cls d σ' H', Ech cls d H' → σ'.length = N_w_told.length → W cls d σ' H') ∧ σ[0]? = some (some (.ref f)) ∧ H c' = some (LamX.CodeO c' q) ∧ tl Ech H D.rt)
      rfl rfl sc_w_told.nd LamX.takes0 (fun W pn xe tk _ => ?_)
      (.cons ⟨rfl, by decide, .inl T.g_InvalidProduct⟩ True.intro (fun a oe cls d pn hz hf => pss_one (ps_ret (pe_tup (pa_cons pe_str (pa_cons pe_str pa_nil)))))
        (.cons ⟨rfl, by decide, .inl T.g_TooMany⟩ ⟨rfl, rfl⟩ (fun a oe cls d pn hz hf => pss_one (ps_ret (pe_tup (pa_cons pe_str (pa_cons pe_str (pa_cons (pe_xf (X := (cxOf C8.CX0 X.prog X.w X.K X.mg X.base N_w_told "_law_told" (defScope s_w_told) g cdg X.A X.stack s H C8.E0).nox) T.x_TooMany T.n_TooMany hz hf (pv 1)) pa_nil))))))
          (.cons ⟨rfl, by decide, .inl T.g_Refused⟩ ⟨rfl, rfl⟩ (fun a oe cls d pn hz hf => pss_one (ps_ret (pe_tup (pa_cons pe_str (pa_cons pe_str (pa_cons (pe_xf (X := (cxOf C8.CX0 X.prog X.w X.K X.mg X.base N_w_told "_law_told" (defScope s_w_told) g cdg X.A X.stack s H C8.E0).nox) T.x_Refused T.n_Refused hz hf (pv 1)) pa_nil)))))) .nil)))), ?_⟩
  · refine ⟨fun pins s' σ H' D I h' => ?_⟩
    obtain ⟨Ech, hW, h1, h2, h3⟩ := h'
    exact (pss_one (ps_ret (act _ pn xe Ech _ _ (takes_len tk) hW))).run pins s' σ H' D I ⟨h1, h2, h3⟩
  · refine ⟨Mix X.K T.C_InvalidProduct T.C_TooMany T.C_Refused Q, fun cls d σ' H' hm hl => ?_, rfl, hc, h⟩
    have set1 : ∀ a : Addr, (σ'.set 1 (some (V.ref a)))[1]? = some (some (V.ref a)) := fun a => by
      have hl2 : σ'.length = 2 := hl
      rw [List.getElem?_set_self (by omega)]
    rcases hm with ⟨rfl, q⟩ | ⟨rfl, dd, v, rfl, hd, q⟩ | ⟨rfl, dd, v, rfl, hd, q⟩
    · exact ⟨true, T.h_InvalidProduct_InvalidProduct, fun _ a na => ⟨by show 2 ≤ sizeLine; decide, q⟩, fun z => nomatch z⟩
    · refine ⟨false, T.h_TooMany_InvalidProduct, fun z => (nomatch z), fun _ => ⟨true, T.h_TooMany_TooMany, fun _ a na => ?_, fun z => nomatch z⟩⟩
      exact ⟨.ref a, set1 a, rfl, rfl, dd, _, v, rfl, hd, rfl, by show 3 ≤ sizeLine; decide, q⟩
    · refine ⟨false, T.h_Refused_InvalidProduct, fun z => (nomatch z), fun _ => ⟨false, T.h_Refused_TooMany, fun z => (nomatch z), fun _ => ⟨true, T.h_Refused_Refused, fun _ a na => ?_, fun z => nomatch z⟩⟩⟩
      exact ⟨.ref a, set1 a, rfl, rfl, dd, _, v, rfl, hd, rfl, by show 3 ≤ sizeLine; decide, q⟩
end
end K4

namespace K4
open PySem PySem.Spec PyProof.Rows L2 RZ L5 XX
section
variable {P : Program} {w : World} {K : PySem.W.Frag} {mg : Str → Option Value} {base : Heap}
/-! ### _law_divides, _law_is -/
theorem eqv_nil_ints (l : List Int) : PyData.eqv (.list (l.map PyData.int)) (.list []) = l.isEmpty := by
  cases l with
  | nil => simp [PyData.eqv, PyData.eqvAll]
  | cons i l => simp [PyData.eqv, PyData.eqvAll]
theorem dp_ints {H : Hp} : ∀ l : List Int, DpAll K H (l.map V.int) (l.map PyData.int)
  | [] => .nil
  | i :: l => .cons (.int i) (dp_ints l)
theorem can_ints : ∀ l : List Int, PyData.canLayAll0 (l.map PyData.int) = true ∧ PyData.depthAll (l.map PyData.int) = 0
  | [] => by simp [PyData.canLayAll0, PyData.depthAll]
  | i :: l => by
    have h := can_ints l
    simp only [List.map_cons, PyData.canLayAll0, PyData.depthAll, h.1, h.2, PyData.canLay0, PyData.depth]
    simp
theorem shaped_intsL (l : List Int) : SeqAt.shaped (.list (l.map PyData.int)) = true := by
  have h := can_ints l
  show (PyData.canLay0 (.list (l.map PyData.int)) && decide (PyData.depth (.list (l.map PyData.int)) ≤ 64)) = true
  simp only [PyData.canLay0, PyData.depth, h.1, h.2]
  decide
theorem shaped_intsT (l : List Int) : SeqAt.shaped (.tuple (l.map PyData.int)) = true := by
  have h := can_ints l
  show (PyData.canLay0 (.tuple (l.map PyData.int)) && decide (PyData.depth (.tuple (l.map PyData.int)) ≤ 64)) = true
  simp only [PyData.canLay0, PyData.depth, h.1, h.2]
  decide
theorem shaped_nil : SeqAt.shaped (.list []) = true := shaped_intsL []
def sp_div (K : PySem.W.Frag) : Sp := fun vs H Q _ => ∃ (p r : Addr) (t u : List Nat), vs = [.ref p, .ref r] ∧ SqT K H p (nv t) ∧ SqT K H r (nv u) ∧ u.length = t.length ∧ t.length ≤ 8 ∧ ∀ H', Same H H' → Q (.bl (fitB t u)) H'
theorem ok_div (T : Txt K mg) : FnOk P w K mg base CX0 1 T.a_w_divides T.d_w_divides ["_law_one", "_law_other"] (sp_div K) := by
  refine T.F_w_divides.ok sc_w_divides (fun vs H Q E h => ?_) (fun cdv A outer s H vs Q E hr h => ?_)
  · obtain ⟨p, r, t, u, rfl, _⟩ := h
    rfl
  · obtain ⟨p, r, t, u, rfl, hT, hU, hl, h8, q⟩ := h
    refine ⟨_, pss_one (ps_ret (pe_cmpR (op_eqD hr.units)
      (pe_lc (own := [("_law_at", 2)]) (g := gName 2) rfl sc_w_divides.nd (pi_range1 rfl T.z_range (pa_cons (pe_callB call_len_seq (by rfl) T.z_len boot_len (pa_cons (pv 0) pa_nil)) pa_nil)) (blkOk_by (own := [("_law_at", 2)]) (N := N_w_divides) (sc := defScope s_w_divides) (by decide +kernel))
        (fun _ _ _ _ _ => pg_name (i := 2) sc_w_divides.nd rfl (Or.inl rfl)) (fun _ _ _ _ _ => pts_one (pt_cmpR op_gt (pe_ix (show IxR _ (rIxT K) from ix_tup) (pv 0) (pv 2) (fun _ _ => rfl)) (pe_ix (show IxR _ (rIxT K) from ix_tup) (pv 1) (pv 2) (fun _ _ => rfl)) (nomark _)))
        (fun _ _ _ _ _ => pv 2))
      (pe_lst pa_nil) (nomark _))), ?_⟩
    refine ⟨_, rfl, p, _, rfl, .inr hT, _, rfl, by rw [nv_len]; omega, by rw [nv_len]; omega, fun D hD => ?_⟩
    have s1 : Same H (upd H D (.lst [])) := same_new hD _
    refine lc_range (lo := 0) (n := (((nv t).length : Nat) : Int).toNat) (fun i H' => ∃ acc : List Int, Same H H' ∧ H' D = some (.lst (acc.map V.int)) ∧ acc.length ≤ i ∧ acc.isEmpty = ((fitL t u).take i).all id) ⟨[], s1, upd_same, Nat.le_refl _, rfl⟩ (fun i H' hi h => ?_) (fun H' h => ?_)
    · obtain ⟨acc, sm, eD, hz, he⟩ := h
      have hlt : i < t.length := by rw [nv_len] at hi; omega
      have hlu : i < u.length := by omega
      have g1 : atI (nv t) (0 + ((i : Nat) : Int)) = some (.int ((t.getD i 0 : Nat) : Int)) := by rw [Int.zero_add]; exact nv_at (getD_at hlt)
      have g2 : atI (nv u) (0 + ((i : Nat) : Int)) = some (.int ((u.getD i 0 : Nat) : Int)) := by rw [Int.zero_add]; exact nv_at (getD_at hlu)
      have st := all_take_step (fit_get (getD_at hlt) (getD_at hlu))
      refine ⟨rfl, _, rfl, _, rfl, p, _, _, _, rfl, rfl, same_sqt sm hT, g1, _, rfl, _, rfl, r, _, _, _, rfl, rfl, same_sqt sm hU, g2, _, _, rfl, rfl, _, rfl, ite2 (fun c => ?_) (fun c => ?_)⟩
      · have c' := of_decide_eq_true c
        refine ⟨_, rfl, _, eD, by rw [List.length_map]; exact sizeK (by omega), acc ++ [0 + ((i : Nat) : Int)], same_updL sm hD, ?_, ?_, ?_⟩
        · rw [upd_same, List.map_append]
          rfl
        · rw [List.length_append]
          exact Nat.succ_le_succ hz
        · rw [st, decide_eq_false (show ¬ t.getD i 0 ≤ u.getD i 0 by omega), Bool.and_false]
          cases acc <;> rfl
      · have c' : ¬ ((t.getD i 0 : Nat) : Int) > ((u.getD i 0 : Nat) : Int) := fun z => c (decide_eq_true z)
        refine ⟨acc, sm, eD, Nat.le_succ_of_le hz, ?_⟩
        rw [st, he, decide_eq_true (show t.getD i 0 ≤ u.getD i 0 by omega), Bool.and_true]
    · obtain ⟨acc, sm, eD, hz, he⟩ := h
      refine ⟨by show 0 ≤ sizeLine; exact Nat.zero_le _, fun y hy => ?_⟩
      have sy := same_new hy (.lst [])
      refine ⟨_, _, .lst (SqL.of (sy _ _ eD)) (dp_ints acc), .lst (SqL.of upd_same) .nil, shaped_intsL acc, shaped_nil, ?_⟩
      have ef : acc.isEmpty = fitB t u := by
        rw [he]
        show List.all _ _ = List.all _ _
        rw [List.take_of_length_le (by rw [List.length_zipWith, nv_len]; omega)]
      rw [eqv_nil_ints, ef]
      exact q _ (sm.trans sy)
abbrev inR (i : Int) : Bool := decide (0 ≤ i) && decide (i ≤ 60)
theorem are_fm (os : List (Option Int)) : (os.all fun o => inB o 0 60) = (decide ((os.filterMap id).length = os.length) && ((os.filterMap id).filter fun i => !inR i).isEmpty) := by
  induction os with
  | nil => rfl
  | cons o os ih =>
    have hle : (os.filterMap id).length ≤ os.length := List.length_filterMap_le id os
    rw [List.all_cons, ih]
    cases o with
    | none =>
      show (false && _) = _
      rw [Bool.false_and, show List.filterMap id (none :: os) = List.filterMap id os from rfl, List.length_cons, decide_eq_false (by omega), Bool.false_and]
    | some i =>
      rw [show List.filterMap id (some i :: os) = i :: List.filterMap id os from rfl, List.length_cons, List.length_cons, List.filter_cons]
      show (inR i && _) = _
      cases inR i with
      | true =>
        rw [Bool.true_and, if_neg (by decide)]
        congr 1
        exact decide_eq_decide.mpr (by omega)
      | false =>
        rw [Bool.false_and, if_pos (by decide), List.isEmpty_cons, Bool.and_false]
def sp_is (K : PySem.W.Frag) : Sp := fun vs H Q _ => ∃ n : Int, ∃ v d, vs = [.int n, v] ∧ Va K H v d ∧ ∀ H', Same H H' → Q (.bl (areB d n 60)) H'
theorem ok_is (T : Txt K mg) : FnOk P w K mg base CX0 1 T.a_w_is T.d_w_is ["_law_letters", "_law_value"] (sp_is K) := by
  refine T.F_w_is.ok sc_w_is (fun vs H Q E h => ?_) (fun cdv A outer s H vs Q E hr h => ?_)
  · obtain ⟨n, v, d, rfl, _⟩ := h
    rfl
  · obtain ⟨n, v, d, rfl, hv, q⟩ := h
    refine ⟨_, pss_cons (ps_if (PW.pt (pw_or (pt_not (pt_val (pe_callB call_isi (by rfl) T.z_isinstance boot_isinstance (pa_cons (pv 1) (pa_cons (pe_bltn (v := .ty "tuple") (by rfl) T.z_tuple boot_tuple rfl) pa_nil)))))
        (pw_or1 (pt_cmpR op_ne (pe_callB call_len_seq (by rfl) T.z_len boot_len (pa_cons (pv 1) pa_nil)) (pv 0) (nomark _))))) (pss_one (ps_ret pe_bl)) pss_nil)
      (pss_cons (ps_setLc (i := 2) (own := [("_law_one", 3)]) (g := gName 3) rfl sc_w_is.nd rfl rfl (sw_true rfl rfl rfl (by decide +kernel)) (pi_tup (pv 1)) (blkOk_by (own := [("_law_one", 3)]) (N := N_w_is) (sc := defScope s_w_is) (by decide +kernel))
          (fun _ _ _ _ _ => pg_name (i := 3) sc_w_is.nd rfl (Or.inl rfl))
          (fun _ _ _ _ _ => pts_one (PW.pt (pw_and (pt_val (pe_callB (show CallR _ _ (rIsi K) from call_isi) (by rfl) T.z_isinstance boot_isinstance (pa_cons (pv 3) (pa_cons (pe_bltn (v := .ty "int") (by rfl) T.z_int boot_int rfl) pa_nil))))
            (pw_and1 (pt_not (pt_val (pe_callB (show CallR _ _ (rIsi K) from call_isi) (by rfl) T.z_isinstance boot_isinstance (pa_cons (pv 3) (pa_cons (pe_bltn (v := .ty "bool") (by rfl) T.z_bool boot_bool rfl) pa_nil)))))))))
          (fun _ _ _ _ _ => pv 3))
      (pss_one (ps_ret (pe_and (pe_cmpR op_eq (pe_callB call_len_seq (by rfl) T.z_len boot_len (pa_cons (pv 2) pa_nil)) (pv 0) (nomark _))
        (pe_one (pe_cmpR (op_eqD hr.units)
          (pe_lc (own := [("_law_one", 3)]) (g := gName 3) rfl sc_w_is.nd (pi_list (pv 2)) (blkOk_by (own := [("_law_one", 3)]) (N := N_w_is) (sc := defScope s_w_is) (by decide +kernel))
            (fun _ _ _ _ _ => pg_name (i := 3) sc_w_is.nd rfl (Or.inl rfl))
            (fun _ _ _ _ _ => pts_one (pt_not (pt_chain op_le op_le pe_int (pv 3) pe_int)))
            (fun _ _ _ _ _ => pv 3))
          (pe_lst pa_nil) (nomark _))))))), ?_⟩
    obtain ⟨t, ty, et⟩ := hv.isi
    refine ⟨_, rfl, _, _, _, _, _, rfl, .ty _, ty, et, _, rfl, ?_⟩
    cases d with
    | none => exact iteT (q H (Same.refl H))
    | some os =>
      obtain ⟨p, xs, rfl, hT, hE, hz⟩ := hv.get
      refine iteF ⟨_, rfl, p, _, rfl, .inr hT, _, rfl, ?_⟩
      have hlen := hE.length
      refine ⟨rfl, _, rfl, ite2 (fun c => ?_) (fun c => ?_)⟩
      · have c' : ¬ ((os.length : Nat) : Int) = n := fun z => by
          rw [hlen, z, decide_eq_true rfl] at c
          cases c
        have e1 : areB (some os) n 60 = false := by
          show (decide _ && _) = false
          rw [decide_eq_false c']
          rfl
        have := q H (Same.refl H)
        rw [e1] at this
        exact this
      · have c' : ((os.length : Nat) : Int) = n := by
          by_cases z : ((os.length : Nat) : Int) = n
          · exact z
          · exact absurd (by rw [hlen, decide_eq_false (fun y => z (V.int.inj y))]; rfl) c
        have ea : areB (some os) n 60 = (decide ((os.filterMap id).length = os.length) && ((os.filterMap id).filter fun i => !inR i).isEmpty) := by
          rw [← are_fm]
          show (decide _ && _) = _
          rw [decide_eq_true c', Bool.true_and]
        rw [ea] at q
        refine ⟨_, rfl, p, rfl, ⟨_, hT⟩, fun D hD => ?_⟩
        have s1 : Same H (upd H D (.lst [])) := same_new hD _
        refine lc_tup (K := K) (a := p) (xs := xs) (fun i H' => Same H H' ∧ H' D = some (.lst (((os.take i).filterMap id).map V.int))) ⟨s1, upd_same⟩ (fun i H' _ h => same_sqt h.1 hT) (fun i x H' hi h => ?_) (fun H' h => ?_)
        · obtain ⟨sm, eD⟩ := h
          obtain ⟨o, ho, hx⟩ := hE.get hi
          have hlt : i < xs.length := (List.getElem?_eq_some_iff.mp hi).1
          obtain ⟨ty1, bi, bb, tx, e1, e2, e3, e4⟩ := (hx.same sm).isi
          have skip : o = none → (os.take (i + 1)).filterMap id = (os.take i).filterMap id := fun z => by
            rw [take_more ho, List.filterMap_append, z]
            exact List.append_nil _
          refine ⟨rfl, _, rfl, _, _, _, _, bi, rfl, .ty _, tx, e1, bi, rfl, ?_⟩
          cases bi with
          | false =>
            refine iteF (iteF ⟨sm, ?_⟩)
            rw [skip (by cases o with | none => rfl | some j => cases e3)]
            exact eD
          | true =>
            refine iteT ⟨_, rfl, _, _, _, _, bb, rfl, .ty _, tx, e2, bb, rfl, ?_⟩
            cases bb with
            | true =>
              refine iteF ⟨sm, ?_⟩
              rw [skip (by cases o with | none => rfl | some j => cases e3)]
              exact eD
            | false =>
              refine iteT ⟨_, rfl, _, eD, by rw [List.length_map]; exact sizeK (by have := List.length_filterMap_le id (os.take i); rw [List.length_take] at this; omega), same_updL sm hD, ?_⟩
              cases o with
              | none => cases e3
              | some j =>
                obtain rfl := e4 j rfl
                rw [upd_same, take_more ho, List.filterMap_append, List.map_append]
                rfl
        · obtain ⟨sm, eD⟩ := h
          rw [hlen, List.take_length] at eD
          have hle := List.length_filterMap_le id os
          generalize hL : os.filterMap id = L at eD hle q
          refine ⟨_, rfl, D, _, rfl, .inl (SqL.of eD), _, rfl, rfl, _, rfl, ?_⟩
          have el : (V.int (((L.map V.int).length : Nat) : Int) = V.int n) ↔ L.length = os.length := by
            rw [List.length_map]
            exact ⟨fun z => by have := V.int.inj z; omega, fun z => by rw [z, c']⟩
          refine ite2 (fun c2 => ?_) (fun c2 => ?_)
          · have c2' : L.length = os.length := el.mp (of_decide_eq_true c2)
            rw [decide_eq_true c2', Bool.true_and] at q
            refine ⟨_, rfl, D, rfl, ⟨_, SqL.of eD⟩, fun D2 hD2 => ?_⟩
            have s2 : Same H' (upd H' D2 (.lst [])) := same_new hD2 _
            refine lc_list (K := K) (a := D) (xs := L.map V.int) (fun i H2 => Same H' H2 ∧ H2 D2 = some (.lst (((L.take i).filter fun i => !inR i).map V.int))) ⟨s2, upd_same⟩ (fun i H2 _ h => SqL.of (h.1 _ _ eD)) (fun i x H2 hi h => ?_) (fun H2 h => ?_)
            · obtain ⟨sm2, eD2⟩ := h
              rw [List.getElem?_map, Option.map_eq_some_iff] at hi
              obtain ⟨j, hj, rfl⟩ := hi
              have hlt : i < L.length := (List.getElem?_eq_some_iff.mp hj).1
              have keep : inR j = true → (L.take (i + 1)).filter (fun i => !inR i) = (L.take i).filter fun i => !inR i := fun z => by
                rw [take_more hj, List.filter_append, List.filter_cons, if_neg (by rw [z]; decide)]
                exact List.append_nil _
              have add : inR j = false → (L.take (i + 1)).filter (fun i => !inR i) = ((L.take i).filter fun i => !inR i) ++ [j] := fun z => by
                rw [take_more hj, List.filter_append, List.filter_cons, if_pos (by rw [z]; rfl)]
                rfl
              have go : inR j = false → ∃ acc, H2 D2 = some (.lst acc) ∧ acc.length < sizeLine ∧ Same H' (upd H2 D2 (.lst (acc ++ [V.int j]))) ∧ (upd H2 D2 (.lst (acc ++ [V.int j]))) D2 = some (.lst (((L.take (i + 1)).filter fun i => !inR i).map V.int)) := fun z => by
                refine ⟨_, eD2, ?_, same_updL sm2 hD2, ?_⟩
                · rw [List.length_map]
                  have := List.length_filter_le (fun i => !inR i) (L.take i)
                  rw [List.length_take] at this
                  exact sizeK (by omega)
                · rw [upd_same, add z, List.map_append]
                  rfl
              refine ⟨rfl, _, rfl, _, _, rfl, rfl, _, rfl, ite2 (fun c3 => ?_) (fun c3 => ?_)⟩
              · have c3' := of_decide_eq_true c3
                refine ⟨_, _, rfl, rfl, _, rfl, ite2 (fun c4 => ?_) (fun c4 => ?_)⟩
                · have hn : inR j = false := by
                    have : ¬ j ≤ 60 := fun z => by rw [decide_eq_true z] at c4; cases c4
                    show (_ && decide _) = false
                    rw [decide_eq_false this, Bool.and_false]
                  exact ⟨_, rfl, go hn⟩
                · have hn : inR j = true := by
                    have : j ≤ 60 := by
                      by_cases z : j ≤ 60
                      · exact z
                      · exact absurd (by rw [decide_eq_false z]; rfl) c4
                    show (decide _ && decide _) = true
                    rw [decide_eq_true c3', decide_eq_true this]
                    rfl
                  exact ⟨sm2, by rw [keep hn]; exact eD2⟩
              · have hn : inR j = false := by
                  have : ¬ 0 ≤ j := fun z => c3 (decide_eq_true z)
                  show (decide _ && _) = false
                  rw [decide_eq_false this, Bool.false_and]
                exact ⟨_, rfl, iteT ⟨_, rfl, go hn⟩⟩
            · obtain ⟨sm2, eD2⟩ := h
              rw [List.length_map, List.take_length] at eD2
              refine ⟨by show 0 ≤ sizeLine; exact Nat.zero_le _, fun y hy => ?_⟩
              have sy := same_new hy (.lst [])
              refine ⟨_, _, .lst (SqL.of (sy _ _ eD2)) (dp_ints _), .lst (SqL.of upd_same) .nil, shaped_intsL _, shaped_nil, ?_⟩
              rw [eqv_nil_ints]
              exact q _ (sm.trans (sm2.trans sy))
          · have c2' : ¬ L.length = os.length := fun z => c2 (decide_eq_true (el.mpr z))
            rw [decide_eq_false c2', Bool.false_and] at q
            exact q _ sm
end
end K4

namespace K4
open PySem PySem.Spec PyProof.Rows L2 RZ L5 XX
section
variable {P : Program} {w : World} {K : PySem.W.Frag} {mg : Str → Option Value} {base : Heap}
/-! ### _law_product, _law_great -/
theorem bar_updL {p D : Addr} {o : HO} {H H' : Hp} (b : Bar p H H') (hD : H D = none) : Bar p H (upd H' D o) := fun c u n h => by
  rw [upd_ne (ne_of_none h hD)]
  exact b c u n h
def sp_great (K : PySem.W.Frag) (m : List Int) : Sp := fun vs H Q _ => ∃ (p : Addr) (l : Nat) (g x c : Int), vs = [.ref p, .int ((l : Nat) : Int)] ++ m.map V.int ∧ H p = some (pailO g x c) ∧ 1 ≤ l ∧ l ≤ 8 ∧
  ∀ H' z t g x c, Bar p H H' → H' p = some (pailO g x c) → SqT K H' z (nv t) → t.length = l → (∀ e ∈ t, e ≤ 60) → Q (.ref z) H'
theorem nat_of {i : Int} (h0 : 0 ≤ i) : ∃ n : Nat, i = ((n : Nat) : Int) := ⟨i.toNat, by omega⟩
theorem ok_great (T : Txt K mg) : FnOk P w K mg base CX0 3 T.a_w_great T.d_w_great ["_law_pail_here", "_law_letters"] (sp_great K []) := by
  refine T.F_w_great.ok sc_w_great (fun vs H Q E h => ?_) (fun cdv A outer s H vs Q E hr h => ?_)
  · obtain ⟨p, l, g, x, c, rfl, _⟩ := h
    rfl
  · obtain ⟨p, l, g, x, c, rfl, hp, h1, h8, q⟩ := h
    refine ⟨_, pss_one (ps_ret (pe_callTy call_tuple_of (by rfl) T.z_tuple boot_tuple (pa_cons
      (pe_lc (own := [("_law_at", 2)]) (g := gName 2) (tt := tYes) rfl sc_w_great.nd (pi_range1 rfl T.z_range (pa_cons (pv 1) pa_nil)) (blkOk_by (own := [("_law_at", 2)]) (N := N_w_great) (sc := defScope s_w_great) (by decide +kernel))
        (fun _ _ _ _ _ => pg_name (i := 2) sc_w_great.nd rfl (Or.inl rfl)) (fun _ _ _ _ _ => pts_nil)
        (fun _ _ _ _ _ => pe_call (ok_some T) hr (by rfl) T.m_w_some T.F_w_some.kp T.b_w_some .nil pass0 (pa_cons (pv 0) (pa_cons
          (pe_lst (pa_cons pe_int (pa_cons pe_int (pa_cons pe_int (pa_cons pe_int (pa_cons pe_int (pa_cons pe_int (pa_cons pe_int (pa_cons
            (pe_call (ok_dip T) (hr.mono (by decide)) (by rfl) T.m_w_dipped T.F_w_dipped.kp T.b_w_dipped .nil pass0 (pa_cons (pv 0) (pa_cons pe_int pa_nil))) pa_nil))))))))) pa_nil)))) pa_nil))), ?_⟩
    refine ⟨_, rfl, _, rfl, by omega, by omega, fun D hD => ?_⟩
    have hDp : D ≠ p := fun z => by rw [z, hp] at hD; cases hD
    refine lc_range (lo := 0) (n := ((l : Nat) : Int).toNat) (fun i H' => ∃ (g x c : Int) (t : List Nat), Bar p H H' ∧ H' p = some (pailO g x c) ∧ H' D = some (.lst (nv t)) ∧ t.length = i ∧ ∀ e ∈ t, e ≤ 60)
      ⟨g, x, c, [], Bar.same (same_new hD _), by rw [upd_ne (Ne.symm hDp)]; exact hp, upd_same, rfl, fun _ h => nomatch h⟩ (fun i H' hi h => ?_) (fun H' h => ?_)
    · obtain ⟨g1, x1, c1, t, sb, hp1, eD, hz, ht⟩ := h
      refine ⟨rfl, _, rfl, _, rfl, p, _, g1, x1, c1, rfl, hp1, by omega, by omega, fun g2 x2 c2 r hr0 hr1 => ?_⟩
      refine ⟨by show 8 ≤ sizeLine; decide, fun y hy => ?_⟩
      have hyp : y ≠ p := fun z => by rw [z, upd_same] at hy; cases hy
      have hyD : D ≠ y := fun z => by rw [← z, upd_ne hDp, eD] at hy; cases hy
      have hy1 : H' y = none := by rw [upd_ne hyp] at hy; exact hy
      refine ⟨p, y, _, g2, x2, c2, rfl, by rw [upd_ne (Ne.symm hyp), upd_same], hyp, SqL.of upd_same, by simp, by simp, fun g3 x3 c3 v hv => ?_⟩
      obtain ⟨n, rfl, hn⟩ : ∃ n : Nat, v = .int ((n : Nat) : Int) ∧ n ≤ 60 := by
        obtain ⟨m, rfl⟩ := nat_of hr0
        simp only [List.mem_cons, List.not_mem_nil, or_false] at hv
        rcases hv with rfl | rfl | rfl | rfl | rfl | rfl | rfl | rfl
        · exact ⟨0, rfl, by omega⟩
        · exact ⟨1, rfl, by omega⟩
        · exact ⟨2, rfl, by omega⟩
        · exact ⟨30, rfl, by omega⟩
        · exact ⟨31, rfl, by omega⟩
        · exact ⟨59, rfl, by omega⟩
        · exact ⟨60, rfl, by omega⟩
        · exact ⟨m, rfl, by omega⟩
      have eD' : (upd (upd (upd H' p (pailO g2 x2 c2)) y (.lst [V.int 0, V.int 1, V.int 2, V.int 30, V.int 31, V.int 59, V.int 60, V.int r])) p (pailO g3 x3 c3)) D = some (.lst (nv t)) := by
        rw [upd_ne hDp, upd_ne hyD, upd_ne hDp]
        exact eD
      refine ⟨_, eD', by rw [nv_len]; exact sizeK (by omega), g3, x3, c3, t ++ [n], ?_, ?_, ?_, by rw [List.length_append, hz]; rfl, fun e he => ?_⟩
      · refine bar_updL ?_ hD
        exact sb.trans (Bar.upd.trans ((Bar.same (same_new (by rw [upd_ne hyp]; exact hy1) _)).trans Bar.upd))
      · rw [upd_ne (Ne.symm hDp), upd_same]
      · rw [upd_same, nv_app]
        rfl
      · rcases List.mem_append.mp he with he | he
        · exact ht e he
        · rw [List.mem_singleton.mp he]
          exact hn
    · obtain ⟨g1, x1, c1, t, sb, hp1, eD, hz, ht⟩ := h
      refine ⟨D, _, rfl, .inl ⟨SqL.of eD, fun z hz' => ?_⟩⟩
      exact q _ z t g1 x1 c1 (sb.trans (Bar.same (same_new hz' _))) (same_new hz' _ _ _ hp1) (SqT.of upd_same) (by omega) ht
theorem ok_product (T : Txt K mg) : FnOk P w K mg base CX0 3 T.a_w_product T.d_w_product ["_law_pail_here", "_law_letters", "_law_most"] (sp_great K [8]) := by
  refine T.F_w_product.ok sc_w_product (fun vs H Q E h => ?_) (fun cdv A outer s H vs Q E hr h => ?_)
  · obtain ⟨p, l, g, x, c, rfl, _⟩ := h
    rfl
  · obtain ⟨p, l, g, x, c, rfl, hp, h1, h8, q⟩ := h
    refine ⟨_, pss_cons (ps_set (i := 3) sc_w_product.nd rfl (Or.inr rfl) (pe_call (ok_some T) hr (by rfl) T.m_w_some T.F_w_some.kp T.b_w_some .nil pass0 (pa_cons (pv 0) (pa_cons
          (pe_lst (pa_cons pe_int (pa_cons pe_int (pa_cons pe_int (pa_cons (pv 2) pa_nil))))) pa_nil))))
      (pss_one (ps_ret (pe_callTy call_tuple_of (by rfl) T.z_tuple boot_tuple (pa_cons
      (pe_lc (own := [("_law_at", 4)]) (g := gName 4) (tt := tYes) rfl sc_w_product.nd (pi_range1 rfl T.z_range (pa_cons (pv 1) pa_nil)) (blkOk_by (own := [("_law_at", 4)]) (N := N_w_product) (sc := defScope s_w_product) (by decide +kernel))
        (fun _ _ _ _ _ => pg_name (i := 4) sc_w_product.nd rfl (Or.inl rfl)) (fun _ _ _ _ _ => pts_nil)
        (fun _ _ _ _ _ => pe_op op_mul (pe_call (ok_dip T) (hr.mono (by decide)) (by rfl) T.m_w_dipped T.F_w_dipped.kp T.b_w_dipped .nil pass0 (pa_cons (pv 0) (pa_cons (pe_op op_add (pe_callB (call_min2 rfl) (by rfl) T.z_min (by decide +kernel) (pa_cons (pv 3) (pa_cons (pv 2) pa_nil))) pe_int) pa_nil)))
          (pe_callTy call_int1 (by rfl) T.z_int boot_int (pa_cons (pe_cmpR op_gt (pe_call (ok_dip T) (hr.mono (by decide)) (by rfl) T.m_w_dipped T.F_w_dipped.kp T.b_w_dipped .nil pass0 (pa_cons (pv 0) (pa_cons pe_int pa_nil))) pe_int (nomark _)) pa_nil)))) pa_nil)))), ?_⟩
    refine ⟨_, rfl, _, rfl, by show 4 ≤ sizeLine; decide, fun y hy => ?_⟩
    have hyp : y ≠ p := fun z => by rw [z, hp] at hy; cases hy
    have sy := same_new hy (.lst [V.int 1, V.int 2, V.int 2, V.int 8])
    refine ⟨p, y, _, g, x, c, rfl, sy _ _ hp, hyp, SqL.of upd_same, by simp, by simp, fun g2 x2 c2 v hv => ?_⟩
    obtain ⟨n, rfl, hn1, hn⟩ : ∃ n : Int, v = .int n ∧ 1 ≤ n ∧ n ≤ 8 := by
      simp only [List.mem_cons, List.not_mem_nil, or_false] at hv
      rcases hv with rfl | rfl | rfl | rfl
      · exact ⟨1, rfl, by omega, by omega⟩
      · exact ⟨2, rfl, by omega, by omega⟩
      · exact ⟨2, rfl, by omega, by omega⟩
      · exact ⟨8, rfl, by omega, by omega⟩
    have sb0 : Bar p H (upd (upd H y (.lst [V.int 1, V.int 2, V.int 2, V.int 8])) p (pailO g2 x2 c2)) := (Bar.same sy).trans Bar.upd
    have hp0 : (upd (upd H y (.lst [V.int 1, V.int 2, V.int 2, V.int 8])) p (pailO g2 x2 c2)) p = some (pailO g2 x2 c2) := upd_same
    generalize (upd (upd H y (.lst [V.int 1, V.int 2, V.int 2, V.int 8])) p (pailO g2 x2 c2)) = H0 at sb0 hp0
    refine ⟨_, rfl, _, rfl, by omega, by omega, fun D hD => ?_⟩
    have hDp : D ≠ p := fun z => by rw [z, hp0] at hD; cases hD
    refine lc_range (lo := 0) (n := ((l : Nat) : Int).toNat) (fun i H' => ∃ (g x c : Int) (t : List Nat), Bar p H0 H' ∧ H' p = some (pailO g x c) ∧ H' D = some (.lst (nv t)) ∧ t.length = i ∧ ∀ e ∈ t, e ≤ 60)
      ⟨g2, x2, c2, [], Bar.same (same_new hD _), by rw [upd_ne (Ne.symm hDp)]; exact hp0, upd_same, rfl, fun _ h => nomatch h⟩ (fun i H' hi h => ?_) (fun H' h => ?_)
    · obtain ⟨g1, x1, c1, t, sb, hp1, eD, hz, ht⟩ := h
      have hmin : 1 ≤ (if (8 : Int) < n then (8 : Int) else n) ∧ (if (8 : Int) < n then (8 : Int) else n) ≤ 8 := by
        split <;> omega
      refine ⟨rfl, _, rfl, _, rfl, _, rfl, _, _, rfl, _, _, rfl, rfl, p, _, g1, x1, c1, rfl, hp1, by omega, by omega, fun g3 x3 c3 r hr0 hr1 => ?_⟩
      refine ⟨_, rfl, p, _, g3, x3, c3, rfl, upd_same, by omega, by omega, fun g4 x4 c4 r2 hr2 hr3 => ?_⟩
      obtain ⟨m, rfl⟩ := nat_of hr0
      have eD' : (upd (upd H' p (pailO g3 x3 c3)) p (pailO g4 x4 c4)) D = some (.lst (nv t)) := by
        rw [upd_ne hDp, upd_ne hDp]
        exact eD
      have key : ∀ b : Nat, b ≤ 1 → ∃ acc, (upd (upd H' p (pailO g3 x3 c3)) p (pailO g4 x4 c4)) D = some (.lst acc) ∧ acc.length < sizeLine ∧ ∃ (g x c : Int) (t : List Nat), Bar p H0 (upd (upd (upd H' p (pailO g3 x3 c3)) p (pailO g4 x4 c4)) D (.lst (acc ++ [V.int (((m : Nat) : Int) * ((b : Nat) : Int))]))) ∧
          (upd (upd (upd H' p (pailO g3 x3 c3)) p (pailO g4 x4 c4)) D (.lst (acc ++ [V.int (((m : Nat) : Int) * ((b : Nat) : Int))]))) p = some (pailO g x c) ∧ (upd (upd (upd H' p (pailO g3 x3 c3)) p (pailO g4 x4 c4)) D (.lst (acc ++ [V.int (((m : Nat) : Int) * ((b : Nat) : Int))]))) D = some (.lst (nv t)) ∧ t.length = i + 1 ∧ ∀ e ∈ t, e ≤ 60 := fun b hb => by
        refine ⟨_, eD', by rw [nv_len]; exact sizeK (by omega), g4, x4, c4, t ++ [m * b], ?_, ?_, ?_, by rw [List.length_append, hz]; rfl, fun e he => ?_⟩
        · exact bar_updL (sb.trans (Bar.upd.trans Bar.upd)) hD
        · rw [upd_ne (Ne.symm hDp), upd_same]
        · rw [upd_same, nv_app]
          show _ = some (HO.lst (nv t ++ [V.int (((m * b : Nat)) : Int)]))
          rw [Int.natCast_mul]
        · rcases List.mem_append.mp he with he | he
          · exact ht e he
          · rw [List.mem_singleton.mp he]
            have : m ≤ 8 := by omega
            exact Nat.le_trans (Nat.mul_le_mul this hb) (by decide)
      refine ⟨_, _, rfl, rfl, .inr ⟨_, rfl, ?_⟩⟩
      obtain ⟨b, hb, eb⟩ : ∃ b : Nat, b ≤ 1 ∧ (if decide (0 < r2) = true then (1 : Int) else 0) = ((b : Nat) : Int) := by
        by_cases z : 0 < r2
        · exact ⟨1, Nat.le_refl _, if_pos (decide_eq_true z)⟩
        · exact ⟨0, by omega, if_neg (by rw [decide_eq_false z]; decide)⟩
      rw [eb]
      exact ⟨_, _, rfl, rfl, .inl ⟨by omega, by omega⟩, key b hb⟩
    · obtain ⟨g1, x1, c1, t, sb, hp1, eD, hz, ht⟩ := h
      refine ⟨D, _, rfl, .inl ⟨SqL.of eD, fun z hz' => ?_⟩⟩
      exact q _ z t g1 x1 c1 (sb0.trans (sb.trans (Bar.same (same_new hz' _)))) (same_new hz' _ _ _ hp1) (SqT.of upd_same) (by omega) ht
end
end K4

namespace K4
open PySem PySem.Spec PyProof.Rows L2 RZ L5 XX
section
variable {P : Program} {w : World} {K : PySem.W.Frag} {mg : Str → Option Value} {base : Heap}
/-! ### _law_near -/
theorem els_ints {H : Hp} : ∀ ys : List V, (∀ v ∈ ys, ∃ i : Int, v = .int i) → ∃ os, Els K H ys os
  | [], _ => ⟨[], .nil⟩
  | v :: ys, h => by
    obtain ⟨i, rfl⟩ := h v List.mem_cons_self
    obtain ⟨os, e⟩ := els_ints (H := H) ys fun u hu => h u (List.mem_cons_of_mem _ hu)
    exact ⟨_, .cons (.int i) e⟩
theorem els_cut {H : Hp} (t : List Nat) (lo hi : Option Int) : ∃ os, Els K H (cutV (nv t) lo hi) os := els_ints _ fun v hv => by
  unfold cutV at hv
  obtain ⟨n, _, rfl⟩ := List.mem_map.mp (List.mem_of_mem_drop (List.mem_of_mem_take hv))
  exact ⟨_, rfl⟩
theorem cut_len (t : List Nat) (lo hi : Option Int) : (cutV (nv t) lo hi).length ≤ t.length := by
  have := cutV_length (nv t) lo hi
  rw [nv_len] at this
  exact this
theorem El.updL {H : Hp} {D : Addr} {ys : List V} {o : HO} (hD : H D = some (.lst ys)) {v : V} {i : Option Int} (h : El K H v i) : El K (upd H D o) v i := by
  cases h with
  | int i => exact .int i
  | bl b => exact .bl b
  | non => exact .non
  | str x => exact .str x
  | tup h => exact .tup (sqt_updL hD h)
theorem Els.updL {H : Hp} {D : Addr} {ys : List V} {o : HO} (hD : H D = some (.lst ys)) : ∀ {vs : List V} {os : List (Option Int)}, Els K H vs os → Els K (upd H D o) vs os
  | _, _, .nil => .nil
  | _, _, .cons h t => .cons (h.updL hD) (Els.updL hD t)
def Tv (K : PySem.W.Frag) (H : Hp) (b : Addr) : Prop := ∃ xs os, SqT K H b xs ∧ Els K H xs os ∧ xs.length ≤ 1000
theorem Tv.same {H H' : Hp} {b : Addr} (s : Same H H') : Tv K H b → Tv K H' b := fun ⟨xs, os, h, e, l⟩ => ⟨xs, os, same_sqt s h, e.same s, l⟩
theorem Tv.updL {H : Hp} {D b : Addr} {ys : List V} {o : HO} (hD : H D = some (.lst ys)) : Tv K H b → Tv K (upd H D o) b := fun ⟨xs, os, h, e, l⟩ => ⟨xs, os, sqt_updL hD h, e.updL hD, l⟩
theorem Tv.va {H : Hp} {b : Addr} : Tv K H b → ∃ d, Va K H (.ref b) d := fun ⟨_, _, h, e, l⟩ => ⟨_, .tup h e l⟩
def sp_near (K : PySem.W.Frag) : Sp := fun vs H Q _ => ∃ (p a : Addr) (t : List Nat) (g x c : Int), vs = [.ref p, .ref a] ∧ H p = some (pailO g x c) ∧ SqT K H a (nv t) ∧ Prod60 t ∧
  ∀ H' z xs g x c, Bar p H H' → H' p = some (pailO g x c) → H' z = some (.lst xs) → xs.length ≤ 100 → (∀ v ∈ xs, ∃ d, Va K H' v d) → Q (.ref z) H'
theorem ok_near (T : Txt K mg) : FnOk P w K mg base CX0 2 T.a_w_near T.d_w_near ["_law_pail_here", "_law_one"] (sp_near K) := by
  refine T.F_w_near.ok sc_w_near (fun vs H Q E h => ?_) (fun cdv A outer s H vs Q E hr h => ?_)
  · obtain ⟨p, a, t, g, x, c, rfl, _⟩ := h
    rfl
  · obtain ⟨p, a, t, g, x, c, rfl, hp, hT, hq, q⟩ := h
    refine ⟨_, pss_cons (ps_set (i := 2) sc_w_near.nd rfl (Or.inr rfl) (pe_call (ok_dip T) hr (by rfl) T.m_w_dipped T.F_w_dipped.kp T.b_w_dipped .nil pass0 (pa_cons (pv 0) (pa_cons (pe_callB call_len_seq (by rfl) T.z_len boot_len (pa_cons (pv 1) pa_nil)) pa_nil))))
      (pss_cons (ps_setLc (i := 3) (own := [("_law_odd", 4)]) (g := gName 4) (tt := tYes) rfl sc_w_near.nd rfl rfl (sw_true rfl rfl rfl (by decide +kernel))
          (pi_tup (pe_tup (pa_cons (pe_un un_neg pe_int) (pa_cons pe_int (pa_cons pe_bl (pa_cons pe_non (pa_cons pe_str (pa_cons (pe_tup (pa_cons pe_int pa_nil)) (pa_cons (pe_op op_pow pe_int pe_int) (pa_cons pe_int (pa_cons pe_int pa_nil)))))))))))
          (blkOk_by (own := [("_law_odd", 4)]) (N := N_w_near) (sc := defScope s_w_near) (by decide +kernel))
          (fun _ _ _ _ _ => pg_name (i := 4) sc_w_near.nd rfl (Or.inl rfl)) (fun _ _ _ _ _ => pts_nil)
          (fun _ _ _ _ _ => pe_op (show OpR _ _ (rCatB K) from op_catB) (pe_op (show OpR _ _ (rCatB K) from op_catB) (pe_slice (show SlR _ (rSlB K) from sl_tupB) (pv 1) po_none (po_some (pv 2))) (pe_tup (pa_cons (pv 4) pa_nil)))
            (pe_slice (show SlR _ (rSlB K) from sl_tupB) (pv 1) (po_some (pe_op op_add (pv 2) pe_int)) po_none)))
      (pss_one (ps_ret (pe_op op_cat (pv 3) (pe_lst (pa_cons (pe_slice sl_tupB (pv 1) po_none (po_some (pe_un un_neg pe_int))) (pa_cons (pe_op op_catB (pv 1) (pe_tup (pa_cons pe_int pa_nil)))
        (pa_cons (pe_callTy call_list_of (by rfl) T.z_list boot_list (pa_cons (pv 1) pa_nil)) (pa_cons pe_non (pa_cons pe_int (pa_cons pe_str (pa_cons (pe_tup pa_nil) (pa_cons pe_dnewK (pa_cons (pe_tup (pa_cons (pv 1) pa_nil)) pa_nil)))))))))))))), ?_⟩
    have h1 := hq.1
    have h8 := hq.2.1
    refine ⟨_, rfl, _, rfl, a, _, rfl, .inr hT, p, _, g, x, c, rfl, hp, by rw [nv_len]; omega, by rw [nv_len]; omega, fun g2 x2 c2 r hr0 hr1 => ?_⟩
    have sb0 : Bar p H (upd H p (pailO g2 x2 c2)) := Bar.upd
    have hp0 : (upd H p (pailO g2 x2 c2)) p = some (pailO g2 x2 c2) := upd_same
    have hT0 : SqT K (upd H p (pailO g2 x2 c2)) a (nv t) := sqt_updL hp hT
    generalize (upd H p (pailO g2 x2 c2)) = H0 at sb0 hp0 hT0
    refine ⟨_, rfl, by show 1 ≤ sizeLine; decide, fun q1 hq1 => ?_⟩
    have s1 := same_new hq1 (.tup [V.int 1])
    refine ⟨_, _, rfl, rfl, ⟨by decide, by decide, by decide⟩, by show 9 ≤ sizeLine; decide, fun z hz => ?_⟩
    have sz := same_new hz (.tup [V.int (-1), V.int 61, V.bl true, V.non, V.str "1", V.ref q1, V.int (10 ^ 60), V.int 0, V.int 60])
    refine ⟨z, rfl, ⟨_, SqT.of upd_same⟩, fun D hD => ?_⟩
    have sD := same_new hD (.lst [])
    have S3 := s1.trans sz
    refine lc_tup (K := K) (a := z) (xs := [V.int (-1), V.int 61, V.bl true, V.non, V.str "1", V.ref q1, V.int (10 ^ 60), V.int 0, V.int 60])
      (fun i H' => Same (upd (upd H0 q1 (.tup [V.int 1])) z (.tup [V.int (-1), V.int 61, V.bl true, V.non, V.str "1", V.ref q1, V.int (10 ^ 60), V.int 0, V.int 60])) H' ∧ ∃ rs : List Addr, H' D = some (.lst (rs.map V.ref)) ∧ rs.length = i ∧ ∀ b ∈ rs, Tv K H' b)
      ⟨sD, [], upd_same, rfl, fun _ h => nomatch h⟩ (fun i H' _ h => SqT.of (h.1 _ _ upd_same)) (fun i v H' hi h => ?_) (fun H' h => ?_)
    · obtain ⟨sm, rs, eD, hl, hv⟩ := h
      have hTa : SqT K H' a (nv t) := same_sqt (S3.trans sm) hT0
      have hi9 : i < 9 := (List.getElem?_eq_some_iff.mp hi).1
      obtain ⟨o, ho⟩ : ∃ o, El K H' v o := by
        have hm := List.mem_of_getElem? hi
        simp only [List.mem_cons, List.not_mem_nil, or_false] at hm
        rcases hm with rfl | rfl | rfl | rfl | rfl | rfl | rfl | rfl | rfl
        · exact ⟨_, .int _⟩
        · exact ⟨_, .int _⟩
        · exact ⟨_, .bl _⟩
        · exact ⟨_, .non⟩
        · exact ⟨_, .str _⟩
        · exact ⟨_, .tup (SqT.of (sm _ _ (sz _ _ upd_same)))⟩
        · exact ⟨_, .int _⟩
        · exact ⟨_, .int _⟩
        · exact ⟨_, .int _⟩
      refine ⟨rfl, _, rfl, _, rfl, _, rfl, a, _, rfl, hTa, fun H1 z1 t1 hz1 => ?_⟩
      refine ⟨_, rfl, by show 1 ≤ sizeLine; decide, fun z2 hz2 => ?_⟩
      have t2 := same_new hz2 (.tup [v])
      have c1 := cut_len t none (some r)
      refine ⟨z1, z2, _, _, rfl, rfl, same_sqt t2 hz1, SqT.of upd_same, ?_, fun H3 z3 t3 hz3 => ?_⟩
      · show _ + 1 ≤ sizeLine
        exact Nat.le_of_lt (sizeK (by omega))
      refine ⟨_, rfl, _, rfl, _, _, rfl, rfl, _, rfl, a, _, rfl, same_sqt (t1.trans (t2.trans t3)) hTa, fun H4 z4 t4 hz4 => ?_⟩
      have c2 := cut_len t (some (r + 1)) none
      have l3 : (cutV (nv t) none (some r) ++ [v]).length ≤ 9 := by
        rw [List.length_append]
        show _ + 1 ≤ 9
        omega
      refine ⟨z3, z4, _, _, rfl, rfl, same_sqt t4 hz3, hz4, Nat.le_of_lt (sizeK (by omega)), fun H5 z5 t5 hz5 => ?_⟩
      have S5 := t1.trans (t2.trans (t3.trans (t4.trans t5)))
      refine ⟨_, S5 _ _ eD, by rw [List.length_map]; exact sizeK (by omega), ?_, rs ++ [z5], ?_, by rw [List.length_append, hl]; rfl, fun b hb => ?_⟩
      · exact same_updL (sm.trans S5) hD
      · rw [upd_same, List.map_append]
        rfl
      · refine Tv.updL (S5 _ _ eD) ?_
        rcases List.mem_append.mp hb with hb | hb
        · exact (hv b hb).same S5
        · rw [List.mem_singleton.mp hb]
          obtain ⟨o1, e1⟩ := els_cut (K := K) (H := H5) t none (some r)
          obtain ⟨o2, e2⟩ := els_cut (K := K) (H := H5) t (some (r + 1)) none
          refine ⟨_, _, hz5, (e1.app (.cons (ho.same S5) .nil)).app e2, ?_⟩
          rw [List.length_append]
          omega
    · obtain ⟨sm, rs, eD, hl, hv⟩ := h
      have hl9 : rs.length = 9 := hl
      have hT' : SqT K H' a (nv t) := same_sqt (S3.trans sm) hT0
      refine ⟨_, rfl, _, rfl, _, rfl, _, rfl, a, _, rfl, hT', fun H1 z1 t1 hz1 => ?_⟩
      have c1 := cut_len t none (some (-1))
      refine ⟨_, rfl, by show 1 ≤ sizeLine; decide, fun z2 hz2 => ?_⟩
      have t2 := same_new hz2 (.tup [V.int 0])
      refine ⟨a, z2, _, _, rfl, rfl, same_sqt (t1.trans t2) hT', SqT.of upd_same, ?_, fun H3 z3 t3 hz3 => ?_⟩
      · rw [nv_len]
        show _ + 1 ≤ sizeLine
        exact Nat.le_of_lt (sizeK (by omega))
      refine ⟨_, rfl, a, _, rfl, .inr (same_sqt (t1.trans (t2.trans t3)) hT'), fun z4 hz4 => ?_⟩
      have t4 := same_new hz4 (.lst (nv t))
      refine ⟨by show 0 ≤ sizeLine; exact Nat.zero_le _, fun z5 hz5 => fun z6 hz6 => ⟨_, rfl, by show 1 ≤ sizeLine; decide, fun z7 hz7 => ⟨by show 9 ≤ sizeLine; decide, fun z8 hz8 => ?_⟩⟩⟩
      have t5 := same_new hz5 (.tup [])
      have t6 := same_new hz6 (.dK [])
      have t7 := same_new hz7 (.tup [V.ref a])
      have t8 := same_new hz8 (.lst [V.ref z1, V.ref z3, V.ref z4, V.non, V.int 5, V.str "1", V.ref z5, V.ref z6, V.ref z7])
      have S2 := t2.trans (t3.trans (t4.trans (t5.trans (t6.trans (t7.trans t8)))))
      have S4 := t4.trans (t5.trans (t6.trans (t7.trans t8)))
      have SS := t1.trans S2
      refine ⟨D, z8, _, _, rfl, rfl, SS _ _ eD, upd_same, ?_, fun z9 hz9 => ?_⟩
      · rw [List.length_map, hl9]
        show 9 + 9 ≤ sizeLine
        decide
      have t9 := same_new hz9 (.lst (rs.map V.ref ++ [V.ref z1, V.ref z3, V.ref z4, V.non, V.int 5, V.str "1", V.ref z5, V.ref z6, V.ref z7]))
      refine q _ z9 _ g2 x2 c2 (sb0.trans (Bar.same (S3.trans (sm.trans (SS.trans t9))))) (t9 _ _ (SS _ _ (sm _ _ (S3 _ _ hp0)))) upd_same ?_ fun v hv' => ?_
      · rw [List.length_append, List.length_map, hl9]
        show 9 + 9 ≤ 100
        decide
      · rcases List.mem_append.mp hv' with hv' | hv'
        · obtain ⟨b, hb, rfl⟩ := List.mem_map.mp hv'
          exact (((hv b hb).same SS).same t9).va
        · have hTt : ∀ H9, Same H' H9 → SqT K H9 a (nv t) := fun H9 s9 => same_sqt s9 hT'
          simp only [List.mem_cons, List.not_mem_nil, or_false] at hv'
          rcases hv' with rfl | rfl | rfl | rfl | rfl | rfl | rfl | rfl | rfl
          · obtain ⟨o1, e1⟩ := els_cut (K := K) (H := (upd (upd (upd (upd (upd (upd H3 z4 (.lst (nv t))) z5 (.tup [])) z6 (.dK [])) z7 (.tup [V.ref a])) z8 (.lst [V.ref z1, V.ref z3, V.ref z4, V.non, V.int 5, V.str "1", V.ref z5, V.ref z6, V.ref z7])) z9 (.lst (rs.map V.ref ++ [V.ref z1, V.ref z3, V.ref z4, V.non, V.int 5, V.str "1", V.ref z5, V.ref z6, V.ref z7])))) t none (some (-1))
            exact ⟨_, .tup (same_sqt (S2.trans t9) hz1) e1 (by omega)⟩
          · exact ⟨_, .tup (same_sqt (S4.trans t9) hz3) ((els_nv t).app (.cons (.int 0) .nil)) (by rw [List.length_append, nv_len]; show _ + 1 ≤ 1000; omega)⟩
          · exact ⟨_, .lst (SqL.of ((t5.trans (t6.trans (t7.trans (t8.trans t9)))) _ _ upd_same))⟩
          · exact ⟨_, .non⟩
          · exact ⟨_, .int 5⟩
          · exact ⟨_, .str "1"⟩
          · exact ⟨_, .tup (SqT.of ((t6.trans (t7.trans (t8.trans t9))) _ _ upd_same)) .nil (Nat.zero_le _)⟩
          · exact ⟨_, .dic ((t7.trans (t8.trans t9)) _ _ upd_same)⟩
          · exact ⟨_, .tup (SqT.of ((t8.trans t9) _ _ upd_same)) (.cons (.tup (hTt _ (SS.trans t9))) .nil) (by show 1 ≤ 1000; decide)⟩
end
end K4

namespace K4
open PySem PySem.Spec PyProof.Rows L2 RZ L5 XX
section
variable {pr : Program} {wd : World} {A : Around} {E : Value → Shared → Prop} {s : Shared} {tp : Addr} {us : List Value} {ms : List Int} {G : Value → Shared → Prop}
theorem min_of_tuple (hh : A.handled = none) (ht : s.heap.IsTuple tp us.toArray) (hi : IntsAre us ms) (some1 : 0 < ms.length) (q : ∀ h n M t, Stays s h → M ∈ ms → (∀ a, a ∈ ms → M ≤ a) → G (.int M t) { s with heap := h, toks := n }) :
    wpAny (model pr wd) A (call (.builtin "min") [.ref tp]) G E s := by
  obtain ⟨ws, ew, en⟩ := items_of hi
  subst en
  rw [ew] at ht
  have pos : 0 < ws.size := by simpa using some1
  have esz : (intItems ws).size = ws.size := by simp [intItems]
  obtain ⟨ob, hob, _⟩ := id ht
  have apart : tp ≠ s.heap.objs.size := Nat.ne_of_lt (Heap.lt_size hob)
  refine call_min_walk (wpAny_pyIter_tuple ht ?_)
  refine ⟨_, _, _, _, _, _, _, rfl, Walks.tuple (A := A.in1) hh s.heap.objs.size tp apart (intItems ws), ⟨⟨_, Heap.get?_push_size _ rfl, rfl, rfl⟩, ht.at fun o e => Heap.get?_push_of_some _ e⟩, fun b hb => ?_, by rw [esz]; exact pos, CmpOf.ints_lt (numAt ws) (fun _ _ => intItems_at), fun v h n hv kept => ?_⟩
  · have two : b = s.heap.objs.size ∨ b = tp := by simpa using hb
    rcases two with rfl | rfl
    · exact Heap.lt_size (o := _) (Heap.get?_push_size _ rfl)
    · exact Heap.lt_size (o := ob) (Heap.get?_push_of_some _ hob)
  · obtain ⟨t, rfl⟩ := intItems_at hv
    rw [esz] at *
    obtain ⟨top1, top2⟩ := argBest_lt (numAt ws) (ws.size - 1)
    have at_of : ∀ i, numAt ws i = (ws.toList.map (·.1)).getD i 0 := fun i => numAt_eq ..
    refine q h n _ t (fun b o e => kept b o (fun hb => ?_) (Heap.get?_push_of_some _ e)) ?_ fun a ha => ?_
    · rw [List.mem_singleton.mp hb] at e
      exact Nat.lt_irrefl _ (Heap.lt_size e)
    · rw [at_of]
      refine PySem.getD_mem ?_
      rw [List.length_map, Array.length_toList]
      omega
    · obtain ⟨i, less, rfl⟩ := mem_getD ha
      rw [List.length_map, Array.length_toList] at less
      rw [← at_of]
      exact top2 i (by omega)
end
section
variable {X : Cx}
def rMinT (K : PySem.W.Frag) : List V → Hp → VK → Prop := fun vs H Q => ∃ (a : Addr) (ns : List Int), vs = [V.ref a] ∧ SqT K H a (ns.map V.int) ∧ 0 < ns.length ∧ ∀ m, m ∈ ns → (∀ y, y ∈ ns → m ≤ y) → Q (.int m) H
theorem cr_minT (calm : X.calm = true) : CallR X (.builtin "min") (rMinT X.K) := fun _ _ _ _ _ _ _ I r h => by
  obtain ⟨_, _, rfl, ht, some1, q⟩ := h
  obtain ⟨_, rv, plain, _⟩ := I.tuple ht
  rw [Vals.ref1 r]
  exact min_of_tuple (I.ok.hd calm) plain rv.ints some1 fun _ _ m _ kept g1 g2 => ⟨.int m, _, I.kept kept, ⟨_, rfl⟩, q m g1 g2⟩
end
section
variable {P : Program} {w : World} {K : PySem.W.Frag} {mg : Str → Option Value} {base : Heap}
/-! ### makers of lambdas -/
theorem FunC.okc {x qual : Str} {st : Stmt} {f c : Addr} {fd : FuncData} {N ps : List Str} {k : Nat} {sp : Sp} (F : FunC K x qual st f fd c) (S : FnScope N ps (defScope st)) (len : ∀ vs H Q E, sp vs H Q E → vs.length = ps.length)
    (hbody : ∀ (A : Around) (outer : List Env) (s : Shared) (H : Hp) (vs : List V) (Q : VK) (E : XK), Room k (A.deeper (envOfC qual (defScope st) s.heap.objs.size f (.ref c))) → sp vs H Q E →
      ∃ t, PSs (cxOf CX0 P w K mg base N qual (defScope st) f (.ref c) A outer s H E).nox (defBody st) t ∧ t { nx := fun _ H' => Q .non H', rt := Q } (start N vs) H) : FnOk P w K mg base CX0 (k + 1) f fd ps sp := by
  obtain ⟨oc, od, kV, doc, pm, an, ct, osl, rfl, lk, hcd⟩ := F.ex
  refine fn_of lk hcd S len fun A outer s H vs Q E hr hsp => ?_
  obtain ⟨t, h, q⟩ := hbody A outer s H vs Q E hr hsp
  exact ⟨t, h.nox, q⟩
/-! ### tables grow, all else stays -/
section
variable {H H' : Hp}
theorem ext_sqt {a : Addr} {xs : List V} (e : LamX.ExtN H H') (h : SqT K H a xs) : SqT K H' a xs := by
  rcases h with (h | ⟨o, h⟩) | h
  · exact .inl (.inl (e _ _ h fun _ z => nomatch z))
  · exact .inl (.inr ⟨o, e _ _ h fun _ z => nomatch z⟩)
  · exact .inr h
theorem ext_sql {a : Addr} {xs : List V} (e : LamX.ExtN H H') (h : SqL K H a xs) : SqL K H' a xs := by
  rcases h with (h | ⟨o, h⟩) | h
  · exact .inl (.inl (e _ _ h fun _ z => nomatch z))
  · exact .inl (.inr ⟨o, e _ _ h fun _ z => nomatch z⟩)
  · exact .inr h
theorem El.ext (e : LamX.ExtN H H') {v : V} {o : Option Int} (h : El K H v o) : El K H' v o := by
  cases h with
  | int i => exact .int i
  | bl b => exact .bl b
  | non => exact .non
  | str x => exact .str x
  | tup h => exact .tup (ext_sqt e h)
theorem Els.ext (e : LamX.ExtN H H') : ∀ {vs : List V} {os : List (Option Int)}, Els K H vs os → Els K H' vs os
  | _, _, .nil => .nil
  | _, _, .cons h t => .cons (h.ext e) (Els.ext e t)
theorem Va.ext (s : LamX.ExtN H H') {v : V} {d : Option (List (Option Int))} (h : Va K H v d) : Va K H' v d := by
  cases h with
  | tup h e hl => exact .tup (ext_sqt s h) (e.ext s) hl
  | lst h => exact .lst (ext_sql s h)
  | dic h => exact .dic (s _ _ h fun _ z => nomatch z)
  | non => exact .non
  | int i => exact .int i
  | str x => exact .str x
theorem ext_of (s : Same H H') : LamX.ExtN H H' := .of s
end
/-! ### lists of integers as data -/
theorem dp_intsT {H : Hp} {a : Addr} {l : List Int} (h : SqT K H a (l.map V.int)) : Dp K H (.ref a) (.tuple (l.map PyData.int)) := .tup h (dp_ints l)
theorem eqv_intsT (l : List Int) : PyData.eqv (.tuple (l.map PyData.int)) (.tuple (l.map PyData.int)) = true := SeqAt.eqv_refl _ (by
  have h := can_ints l
  simp only [PyData.canLay0, h.1])
theorem zi_max (t u : List Nat) : (zi maxZ t u).map V.int = nv (List.zipWith max t u) := by
  show _ = List.map _ _
  rw [List.map_zipWith, List.map_zipWith]
  congr 1
  funext a b
  show V.int (if _ then _ else _) = V.int _
  congr 1
  split <;> omega
theorem zi_min (t u : List Nat) : (zi minZ t u).map V.int = nv (List.zipWith min t u) := by
  show _ = List.map _ _
  rw [List.map_zipWith, List.map_zipWith]
  congr 1
  funext a b
  show V.int (if _ then _ else _) = V.int _
  congr 1
  split <;> omega
theorem zi_maxmin : ∀ t u : List Nat, zi addZ (List.zipWith max t u) (List.zipWith min t u) = zi addZ t u
  | [], _ => rfl
  | _ :: _, [] => rfl
  | a :: t, b :: u => by
    show addZ (max a b) (min a b) :: zi addZ (List.zipWith max t u) (List.zipWith min t u) = addZ a b :: zi addZ t u
    rw [zi_maxmin t u]
    congr 1
    show ((max a b : Nat) : Int) + ((min a b : Nat) : Int) = ((a : Nat) : Int) + ((b : Nat) : Int)
    omega
theorem zw_60 {f : Nat → Nat → Nat} (hf : ∀ a b, a ≤ 60 → b ≤ 60 → f a b ≤ 60) : ∀ {t u : List Nat}, (∀ e ∈ t, e ≤ 60) → (∀ e ∈ u, e ≤ 60) → ∀ e ∈ List.zipWith f t u, e ≤ 60
  | [], _, _, _, e, he => by simp at he
  | _ :: _, [], _, _, e, he => by simp at he
  | a :: t, b :: u, h1, h2, e, he => by
    rcases List.mem_cons.mp he with rfl | he
    · exact hf a b (h1 a List.mem_cons_self) (h2 b List.mem_cons_self)
    · exact zw_60 hf (fun e h => h1 e (List.mem_cons_of_mem _ h)) (fun e h => h2 e (List.mem_cons_of_mem _ h)) e he
/-- a quotient, or none -/
theorem zi_off : ∀ {t u : List Nat}, u.length = t.length → fitB u t = true → zi offZ t u = zi subZ t u
  | [], _, _, _ => rfl
  | _ :: _, [], _, _ => rfl
  | a :: t, b :: u, hl, h => by
    have h' : (decide (b ≤ a) && fitB u t) = true := h
    rw [Bool.and_eq_true] at h'
    have hab := of_decide_eq_true h'.1
    show offZ a b :: zi offZ t u = subZ a b :: zi subZ t u
    rw [zi_off (by simpa using hl) h'.2]
    congr 1
    show (if (0 : Int) > subZ a b then 0 else subZ a b) = subZ a b
    rw [if_neg (by show ¬ (0 : Int) > ((a : Nat) : Int) - ((b : Nat) : Int); omega)]
theorem fit_sub : ∀ {t u : List Nat}, u.length = t.length → (fitB u t = true ↔ ∀ i ∈ zi subZ t u, 0 ≤ i)
  | [], [], _ => ⟨fun _ i h => (nomatch h), fun _ => rfl⟩
  | [], _ :: _, h => by simp at h
  | _ :: _, [], h => by simp at h
  | a :: t, b :: u, hl => by
    have ih := fit_sub (t := t) (u := u) (by simpa using hl)
    show (decide (b ≤ a) && fitB u t) = true ↔ _
    rw [Bool.and_eq_true, ih, decide_eq_true_iff]
    constructor
    · rintro ⟨h1, h2⟩ i hi
      rcases List.mem_cons.mp hi with rfl | hi
      · show (0 : Int) ≤ ((a : Nat) : Int) - ((b : Nat) : Int)
        omega
      · exact h2 i hi
    · intro h
      refine ⟨?_, fun i hi => h i (List.mem_cons_of_mem _ hi)⟩
      have : (0 : Int) ≤ ((a : Nat) : Int) - ((b : Nat) : Int) := h _ List.mem_cons_self
      omega
end
end K4

namespace K4
open PySem PySem.Spec PyProof.Rows L2 RZ L5 XX
section
variable {X : Cx} {K : PySem.W.Frag} {H H' : Hp}
theorem PS.weak {s : Stmt} {t t' : TS} (h : PS X s t) (i : ∀ D σ H, t' D σ H → t D σ H) : PS X s t' := ⟨fun pins s0 σ H D I h' => h.run pins s0 σ H D I (i D σ H h')⟩
/-- what a quotient is due to be -/
def Due (K : PySem.W.Frag) (H : Hp) (t u : List Nat) (v : V) : Prop := ∃ z, v = .ref z ∧ ((fitB u t = true ∧ SqT K H z ((zi subZ t u).map V.int)) ∨ (fitB u t = false ∧ ∃ y, SqT K H z [.str "refused", .str "reason", .ref y] ∧ SqT K H y [.str "rest"]))
theorem Due.ext {t u : List Nat} {v : V} (e : LamX.ExtN H H') : Due K H t u v → Due K H' t u v := fun ⟨z, h, q⟩ => ⟨z, h, q.elim (fun ⟨a, b⟩ => .inl ⟨a, ext_sqt e b⟩) fun ⟨a, y, b, c⟩ => .inr ⟨a, y, ext_sqt e b, ext_sqt e c⟩⟩
def dueD (t u : List Nat) : PyData := if fitB u t = true then .tuple ((zi subZ t u).map PyData.int) else .tuple [.str "refused", .str "reason", .tuple [.str "rest"]]
theorem Due.dp {t u : List Nat} {v : V} : Due K H t u v → Dp K H v (dueD t u) := by
  rintro ⟨z, rfl, ⟨h, hz⟩ | ⟨h, y, hz, hy⟩⟩
  · rw [show dueD t u = .tuple ((zi subZ t u).map PyData.int) from if_pos h]
    exact dp_intsT hz
  · rw [show dueD t u = .tuple [.str "refused", .str "reason", .tuple [.str "rest"]] from if_neg (by rw [h]; decide)]
    exact .tup hz (.cons (.str _) (.cons (.str _) (.cons (.tup hy (.cons (.str _) .nil)) .nil)))
theorem shaped_due (t u : List Nat) : SeqAt.shaped (dueD t u) = true := by
  unfold dueD
  split
  · exact shaped_intsT _
  · decide +kernel
theorem eqv_due (t u : List Nat) : PyData.eqv (dueD t u) (dueD t u) = true := by
  unfold dueD
  split
  · exact eqv_intsT _
  · decide +kernel
end
end K4

namespace K4
open PySem PySem.Spec PyProof.Rows L2 RZ L5 XX
section
variable {P : Program} {w : World} {K : PySem.W.Frag} {mg : Str → Option Value} {base : Heap}
/-! ### _law_two_right -/
theorem uniq2 : ∀ p ∈ TT2, p.1 = 287 → p.2 = qTwo := fun p hp e => by
  rcases List.mem_cons.mp hp with rfl | hp
  · rfl
  rcases List.mem_cons.mp hp with rfl | hp
  · cases e
  cases hp
def sp_two (K : PySem.W.Frag) : Sp := fun vs H Q _ => ∃ (p r : Addr) (t u : List Nat), vs = [.ref p, .ref r] ∧ SqT K H p (nv t) ∧ SqT K H r (nv u) ∧ Prod60 t ∧ Prod60 u ∧ u.length = t.length ∧ LamX.Tabs TT2 H ∧ ∀ H', LamX.ExtN H H' → LamX.Tabs TT2 H' → Q (.bl true) H'
theorem ok_two (T : Txt K mg) (TB : LamX.TabB base mg T.c_w_two_right 287) : FnOk P w K mg base CX0 12 T.a_w_two_right T.d_w_two_right ["_law_one", "_law_other"] (sp_two K) := by
  refine T.G_w_two_right.okc sc_w_two_right (fun vs H Q E h => ?_) (fun A outer s H vs Q E hr h => ?_)
  · obtain ⟨p, r, t, u, rfl, _⟩ := h
    rfl
  · obtain ⟨p, r, t, u, rfl, hT, hU, hp, hq, hl, hTab, q⟩ := h
    have h1 := hp.1
    have h8 := hp.2.1
    have hz : (zi addZ t u).length = t.length := by rw [List.length_zipWith]; omega
    have hzs : (zi subZ t u).length = t.length := by rw [List.length_zipWith]; omega
    obtain ⟨ocT, odT, kVT, docT, pmT, anT, cdvT, ctT, oslT, dT, lkT, cdT⟩ := T.F_w_told.ex
    rw [dT] at lkT
    refine ⟨_, pss_cons (ps_if (PW.pt (pw_or (pt_cmpR op_ne (pe_call (E := E0) (ok_deg T) (hr.mono (by decide)) (by rfl) T.m_degree_of T.F_degree_of.kp T.b_degree_of .nil passL (pa_cons (pv 0) pa_nil)) (pe_callB (cr_sumT rfl) (by rfl) T.z_sum boot_sum (pa_cons (pv 0) pa_nil)) (nomark _))
        (pw_or1 (pt_cmpR op_ne (pe_call (E := E0) (ok_does_divide T) (hr.mono (by decide)) (by rfl) T.m_does_divide T.F_does_divide.kp T.b_does_divide .nil passL (pa_cons (pv 0) (pa_cons (pv 1) pa_nil))) (pe_call (E := E0) (ok_div T) (hr.mono (by decide)) (by rfl) T.m_w_divides T.F_w_divides.kp T.b_w_divides .nil pass0 (pa_cons (pv 0) (pa_cons (pv 1) pa_nil))) (nomark _))))) (pss_one (ps_ret pe_bl)) pss_nil)
      (pss_cons (ps_set (i := 2) sc_w_two_right.nd rfl (Or.inl rfl) (pe_callTy call_tuple_of (by rfl) T.z_tuple boot_tuple (pa_cons
      (pe_lc (own := [("_law_left", 6), ("_law_right_here", 7)]) (g := gTup K 2 (gCons (gName 6) (gCons (gName 7) gNil))) (tt := tYes) rfl sc_w_two_right.nd (pi_zipA (by rfl) T.z_zip (pa_cons (pv 0) (pa_cons (pv 1) pa_nil))) (blkOk_by (own := [("_law_left", 6), ("_law_right_here", 7)]) (N := N_w_two_right) (sc := defScope s_w_two_right) (by decide +kernel))
        (fun _ _ _ _ _ => pg_tup (by rfl) (pgs_cons (pg_name (i := 6) sc_w_two_right.nd rfl (Or.inl rfl)) (pgs_cons (pg_name (i := 7) sc_w_two_right.nd rfl (Or.inl rfl)) pgs_nil))) (fun _ _ _ _ _ => pts_nil)
        (fun _ _ _ _ _ => pe_callB (call_min2 rfl) (by rfl) T.z_min (by decide +kernel) (pa_cons (pv 6) (pa_cons (pv 7) pa_nil)))) pa_nil)))
      (pss_cons (ps_if (PW.pt (pw_or (pt_cmpR (op_neD hr.units) (pe_call (E := E0) (ok_multiple_of T) (hr.mono (by decide)) (by rfl) T.m_multiple_of T.F_multiple_of.kp T.b_multiple_of .nil passL (pa_cons (pv 0) (pa_cons (pv 1) pa_nil))) (pe_call (E := E0) (ok_w_joined T) (hr.mono (by decide)) (by rfl) T.m_w_joined T.F_w_joined.kp T.b_w_joined .nil pass0 (pa_cons (pv 0) (pa_cons (pv 1) pa_nil))) (nomark _))
        (pw_or1 (pt_cmpR (op_neD hr.units) (pe_call (E := E0) (ok_divisor_of T) (hr.mono (by decide)) (by rfl) T.m_divisor_of T.F_divisor_of.kp T.b_divisor_of .nil passL (pa_cons (pv 0) (pa_cons (pv 1) pa_nil))) (pv 2) (nomark _))))) (pss_one (ps_ret pe_bl)) pss_nil)
      (pss_cons (ps_set (i := 3) sc_w_two_right.nd rfl (Or.inl rfl) (pe_call (E := E0) (ok_w_added T) (hr.mono (by decide)) (by rfl) T.m_w_added T.F_w_added.kp T.b_w_added .nil pass0 (pa_cons (pv 0) (pa_cons (pv 1) pa_nil))))
      (pss_cons (PS.weak (t' := fun D σ H => ∃ zl z8 : Addr, σ = [some (.ref p), some (.ref r), some (.ref zl), some (.ref z8), none, none, none, none] ∧ SqT K H p (nv t) ∧ SqT K H r (nv u) ∧ SqT K H z8 ((zi addZ t u).map V.int) ∧ LamX.Tabs TT2 H ∧ ∀ H', LamX.ExtN H H' → LamX.Tabs TT2 H' → D.nx σ H') (ps_if (pt_cmpR (op_neD hr.units) (LamX.pe_lamcall (T := TT2) (TT := TTold3 K T.C_InvalidProduct T.C_TooMany T.C_Refused) (Ng := N_w_told) (by rfl) T.m_w_told T.F_w_told.kp lkT cdT (dT ▸ T.b_w_told) sc_w_told rfl (Or.inl rfl)
        (told_gives3 (X := (cxOf CX0 P w K mg base N_w_two_right "_law_two_right" (defScope s_w_two_right) T.a_w_two_right (.ref T.c_w_two_right) A outer s H E).nox) T) TB rfl (show (287, qTwo) ∈ TT2 from List.mem_cons_self) uniq2 hr (LamX.lamS_by (show LamX.lamSB (defScope s_w_two_right) _ = true by decide +kernel)) (by rfl) (fun _ _ _ _ _ => by rfl)
        (fun A' outer' s' H' E' f' c' hr' => pe_call (E := E') (ok_product_times T) (hr'.mono (by decide)) (by rfl) T.m_product_times T.F_product_times.kp T.b_product_times .nil (passes_call (takes_of rfl rfl rfl rfl) fun _ _ _ _ z => z) (pa_cons (pv 0) (pa_cons (pv 1) pa_nil))))
          (pe_ifExp (pt_cmpR op_le (pe_callB (cr_maxT rfl) (by rfl) T.z_max boot_max (pa_cons (pv 3) pa_nil)) pe_int (nomark _)) (pv 3) (pe_tup (pa_cons pe_str (pa_cons pe_str (pa_cons pe_int pa_nil))))) (nomark _)) (pss_one (ps_ret pe_bl)) pss_nil) ?imp1)
      (pss_cons (ps_set (i := 4) sc_w_two_right.nd rfl (Or.inl rfl) (pe_callTy call_tuple_of (by rfl) T.z_tuple boot_tuple (pa_cons
      (pe_lc (own := [("_law_left", 6), ("_law_right_here", 7)]) (g := gTup K 2 (gCons (gName 6) (gCons (gName 7) gNil))) (tt := tYes) rfl sc_w_two_right.nd (pi_zipA (by rfl) T.z_zip (pa_cons (pv 0) (pa_cons (pv 1) pa_nil))) (blkOk_by (own := [("_law_left", 6), ("_law_right_here", 7)]) (N := N_w_two_right) (sc := defScope s_w_two_right) (by decide +kernel))
        (fun _ _ _ _ _ => pg_tup (by rfl) (pgs_cons (pg_name (i := 6) sc_w_two_right.nd rfl (Or.inl rfl)) (pgs_cons (pg_name (i := 7) sc_w_two_right.nd rfl (Or.inl rfl)) pgs_nil))) (fun _ _ _ _ _ => pts_nil)
        (fun _ _ _ _ _ => pe_op op_sub (pv 6) (pv 7))) pa_nil)))
      (pss_cons (ps_set (i := 5) sc_w_two_right.nd rfl (Or.inl rfl) (PE.weak (t' := fun σ H Q => ∃ zl z8 z9 : Addr, σ = [some (.ref p), some (.ref r), some (.ref zl), some (.ref z8), some (.ref z9), none, none, none] ∧ SqT K H z9 ((zi subZ t u).map V.int) ∧ ∀ H' v, Same H H' → Due K H' t u v → Q v H') (pe_ifExp (pt_cmpR op_ge (pe_callB (cr_minT rfl) (by rfl) T.z_min (by decide +kernel) (pa_cons (pv 4) pa_nil)) pe_int (nomark _)) (pv 4)
          (pe_tup (pa_cons pe_str (pa_cons pe_str (pa_cons (pe_tup (pa_cons pe_str pa_nil)) pa_nil))))) ?imp2))
      (pss_cons (PS.weak (t' := fun D σ H => ∃ (zl z8 z9 : Addr) (v : V), σ = [some (.ref p), some (.ref r), some (.ref zl), some (.ref z8), some (.ref z9), some v, none, none] ∧ SqT K H p (nv t) ∧ SqT K H r (nv u) ∧ Due K H t u v ∧ LamX.Tabs TT2 H ∧ ∀ H', LamX.ExtN H H' → LamX.Tabs TT2 H' → D.nx σ H') (ps_if (pt_cmpR (op_neD hr.units) (LamX.pe_lamcall (T := TT2) (TT := TTold3 K T.C_InvalidProduct T.C_TooMany T.C_Refused) (Ng := N_w_told) (by rfl) T.m_w_told T.F_w_told.kp lkT cdT (dT ▸ T.b_w_told) sc_w_told rfl (Or.inl rfl)
        (told_gives3 (X := (cxOf CX0 P w K mg base N_w_two_right "_law_two_right" (defScope s_w_two_right) T.a_w_two_right (.ref T.c_w_two_right) A outer s H E).nox) T) TB rfl (show (287, qTwo) ∈ TT2 from List.mem_cons_self) uniq2 hr (LamX.lamS_by (show LamX.lamSB (defScope s_w_two_right) _ = true by decide +kernel)) (by rfl) (fun _ _ _ _ _ => by rfl)
        (fun A' outer' s' H' E' f' c' hr' => pe_call (E := E') (ok_quotient_of T) (hr'.mono (by decide)) (by rfl) T.m_quotient_of T.F_quotient_of.kp T.b_quotient_of .nil (passes_call (takes_of rfl rfl rfl rfl) fun _ _ _ _ z => z) (pa_cons (pv 0) (pa_cons (pv 1) pa_nil)))) (pv 5) (nomark _)) (pss_one (ps_ret pe_bl)) pss_nil) ?imp3)
      (pss_one (ps_ret (pe_or (pe_cmpR op_gt (pe_callB (cr_maxT rfl) (by rfl) T.z_max boot_max (pa_cons (pv 3) pa_nil)) pe_int (nomark _))
        (pe_one (pe_cmpR (op_eqD hr.units) (pe_call (E := E0) (ok_product_times T) (hr.mono (by decide)) (by rfl) T.m_product_times T.F_product_times.kp T.b_product_times .nil passL (pa_cons (pe_call (E := E0) (ok_multiple_of T) (hr.mono (by decide)) (by rfl) T.m_multiple_of T.F_multiple_of.kp T.b_multiple_of .nil passL (pa_cons (pv 0) (pa_cons (pv 1) pa_nil))) (pa_cons (pe_call (E := E0) (ok_divisor_of T) (hr.mono (by decide)) (by rfl) T.m_divisor_of T.F_divisor_of.kp T.b_divisor_of .nil passL (pa_cons (pv 0) (pa_cons (pv 1) pa_nil))) pa_nil))) (pv 3) (nomark _))))))))))))), ?_⟩
    case imp1 =>
      rintro D σ H0 ⟨zl, z8, rfl, hT0, hU0, h80, tab0, nx⟩
      refine ⟨tab0, fun H9 e9 t9 => ?_⟩
      refine ⟨_, rfl, _, rfl, ?_⟩
      refine sp5_two (ext_sqt e9 hT0) (ext_sqt e9 hU0) hp hq hl ?_
      by_cases hall : (zi addZ t u).all (fun i => decide (i ≤ 60)) = true
      · rw [show gTim t u = .t (zi addZ t u) from if_pos hall]
        intro H10 z10 s10 hz10
        have h8' := ext_sqt (e9.trans (ext_of s10)) h80
        refine ⟨_, rfl, z8, zi addZ t u, rfl, h8', by omega, fun m hm hmax => ⟨_, _, rfl, rfl, _, rfl, ?_⟩⟩
        rw [decide_eq_true (of_decide_eq_true (List.all_eq_true.mp hall m hm))]
        refine iteT ⟨_, rfl, _, _, dp_intsT hz10, dp_intsT h8', shaped_intsT _, shaped_intsT _, _, rfl, ?_⟩
        rw [eqv_intsT]
        exact iteF (nx _ (e9.trans (ext_of s10)) (t9.ext s10))
      · rw [show gTim t u = .many from if_neg hall]
        intro H10 dd s10 hd
        refine .inr (.inl ⟨rfl, dd, _, rfl, hd, fun y hy => ?_⟩)
        have sy := same_new hy (.tup [V.str "refused", V.str "many", V.int 60])
        have h8' := ext_sqt (e9.trans (ext_of (s10.trans sy))) h80
        refine ⟨_, rfl, z8, zi addZ t u, rfl, h8', by omega, fun m hm hmax => ⟨_, _, rfl, rfl, _, rfl, ?_⟩⟩
        rw [decide_eq_false (fun hle : m ≤ 60 => hall (List.all_eq_true.mpr fun i hi => decide_eq_true (Int.le_trans (hmax i hi) hle)))]
        refine iteF ⟨by show 3 ≤ sizeLine; decide, fun y2 hy2 => ?_⟩
        have sy2 := same_new hy2 (.tup [V.str "refused", V.str "many", V.int 60])
        refine ⟨_, _, .tup (SqT.of (sy2 _ _ upd_same)) (.cons (.str _) (.cons (.str _) (.cons (.int _) .nil))), .tup (SqT.of upd_same) (.cons (.str _) (.cons (.str _) (.cons (.int _) .nil))), by decide +kernel, by decide +kernel, false, by decide +kernel, ?_⟩
        exact iteF (nx _ (e9.trans (ext_of (s10.trans (sy.trans sy2)))) (t9.ext (s10.trans (sy.trans sy2))))
    case imp2 =>
      rintro σ H0 Q' ⟨zl, z8, z9, rfl, h90, nx⟩
      refine ⟨_, rfl, z9, zi subZ t u, rfl, h90, by omega, fun m hm hmin => ⟨_, _, rfl, rfl, _, rfl, ite2 (fun c => ?_) (fun c => ?_)⟩⟩
      · have c' := of_decide_eq_true c
        refine ⟨_, rfl, nx _ _ (Same.refl _) ⟨z9, rfl, .inl ⟨(fit_sub hl).mpr fun i hi => Int.le_trans c' (hmin i hi), h90⟩⟩⟩
      · have c' : ¬ 0 ≤ m := fun z => c (decide_eq_true z)
        refine ⟨by show 1 ≤ sizeLine; decide, fun y hy => ⟨by show 3 ≤ sizeLine; decide, fun y2 hy2 => ?_⟩⟩
        have sy := same_new hy (.tup [V.str "rest"])
        have sy2 := same_new hy2 (.tup [V.str "refused", V.str "reason", V.ref y])
        refine nx _ _ (sy.trans sy2) ⟨y2, rfl, .inr ⟨?_, y, SqT.of upd_same, SqT.of (sy2 _ _ upd_same)⟩⟩
        cases ef : fitB u t with
        | false => rfl
        | true => exact absurd ((fit_sub hl).mp ef m hm) c'
    case imp3 =>
      rintro D σ H0 ⟨zl, z8, z9, v, rfl, hT0, hU0, hd0, tab0, nx⟩
      refine ⟨tab0, fun H9 e9 t9 => ?_⟩
      refine ⟨_, rfl, _, rfl, ?_⟩
      refine sp5_two (ext_sqt e9 hT0) (ext_sqt e9 hU0) hp hq hl ?_
      cases ef : fitB u t with
      | true =>
        rw [show gQuo t u = .t (zi offZ t u) from if_pos ef, zi_off hl ef]
        intro H10 z10 s10 hz10
        refine ⟨_, rfl, _, _, Due.dp (t := t) (u := u) ⟨z10, rfl, .inl ⟨ef, hz10⟩⟩, (hd0.ext (e9.trans (ext_of s10))).dp, shaped_due _ _, shaped_due _ _, _, rfl, ?_⟩
        rw [eqv_due]
        exact iteF (nx _ (e9.trans (ext_of s10)) (t9.ext s10))
      | false =>
        rw [show gQuo t u = .rest from if_neg (by rw [ef]; decide)]
        intro H10 dd z10 s10 hz10 hd
        refine .inr (.inr ⟨rfl, dd, _, rfl, hd, fun y hy => ?_⟩)
        have sy := same_new hy (.tup [V.str "refused", V.str "reason", V.ref z10])
        refine ⟨_, rfl, _, _, Due.dp (t := t) (u := u) ⟨y, rfl, .inr ⟨ef, z10, SqT.of upd_same, same_sqt sy hz10⟩⟩, (hd0.ext (e9.trans (ext_of (s10.trans sy)))).dp, shaped_due _ _, shaped_due _ _, _, rfl, ?_⟩
        rw [eqv_due]
        exact iteF (nx _ (e9.trans (ext_of (s10.trans sy))) (t9.ext (s10.trans sy)))
    -- degrees, divisors
    refine ⟨_, rfl, ?_⟩
    refine deg_one hT hp fun H1 s1 => ?_
    refine ⟨_, rfl, p, _, rfl, by rw [← nv_ints]; exact same_sqt s1 hT, ?_⟩
    rw [sum_cast]
    refine ⟨rfl, _, rfl, ?_⟩
    rw [decide_eq_true rfl]
    refine iteF ?_
    refine ⟨_, rfl, _, rfl, ?_⟩
    refine sp5_two (same_sqt s1 hT) (same_sqt s1 hU) hp hq hl ?_
    intro H2 s2
    have S2 := s1.trans s2
    refine ⟨_, rfl, _, rfl, p, r, t, u, rfl, same_sqt S2 hT, same_sqt S2 hU, hl, h8, fun H3 s3 => ?_⟩
    have S3 := S2.trans s3
    have hT3 := same_sqt S3 hT
    have hU3 := same_sqt S3 hU
    refine ⟨rfl, _, rfl, ?_⟩
    rw [decide_eq_true rfl]
    refine iteF ?_
    -- the lesser ones
    refine ⟨_, rfl, _, rfl, p, r, nv t, nv u, rfl, .inr ⟨hT3, hU3, fun D hD => ?_⟩⟩
    have sD : Same H3 (upd H3 D (.lst [])) := same_new hD _
    refine lc_zipT (by rw [nv_len, nv_len, hl]) (fun i H' => Same H3 H' ∧ H' D = some (.lst (((zi minZ t u).take i).map V.int))) ⟨sD, upd_same⟩ (fun i H' h => ⟨same_sqt h.1 hT3, same_sqt h.1 hU3⟩) (fun i x y T' H' hx hy h hT' => ?_) (fun H' h => ?_)
    · obtain ⟨sm, eD⟩ := h
      obtain ⟨n, hn, rfl⟩ := nv_get hx
      obtain ⟨m, hm, rfl⟩ := nv_get hy
      have hlt : i < t.length := (List.getElem?_eq_some_iff.mp hn).1
      have sT : Same H' (upd H' T' (.tup [.int ((n : Nat) : Int), .int ((m : Nat) : Int)])) := same_new hT' _
      refine ⟨T', _, rfl, SqT.of upd_same, rfl, _, _, rfl, _, _, rfl, rfl, ?_⟩
      refine ⟨rfl, _, rfl, _, rfl, _, _, rfl, ?_⟩
      refine ⟨_, sT _ _ eD, by rw [List.length_map, List.length_take]; exact sizeK (by omega), same_updL (sm.trans sT) hD, ?_⟩
      rw [upd_same, take_more (zi_get hn hm), List.map_append]
      rfl
    · obtain ⟨sm, eD⟩ := h
      have e2 : (zi minZ t u).take (nv t).length = zi minZ t u := List.take_of_length_le (by rw [nv_len, List.length_zipWith]; omega)
      rw [e2] at eD
      refine ⟨D, _, rfl, .inl ⟨SqL.of eD, fun z hz' => ?_⟩⟩
      have sZ : Same H3 (upd H' z (.tup ((zi minZ t u).map V.int))) := sm.trans (same_new hz' _)
      have SL := S3.trans sZ
      have hL : SqT K (upd H' z (.tup ((zi minZ t u).map V.int))) z ((zi minZ t u).map V.int) := SqT.of upd_same
      generalize (upd H' z (.tup ((zi minZ t u).map V.int))) = H4 at SL hL
      clear sZ eD sm
      -- multiples, divisors
      refine ⟨_, rfl, _, rfl, ?_⟩
      refine sp5_two (same_sqt SL hT) (same_sqt SL hU) hp hq hl ?_
      intro H5 z5 s5 hz5
      have S5 := SL.trans s5
      refine ⟨_, rfl, _, rfl, p, r, t, u, rfl, same_sqt S5 hT, same_sqt S5 hU, hl, by omega, fun H6 z6 s6 hz6 => ?_⟩
      have S6 := S5.trans s6
      refine ⟨_, _, dp_intsT (same_sqt s6 hz5), dp_intsT hz6, shaped_intsT _, shaped_intsT _, _, rfl, ?_⟩
      rw [eqv_intsT]
      refine iteF ?_
      refine ⟨_, rfl, _, rfl, ?_⟩
      refine sp5_two (same_sqt S6 hT) (same_sqt S6 hU) hp hq hl ?_
      intro H7 z7 s7 hz7
      have S7 := S6.trans s7
      refine ⟨_, rfl, _, _, dp_intsT hz7, dp_intsT (same_sqt (s5.trans (s6.trans s7)) hL), shaped_intsT _, shaped_intsT _, _, rfl, ?_⟩
      rw [eqv_intsT]
      refine iteF ?_
      -- the sum
      refine ⟨_, rfl, _, rfl, p, r, t, u, rfl, same_sqt S7 hT, same_sqt S7 hU, hl, by omega, fun H8 z8 s8 hz8 => ?_⟩
      have S8 := S7.trans s8
      refine ⟨_, z8, rfl, same_sqt S8 hT, same_sqt S8 hU, hz8, hTab.ext S8, fun H9 e9 t9 => ?_⟩
      have E9 := (ext_of S8).trans e9
      have hT9 := ext_sqt E9 hT
      have hU9 := ext_sqt E9 hU
      have h89 := ext_sqt e9 hz8
      refine ⟨_, rfl, _, rfl, p, r, nv t, nv u, rfl, .inr ⟨hT9, hU9, fun D hD => ?_⟩⟩
      have sD : Same H9 (upd H9 D (.lst [])) := same_new hD _
      refine lc_zipT (by rw [nv_len, nv_len, hl]) (fun i H' => Same H9 H' ∧ H' D = some (.lst (((zi subZ t u).take i).map V.int))) ⟨sD, upd_same⟩ (fun i H' h => ⟨same_sqt h.1 hT9, same_sqt h.1 hU9⟩) (fun i x y T' H' hx hy h hT' => ?_) (fun H' h => ?_)
      · obtain ⟨sm, eD⟩ := h
        obtain ⟨n, hn, rfl⟩ := nv_get hx
        obtain ⟨m, hm, rfl⟩ := nv_get hy
        have hlt : i < t.length := (List.getElem?_eq_some_iff.mp hn).1
        have sT : Same H' (upd H' T' (.tup [.int ((n : Nat) : Int), .int ((m : Nat) : Int)])) := same_new hT' _
        refine ⟨T', _, rfl, SqT.of upd_same, rfl, _, _, rfl, _, _, rfl, rfl, ?_⟩
        refine ⟨rfl, _, rfl, _, rfl, _, _, rfl, rfl, ?_⟩
        refine ⟨_, sT _ _ eD, by rw [List.length_map, List.length_take]; exact sizeK (by omega), same_updL (sm.trans sT) hD, ?_⟩
        rw [upd_same, take_more (zi_get hn hm), List.map_append]
        rfl
      · obtain ⟨sm, eD⟩ := h
        have e2 : (zi subZ t u).take (nv t).length = zi subZ t u := List.take_of_length_le (by rw [nv_len, List.length_zipWith]; omega)
        rw [e2] at eD
        refine ⟨D, _, rfl, .inl ⟨SqL.of eD, fun z hz' => ?_⟩⟩
        have sZ : Same H9 (upd H' z (.tup ((zi subZ t u).map V.int))) := sm.trans (same_new hz' _)
        refine ⟨_, z8, z, rfl, SqT.of upd_same, fun H11 v s11 hv => ?_⟩
        have S11 := sZ.trans s11
        refine ⟨_, z8, z, v, rfl, same_sqt S11 hT9, same_sqt S11 hU9, hv, t9.ext S11, fun H12 e12 t12 => ?_⟩
        have E12 := (ext_of S11).trans e12
        have EA := E9.trans E12
        have h812 := ext_sqt E12 h89
        refine ⟨_, rfl, z8, zi addZ t u, rfl, h812, by omega, fun m hm hmax => ⟨_, _, rfl, rfl, _, rfl, ite2 (fun c => q _ EA t12) (fun c => ?_)⟩⟩
        have c' : ¬ m > 60 := fun z => c (decide_eq_true z)
        have hall : ∀ i ∈ zi addZ t u, i ≤ 60 := fun i hi => by
          have := hmax i hi
          omega
        refine ⟨_, rfl, _, rfl, ?_⟩
        refine sp5_two (ext_sqt EA hT) (ext_sqt EA hU) hp hq hl ?_
        intro H13 z13 s13 hz13
        refine ⟨_, rfl, _, rfl, ?_⟩
        refine sp5_two (same_sqt s13 (ext_sqt EA hT)) (same_sqt s13 (ext_sqt EA hU)) hp hq hl ?_
        intro H14 z14 s14 hz14
        rw [zi_max] at hz13
        rw [zi_min] at hz14
        have lm : (List.zipWith max t u).length = t.length := by rw [List.length_zipWith]; omega
        have ln : (List.zipWith min t u).length = t.length := by rw [List.length_zipWith]; omega
        refine sp5_two (same_sqt s14 hz13) hz14 ⟨by omega, by omega, zw_60 (fun a b ha hb => by omega) hp.2.2 hq.2.2⟩ ⟨by omega, by omega, zw_60 (fun a b ha hb => by omega) hp.2.2 hq.2.2⟩ (by omega) ?_
        rw [show gTim (List.zipWith max t u) (List.zipWith min t u) = .t (zi addZ t u) by
          unfold gTim
          rw [zi_maxmin, if_pos (List.all_eq_true.mpr fun i hi => decide_eq_true (hall i hi))]]
        intro H15 z15 s15 hz15
        have E15 := ext_of (s13.trans (s14.trans s15))
        refine ⟨_, rfl, _, _, dp_intsT hz15, dp_intsT (ext_sqt E15 h812), shaped_intsT _, shaped_intsT _, ?_⟩
        rw [eqv_intsT]
        exact q _ (EA.trans E15) (t12.ext (s13.trans (s14.trans s15)))
end
end K4

namespace K4
open PySem PySem.Spec PyProof.Rows L2 RZ L5 XX
section
variable {K : PySem.W.Frag} {H H' : Hp} {p : Addr} {g x c : Int}
theorem bar_ne {b : Addr} {o : HO} (hp : H p = some (pailO g x c)) (h : H b = some o) (ho : o ≠ pailO g x c) : b ≠ p := fun z => by
  rw [z, hp] at h
  exact ho (Option.some.inj h).symm
theorem bar_sqt {a : Addr} {xs : List V} (hp : H p = some (pailO g x c)) (b : Bar p H H') (h : SqT K H a xs) : SqT K H' a xs := by
  rcases h with (h | ⟨o, h⟩) | h
  · exact .inl (.inl (b _ _ (bar_ne hp h fun z => nomatch z) h))
  · exact .inl (.inr ⟨o, b _ _ (bar_ne hp h fun z => nomatch z) h⟩)
  · exact .inr h
theorem Tabs.bar {T : List (Addr × Str)} (hp : H p = some (pailO g x c)) (b : Bar p H H') (t : LamX.Tabs T H) : LamX.Tabs T H' := fun q hq => by
  obtain ⟨ps, h1, h2, h3⟩ := t q hq
  refine ⟨ps, b _ _ (bar_ne hp h1 fun z => nomatch z) h1, h2, fun pos cv hc => ?_⟩
  obtain ⟨c', e1, e2⟩ := h3 pos cv hc
  exact ⟨c', e1, b _ _ (bar_ne hp e2 fun z => nomatch z) e2⟩
/-- all but the pail and the tables stays -/
def Fr (p : Addr) (H H' : Hp) : Prop := ∀ b o, b ≠ p → H b = some o → (∀ ps, o ≠ .tbl ps) → H' b = some o
theorem Fr.trans {A B C : Hp} (a : Fr p A B) (b : Fr p B C) : Fr p A C := fun d o n h k => b d o n (a d o n h k) k
theorem Fr.bar {A B : Hp} (a : Bar p A B) : Fr p A B := fun d o n h _ => a d o n h
theorem Fr.ext {A B : Hp} (a : LamX.ExtN A B) : Fr p A B := fun d o _ h k => a d o h k
end
section
variable {X : Cx} {E : XK} {k i : Nat} {x : Str} {p pos : Pos} {e : Expr} {es : List Expr} {t : TA}
/-- the slot holds one of several defs that may raise -/
def tCallV (i : Nat) (S : Addr → Sp → Prop) (E : XK) (t : TA) : TE := fun σ H Q => ∃ f sp, σ[i]? = some (some (.ref f)) ∧ S f sp ∧ t σ H fun vs H1 => sp vs H1 Q E
theorem pe_callV {S : Addr → Sp → Prop} (A : ∀ f sp, S f sp → ∃ fd ps, FnOk X.prog X.w X.K X.mg X.base (L2.CX X.prog X.w) k f fd ps sp ∧ PySem.W.keepIn X.K (.ref f) = true ∧ Binds X.K fd ps []) (hr : Room k X.A) (hN : X.N[i]? = some x) (hv : Vis X.env.scope x)
    (hx : Passes (L2.CX X.prog X.w) X E) (ha : PA X (e :: es) t)
    (hdb : (x == ("__debug__" : Str)) = false := by decide) (hcd : (x == ("__classdict__" : Str)) = false := by decide)
    (he : starEach (e :: es) X.env = (false, eval e X.env) :: starEach es X.env := by rfl) (hpl : (backTo pos (starEach es X.env)).any (·.1) = false := by rfl) : PE X (.Call (.Name x p) (e :: es) [] pos) (tCallV i S E t) := by
  refine ⟨fun pins s σ H Q I h => ?_⟩
  obtain ⟨f, sp, hs, hS, ht⟩ := h
  obtain ⟨fd, ps, F, hk, hb⟩ := A f sp hS
  refine (pe_callL (i := i) (f := f) (sp := sp) (dvs := []) (E := E) F hr hN hv hk hb .nil hx ha hdb hcd he hpl).run pins s σ H Q I ⟨hs, ?_⟩
  have e0 : (fun (vs : List V) (H1 : Hp) => sp (vs ++ []) H1 Q E) = fun vs H1 => sp vs H1 Q E := by
    funext vs H1
    rw [List.append_nil]
  show t σ H (fun vs H1 => sp (vs ++ []) H1 Q E)
  rw [e0]
  exact ht
end
section
variable {P : Program} {w : World} {K : PySem.W.Frag} {mg : Str → Option Value} {base : Heap}
def five (T : Txt K mg) : List (Addr × (List Nat → List Nat → Out)) := [(T.a_does_divide, gDiv), (T.a_multiple_of, gMul), (T.a_divisor_of, gLow), (T.a_product_times, gTim), (T.a_quotient_of, gQuo)]
def Five (T : Txt K mg) (f : Addr) (sp : Sp) : Prop := ∃ g, (f, g) ∈ five T ∧ sp = sp5 K T.C_InvalidProduct T.C_TooMany T.C_Refused g
theorem held5 (T : Txt K mg) : ∀ f sp, Five T f sp → ∃ fd ps, FnOk P w K mg base (L2.CX P w) 7 f fd ps sp ∧ PySem.W.keepIn K (.ref f) = true ∧ Binds K fd ps [] := by
  rintro f sp ⟨g, h, rfl⟩
  simp only [five, List.mem_cons, List.not_mem_nil, or_false, Prod.mk.injEq] at h
  rcases h with ⟨rfl, rfl⟩ | ⟨rfl, rfl⟩ | ⟨rfl, rfl⟩ | ⟨rfl, rfl⟩ | ⟨rfl, rfl⟩
  · exact ⟨_, _, ok_does_divide T, T.F_does_divide.kp, T.b_does_divide⟩
  · exact ⟨_, _, ok_multiple_of T, T.F_multiple_of.kp, T.b_multiple_of⟩
  · exact ⟨_, _, ok_divisor_of T, T.F_divisor_of.kp, T.b_divisor_of⟩
  · exact ⟨_, _, ok_product_times T, T.F_product_times.kp, T.b_product_times⟩
  · exact ⟨_, _, ok_quotient_of T, T.F_quotient_of.kp, T.b_quotient_of⟩
abbrev wrongD : PyData := .tuple [.str "refused", .str "product"]
theorem eqv_wrong_ints (l : List Int) : PyData.eqv (.tuple (l.map PyData.int)) wrongD = false := by
  cases l with
  | nil => simp [wrongD, PyData.eqv, PyData.eqvAll]
  | cons i l => simp [wrongD, PyData.eqv, PyData.eqvAll]
theorem shaped_wrong : SeqAt.shaped wrongD = true := by decide +kernel
theorem uniqR : ∀ p ∈ TT2, p.1 = 292 → p.2 = qRight := fun p hp e => by
  rcases List.mem_cons.mp hp with rfl | hp
  · cases e
  rcases List.mem_cons.mp hp with rfl | hp
  · rfl
  cases hp
end
end K4

namespace K4
open PySem PySem.Spec PyProof.Rows L2 RZ L5 XX
section
theorem any_is (os : List (Option Int)) : areB (some os) (if (if ((os.length : Nat) : Int) < 8 then ((os.length : Nat) : Int) else 8) > 1 then (if ((os.length : Nat) : Int) < 8 then ((os.length : Nat) : Int) else 8) else 1) 60 = anyB (some os) := by
  show (decide (((os.length : Nat) : Int) = _) && _) = (decide (1 ≤ os.length) && decide (os.length ≤ 8) && (decide (((os.length : Nat) : Int) = ((os.length : Nat) : Int)) && _))
  rw [decide_eq_true (p := ((os.length : Nat) : Int) = ((os.length : Nat) : Int)) rfl, Bool.true_and]
  congr 1
  rw [← Bool.decide_and]
  refine decide_eq_decide.mpr ?_
  split <;> split <;> omega
end
end K4

namespace K4
open PySem PySem.Spec PyProof.Rows L2 RZ L5 XX
section
variable {P : Program} {w : World} {K : PySem.W.Frag} {mg : Str → Option Value} {base : Heap}
/-! ### _law_right -/
def sp_right : Sp := fun vs H Q _ => ∃ p, ∃ g x c : Int, vs = [.ref p] ∧ H p = some (pailO g x c) ∧ LamX.Tabs TT2 H ∧ ∀ H' g x c, Fr p H H' → H' p = some (pailO g x c) → LamX.Tabs TT2 H' → Q (.bl true) H'
theorem ok_right (T : Txt K mg) (TB1 : LamX.TabB base mg T.c_w_two_right 287) (TB : LamX.TabB base mg T.c_w_right 292) : FnOk P w K mg base CX0 13 T.a_w_right T.d_w_right ["_law_pail_here"] sp_right := by
  refine T.G_w_right.okc sc_w_right (fun vs H Q E h => ?_) (fun A outer s H vs Q E hr h => ?_)
  · obtain ⟨p, g, x, c, rfl, _⟩ := h
    rfl
  · obtain ⟨p, g, x, c, rfl, hp, hTab, q⟩ := h
    obtain ⟨ocT, odT, kVT, docT, pmT, anT, cdvT, ctT, oslT, dT, lkT, cdT⟩ := T.F_w_told.ex
    rw [dT] at lkT
    refine ⟨_, pss_cons (ps_set (i := 1) sc_w_right.nd rfl (Or.inl rfl) (PE.weak (t' := fun σ H Q => ∃ p, ∃ g x c : Int, σ = start N_w_right [.ref p] ∧ H p = some (pailO g x c) ∧ ∀ (l : Nat) (g x c : Int), 1 ≤ l → l ≤ 8 → Q (.int ((l : Nat) : Int)) (upd H p (pailO g x c))) (pe_op op_add pe_int (pe_call (E := E0) (ok_dip T) (hr.mono (by decide)) (by rfl) T.m_w_dipped T.F_w_dipped.kp T.b_w_dipped .nil pass0 (pa_cons (pv 0) (pa_cons pe_int pa_nil)))) ?impL))
      (pss_cons (PS.weak (t' := fun D σ H => ∃ p, ∃ l : Nat, ∃ g x c : Int, σ = [some (.ref p), some (.int ((l : Nat) : Int)), none, none, none, none, none, none, none, none] ∧ 1 ≤ l ∧ l ≤ 8 ∧ H p = some (pailO g x c) ∧ ∀ H' a b t u g x c, Bar p H H' → H' p = some (pailO g x c) → SqT K H' a (nv t) → SqT K H' b (nv u) → t.length = l → u.length = l → (∀ e ∈ t, e ≤ 60) → (∀ e ∈ u, e ≤ 60) → D.nx [some (.ref p), some (.int ((l : Nat) : Int)), some (.ref b), none, none, none, none, some (.ref a), none, none] H') (ps_asg (pe_tup (pa_cons (pe_call (E := E0) (ok_great T) (hr.mono (by decide)) (by rfl) T.m_w_great T.F_w_great.kp T.b_w_great .nil pass0 (pa_cons (pv 0) (pa_cons (pv 1) pa_nil))) (pa_cons (pe_call (E := E0) (ok_some T) (hr.mono (by decide)) (by rfl) T.m_w_some T.F_w_some.kp T.b_w_some .nil pass0 (pa_cons (pv 0) (pa_cons (pe_lst (pa_cons (pe_call (E := E0) (ok_great T) (hr.mono (by decide)) (by rfl) T.m_w_great T.F_w_great.kp T.b_w_great .nil pass0 (pa_cons (pv 0) (pa_cons (pv 1) pa_nil))) (pa_cons (pe_call (E := E0) (ok_product T) (hr.mono (by decide)) (by rfl) T.m_w_product T.F_w_product.kp T.b_w_product .nil pass0 (pa_cons (pv 0) (pa_cons (pv 1) (pa_cons pe_int pa_nil)))) pa_nil))) pa_nil))) pa_nil))) (pg_tup (by rfl) (pgs_cons (pg_name (i := 7) sc_w_right.nd rfl (Or.inr rfl)) (pgs_cons (pg_name (i := 2) sc_w_right.nd rfl (Or.inl rfl)) pgs_nil)))) ?impB)
      (pss_cons (ps_set (i := 3) sc_w_right.nd rfl (Or.inl rfl) (pe_lst (pa_cons (pe_tup (pa_cons (pv 7) (pa_cons (pv 2) pa_nil))) (pa_cons (pe_tup (pa_cons (pv 2) (pa_cons (pv 7) pa_nil))) (pa_cons (pe_tup (pa_cons (pv 7) (pa_cons (pv 7) pa_nil))) (pa_cons (pe_tup (pa_cons (pe_call (E := E0) (ok_w_joined T) (hr.mono (by decide)) (by rfl) T.m_w_joined T.F_w_joined.kp T.b_w_joined .nil pass0 (pa_cons (pv 7) (pa_cons (pv 2) pa_nil))) (pa_cons (pv 7) pa_nil))) pa_nil))))))
      (pss_cons (ps_if (pt_cmpR (op_neD hr.units) (pe_lc (own := [("_law_pair", 9)]) (g := gName 9) rfl sc_w_right.nd (pi_list (pv 3)) (blkOk_by (own := [("_law_pair", 9)]) (N := N_w_right) (sc := defScope s_w_right) (by decide +kernel))
          (fun _ _ _ _ _ => pg_name (i := 9) sc_w_right.nd rfl (Or.inl rfl))
          (fun _ _ _ _ _ => pts_one (pt_not (pt_val (pe_call (E := E0) (ok_two T TB1) hr (by rfl) T.m_w_two_right T.F_w_two_right.kp T.b_w_two_right .nil pass0 (pa_cons (pe_ix (show IxR _ (rIxT K) from ix_tup) (pv 9) pe_int (fun _ _ => rfl)) (pa_cons (pe_ix (show IxR _ (rIxT K) from ix_tup) (pv 9) pe_int (fun _ _ => rfl)) pa_nil))))))
          (fun _ _ _ _ _ => pv 9)) (pe_lst pa_nil) (nomark _)) (pss_one (ps_ret pe_bl)) pss_nil)
      (pss_cons (ps_for PassesOwn.never rfl (pi_list (pe_call (E := E0) (ok_near T) (hr.mono (by decide)) (by rfl) T.m_w_near T.F_w_near.kp T.b_w_near .nil pass0 (pa_cons (pv 0) (pa_cons (pv 7) pa_nil)))) (pg_name (i := 8) sc_w_right.nd rfl (Or.inr rfl))
        (pss_cons (ps_if (pt_cmpR op_ne (pe_call (E := E0) (ok_isp T) (hr.mono (by decide)) (by rfl) T.m_is_product T.F_is_product.kp T.b_is_product .nil pass0 (pa_cons (pv 1) (pa_cons (pv 8) pa_nil))) (pe_call (E := E0) (ok_is T) (hr.mono (by decide)) (by rfl) T.m_w_is T.F_w_is.kp T.b_w_is .nil pass0 (pa_cons (pv 1) (pa_cons (pv 8) pa_nil))) (nomark _)) (pss_one (ps_ret pe_bl)) pss_nil)
        (pss_cons (ps_set (i := 4) sc_w_right.nd rfl (Or.inl rfl) (PE.weak (t' := fun σ H Q => ∃ v0 v1 v2 v3 v4 v5 v6 v7 v9 : Option V, ∃ v d, σ = [v0, v1, v2, v3, v4, v5, v6, v7, some v, v9] ∧ Va K H v d ∧ ∀ H', Same H H' → Q (.bl (anyB d)) H') (pe_and (pe_callB call_isi (by rfl) T.z_isinstance boot_isinstance (pa_cons (pv 8) (pa_cons (pe_bltn (v := .ty "tuple") (by rfl) T.z_tuple boot_tuple rfl) pa_nil))) (pe_one (pe_call (E := E0) (ok_is T) (hr.mono (by decide)) (by rfl) T.m_w_is T.F_w_is.kp T.b_w_is .nil pass0 (pa_cons (pe_callB (call_max2 rfl) (by rfl) T.z_max boot_max (pa_cons pe_int (pa_cons (pe_callB (call_min2 rfl) (by rfl) T.z_min (by decide +kernel) (pa_cons pe_int (pa_cons (pe_callB call_len_seq (by rfl) T.z_len boot_len (pa_cons (pv 8) pa_nil)) pa_nil))) pa_nil))) (pa_cons (pv 8) pa_nil))))) ?impI))
        (pss_cons (ps_for PassesOwn.never rfl (pi_tup (pe_tup (pa_cons (pe_glob (v := .ref T.a_does_divide) rfl T.m_does_divide rfl) (pa_cons (pe_glob (v := .ref T.a_multiple_of) rfl T.m_multiple_of rfl) (pa_cons (pe_glob (v := .ref T.a_divisor_of) rfl T.m_divisor_of rfl) (pa_cons (pe_glob (v := .ref T.a_product_times) rfl T.m_product_times rfl) (pa_cons (pe_glob (v := .ref T.a_quotient_of) rfl T.m_quotient_of rfl) pa_nil))))))) (pg_name (i := 6) sc_w_right.nd rfl (Or.inr rfl))
          (pss_cons (ps_set (i := 5) sc_w_right.nd rfl (Or.inl rfl) (PE.weak (t' := fun σ H Q => ∃ v0 v1 v2 v3 v4 v5 v9 : Option V, ∃ f g a t v d, σ = [v0, v1, v2, v3, v4, v5, some (.ref f), some (.ref a), some v, v9] ∧ (f, g) ∈ five T ∧ SqT K H a (nv t) ∧ Prod60 t ∧ Va K H v d ∧ LamX.Tabs TT2 H ∧ ∀ H', LamX.ExtN H H' → LamX.Tabs TT2 H' → Q (.bl (!areB d ((t.length : Nat) : Int) 60)) H') (pe_cmpR (op_eqD hr.units) (LamX.pe_lamcall (T := TT2) (TT := TTold3 K T.C_InvalidProduct T.C_TooMany T.C_Refused) (Ng := N_w_told) (by rfl) T.m_w_told T.F_w_told.kp lkT cdT (dT ▸ T.b_w_told) sc_w_told rfl (Or.inl rfl)
        (told_gives3 (X := (cxOf CX0 P w K mg base N_w_right "_law_right" (defScope s_w_right) T.a_w_right (.ref T.c_w_right) A outer s H E).nox) T) TB rfl (show (292, qRight) ∈ TT2 from List.mem_cons_of_mem _ List.mem_cons_self) uniqR hr (LamX.lamS_by (show LamX.lamSB (defScope s_w_right) _ = true by decide +kernel)) (by rfl) (fun _ _ _ _ _ => by rfl)
        (fun A' outer' s' H' E' f' c' hr' => pe_callV (i := 6) (S := Five T) (E := E') (held5 T) (hr'.mono (by decide)) rfl (Or.inr (Or.inr rfl)) (passes_call (takes_of rfl rfl rfl rfl) fun _ _ _ _ z => z) (pa_cons (pv 7) (pa_cons (pv 8) pa_nil)))) (pe_tup (pa_cons pe_str (pa_cons pe_str pa_nil))) (nomark _)) ?impW))
          (pss_one (ps_if (pt_cmpR op_ne (pv 5) (pe_not (pe_call (E := E0) (ok_is T) (hr.mono (by decide)) (by rfl) T.m_w_is T.F_w_is.kp T.b_w_is .nil pass0 (pa_cons (pv 1) (pa_cons (pv 8) pa_nil)))) (nomark _)) (pss_one (ps_ret pe_bl)) pss_nil))))
        (pss_one (ps_if (pt_cmpR op_ne (PE.weak (t' := fun σ H Q => ∃ v0 v1 v2 v3 v4 v5 v6 v7 v9 : Option V, ∃ v d, σ = [v0, v1, v2, v3, v4, v5, v6, v7, some v, v9] ∧ Va K H v d ∧ LamX.Tabs TT2 H ∧ ∀ H', LamX.ExtN H H' → LamX.Tabs TT2 H' → Q (.bl (!anyB d)) H') (pe_cmpR (op_eqD hr.units) (LamX.pe_lamcall (T := TT2) (TT := TTold3 K T.C_InvalidProduct T.C_TooMany T.C_Refused) (Ng := N_w_told) (by rfl) T.m_w_told T.F_w_told.kp lkT cdT (dT ▸ T.b_w_told) sc_w_told rfl (Or.inl rfl)
        (told_gives3 (X := (cxOf CX0 P w K mg base N_w_right "_law_right" (defScope s_w_right) T.a_w_right (.ref T.c_w_right) A outer s H E).nox) T) TB rfl (show (292, qRight) ∈ TT2 from List.mem_cons_of_mem _ List.mem_cons_self) uniqR hr (LamX.lamS_by (show LamX.lamSB (defScope s_w_right) _ = true by decide +kernel)) (by rfl) (fun _ _ _ _ _ => by rfl)
        (fun A' outer' s' H' E' f' c' hr' => pe_call (E := E') (ok_deg T) (hr'.mono (by decide)) (by rfl) T.m_degree_of T.F_degree_of.kp T.b_degree_of .nil (passes_call (takes_of rfl rfl rfl rfl) fun _ _ _ _ z => z) (pa_cons (pv 8) pa_nil))) (pe_tup (pa_cons pe_str (pa_cons pe_str pa_nil))) (nomark _)) ?impD) (pe_not (pv 4)) (nomark _)) (pss_one (ps_ret pe_bl)) pss_nil))))))
      (pss_one (ps_ret pe_bl)))))), ?_⟩
    case impL =>
      rintro σ H0 Q' ⟨p, g, x, c, rfl, hp0, nx⟩
      refine ⟨_, rfl, p, _, g, x, c, rfl, hp0, by omega, by omega, fun g2 x2 c2 r h0 h1 => ⟨_, _, rfl, rfl, ?_⟩⟩
      obtain ⟨n, rfl⟩ := nat_of h0
      have := nx (n + 1) g2 x2 c2 (by omega) (by omega)
      rw [show ((n + 1 : Nat) : Int) = 1 + ((n : Nat) : Int) by omega] at this
      exact this
    case impB =>
      rintro D σ H0 ⟨p, l, g, x, c, rfl, h1, h8, hp0, nx⟩
      refine ⟨_, rfl, _, rfl, p, l, g, x, c, rfl, hp0, h1, h8, fun H1 z1 t1 g1 x1 c1 b1 hp1 hz1 hl1 h61 => ?_⟩
      refine ⟨_, rfl, _, rfl, _, rfl, p, l, g1, x1, c1, rfl, hp1, h1, h8, fun H2 z2 t2 g2 x2 c2 b2 hp2 hz2 hl2 h62 => ?_⟩
      refine ⟨_, rfl, _, rfl, p, l, g2, x2, c2, rfl, hp2, h1, h8, fun H3 z3 t3 g3 x3 c3 b3 hp3 hz3 hl3 h63 => ?_⟩
      refine ⟨by show 2 ≤ sizeLine; decide, fun y hy => ?_⟩
      have sy := same_new hy (.lst [V.ref z2, V.ref z3])
      have hyp : y ≠ p := fun z => by rw [z, hp3] at hy; cases hy
      refine ⟨p, y, _, g3, x3, c3, rfl, sy _ _ hp3, hyp, SqL.of upd_same, by simp, by simp, fun g4 x4 c4 v hv => ?_⟩
      have hp4 := sy _ _ hp3
      have B4 : Bar p (upd H3 y (.lst [V.ref z2, V.ref z3])) (upd (upd H3 y (.lst [V.ref z2, V.ref z3])) p (pailO g4 x4 c4)) := Bar.upd
      have hpe : (upd (upd H3 y (.lst [V.ref z2, V.ref z3])) p (pailO g4 x4 c4)) p = some (pailO g4 x4 c4) := upd_same
      have BB : Bar p H0 (upd (upd H3 y (.lst [V.ref z2, V.ref z3])) p (pailO g4 x4 c4)) := b1.trans (b2.trans (b3.trans ((Bar.same sy).trans B4)))
      have hz1' := bar_sqt hp4 B4 (same_sqt sy (bar_sqt hp2 b3 (bar_sqt hp1 b2 hz1)))
      have hz2' := bar_sqt hp4 B4 (same_sqt sy (bar_sqt hp2 b3 hz2))
      have hz3' := bar_sqt hp4 B4 (same_sqt sy hz3)
      generalize (upd (upd H3 y (.lst [V.ref z2, V.ref z3])) p (pailO g4 x4 c4)) = H5 at hpe BB hz1' hz2' hz3' ⊢
      obtain ⟨b, u, rfl, hU, hlu, h6u⟩ : ∃ b u, v = V.ref b ∧ SqT K H5 b (nv u) ∧ u.length = l ∧ ∀ e ∈ u, e ≤ 60 := by
        simp only [List.mem_cons, List.not_mem_nil, or_false] at hv
        rcases hv with rfl | rfl
        · exact ⟨_, _, rfl, hz2', hl2, h62⟩
        · exact ⟨_, _, rfl, hz3', hl3, h63⟩
      refine ⟨by show 2 ≤ sizeLine; decide, fun z hz => ?_⟩
      have sz := same_new hz (.tup [V.ref z1, V.ref b])
      refine ⟨z, _, rfl, SqT.of upd_same, rfl, _, _, rfl, _, _, rfl, rfl, ?_⟩
      exact nx _ z1 b t1 u g4 x4 c4 (BB.trans (Bar.same sz)) (sz _ _ hpe) (same_sqt sz hz1') (same_sqt sz hU) hl1 hlu h61 h6u
    case impI =>
      rintro σ H0 Q' ⟨v0, v1, v2, v3, v4, v5, v6, v7, v9, v, d, rfl, hv, nx⟩
      obtain ⟨ty, tx, et⟩ := hv.isi
      refine ⟨_, rfl, _, _, _, _, _, rfl, .ty _, tx, et, _, rfl, ?_⟩
      cases d with
      | none => exact iteF (nx _ (Same.refl _))
      | some os =>
        obtain ⟨a, vs, rfl, hT, hE, _⟩ := hv.get
        refine iteT ⟨_, rfl, a, _, rfl, .inr hT, _, _, rfl, _, _, rfl, _, rfl, _, _, some os, rfl, hv, fun H' sm => ?_⟩
        rw [hE.length, any_is]
        exact nx H' sm
    case impW =>
      rintro σ H0 Q' ⟨v0, v1, v2, v3, v4, v5, v9, f, g, a, t, v, d, rfl, hfg, hT, hp, hv, tab, nx⟩
      refine ⟨tab, fun H9 e9 t9 => ⟨f, _, rfl, ⟨g, hfg, rfl⟩, _, rfl, _, rfl, ?_⟩⟩
      unfold sp5
      refine ⟨a, t, v, d, rfl, ext_sqt e9 hT, hp, hv.ext e9, fun e H10 s10 => ?_, fun e r u _ _ _ _ _ => ?_⟩
      · refine .inl ⟨rfl, fun y hy => ⟨by show 2 ≤ sizeLine; decide, fun y2 hy2 => ?_⟩⟩
        have sy := same_new hy (.tup [V.str "refused", V.str "product"])
        have sy2 := same_new hy2 (.tup [V.str "refused", V.str "product"])
        refine ⟨wrongD, wrongD, .tup (SqT.of (sy2 _ _ upd_same)) (.cons (.str _) (.cons (.str _) .nil)), .tup (SqT.of upd_same) (.cons (.str _) (.cons (.str _) .nil)), shaped_wrong, shaped_wrong, ?_⟩
        have := nx _ (e9.trans (ext_of (s10.trans (sy.trans sy2)))) (t9.ext (s10.trans (sy.trans sy2)))
        rw [e] at this
        rw [show PyData.eqv wrongD wrongD = true by decide +kernel]
        exact this
      · rw [e] at nx
        have done : ∀ H', Same H9 H' → Q' (.bl false) H' := fun H' s' => nx H' (e9.trans (ext_of s')) (t9.ext s')
        cases g t u with
        | b x =>
          intro H10 s10
          refine ⟨by show 2 ≤ sizeLine; decide, fun y2 hy2 => ?_⟩
          have sy2 := same_new hy2 (.tup [V.str "refused", V.str "product"])
          refine ⟨.bool x, wrongD, .bl x, .tup (SqT.of upd_same) (.cons (.str _) (.cons (.str _) .nil)), by cases x <;> decide +kernel, shaped_wrong, ?_⟩
          rw [show PyData.eqv (.bool x) wrongD = false by cases x <;> decide +kernel]
          exact done _ (s10.trans sy2)
        | t l =>
          intro H10 z s10 hz
          refine ⟨by show 2 ≤ sizeLine; decide, fun y2 hy2 => ?_⟩
          have sy2 := same_new hy2 (.tup [V.str "refused", V.str "product"])
          refine ⟨_, wrongD, dp_intsT (same_sqt sy2 hz), .tup (SqT.of upd_same) (.cons (.str _) (.cons (.str _) .nil)), shaped_intsT l, shaped_wrong, ?_⟩
          rw [eqv_wrong_ints]
          exact done _ (s10.trans sy2)
        | many =>
          intro H10 dd s10 hd
          refine .inr (.inl ⟨rfl, dd, _, rfl, hd, fun y hy => ⟨by show 2 ≤ sizeLine; decide, fun y2 hy2 => ?_⟩⟩)
          have sy := same_new hy (.tup [V.str "refused", V.str "many", V.int 60])
          have sy2 := same_new hy2 (.tup [V.str "refused", V.str "product"])
          refine ⟨_, wrongD, .tup (SqT.of (sy2 _ _ upd_same)) (.cons (.str _) (.cons (.str _) (.cons (.int _) .nil))), .tup (SqT.of upd_same) (.cons (.str _) (.cons (.str _) .nil)), by decide +kernel, shaped_wrong, ?_⟩
          rw [show PyData.eqv (.tuple [.str "refused", .str "many", .int 60]) wrongD = false by decide +kernel]
          exact done _ (s10.trans (sy.trans sy2))
        | rest =>
          intro H10 dd z s10 hz hd
          refine .inr (.inr ⟨rfl, dd, _, rfl, hd, fun y hy => ⟨by show 2 ≤ sizeLine; decide, fun y2 hy2 => ?_⟩⟩)
          have sy := same_new hy (.tup [V.str "refused", V.str "reason", V.ref z])
          have sy2 := same_new hy2 (.tup [V.str "refused", V.str "product"])
          refine ⟨.tuple [.str "refused", .str "reason", .tuple [.str "rest"]], wrongD, .tup (SqT.of (sy2 _ _ upd_same)) (.cons (.str _) (.cons (.str _) (.cons (.tup (same_sqt (sy.trans sy2) hz) (.cons (.str _) .nil)) .nil))), .tup (SqT.of upd_same) (.cons (.str _) (.cons (.str _) .nil)), by decide +kernel, shaped_wrong, ?_⟩
          rw [show PyData.eqv (.tuple [.str "refused", .str "reason", .tuple [.str "rest"]]) wrongD = false by decide +kernel]
          exact done _ (s10.trans (sy.trans sy2))
    case impD =>
      rintro σ H0 Q' ⟨v0, v1, v2, v3, v4, v5, v6, v7, v9, v, d, rfl, hv, tab, nx⟩
      refine ⟨tab, fun H9 e9 t9 => ⟨_, rfl, ?_⟩⟩
      unfold sp_deg
      refine ⟨v, d, rfl, hv.ext e9, fun e H10 s10 => ?_, fun e p' t' _ _ _ _ H10 s10 => ?_⟩
      · refine .inl ⟨rfl, fun y hy => ⟨by show 2 ≤ sizeLine; decide, fun y2 hy2 => ?_⟩⟩
        have sy := same_new hy (.tup [V.str "refused", V.str "product"])
        have sy2 := same_new hy2 (.tup [V.str "refused", V.str "product"])
        refine ⟨wrongD, wrongD, .tup (SqT.of (sy2 _ _ upd_same)) (.cons (.str _) (.cons (.str _) .nil)), .tup (SqT.of upd_same) (.cons (.str _) (.cons (.str _) .nil)), shaped_wrong, shaped_wrong, ?_⟩
        have := nx _ (e9.trans (ext_of (s10.trans (sy.trans sy2)))) (t9.ext (s10.trans (sy.trans sy2)))
        rw [e] at this
        rw [show PyData.eqv wrongD wrongD = true by decide +kernel]
        exact this
      · rw [e] at nx
        refine ⟨by show 2 ≤ sizeLine; decide, fun y2 hy2 => ?_⟩
        have sy2 := same_new hy2 (.tup [V.str "refused", V.str "product"])
        refine ⟨.int _, wrongD, .int _, .tup (SqT.of upd_same) (.cons (.str _) (.cons (.str _) .nil)), by simp [SeqAt.shaped, PyData.canLay0, PyData.depth], shaped_wrong, ?_⟩
        rw [show ∀ i : Int, PyData.eqv (.int i) wrongD = false from fun i => by simp [wrongD, PyData.eqv]]
        exact nx _ (e9.trans (ext_of (s10.trans sy2))) (t9.ext (s10.trans sy2))
    refine ⟨p, g, x, c, rfl, hp, fun l g1 x1 c1 h1 h8 => ?_⟩
    have b1 : Bar p H (upd H p (pailO g1 x1 c1)) := Bar.upd
    refine ⟨p, l, g1, x1, c1, rfl, h1, h8, upd_same, fun H2 a b t u g2 x2 c2 b2 hp2 hA hB ht hu h60t h60u => ?_⟩
    subst ht
    have B2 := b1.trans b2
    have tab2 := Tabs.bar hp B2 hTab
    have pt : Prod60 t := ⟨h1, h8, h60t⟩
    have pu : Prod60 u := ⟨by omega, by omega, h60u⟩
    -- the pairs
    refine ⟨_, rfl, _, rfl, by show 2 ≤ sizeLine; decide, fun y1 hy1 => ⟨_, rfl, _, rfl, by show 2 ≤ sizeLine; decide, fun y2 hy2 => ⟨_, rfl, _, rfl, by show 2 ≤ sizeLine; decide, fun y3 hy3 => ?_⟩⟩⟩
    have r1 := same_new hy1 (.tup [V.ref a, V.ref b])
    have r2 := same_new hy2 (.tup [V.ref b, V.ref a])
    have r3 := same_new hy3 (.tup [V.ref a, V.ref a])
    have R3 := r1.trans (r2.trans r3)
    refine ⟨_, rfl, _, rfl, a, b, t, u, rfl, same_sqt R3 hA, same_sqt R3 hB, hu, by omega, fun H3 z s3 hz => ?_⟩
    refine ⟨_, rfl, by show 2 ≤ sizeLine; decide, fun y4 hy4 => ⟨by show 4 ≤ sizeLine; decide, fun L hL => ?_⟩⟩
    have r4 := same_new hy4 (.tup [V.ref z, V.ref a])
    have r5 := same_new hL (.lst [V.ref y1, V.ref y2, V.ref y3, V.ref y4])
    have R45 := r4.trans r5
    have S4 := R3.trans (s3.trans R45)
    rw [zi_max] at hz
    have hpairs : ∀ v ∈ [V.ref y1, V.ref y2, V.ref y3, V.ref y4], ∃ y a' b' t' u', v = V.ref y ∧ SqT K (upd (upd H3 y4 (.tup [V.ref z, V.ref a])) L (.lst [V.ref y1, V.ref y2, V.ref y3, V.ref y4])) y [V.ref a', V.ref b'] ∧ SqT K (upd (upd H3 y4 (.tup [V.ref z, V.ref a])) L (.lst [V.ref y1, V.ref y2, V.ref y3, V.ref y4])) a' (nv t') ∧
        SqT K (upd (upd H3 y4 (.tup [V.ref z, V.ref a])) L (.lst [V.ref y1, V.ref y2, V.ref y3, V.ref y4])) b' (nv u') ∧ Prod60 t' ∧ Prod60 u' ∧ u'.length = t'.length := fun v hv => by
      have hA4 := same_sqt S4 hA
      have hB4 := same_sqt S4 hB
      simp only [List.mem_cons, List.not_mem_nil, or_false] at hv
      rcases hv with rfl | rfl | rfl | rfl
      · exact ⟨y1, a, b, t, u, rfl, SqT.of ((r2.trans (r3.trans (s3.trans R45))) _ _ upd_same), hA4, hB4, pt, pu, hu⟩
      · exact ⟨y2, b, a, u, t, rfl, SqT.of ((r3.trans (s3.trans R45)) _ _ upd_same), hB4, hA4, pu, pt, hu.symm⟩
      · exact ⟨y3, a, a, t, t, rfl, SqT.of ((s3.trans R45) _ _ upd_same), hA4, hA4, pt, pt, rfl⟩
      · have lm : (List.zipWith max t u).length = t.length := by rw [List.length_zipWith]; omega
        exact ⟨y4, z, a, _, t, rfl, SqT.of (r5 _ _ upd_same), same_sqt R45 hz, hA4, ⟨by omega, by omega, zw_60 (fun a b ha hb => by omega) h60t h60u⟩, pt, lm.symm⟩
    have hLp : SqL K (upd (upd H3 y4 (.tup [V.ref z, V.ref a])) L (.lst [V.ref y1, V.ref y2, V.ref y3, V.ref y4])) L [V.ref y1, V.ref y2, V.ref y3, V.ref y4] := SqL.of upd_same
    have tab4 := tab2.ext S4
    generalize (upd (upd H3 y4 (.tup [V.ref z, V.ref a])) L (.lst [V.ref y1, V.ref y2, V.ref y3, V.ref y4])) = H4 at S4 hpairs hLp tab4 ⊢
    generalize hxs : [V.ref y1, V.ref y2, V.ref y3, V.ref y4] = xs at hpairs hLp
    refine ⟨_, rfl, L, rfl, ⟨_, hLp⟩, fun D hD => ?_⟩
    have sD := same_new hD (.lst [])
    refine lc_list (K := K) (a := L) (xs := xs) (fun i H' => LamX.ExtN H4 H' ∧ LamX.Tabs TT2 H' ∧ H' D = some (.lst [])) ⟨ext_of sD, tab4.ext sD, upd_same⟩ (fun i H' _ h => ext_sql h.1 hLp) (fun i v H' hi h => ?_) (fun H' h => ?_)
    · obtain ⟨e5, t5, eD⟩ := h
      obtain ⟨y, a', b', t', u', rfl, hy, ha', hb', pt', pu', hl'⟩ := hpairs v (List.mem_of_getElem? hi)
      refine ⟨rfl, _, rfl, y, _, _, _, rfl, rfl, ext_sqt e5 hy, rfl, _, rfl, y, _, _, _, rfl, rfl, ext_sqt e5 hy, rfl, a', b', t', u', rfl, ext_sqt e5 ha', ext_sqt e5 hb', pt', pu', hl', t5, fun H7 e7 t7 => ⟨true, rfl, ?_⟩⟩
      exact iteF ⟨e5.trans e7, t7, e7 _ _ eD (fun _ z => nomatch z)⟩
    · obtain ⟨e5, t5, eD⟩ := h
      refine ⟨by show 0 ≤ sizeLine; exact Nat.zero_le _, fun y hy => ?_⟩
      have sy := same_new hy (.lst [])
      refine ⟨_, _, .lst (SqL.of (sy _ _ eD)) .nil, .lst (SqL.of upd_same) .nil, shaped_nil, shaped_nil, _, rfl, ?_⟩
      rw [show PyData.eqv (.list []) (.list []) = true by decide +kernel]
      refine iteF ?_
      have e6 : LamX.ExtN H4 (upd H' y (.lst [])) := e5.trans (ext_of sy)
      have t6 := t5.ext sy
      generalize (upd H' y (.lst [])) = H6 at e6 t6 ⊢
      -- values near by
      have E6 : LamX.ExtN H2 H6 := (ext_of S4).trans e6
      refine ⟨_, rfl, _, rfl, p, a, t, g2, x2, c2, rfl, E6 _ _ hp2 (fun _ z => nomatch z), ext_sqt E6 hA, pt, fun H8 z8 xs8 g3 x3 c3 b8 hp8 hz8 hlen8 hva => ?_⟩
      have t8 := Tabs.bar (E6 _ _ hp2 (fun _ z => nomatch z)) b8 t6
      have hA8 := bar_sqt (E6 _ _ hp2 (fun _ z => nomatch z)) b8 (ext_sqt E6 hA)
      refine ⟨z8, rfl, ⟨_, SqL.of hz8⟩, ?_⟩
      refine for_list (K := K) (a := z8) (xs := xs8) (fun i σ H' => ∃ v4 v5 v6 v8 : Option V, σ = [some (.ref p), some (.int ((t.length : Nat) : Int)), some (.ref b), some (.ref L), v4, v5, v6, some (.ref a), v8, none] ∧ LamX.ExtN H8 H' ∧ LamX.Tabs TT2 H')
        ⟨none, none, none, none, rfl, LamX.ExtN.refl _, t8⟩ (fun i σ H' _ ⟨_, _, _, _, _, e, _⟩ => ext_sql e (SqL.of hz8)) ?_ ?_
      · rintro i v σ H9 hi ⟨v4, v5, v6, v8, rfl, e9, t9⟩
        obtain ⟨d, hv⟩ := hva v (List.mem_of_getElem? hi)
        refine ⟨_, rfl, _, rfl, _, v, d, rfl, by omega, by omega, hv.ext e9, fun H10 s10 => ?_⟩
        have E10 := e9.trans (ext_of s10)
        refine ⟨_, rfl, _, rfl, _, v, d, rfl, hv.ext E10, fun H11 s11 => ⟨rfl, _, rfl, ?_⟩⟩
        have E11 := E10.trans (ext_of s11)
        rw [decide_eq_true rfl]
        refine iteF ?_
        refine ⟨_, _, _, _, _, _, _, _, _, v, d, rfl, hv.ext E11, fun H12 s12 => ?_⟩
        have E12 := E11.trans (ext_of s12)
        have t12 := ((t9.ext s10).ext s11).ext s12
        refine ⟨by show 5 ≤ sizeLine; decide, fun z5 hz5 => ⟨z5, rfl, ⟨_, SqT.of upd_same⟩, ?_⟩⟩
        have s13 := same_new hz5 (.tup [V.ref T.a_does_divide, V.ref T.a_multiple_of, V.ref T.a_divisor_of, V.ref T.a_product_times, V.ref T.a_quotient_of])
        refine for_tup (K := K) (a := z5) (xs := [V.ref T.a_does_divide, V.ref T.a_multiple_of, V.ref T.a_divisor_of, V.ref T.a_product_times, V.ref T.a_quotient_of])
          (fun j σ H' => ∃ v5 v6 : Option V, σ = [some (.ref p), some (.int ((t.length : Nat) : Int)), some (.ref b), some (.ref L), some (.bl (anyB d)), v5, v6, some (.ref a), some v, none] ∧ LamX.ExtN H8 H' ∧ LamX.Tabs TT2 H' ∧ SqT K H' z5 [V.ref T.a_does_divide, V.ref T.a_multiple_of, V.ref T.a_divisor_of, V.ref T.a_product_times, V.ref T.a_quotient_of])
          ⟨v5, v6, rfl, E12.trans (ext_of s13), t12.ext s13, SqT.of upd_same⟩ (fun j σ H' _ ⟨_, _, _, _, _, h⟩ => h) ?_ ?_
        · rintro j f0 σ H14 hj ⟨w5, w6, rfl, e14, t14, hz14⟩
          obtain ⟨f, gg, rfl, hfg⟩ : ∃ f gg, f0 = V.ref f ∧ (f, gg) ∈ five T := by
            have hm := List.mem_of_getElem? hj
            simp only [List.mem_cons, List.not_mem_nil, or_false] at hm
            rcases hm with rfl | rfl | rfl | rfl | rfl
            · exact ⟨_, gDiv, rfl, by simp [five]⟩
            · exact ⟨_, gMul, rfl, by simp [five]⟩
            · exact ⟨_, gLow, rfl, by simp [five]⟩
            · exact ⟨_, gTim, rfl, by simp [five]⟩
            · exact ⟨_, gQuo, rfl, by simp [five]⟩
          refine ⟨_, _, _, _, _, _, _, f, gg, a, t, v, d, rfl, hfg, ext_sqt e14 hA8, pt, hv.ext e14, t14, fun H15 e15 t15 => ?_⟩
          have E15 := e14.trans e15
          refine ⟨_, rfl, _, rfl, _, rfl, _, v, d, rfl, hv.ext E15, fun H16 s16 => ⟨_, rfl, rfl, _, rfl, ?_⟩⟩
          rw [decide_eq_true rfl]
          exact iteF ⟨_, _, rfl, E15.trans (ext_of s16), t15.ext s16, ext_sqt (e15.trans (ext_of s16)) hz14⟩
        · rintro σ H14 ⟨w5, w6, rfl, e14, t14, hz14⟩
          refine ⟨_, _, _, _, _, _, _, _, _, v, d, rfl, hv.ext e14, t14, fun H15 e15 t15 => ?_⟩
          refine ⟨_, rfl, _, rfl, rfl, _, rfl, ?_⟩
          rw [decide_eq_true rfl]
          exact iteF ⟨_, _, _, _, rfl, e14.trans e15, t15⟩
      · rintro σ H9 ⟨v4, v5, v6, v8, rfl, e9, t9⟩
        refine q _ g3 x3 c3 ?_ (e9 _ _ hp8 (fun _ z => nomatch z)) t9
        exact (Fr.bar B2).trans ((Fr.ext E6).trans ((Fr.bar b8).trans (Fr.ext e9)))
end
end K4

namespace K4
open PySem PySem.Spec PyProof.Rows L2 RZ L5 XX
section
variable {P : Program} {w : World} {K : PySem.W.Frag} {mg : Str → Option Value} {base : Heap}
/-! ### the law -/
theorem fr_ext {z : Addr} {H A B : Hp} (s : Same H A) (hz : H z = none) (f : Fr z A B) : LamX.ExtN H B := fun b o h k => f b o (ne_of_none h hz) (s b o h) k
theorem tup3 {H : Hp} {y : Addr} (a b c : Nat) (h : H y = some (.tup [V.int ((a : Nat) : Int), V.int ((b : Nat) : Int), V.int ((c : Nat) : Int)])) : SqT K H y (nv [a, b, c]) := SqT.of h
theorem p3 (a b c : Nat) (h : a ≤ 60 ∧ b ≤ 60 ∧ c ≤ 60) : Prod60 [a, b, c] := ⟨by show 1 ≤ 3; decide, by show 3 ≤ 8; decide, fun e he => by
  simp only [List.mem_cons, List.not_mem_nil, or_false] at he
  rcases he with rfl | rfl | rfl
  · exact h.1
  · exact h.2.1
  · exact h.2.2⟩
theorem ok_law (T : Txt K mg) (TB1 : LamX.TabB base mg T.c_w_two_right 287) (TB2 : LamX.TabB base mg T.c_w_right 292) : FnOk P w K mg base CX0 14 T.a_law T.d_law ["_law_script"] (sp_law K) := by
  refine T.F_law.ok sc_law (fun vs H Q E h => ?_) (fun cdv A outer s H vs Q E hr h => ?_)
  · obtain ⟨a, ns, rfl, _⟩ := h
    rfl
  · obtain ⟨a, ns, rfl, hS, hn, hTab, q⟩ := h
    refine ⟨_, pss_cons (ps_for PassesOwn.never rfl (pi_range1 rfl T.z_range (pa_cons (pe_callB (call_max2 rfl) (by rfl) T.z_max boot_max (pa_cons pe_int (pa_cons (pe_callB (call_min2 rfl) (by rfl) T.z_min (by decide +kernel) (pa_cons pe_int (pa_cons (pe_callB call_len_seq (by rfl) T.z_len boot_len (pa_cons (pv 0) pa_nil)) pa_nil))) pa_nil))) pa_nil)) (pg_name (i := 1) sc_law.nd rfl (Or.inl rfl))
        (pss_cons (ps_set (i := 2) sc_law.nd rfl (Or.inl rfl) (pe_call (E := E0) (ok_pail T) (hr.mono (by decide)) (by rfl) T.m_w_pail T.F_w_pail.kp T.b_w_pail .nil pass0 (pa_cons (pv 0) (pa_cons (pv 1) pa_nil))))
        (pss_one (ps_if (PW.pt (pw_or (pt_not (pt_val (pe_call (E := E0) (ok_right T TB1 TB2) hr (by rfl) T.m_w_right T.F_w_right.kp T.b_w_right .nil pass0 (pa_cons (pv 2) pa_nil))))
          (pw_or1 (pt_not (pt_val (pe_call (E := E0) (ok_right T TB1 TB2) hr (by rfl) T.m_w_right T.F_w_right.kp T.b_w_right .nil pass0 (pa_cons (pv 2) pa_nil))))))) (pss_one (ps_ret pe_bl)) pss_nil))))
      (pss_cons (ps_set (i := 3) sc_law.nd rfl (Or.inl rfl) (pe_lst (pa_cons (pe_call (E := E0) (ok_multiple_of T) (hr.mono (by decide)) (by rfl) T.m_multiple_of T.F_multiple_of.kp T.b_multiple_of .nil passL (pa_cons (pe_tup (pa_cons pe_int (pa_cons pe_int (pa_cons pe_int pa_nil)))) (pa_cons (pe_tup (pa_cons pe_int (pa_cons pe_int (pa_cons pe_int pa_nil)))) pa_nil))) (pa_cons (pe_call (E := E0) (ok_divisor_of T) (hr.mono (by decide)) (by rfl) T.m_divisor_of T.F_divisor_of.kp T.b_divisor_of .nil passL (pa_cons (pe_tup (pa_cons pe_int (pa_cons pe_int (pa_cons pe_int pa_nil)))) (pa_cons (pe_tup (pa_cons pe_int (pa_cons pe_int (pa_cons pe_int pa_nil)))) pa_nil))) (pa_cons (pe_call (E := E0) (ok_product_times T) (hr.mono (by decide)) (by rfl) T.m_product_times T.F_product_times.kp T.b_product_times .nil passL (pa_cons (pe_tup (pa_cons pe_int (pa_cons pe_int (pa_cons pe_int pa_nil)))) (pa_cons (pe_tup (pa_cons pe_int (pa_cons pe_int (pa_cons pe_int pa_nil)))) pa_nil))) pa_nil)))))
      (pss_one (ps_ret (pe_and (pe_cmpR (op_eqD hr.units) (pv 3) (pe_lst (pa_cons (pe_tup (pa_cons pe_int (pa_cons pe_int (pa_cons pe_int pa_nil)))) (pa_cons (pe_tup (pa_cons pe_int (pa_cons pe_int (pa_cons pe_int pa_nil)))) (pa_cons (pe_tup (pa_cons pe_int (pa_cons pe_int (pa_cons pe_int pa_nil)))) pa_nil)))) (nomark _))
        (pe_one (pe_cmpR (op_eqD hr.units) (pe_call (E := E0) (ok_quotient_of T) (hr.mono (by decide)) (by rfl) T.m_quotient_of T.F_quotient_of.kp T.b_quotient_of .nil passL (pa_cons (pe_tup (pa_cons pe_int (pa_cons pe_int (pa_cons pe_int pa_nil)))) (pa_cons (pe_tup (pa_cons pe_int (pa_cons pe_int (pa_cons pe_int pa_nil)))) pa_nil))) (pe_tup (pa_cons pe_int (pa_cons pe_int (pa_cons pe_int pa_nil)))) (nomark _))))))), ?_⟩
    have hm1 : ∀ m : Int, (if (if ((ns.map V.int).length : Int) < 3 then ((ns.map V.int).length : Int) else 3) > 1 then (if ((ns.map V.int).length : Int) < 3 then ((ns.map V.int).length : Int) else 3) else 1) = m → 1 ≤ m ∧ m ≤ 3 := fun m e => by
      rw [← e]
      split <;> split <;> omega
    refine ⟨_, rfl, a, _, rfl, .inl hS, _, _, rfl, _, _, rfl, _, rfl, ?_⟩
    have hb := hm1 _ rfl
    refine ⟨Int.le_trans (by decide) hb.1, Int.lt_of_le_of_lt hb.2 (by decide), ?_⟩
    refine for_range (lo := 0) (n := _) (fun i σ H' => ∃ v1 v2 : Option V, σ = [some (.ref a), v1, v2, none] ∧ LamX.ExtN H H' ∧ LamX.Tabs TT2 H') ⟨none, none, rfl, LamX.ExtN.refl H, hTab⟩ ?_ ?_
    · rintro i σ H1 hi ⟨v1, v2, rfl, e1, t1⟩
      have hi3 : i < 1000 := by
        have := hb.2
        omega
      refine ⟨_, rfl, _, rfl, a, ns, i, by rw [Int.zero_add]; rfl, ext_sql e1 hS, hi3, fun H2 z g x c s2 hz hz2 => ?_⟩
      refine ⟨_, rfl, z, g, x, c, rfl, hz2, t1.ext s2, fun H3 g x c f3 hz3 t3 => ⟨true, rfl, iteF ?_⟩⟩
      refine ⟨_, rfl, z, g, x, c, rfl, hz3, t3, fun H4 g x c f4 hz4 t4 => ⟨true, rfl, iteF ?_⟩⟩
      exact ⟨_, _, rfl, e1.trans (fr_ext s2 hz (f3.trans f4)), t4⟩
    · rintro σ H1 ⟨v1, v2, rfl, e1, t1⟩
      refine ⟨by show 3 ≤ sizeLine; decide, fun y1 hy1 => ⟨by show 3 ≤ sizeLine; decide, fun y2 hy2 => ?_⟩⟩
      have r1 := same_new hy1 (.tup [V.int 2, V.int 0, V.int 1])
      have r2 := same_new hy2 (.tup [V.int 1, V.int 1, V.int 0])
      refine sp5_two (tup3 2 0 1 (r2 _ _ upd_same)) (tup3 1 1 0 upd_same) (p3 2 0 1 (by decide)) (p3 1 1 0 (by decide)) rfl ?_
      rw [show gMul [2, 0, 1] [1, 1, 0] = .t [2, 1, 1] from congrArg Out.t (by decide)]
      intro H2 m1 s2 hm1
      refine ⟨by show 3 ≤ sizeLine; decide, fun y3 hy3 => ⟨by show 3 ≤ sizeLine; decide, fun y4 hy4 => ?_⟩⟩
      have r3 := same_new hy3 (.tup [V.int 2, V.int 0, V.int 1])
      have r4 := same_new hy4 (.tup [V.int 1, V.int 1, V.int 0])
      refine sp5_two (tup3 2 0 1 (r4 _ _ upd_same)) (tup3 1 1 0 upd_same) (p3 2 0 1 (by decide)) (p3 1 1 0 (by decide)) rfl ?_
      rw [show gLow [2, 0, 1] [1, 1, 0] = .t [1, 0, 0] from congrArg Out.t (by decide)]
      intro H3 m2 s3 hm2
      refine ⟨by show 3 ≤ sizeLine; decide, fun y5 hy5 => ⟨by show 3 ≤ sizeLine; decide, fun y6 hy6 => ?_⟩⟩
      have r5 := same_new hy5 (.tup [V.int 2, V.int 0, V.int 1])
      have r6 := same_new hy6 (.tup [V.int 1, V.int 1, V.int 0])
      refine sp5_two (tup3 2 0 1 (r6 _ _ upd_same)) (tup3 1 1 0 upd_same) (p3 2 0 1 (by decide)) (p3 1 1 0 (by decide)) rfl ?_
      rw [show gTim [2, 0, 1] [1, 1, 0] = .t [3, 1, 1] from (if_pos (by decide)).trans (congrArg Out.t (by decide))]
      intro H4 m3 s4 hm3
      refine ⟨by show 3 ≤ sizeLine; decide, fun L hL => ?_⟩
      have rL := same_new hL (.lst [V.ref m1, V.ref m2, V.ref m3])
      have hm1' := same_sqt (r3.trans (r4.trans (s3.trans (r5.trans (r6.trans (s4.trans rL)))))) hm1
      have hm2' := same_sqt (r5.trans (r6.trans (s4.trans rL))) hm2
      have hm3' := same_sqt rL hm3
      have hL' : (upd H4 L (.lst [V.ref m1, V.ref m2, V.ref m3])) L = some (.lst [V.ref m1, V.ref m2, V.ref m3]) := upd_same
      generalize (upd H4 L (.lst [V.ref m1, V.ref m2, V.ref m3])) = H5 at hm1' hm2' hm3' hL' ⊢
      refine ⟨_, rfl, by show 3 ≤ sizeLine; decide, fun z1 k1 => ⟨by show 3 ≤ sizeLine; decide, fun z2 k2 => ⟨by show 3 ≤ sizeLine; decide, fun z3 k3 => ⟨by show 3 ≤ sizeLine; decide, fun z4 k4 => ?_⟩⟩⟩⟩
      have w1 := same_new k1 (.tup [V.int 2, V.int 1, V.int 1])
      have w2 := same_new k2 (.tup [V.int 1, V.int 0, V.int 0])
      have w3 := same_new k3 (.tup [V.int 3, V.int 1, V.int 1])
      have w4 := same_new k4 (.lst [V.ref z1, V.ref z2, V.ref z3])
      have W4 := w1.trans (w2.trans (w3.trans w4))
      refine ⟨.list [.tuple [.int 2, .int 1, .int 1], .tuple [.int 1, .int 0, .int 0], .tuple [.int 3, .int 1, .int 1]], .list [.tuple [.int 2, .int 1, .int 1], .tuple [.int 1, .int 0, .int 0], .tuple [.int 3, .int 1, .int 1]],
        .lst (SqL.of (W4 _ _ hL')) (.cons (dp_intsT (l := [2, 1, 1]) (same_sqt W4 hm1')) (.cons (dp_intsT (l := [1, 0, 0]) (same_sqt W4 hm2')) (.cons (dp_intsT (l := [3, 1, 1]) (same_sqt W4 hm3')) .nil))),
        .lst (SqL.of upd_same) (.cons (dp_intsT (l := [2, 1, 1]) (SqT.of ((w2.trans (w3.trans w4)) _ _ upd_same))) (.cons (dp_intsT (l := [1, 0, 0]) (SqT.of ((w3.trans w4) _ _ upd_same))) (.cons (dp_intsT (l := [3, 1, 1]) (SqT.of (w4 _ _ upd_same))) .nil))),
        by decide +kernel, by decide +kernel, true, congrArg V.bl (by decide +kernel), iteT ?_⟩
      refine ⟨by show 3 ≤ sizeLine; decide, fun u1 g1 => ⟨by show 3 ≤ sizeLine; decide, fun u2 g2 => ?_⟩⟩
      have x2 := same_new g2 (.tup [V.int 1, V.int 0, V.int 1])
      refine sp5_two (tup3 2 1 1 (x2 _ _ upd_same)) (tup3 1 0 1 upd_same) (p3 2 1 1 (by decide)) (p3 1 0 1 (by decide)) rfl ?_
      rw [show gQuo [2, 1, 1] [1, 0, 1] = .t [1, 1, 0] from (if_pos (by decide)).trans (congrArg Out.t (by decide))]
      intro H6 m4 s6 hm4
      refine ⟨by show 3 ≤ sizeLine; decide, fun u3 g3 => ?_⟩
      have x3 := same_new g3 (.tup [V.int 1, V.int 1, V.int 0])
      refine ⟨_, _, dp_intsT (same_sqt x3 hm4), dp_intsT (l := [1, 1, 0]) (SqT.of upd_same), shaped_intsT _, shaped_intsT _, ?_⟩
      rw [eqv_intsT]
      exact q _
end
end K4

namespace K4
open PySem PySem.Spec PyProof.Rows L2 RZ L5 XX
/-! ### the end -/
theorem exm_b {K : PySem.W.Frag} {S C : Addr} {b : Bool} (h1 : PySem.W.subIn K (.ref C) (.type "BaseException") = some true) (h2 : PySem.W.isClsIn K C = true) (h3 : PySem.W.typeIn K (.ref C) = some (.type "type")) (h4 : PySem.W.subIn K (.ref S) (.ref C) = some b) : PySem.W.exmOne K (.ref S) (.ref C) = some b := by
  have e1 : (PySem.W.subIn K (.ref C) (.type "BaseException") == some true) = true := by rw [h1] <;> rfl
  have h5 : PySem.W.kitCls K (.ref S) (.ref C) = some b := by
    have h2' : (PySem.W.clsIn K C).isSome = true := h2
    have e2 : ((PySem.W.clsIn K C).isSome && PySem.W.typeIn K (.ref C) == some (.type "type")) = true := by rw [h2', h3] <;> rfl
    exact (if_pos e2).trans h4
  exact (if_pos e1).trans h5
theorem all_mk {l : PySem.W.OpenLaw} {w : World} {K : PySem.W.Frag} {h : Heap} {mg : Str → Option Value} {fa : Addr} (X : K.In h) (G : h.Ns mainGlobals mg) (hfa : mg "law" = some (.ref fa))
    {od_is_number an_is_number : Option Addr} {sl_is_number : Array (Option Value)} {oc_is_number kV_is_number dc_is_number pm_is_number ct_is_number : Value} {f_is_number : Addr}
    {cd_is_number : Value}
    (a_is_number : PySem.W.nsIn K mainGlobals "is_number" = some (some (.ref f_is_number))) (l_is_number : K.lookup f_is_number = some ⟨oc_is_number, od_is_number, .func (PySem.W.fnOf "is_number" "is_number" (defArgs s_is_number) (defBody s_is_number) (defScope s_is_number) .none kV_is_number dc_is_number pm_is_number an_is_number cd_is_number ct_is_number), sl_is_number⟩) (cc_is_number : PySem.W.codeIn K cd_is_number "is_number" = true) (k_is_number : PySem.W.keepIn K (.ref f_is_number) = true)
    {od_is_within an_is_within : Option Addr} {sl_is_within : Array (Option Value)} {oc_is_within kV_is_within dc_is_within pm_is_within ct_is_within : Value} {f_is_within : Addr}
    {cd_is_within : Value}
    (a_is_within : PySem.W.nsIn K mainGlobals "is_within" = some (some (.ref f_is_within))) (l_is_within : K.lookup f_is_within = some ⟨oc_is_within, od_is_within, .func (PySem.W.fnOf "is_within" "is_within" (defArgs s_is_within) (defBody s_is_within) (defScope s_is_within) .none kV_is_within dc_is_within pm_is_within an_is_within cd_is_within ct_is_within), sl_is_within⟩) (cc_is_within : PySem.W.codeIn K cd_is_within "is_within" = true) (k_is_within : PySem.W.keepIn K (.ref f_is_within) = true)
    {od_check_within an_check_within : Option Addr} {sl_check_within : Array (Option Value)} {oc_check_within kV_check_within dc_check_within pm_check_within ct_check_within : Value} {f_check_within : Addr}
    {cd_check_within : Value}
    (a_check_within : PySem.W.nsIn K mainGlobals "check_within" = some (some (.ref f_check_within))) (l_check_within : K.lookup f_check_within = some ⟨oc_check_within, od_check_within, .func (PySem.W.fnOf "check_within" "check_within" (defArgs s_check_within) (defBody s_check_within) (defScope s_check_within) .none kV_check_within dc_check_within pm_check_within an_check_within cd_check_within ct_check_within), sl_check_within⟩) (cc_check_within : PySem.W.codeIn K cd_check_within "check_within" = true) (k_check_within : PySem.W.keepIn K (.ref f_check_within) = true)
    {od_are_exponents an_are_exponents : Option Addr} {sl_are_exponents : Array (Option Value)} {oc_are_exponents kV_are_exponents dc_are_exponents pm_are_exponents ct_are_exponents : Value} {f_are_exponents : Addr}
    {cd_are_exponents : Value}
    (a_are_exponents : PySem.W.nsIn K mainGlobals "are_exponents" = some (some (.ref f_are_exponents))) (l_are_exponents : K.lookup f_are_exponents = some ⟨oc_are_exponents, od_are_exponents, .func (PySem.W.fnOf "are_exponents" "are_exponents" (defArgs s_are_exponents) (defBody s_are_exponents) (defScope s_are_exponents) .none kV_are_exponents dc_are_exponents pm_are_exponents an_are_exponents cd_are_exponents ct_are_exponents), sl_are_exponents⟩) (cc_are_exponents : PySem.W.codeIn K cd_are_exponents "are_exponents" = true) (k_are_exponents : PySem.W.keepIn K (.ref f_are_exponents) = true)
    {od_fits an_fits : Option Addr} {sl_fits : Array (Option Value)} {oc_fits kV_fits dc_fits pm_fits ct_fits : Value} {f_fits : Addr}
    {cd_fits : Value}
    (a_fits : PySem.W.nsIn K mainGlobals "fits" = some (some (.ref f_fits))) (l_fits : K.lookup f_fits = some ⟨oc_fits, od_fits, .func (PySem.W.fnOf "fits" "fits" (defArgs s_fits) (defBody s_fits) (defScope s_fits) .none kV_fits dc_fits pm_fits an_fits cd_fits ct_fits), sl_fits⟩) (cc_fits : PySem.W.codeIn K cd_fits "fits" = true) (k_fits : PySem.W.keepIn K (.ref f_fits) = true)
    {od_greater an_greater : Option Addr} {sl_greater : Array (Option Value)} {oc_greater kV_greater dc_greater pm_greater ct_greater : Value} {f_greater : Addr}
    {cd_greater : Value}
    (a_greater : PySem.W.nsIn K mainGlobals "greater" = some (some (.ref f_greater))) (l_greater : K.lookup f_greater = some ⟨oc_greater, od_greater, .func (PySem.W.fnOf "greater" "greater" (defArgs s_greater) (defBody s_greater) (defScope s_greater) .none kV_greater dc_greater pm_greater an_greater cd_greater ct_greater), sl_greater⟩) (cc_greater : PySem.W.codeIn K cd_greater "greater" = true) (k_greater : PySem.W.keepIn K (.ref f_greater) = true)
    {od_lesser an_lesser : Option Addr} {sl_lesser : Array (Option Value)} {oc_lesser kV_lesser dc_lesser pm_lesser ct_lesser : Value} {f_lesser : Addr}
    {cd_lesser : Value}
    (a_lesser : PySem.W.nsIn K mainGlobals "lesser" = some (some (.ref f_lesser))) (l_lesser : K.lookup f_lesser = some ⟨oc_lesser, od_lesser, .func (PySem.W.fnOf "lesser" "lesser" (defArgs s_lesser) (defBody s_lesser) (defScope s_lesser) .none kV_lesser dc_lesser pm_lesser an_lesser cd_lesser ct_lesser), sl_lesser⟩) (cc_lesser : PySem.W.codeIn K cd_lesser "lesser" = true) (k_lesser : PySem.W.keepIn K (.ref f_lesser) = true)
    {od_added an_added : Option Addr} {sl_added : Array (Option Value)} {oc_added kV_added dc_added pm_added ct_added : Value} {f_added : Addr}
    {cd_added : Value}
    (a_added : PySem.W.nsIn K mainGlobals "added" = some (some (.ref f_added))) (l_added : K.lookup f_added = some ⟨oc_added, od_added, .func (PySem.W.fnOf "added" "added" (defArgs s_added) (defBody s_added) (defScope s_added) .none kV_added dc_added pm_added an_added cd_added ct_added), sl_added⟩) (cc_added : PySem.W.codeIn K cd_added "added" = true) (k_added : PySem.W.keepIn K (.ref f_added) = true)
    {od_taken_off an_taken_off : Option Addr} {sl_taken_off : Array (Option Value)} {oc_taken_off kV_taken_off dc_taken_off pm_taken_off ct_taken_off : Value} {f_taken_off : Addr}
    {cd_taken_off : Value}
    (a_taken_off : PySem.W.nsIn K mainGlobals "taken_off" = some (some (.ref f_taken_off))) (l_taken_off : K.lookup f_taken_off = some ⟨oc_taken_off, od_taken_off, .func (PySem.W.fnOf "taken_off" "taken_off" (defArgs s_taken_off) (defBody s_taken_off) (defScope s_taken_off) .none kV_taken_off dc_taken_off pm_taken_off an_taken_off cd_taken_off ct_taken_off), sl_taken_off⟩) (cc_taken_off : PySem.W.codeIn K cd_taken_off "taken_off" = true) (k_taken_off : PySem.W.keepIn K (.ref f_taken_off) = true)
    {od_check_product an_check_product : Option Addr} {sl_check_product : Array (Option Value)} {oc_check_product kV_check_product dc_check_product pm_check_product ct_check_product : Value} {f_check_product : Addr}
    {cd_check_product : Value}
    (a_check_product : PySem.W.nsIn K mainGlobals "check_product" = some (some (.ref f_check_product))) (l_check_product : K.lookup f_check_product = some ⟨oc_check_product, od_check_product, .func (PySem.W.fnOf "check_product" "check_product" (defArgs s_check_product) (defBody s_check_product) (defScope s_check_product) .none kV_check_product dc_check_product pm_check_product an_check_product cd_check_product ct_check_product), sl_check_product⟩) (cc_check_product : PySem.W.codeIn K cd_check_product "check_product" = true) (k_check_product : PySem.W.keepIn K (.ref f_check_product) = true)
    {od_check_any_product an_check_any_product : Option Addr} {sl_check_any_product : Array (Option Value)} {oc_check_any_product kV_check_any_product dc_check_any_product pm_check_any_product ct_check_any_product : Value} {f_check_any_product : Addr}
    {cd_check_any_product : Value}
    (a_check_any_product : PySem.W.nsIn K mainGlobals "check_any_product" = some (some (.ref f_check_any_product))) (l_check_any_product : K.lookup f_check_any_product = some ⟨oc_check_any_product, od_check_any_product, .func (PySem.W.fnOf "check_any_product" "check_any_product" (defArgs s_check_any_product) (defBody s_check_any_product) (defScope s_check_any_product) .none kV_check_any_product dc_check_any_product pm_check_any_product an_check_any_product cd_check_any_product ct_check_any_product), sl_check_any_product⟩) (cc_check_any_product : PySem.W.codeIn K cd_check_any_product "check_any_product" = true) (k_check_any_product : PySem.W.keepIn K (.ref f_check_any_product) = true)
    {od_check_both an_check_both : Option Addr} {sl_check_both : Array (Option Value)} {oc_check_both kV_check_both dc_check_both pm_check_both ct_check_both : Value} {f_check_both : Addr}
    {cd_check_both : Value}
    (a_check_both : PySem.W.nsIn K mainGlobals "check_both" = some (some (.ref f_check_both))) (l_check_both : K.lookup f_check_both = some ⟨oc_check_both, od_check_both, .func (PySem.W.fnOf "check_both" "check_both" (defArgs s_check_both) (defBody s_check_both) (defScope s_check_both) .none kV_check_both dc_check_both pm_check_both an_check_both cd_check_both ct_check_both), sl_check_both⟩) (cc_check_both : PySem.W.codeIn K cd_check_both "check_both" = true) (k_check_both : PySem.W.keepIn K (.ref f_check_both) = true)
    {od_degree_of an_degree_of : Option Addr} {sl_degree_of : Array (Option Value)} {oc_degree_of kV_degree_of dc_degree_of pm_degree_of ct_degree_of : Value} {f_degree_of : Addr}
    {cd_degree_of : Value}
    (a_degree_of : PySem.W.nsIn K mainGlobals "degree_of" = some (some (.ref f_degree_of))) (l_degree_of : K.lookup f_degree_of = some ⟨oc_degree_of, od_degree_of, .func (PySem.W.fnOf "degree_of" "degree_of" (defArgs s_degree_of) (defBody s_degree_of) (defScope s_degree_of) .none kV_degree_of dc_degree_of pm_degree_of an_degree_of cd_degree_of ct_degree_of), sl_degree_of⟩) (cc_degree_of : PySem.W.codeIn K cd_degree_of "degree_of" = true) (k_degree_of : PySem.W.keepIn K (.ref f_degree_of) = true)
    {od_is_product an_is_product : Option Addr} {sl_is_product : Array (Option Value)} {oc_is_product kV_is_product dc_is_product pm_is_product ct_is_product : Value} {f_is_product : Addr}
    {cd_is_product : Value}
    (a_is_product : PySem.W.nsIn K mainGlobals "is_product" = some (some (.ref f_is_product))) (l_is_product : K.lookup f_is_product = some ⟨oc_is_product, od_is_product, .func (PySem.W.fnOf "is_product" "is_product" (defArgs s_is_product) (defBody s_is_product) (defScope s_is_product) .none kV_is_product dc_is_product pm_is_product an_is_product cd_is_product ct_is_product), sl_is_product⟩) (cc_is_product : PySem.W.codeIn K cd_is_product "is_product" = true) (k_is_product : PySem.W.keepIn K (.ref f_is_product) = true)
    {od_does_divide an_does_divide : Option Addr} {sl_does_divide : Array (Option Value)} {oc_does_divide kV_does_divide dc_does_divide pm_does_divide ct_does_divide : Value} {f_does_divide : Addr}
    {cd_does_divide : Value}
    (a_does_divide : PySem.W.nsIn K mainGlobals "does_divide" = some (some (.ref f_does_divide))) (l_does_divide : K.lookup f_does_divide = some ⟨oc_does_divide, od_does_divide, .func (PySem.W.fnOf "does_divide" "does_divide" (defArgs s_does_divide) (defBody s_does_divide) (defScope s_does_divide) .none kV_does_divide dc_does_divide pm_does_divide an_does_divide cd_does_divide ct_does_divide), sl_does_divide⟩) (cc_does_divide : PySem.W.codeIn K cd_does_divide "does_divide" = true) (k_does_divide : PySem.W.keepIn K (.ref f_does_divide) = true)
    {od_multiple_of an_multiple_of : Option Addr} {sl_multiple_of : Array (Option Value)} {oc_multiple_of kV_multiple_of dc_multiple_of pm_multiple_of ct_multiple_of : Value} {f_multiple_of : Addr}
    {cd_multiple_of : Value}
    (a_multiple_of : PySem.W.nsIn K mainGlobals "multiple_of" = some (some (.ref f_multiple_of))) (l_multiple_of : K.lookup f_multiple_of = some ⟨oc_multiple_of, od_multiple_of, .func (PySem.W.fnOf "multiple_of" "multiple_of" (defArgs s_multiple_of) (defBody s_multiple_of) (defScope s_multiple_of) .none kV_multiple_of dc_multiple_of pm_multiple_of an_multiple_of cd_multiple_of ct_multiple_of), sl_multiple_of⟩) (cc_multiple_of : PySem.W.codeIn K cd_multiple_of "multiple_of" = true) (k_multiple_of : PySem.W.keepIn K (.ref f_multiple_of) = true)
    {od_divisor_of an_divisor_of : Option Addr} {sl_divisor_of : Array (Option Value)} {oc_divisor_of kV_divisor_of dc_divisor_of pm_divisor_of ct_divisor_of : Value} {f_divisor_of : Addr}
    {cd_divisor_of : Value}
    (a_divisor_of : PySem.W.nsIn K mainGlobals "divisor_of" = some (some (.ref f_divisor_of))) (l_divisor_of : K.lookup f_divisor_of = some ⟨oc_divisor_of, od_divisor_of, .func (PySem.W.fnOf "divisor_of" "divisor_of" (defArgs s_divisor_of) (defBody s_divisor_of) (defScope s_divisor_of) .none kV_divisor_of dc_divisor_of pm_divisor_of an_divisor_of cd_divisor_of ct_divisor_of), sl_divisor_of⟩) (cc_divisor_of : PySem.W.codeIn K cd_divisor_of "divisor_of" = true) (k_divisor_of : PySem.W.keepIn K (.ref f_divisor_of) = true)
    {od_product_times an_product_times : Option Addr} {sl_product_times : Array (Option Value)} {oc_product_times kV_product_times dc_product_times pm_product_times ct_product_times : Value} {f_product_times : Addr}
    {cd_product_times : Value}
    (a_product_times : PySem.W.nsIn K mainGlobals "product_times" = some (some (.ref f_product_times))) (l_product_times : K.lookup f_product_times = some ⟨oc_product_times, od_product_times, .func (PySem.W.fnOf "product_times" "product_times" (defArgs s_product_times) (defBody s_product_times) (defScope s_product_times) .none kV_product_times dc_product_times pm_product_times an_product_times cd_product_times ct_product_times), sl_product_times⟩) (cc_product_times : PySem.W.codeIn K cd_product_times "product_times" = true) (k_product_times : PySem.W.keepIn K (.ref f_product_times) = true)
    {od_quotient_of an_quotient_of : Option Addr} {sl_quotient_of : Array (Option Value)} {oc_quotient_of kV_quotient_of dc_quotient_of pm_quotient_of ct_quotient_of : Value} {f_quotient_of : Addr}
    {cd_quotient_of : Value}
    (a_quotient_of : PySem.W.nsIn K mainGlobals "quotient_of" = some (some (.ref f_quotient_of))) (l_quotient_of : K.lookup f_quotient_of = some ⟨oc_quotient_of, od_quotient_of, .func (PySem.W.fnOf "quotient_of" "quotient_of" (defArgs s_quotient_of) (defBody s_quotient_of) (defScope s_quotient_of) .none kV_quotient_of dc_quotient_of pm_quotient_of an_quotient_of cd_quotient_of ct_quotient_of), sl_quotient_of⟩) (cc_quotient_of : PySem.W.codeIn K cd_quotient_of "quotient_of" = true) (k_quotient_of : PySem.W.keepIn K (.ref f_quotient_of) = true)
    {od_w_pail an_w_pail : Option Addr} {sl_w_pail : Array (Option Value)} {oc_w_pail kV_w_pail dc_w_pail pm_w_pail ct_w_pail : Value} {f_w_pail : Addr}
    {cd_w_pail : Value}
    (a_w_pail : PySem.W.nsIn K mainGlobals "_law_pail" = some (some (.ref f_w_pail))) (l_w_pail : K.lookup f_w_pail = some ⟨oc_w_pail, od_w_pail, .func (PySem.W.fnOf "_law_pail" "_law_pail" (defArgs s_w_pail) (defBody s_w_pail) (defScope s_w_pail) .none kV_w_pail dc_w_pail pm_w_pail an_w_pail cd_w_pail ct_w_pail), sl_w_pail⟩) (cc_w_pail : PySem.W.codeIn K cd_w_pail "_law_pail" = true) (k_w_pail : PySem.W.keepIn K (.ref f_w_pail) = true)
    {od_w_dipped an_w_dipped : Option Addr} {sl_w_dipped : Array (Option Value)} {oc_w_dipped kV_w_dipped dc_w_dipped pm_w_dipped ct_w_dipped : Value} {f_w_dipped : Addr}
    {cd_w_dipped : Value}
    (a_w_dipped : PySem.W.nsIn K mainGlobals "_law_dipped" = some (some (.ref f_w_dipped))) (l_w_dipped : K.lookup f_w_dipped = some ⟨oc_w_dipped, od_w_dipped, .func (PySem.W.fnOf "_law_dipped" "_law_dipped" (defArgs s_w_dipped) (defBody s_w_dipped) (defScope s_w_dipped) .none kV_w_dipped dc_w_dipped pm_w_dipped an_w_dipped cd_w_dipped ct_w_dipped), sl_w_dipped⟩) (cc_w_dipped : PySem.W.codeIn K cd_w_dipped "_law_dipped" = true) (k_w_dipped : PySem.W.keepIn K (.ref f_w_dipped) = true)
    {od_w_some an_w_some : Option Addr} {sl_w_some : Array (Option Value)} {oc_w_some kV_w_some dc_w_some pm_w_some ct_w_some : Value} {f_w_some : Addr}
    {cd_w_some : Value}
    (a_w_some : PySem.W.nsIn K mainGlobals "_law_some" = some (some (.ref f_w_some))) (l_w_some : K.lookup f_w_some = some ⟨oc_w_some, od_w_some, .func (PySem.W.fnOf "_law_some" "_law_some" (defArgs s_w_some) (defBody s_w_some) (defScope s_w_some) .none kV_w_some dc_w_some pm_w_some an_w_some cd_w_some ct_w_some), sl_w_some⟩) (cc_w_some : PySem.W.codeIn K cd_w_some "_law_some" = true) (k_w_some : PySem.W.keepIn K (.ref f_w_some) = true)
    {od_w_product an_w_product : Option Addr} {sl_w_product : Array (Option Value)} {oc_w_product kV_w_product dc_w_product pm_w_product ct_w_product : Value} {f_w_product : Addr}
    {cd_w_product : Value}
    (a_w_product : PySem.W.nsIn K mainGlobals "_law_product" = some (some (.ref f_w_product))) (l_w_product : K.lookup f_w_product = some ⟨oc_w_product, od_w_product, .func (PySem.W.fnOf "_law_product" "_law_product" (defArgs s_w_product) (defBody s_w_product) (defScope s_w_product) .none kV_w_product dc_w_product pm_w_product an_w_product cd_w_product ct_w_product), sl_w_product⟩) (cc_w_product : PySem.W.codeIn K cd_w_product "_law_product" = true) (k_w_product : PySem.W.keepIn K (.ref f_w_product) = true)
    {od_w_divides an_w_divides : Option Addr} {sl_w_divides : Array (Option Value)} {oc_w_divides kV_w_divides dc_w_divides pm_w_divides ct_w_divides : Value} {f_w_divides : Addr}
    {cd_w_divides : Value}
    (a_w_divides : PySem.W.nsIn K mainGlobals "_law_divides" = some (some (.ref f_w_divides))) (l_w_divides : K.lookup f_w_divides = some ⟨oc_w_divides, od_w_divides, .func (PySem.W.fnOf "_law_divides" "_law_divides" (defArgs s_w_divides) (defBody s_w_divides) (defScope s_w_divides) .none kV_w_divides dc_w_divides pm_w_divides an_w_divides cd_w_divides ct_w_divides), sl_w_divides⟩) (cc_w_divides : PySem.W.codeIn K cd_w_divides "_law_divides" = true) (k_w_divides : PySem.W.keepIn K (.ref f_w_divides) = true)
    {od_w_joined an_w_joined : Option Addr} {sl_w_joined : Array (Option Value)} {oc_w_joined kV_w_joined dc_w_joined pm_w_joined ct_w_joined : Value} {f_w_joined : Addr}
    {cd_w_joined : Value}
    (a_w_joined : PySem.W.nsIn K mainGlobals "_law_joined" = some (some (.ref f_w_joined))) (l_w_joined : K.lookup f_w_joined = some ⟨oc_w_joined, od_w_joined, .func (PySem.W.fnOf "_law_joined" "_law_joined" (defArgs s_w_joined) (defBody s_w_joined) (defScope s_w_joined) .none kV_w_joined dc_w_joined pm_w_joined an_w_joined cd_w_joined ct_w_joined), sl_w_joined⟩) (cc_w_joined : PySem.W.codeIn K cd_w_joined "_law_joined" = true) (k_w_joined : PySem.W.keepIn K (.ref f_w_joined) = true)
    {od_w_added an_w_added : Option Addr} {sl_w_added : Array (Option Value)} {oc_w_added kV_w_added dc_w_added pm_w_added ct_w_added : Value} {f_w_added : Addr}
    {cd_w_added : Value}
    (a_w_added : PySem.W.nsIn K mainGlobals "_law_added" = some (some (.ref f_w_added))) (l_w_added : K.lookup f_w_added = some ⟨oc_w_added, od_w_added, .func (PySem.W.fnOf "_law_added" "_law_added" (defArgs s_w_added) (defBody s_w_added) (defScope s_w_added) .none kV_w_added dc_w_added pm_w_added an_w_added cd_w_added ct_w_added), sl_w_added⟩) (cc_w_added : PySem.W.codeIn K cd_w_added "_law_added" = true) (k_w_added : PySem.W.keepIn K (.ref f_w_added) = true)
    {od_w_told an_w_told : Option Addr} {sl_w_told : Array (Option Value)} {oc_w_told kV_w_told dc_w_told pm_w_told ct_w_told : Value} {f_w_told : Addr}
    {cd_w_told : Value}
    (a_w_told : PySem.W.nsIn K mainGlobals "_law_told" = some (some (.ref f_w_told))) (l_w_told : K.lookup f_w_told = some ⟨oc_w_told, od_w_told, .func (PySem.W.fnOf "_law_told" "_law_told" (defArgs s_w_told) (defBody s_w_told) (defScope s_w_told) .none kV_w_told dc_w_told pm_w_told an_w_told cd_w_told ct_w_told), sl_w_told⟩) (cc_w_told : PySem.W.codeIn K cd_w_told "_law_told" = true) (k_w_told : PySem.W.keepIn K (.ref f_w_told) = true)
    {od_w_great an_w_great : Option Addr} {sl_w_great : Array (Option Value)} {oc_w_great kV_w_great dc_w_great pm_w_great ct_w_great : Value} {f_w_great : Addr}
    {cd_w_great : Value}
    (a_w_great : PySem.W.nsIn K mainGlobals "_law_great" = some (some (.ref f_w_great))) (l_w_great : K.lookup f_w_great = some ⟨oc_w_great, od_w_great, .func (PySem.W.fnOf "_law_great" "_law_great" (defArgs s_w_great) (defBody s_w_great) (defScope s_w_great) .none kV_w_great dc_w_great pm_w_great an_w_great cd_w_great ct_w_great), sl_w_great⟩) (cc_w_great : PySem.W.codeIn K cd_w_great "_law_great" = true) (k_w_great : PySem.W.keepIn K (.ref f_w_great) = true)
    {od_w_near an_w_near : Option Addr} {sl_w_near : Array (Option Value)} {oc_w_near kV_w_near dc_w_near pm_w_near ct_w_near : Value} {f_w_near : Addr}
    {cd_w_near : Value}
    (a_w_near : PySem.W.nsIn K mainGlobals "_law_near" = some (some (.ref f_w_near))) (l_w_near : K.lookup f_w_near = some ⟨oc_w_near, od_w_near, .func (PySem.W.fnOf "_law_near" "_law_near" (defArgs s_w_near) (defBody s_w_near) (defScope s_w_near) .none kV_w_near dc_w_near pm_w_near an_w_near cd_w_near ct_w_near), sl_w_near⟩) (cc_w_near : PySem.W.codeIn K cd_w_near "_law_near" = true) (k_w_near : PySem.W.keepIn K (.ref f_w_near) = true)
    {od_w_is an_w_is : Option Addr} {sl_w_is : Array (Option Value)} {oc_w_is kV_w_is dc_w_is pm_w_is ct_w_is : Value} {f_w_is : Addr}
    {cd_w_is : Value}
    (a_w_is : PySem.W.nsIn K mainGlobals "_law_is" = some (some (.ref f_w_is))) (l_w_is : K.lookup f_w_is = some ⟨oc_w_is, od_w_is, .func (PySem.W.fnOf "_law_is" "_law_is" (defArgs s_w_is) (defBody s_w_is) (defScope s_w_is) .none kV_w_is dc_w_is pm_w_is an_w_is cd_w_is ct_w_is), sl_w_is⟩) (cc_w_is : PySem.W.codeIn K cd_w_is "_law_is" = true) (k_w_is : PySem.W.keepIn K (.ref f_w_is) = true)
    {od_w_two_right an_w_two_right : Option Addr} {sl_w_two_right : Array (Option Value)} {oc_w_two_right kV_w_two_right dc_w_two_right pm_w_two_right ct_w_two_right : Value} {f_w_two_right : Addr}
    {c_w_two_right : Addr}
    (a_w_two_right : PySem.W.nsIn K mainGlobals "_law_two_right" = some (some (.ref f_w_two_right))) (l_w_two_right : K.lookup f_w_two_right = some ⟨oc_w_two_right, od_w_two_right, .func (PySem.W.fnOf "_law_two_right" "_law_two_right" (defArgs s_w_two_right) (defBody s_w_two_right) (defScope s_w_two_right) .none kV_w_two_right dc_w_two_right pm_w_two_right an_w_two_right (.ref c_w_two_right) ct_w_two_right), sl_w_two_right⟩) (cc_w_two_right : PySem.W.codeIn K (.ref c_w_two_right) "_law_two_right" = true) (k_w_two_right : PySem.W.keepIn K (.ref f_w_two_right) = true)
    (hd_w_two_right : PySem.W.codeHdIn K c_w_two_right 287 = true) (nl_w_two_right : K.lookup 287 = none) (hT_w_two_right : h.get? 287 = some { cls := .none, data := .fields #[] })
    {od_w_right an_w_right : Option Addr} {sl_w_right : Array (Option Value)} {oc_w_right kV_w_right dc_w_right pm_w_right ct_w_right : Value} {f_w_right : Addr}
    {c_w_right : Addr}
    (a_w_right : PySem.W.nsIn K mainGlobals "_law_right" = some (some (.ref f_w_right))) (l_w_right : K.lookup f_w_right = some ⟨oc_w_right, od_w_right, .func (PySem.W.fnOf "_law_right" "_law_right" (defArgs s_w_right) (defBody s_w_right) (defScope s_w_right) .none kV_w_right dc_w_right pm_w_right an_w_right (.ref c_w_right) ct_w_right), sl_w_right⟩) (cc_w_right : PySem.W.codeIn K (.ref c_w_right) "_law_right" = true) (k_w_right : PySem.W.keepIn K (.ref f_w_right) = true)
    (hd_w_right : PySem.W.codeHdIn K c_w_right 292 = true) (nl_w_right : K.lookup 292 = none) (hT_w_right : h.get? 292 = some { cls := .none, data := .fields #[] })
    {od_law an_law : Option Addr} {sl_law : Array (Option Value)} {oc_law kV_law dc_law pm_law ct_law : Value} {f_law : Addr}
    {cd_law : Value}
    (a_law : PySem.W.nsIn K mainGlobals "law" = some (some (.ref f_law))) (l_law : K.lookup f_law = some ⟨oc_law, od_law, .func (PySem.W.fnOf "law" "law" (defArgs s_law) (defBody s_law) (defScope s_law) .none kV_law dc_law pm_law an_law cd_law ct_law), sl_law⟩) (cc_law : PySem.W.codeIn K cd_law "law" = true) (k_law : PySem.W.keepIn K (.ref f_law) = true)
    (z_isinstance : PySem.W.nsIn K mainGlobals "isinstance" = some none)
    (z_int : PySem.W.nsIn K mainGlobals "int" = some none)
    (z_bool : PySem.W.nsIn K mainGlobals "bool" = some none)
    (z_tuple : PySem.W.nsIn K mainGlobals "tuple" = some none)
    (z_len : PySem.W.nsIn K mainGlobals "len" = some none)
    (z_all : PySem.W.nsIn K mainGlobals "all" = some none)
    (z_zip : PySem.W.nsIn K mainGlobals "zip" = some none)
    (z_max : PySem.W.nsIn K mainGlobals "max" = some none)
    (z_min : PySem.W.nsIn K mainGlobals "min" = some none)
    (z_sum : PySem.W.nsIn K mainGlobals "sum" = some none)
    (z_abs : PySem.W.nsIn K mainGlobals "abs" = some none)
    (z_range : PySem.W.nsIn K mainGlobals "range" = some none)
    (z_list : PySem.W.nsIn K mainGlobals "list" = some none)
    {t_MAX_LETTERS : Nat} (g_MAX_LETTERS : PySem.W.nsIn K mainGlobals "MAX_LETTERS" = some (some (.int 8 t_MAX_LETTERS)))
    {t_MAX_EXPONENT : Nat} (g_MAX_EXPONENT : PySem.W.nsIn K mainGlobals "MAX_EXPONENT" = some (some (.int 60 t_MAX_EXPONENT)))
    {C_InvalidProduct : Addr}
    (aC_InvalidProduct : PySem.W.nsIn K mainGlobals "InvalidProduct" = some (some (.ref C_InvalidProduct)))
    (xC_InvalidProduct : PySem.W.excIn K C_InvalidProduct [.type "ValueError", .type "Exception", .type "BaseException", .type "object"] "ValueError.__new__" = true)
    (bE_InvalidProduct : PySem.W.subIn K (.ref C_InvalidProduct) (.type "BaseException") = some true) (tE_InvalidProduct : PySem.W.typeIn K (.ref C_InvalidProduct) = some (.type "type")) (kC_InvalidProduct : PySem.W.keepIn K (.ref C_InvalidProduct) = true) (iC_InvalidProduct : PySem.W.isClsIn K C_InvalidProduct = true)
    {C_TooMany : Addr}
    (aC_TooMany : PySem.W.nsIn K mainGlobals "TooMany" = some (some (.ref C_TooMany)))
    {nm_TooMany q_TooMany : Str} {N_TooMany : Addr} {bs_TooMany : List Value} {sn_TooMany : List Str} {sub_TooMany : List Value} {ab_TooMany : Bool} {col_TooMany : Option Bool} {dd_TooMany : Option Addr} {m0_TooMany m1_TooMany m2_TooMany m3_TooMany m5_TooMany : Option Value}
    (xL_TooMany : K.lookup C_TooMany = some (excClassObj nm_TooMany q_TooMany C_TooMany N_TooMany bs_TooMany [.type "OverflowError", .type "ArithmeticError", .type "Exception", .type "BaseException", .type "object"] true sn_TooMany sub_TooMany ab_TooMany col_TooMany dd_TooMany m0_TooMany m1_TooMany m2_TooMany m3_TooMany m5_TooMany "OverflowError.__new__"))
    (sa_TooMany : PySem.W.findIn K (.ref C_TooMany) "__setattr__" = some (some (.builtin "object.__setattr__"))) (ga_TooMany : PySem.W.findIn K (.ref C_TooMany) "__getattribute__" = some (some (.builtin "BaseException.__getattribute__"))) (gg_TooMany : PySem.W.findIn K (.ref C_TooMany) "__getattr__" = some none) (nf_TooMany : PySem.W.findIn K (.ref C_TooMany) "most" = some none)
    {fi_TooMany : Addr} {odi_TooMany ani_TooMany : Option Addr} {sli_TooMany : Array (Option Value)} {oci_TooMany kVi_TooMany dci_TooMany pmi_TooMany cdi_TooMany cti_TooMany : Value}
    (ai_TooMany : PySem.W.findIn K (.ref C_TooMany) "__init__" = some (some (.ref fi_TooMany))) (ti_TooMany : PySem.W.typeIn K (.ref fi_TooMany) = some (.type "function"))
    (li_TooMany : K.lookup fi_TooMany = some ⟨oci_TooMany, odi_TooMany, .func (PySem.W.fnOf "__init__" "TooMany.__init__" (defArgs si_TooMany) (defBody si_TooMany) (defScope si_TooMany) .none kVi_TooMany dci_TooMany pmi_TooMany ani_TooMany cdi_TooMany cti_TooMany), sli_TooMany⟩) (ci_TooMany : PySem.W.codeIn K cdi_TooMany "TooMany.__init__" = true) (ki_TooMany : PySem.W.keepIn K (.ref fi_TooMany) = true)
    (hC_TooMany : PySem.W.hasDictIn K C_TooMany = true)
    (bE_TooMany : PySem.W.subIn K (.ref C_TooMany) (.type "BaseException") = some true) (tE_TooMany : PySem.W.typeIn K (.ref C_TooMany) = some (.type "type")) (kC_TooMany : PySem.W.keepIn K (.ref C_TooMany) = true) (iC_TooMany : PySem.W.isClsIn K C_TooMany = true)
    {C_Refused : Addr}
    (aC_Refused : PySem.W.nsIn K mainGlobals "Refused" = some (some (.ref C_Refused)))
    {nm_Refused q_Refused : Str} {N_Refused : Addr} {bs_Refused : List Value} {sn_Refused : List Str} {sub_Refused : List Value} {ab_Refused : Bool} {col_Refused : Option Bool} {dd_Refused : Option Addr} {m0_Refused m1_Refused m2_Refused m3_Refused m5_Refused : Option Value}
    (xL_Refused : K.lookup C_Refused = some (excClassObj nm_Refused q_Refused C_Refused N_Refused bs_Refused [.type "ArithmeticError", .type "Exception", .type "BaseException", .type "object"] true sn_Refused sub_Refused ab_Refused col_Refused dd_Refused m0_Refused m1_Refused m2_Refused m3_Refused m5_Refused "ArithmeticError.__new__"))
    (sa_Refused : PySem.W.findIn K (.ref C_Refused) "__setattr__" = some (some (.builtin "object.__setattr__"))) (ga_Refused : PySem.W.findIn K (.ref C_Refused) "__getattribute__" = some (some (.builtin "BaseException.__getattribute__"))) (gg_Refused : PySem.W.findIn K (.ref C_Refused) "__getattr__" = some none) (nf_Refused : PySem.W.findIn K (.ref C_Refused) "reason" = some none)
    {fi_Refused : Addr} {odi_Refused ani_Refused : Option Addr} {sli_Refused : Array (Option Value)} {oci_Refused kVi_Refused dci_Refused pmi_Refused cdi_Refused cti_Refused : Value}
    (ai_Refused : PySem.W.findIn K (.ref C_Refused) "__init__" = some (some (.ref fi_Refused))) (ti_Refused : PySem.W.typeIn K (.ref fi_Refused) = some (.type "function"))
    (li_Refused : K.lookup fi_Refused = some ⟨oci_Refused, odi_Refused, .func (PySem.W.fnOf "__init__" "Refused.__init__" (defArgs si_Refused) (defBody si_Refused) (defScope si_Refused) .none kVi_Refused dci_Refused pmi_Refused ani_Refused cdi_Refused cti_Refused), sli_Refused⟩) (ci_Refused : PySem.W.codeIn K cdi_Refused "Refused.__init__" = true) (ki_Refused : PySem.W.keepIn K (.ref fi_Refused) = true)
    (hC_Refused : PySem.W.hasDictIn K C_Refused = true)
    (bE_Refused : PySem.W.subIn K (.ref C_Refused) (.type "BaseException") = some true) (tE_Refused : PySem.W.typeIn K (.ref C_Refused) = some (.type "type")) (kC_Refused : PySem.W.keepIn K (.ref C_Refused) = true) (iC_Refused : PySem.W.isClsIn K C_Refused = true)
    (s_InvalidProduct_InvalidProduct : PySem.W.subIn K (.ref C_InvalidProduct) (.ref C_InvalidProduct) = some true)
    (s_InvalidProduct_TooMany : PySem.W.subIn K (.ref C_InvalidProduct) (.ref C_TooMany) = some false)
    (s_InvalidProduct_Refused : PySem.W.subIn K (.ref C_InvalidProduct) (.ref C_Refused) = some false)
    (s_TooMany_InvalidProduct : PySem.W.subIn K (.ref C_TooMany) (.ref C_InvalidProduct) = some false)
    (s_TooMany_TooMany : PySem.W.subIn K (.ref C_TooMany) (.ref C_TooMany) = some true)
    (s_TooMany_Refused : PySem.W.subIn K (.ref C_TooMany) (.ref C_Refused) = some false)
    (s_Refused_InvalidProduct : PySem.W.subIn K (.ref C_Refused) (.ref C_InvalidProduct) = some false)
    (s_Refused_TooMany : PySem.W.subIn K (.ref C_Refused) (.ref C_TooMany) = some false)
    (s_Refused_Refused : PySem.W.subIn K (.ref C_Refused) (.ref C_Refused) = some true)
    : LamX.LawAtS l w K CX0 14 63 "_law_script" mg fa h := by
  have e := hfa.symm.trans (PySem.W.mg_of X G a_law)
  cases e
  have F_is_number := fun_mk (st := s_is_number) l_is_number cc_is_number k_is_number
  have b_is_number := F_is_number.binds (ps := ["value"]) fun _ _ _ _ _ _ us hl => match us, hl with | [_], _ => rfl
  have F_is_within := fun_mk (st := s_is_within) l_is_within cc_is_within k_is_within
  have b_is_within := F_is_within.binds (ps := ["value", "least", "most"]) fun _ _ _ _ _ _ us hl => match us, hl with | [_, _, _], _ => rfl
  have F_check_within := fun_mk (st := s_check_within) l_check_within cc_check_within k_check_within
  have b_check_within := F_check_within.binds (ps := ["value", "least", "most"]) fun _ _ _ _ _ _ us hl => match us, hl with | [_, _, _], _ => rfl
  have F_are_exponents := fun_mk (st := s_are_exponents) l_are_exponents cc_are_exponents k_are_exponents
  have b_are_exponents := F_are_exponents.binds (ps := ["value", "letters", "most"]) fun _ _ _ _ _ _ us hl => match us, hl with | [_, _, _], _ => rfl
  have F_fits := fun_mk (st := s_fits) l_fits cc_fits k_fits
  have b_fits := F_fits.binds (ps := ["one", "other"]) fun _ _ _ _ _ _ us hl => match us, hl with | [_, _], _ => rfl
  have F_greater := fun_mk (st := s_greater) l_greater cc_greater k_greater
  have b_greater := F_greater.binds (ps := ["one", "other"]) fun _ _ _ _ _ _ us hl => match us, hl with | [_, _], _ => rfl
  have F_lesser := fun_mk (st := s_lesser) l_lesser cc_lesser k_lesser
  have b_lesser := F_lesser.binds (ps := ["one", "other"]) fun _ _ _ _ _ _ us hl => match us, hl with | [_, _], _ => rfl
  have F_added := fun_mk (st := s_added) l_added cc_added k_added
  have b_added := F_added.binds (ps := ["one", "other"]) fun _ _ _ _ _ _ us hl => match us, hl with | [_, _], _ => rfl
  have F_taken_off := fun_mk (st := s_taken_off) l_taken_off cc_taken_off k_taken_off
  have b_taken_off := F_taken_off.binds (ps := ["one", "other"]) fun _ _ _ _ _ _ us hl => match us, hl with | [_, _], _ => rfl
  have F_check_product := fun_mk (st := s_check_product) l_check_product cc_check_product k_check_product
  have b_check_product := F_check_product.binds (ps := ["value", "letters"]) fun _ _ _ _ _ _ us hl => match us, hl with | [_, _], _ => rfl
  have F_check_any_product := fun_mk (st := s_check_any_product) l_check_any_product cc_check_any_product k_check_any_product
  have b_check_any_product := F_check_any_product.binds (ps := ["value"]) fun _ _ _ _ _ _ us hl => match us, hl with | [_], _ => rfl
  have F_check_both := fun_mk (st := s_check_both) l_check_both cc_check_both k_check_both
  have b_check_both := F_check_both.binds (ps := ["one", "other"]) fun _ _ _ _ _ _ us hl => match us, hl with | [_, _], _ => rfl
  have F_degree_of := fun_mk (st := s_degree_of) l_degree_of cc_degree_of k_degree_of
  have b_degree_of := F_degree_of.binds (ps := ["product"]) fun _ _ _ _ _ _ us hl => match us, hl with | [_], _ => rfl
  have F_is_product := fun_mk (st := s_is_product) l_is_product cc_is_product k_is_product
  have b_is_product := F_is_product.binds (ps := ["letters", "value"]) fun _ _ _ _ _ _ us hl => match us, hl with | [_, _], _ => rfl
  have F_does_divide := fun_mk (st := s_does_divide) l_does_divide cc_does_divide k_does_divide
  have b_does_divide := F_does_divide.binds (ps := ["one", "other"]) fun _ _ _ _ _ _ us hl => match us, hl with | [_, _], _ => rfl
  have F_multiple_of := fun_mk (st := s_multiple_of) l_multiple_of cc_multiple_of k_multiple_of
  have b_multiple_of := F_multiple_of.binds (ps := ["one", "other"]) fun _ _ _ _ _ _ us hl => match us, hl with | [_, _], _ => rfl
  have F_divisor_of := fun_mk (st := s_divisor_of) l_divisor_of cc_divisor_of k_divisor_of
  have b_divisor_of := F_divisor_of.binds (ps := ["one", "other"]) fun _ _ _ _ _ _ us hl => match us, hl with | [_, _], _ => rfl
  have F_product_times := fun_mk (st := s_product_times) l_product_times cc_product_times k_product_times
  have b_product_times := F_product_times.binds (ps := ["one", "other"]) fun _ _ _ _ _ _ us hl => match us, hl with | [_, _], _ => rfl
  have F_quotient_of := fun_mk (st := s_quotient_of) l_quotient_of cc_quotient_of k_quotient_of
  have b_quotient_of := F_quotient_of.binds (ps := ["one", "other"]) fun _ _ _ _ _ _ us hl => match us, hl with | [_, _], _ => rfl
  have F_w_pail := fun_mk (st := s_w_pail) l_w_pail cc_w_pail k_w_pail
  have b_w_pail := F_w_pail.binds (ps := ["_law_script", "_law_spot"]) fun _ _ _ _ _ _ us hl => match us, hl with | [_, _], _ => rfl
  have F_w_dipped := fun_mk (st := s_w_dipped) l_w_dipped cc_w_dipped k_w_dipped
  have b_w_dipped := F_w_dipped.binds (ps := ["_law_pail_here", "_law_many"]) fun _ _ _ _ _ _ us hl => match us, hl with | [_, _], _ => rfl
  have F_w_some := fun_mk (st := s_w_some) l_w_some cc_w_some k_w_some
  have b_w_some := F_w_some.binds (ps := ["_law_pail_here", "_law_items"]) fun _ _ _ _ _ _ us hl => match us, hl with | [_, _], _ => rfl
  have F_w_product := fun_mk (st := s_w_product) l_w_product cc_w_product k_w_product
  have b_w_product := F_w_product.binds (ps := ["_law_pail_here", "_law_letters", "_law_most"]) fun _ _ _ _ _ _ us hl => match us, hl with | [_, _, _], _ => rfl
  have F_w_divides := fun_mk (st := s_w_divides) l_w_divides cc_w_divides k_w_divides
  have b_w_divides := F_w_divides.binds (ps := ["_law_one", "_law_other"]) fun _ _ _ _ _ _ us hl => match us, hl with | [_, _], _ => rfl
  have F_w_joined := fun_mk (st := s_w_joined) l_w_joined cc_w_joined k_w_joined
  have b_w_joined := F_w_joined.binds (ps := ["_law_one", "_law_other"]) fun _ _ _ _ _ _ us hl => match us, hl with | [_, _], _ => rfl
  have F_w_added := fun_mk (st := s_w_added) l_w_added cc_w_added k_w_added
  have b_w_added := F_w_added.binds (ps := ["_law_one", "_law_other"]) fun _ _ _ _ _ _ us hl => match us, hl with | [_, _], _ => rfl
  have F_w_told := fun_mk (st := s_w_told) l_w_told cc_w_told k_w_told
  have b_w_told := F_w_told.binds (ps := ["_law_call"]) fun _ _ _ _ _ _ us hl => match us, hl with | [_], _ => rfl
  have F_w_great := fun_mk (st := s_w_great) l_w_great cc_w_great k_w_great
  have b_w_great := F_w_great.binds (ps := ["_law_pail_here", "_law_letters"]) fun _ _ _ _ _ _ us hl => match us, hl with | [_, _], _ => rfl
  have F_w_near := fun_mk (st := s_w_near) l_w_near cc_w_near k_w_near
  have b_w_near := F_w_near.binds (ps := ["_law_pail_here", "_law_one"]) fun _ _ _ _ _ _ us hl => match us, hl with | [_, _], _ => rfl
  have F_w_is := fun_mk (st := s_w_is) l_w_is cc_w_is k_w_is
  have b_w_is := F_w_is.binds (ps := ["_law_letters", "_law_value"]) fun _ _ _ _ _ _ us hl => match us, hl with | [_, _], _ => rfl
  have F_w_two_right := fun_mk (st := s_w_two_right) l_w_two_right cc_w_two_right k_w_two_right
  have b_w_two_right := F_w_two_right.binds (ps := ["_law_one", "_law_other"]) fun _ _ _ _ _ _ us hl => match us, hl with | [_, _], _ => rfl
  have F_w_right := fun_mk (st := s_w_right) l_w_right cc_w_right k_w_right
  have b_w_right := F_w_right.binds (ps := ["_law_pail_here"]) fun _ _ _ _ _ _ us hl => match us, hl with | [_], _ => rfl
  have F_law := fun_mk (st := s_law) l_law cc_law k_law
  have b_law := F_law.binds (ps := ["_law_script"]) fun _ _ _ _ _ _ us hl => match us, hl with | [_], _ => rfl
  have F_TooMany := fun_mk (st := si_TooMany) li_TooMany ci_TooMany ki_TooMany
  have b_TooMany := F_TooMany.binds (ps := ["self", "most"]) fun _ _ _ _ _ _ us hl => match us, hl with | [_, _], _ => rfl
  have F_Refused := fun_mk (st := si_Refused) li_Refused ci_Refused ki_Refused
  have b_Refused := F_Refused.binds (ps := ["self", "reason"]) fun _ _ _ _ _ _ us hl => match us, hl with | [_, _], _ => rfl
  let T : Txt K mg := ⟨_, _, F_is_number, b_is_number, PySem.W.mg_of X G a_is_number, _, _, F_is_within, b_is_within, PySem.W.mg_of X G a_is_within, _, _, F_check_within, b_check_within, PySem.W.mg_of X G a_check_within, _, _, F_are_exponents, b_are_exponents, PySem.W.mg_of X G a_are_exponents, _, _, F_fits, b_fits, PySem.W.mg_of X G a_fits, _, _, F_greater, b_greater, PySem.W.mg_of X G a_greater, _, _, F_lesser, b_lesser, PySem.W.mg_of X G a_lesser, _, _, F_added, b_added, PySem.W.mg_of X G a_added, _, _, F_taken_off, b_taken_off, PySem.W.mg_of X G a_taken_off, _, _, F_check_product, b_check_product, PySem.W.mg_of X G a_check_product, _, _, F_check_any_product, b_check_any_product, PySem.W.mg_of X G a_check_any_product, _, _, F_check_both, b_check_both, PySem.W.mg_of X G a_check_both, _, _, F_degree_of, b_degree_of, PySem.W.mg_of X G a_degree_of, _, _, F_is_product, b_is_product, PySem.W.mg_of X G a_is_product, _, _, F_does_divide, b_does_divide, PySem.W.mg_of X G a_does_divide, _, _, F_multiple_of, b_multiple_of, PySem.W.mg_of X G a_multiple_of, _, _, F_divisor_of, b_divisor_of, PySem.W.mg_of X G a_divisor_of, _, _, F_product_times, b_product_times, PySem.W.mg_of X G a_product_times, _, _, F_quotient_of, b_quotient_of, PySem.W.mg_of X G a_quotient_of, _, _, F_w_pail, b_w_pail, PySem.W.mg_of X G a_w_pail, _, _, F_w_dipped, b_w_dipped, PySem.W.mg_of X G a_w_dipped, _, _, F_w_some, b_w_some, PySem.W.mg_of X G a_w_some, _, _, F_w_product, b_w_product, PySem.W.mg_of X G a_w_product, _, _, F_w_divides, b_w_divides, PySem.W.mg_of X G a_w_divides, _, _, F_w_joined, b_w_joined, PySem.W.mg_of X G a_w_joined, _, _, F_w_added, b_w_added, PySem.W.mg_of X G a_w_added, _, _, F_w_told, b_w_told, PySem.W.mg_of X G a_w_told, _, _, F_w_great, b_w_great, PySem.W.mg_of X G a_w_great, _, _, F_w_near, b_w_near, PySem.W.mg_of X G a_w_near, _, _, F_w_is, b_w_is, PySem.W.mg_of X G a_w_is, _, _, F_w_two_right, _, ⟨⟨_, _, _, _, _, _, _, _, rfl, l_w_two_right, cc_w_two_right⟩⟩, b_w_two_right, PySem.W.mg_of X G a_w_two_right, _, _, F_w_right, _, ⟨⟨_, _, _, _, _, _, _, _, rfl, l_w_right, cc_w_right⟩⟩, b_w_right, PySem.W.mg_of X G a_w_right, _, _, F_law, b_law, PySem.W.mg_of X G a_law, PySem.W.mg_none_of X G z_isinstance, PySem.W.mg_none_of X G z_int, PySem.W.mg_none_of X G z_bool, PySem.W.mg_none_of X G z_tuple, PySem.W.mg_none_of X G z_len, PySem.W.mg_none_of X G z_all, PySem.W.mg_none_of X G z_zip, PySem.W.mg_none_of X G z_max, PySem.W.mg_none_of X G z_min, PySem.W.mg_none_of X G z_sum, PySem.W.mg_none_of X G z_abs, PySem.W.mg_none_of X G z_range, PySem.W.mg_none_of X G z_list, _, PySem.W.mg_of X G g_MAX_LETTERS, _, PySem.W.mg_of X G g_MAX_EXPONENT, _, PySem.W.mg_of X G aC_InvalidProduct, bE_InvalidProduct, tE_InvalidProduct, kC_InvalidProduct, xC_InvalidProduct, _, PySem.W.mg_of X G aC_TooMany, bE_TooMany, tE_TooMany, kC_TooMany, ⟨⟨_, _, _, _, _, _, _, _, _, _, _, _, _, _, _, xL_TooMany, by decide +kernel⟩, sa_TooMany, bE_TooMany, tE_TooMany, kC_TooMany⟩, _, _, ai_TooMany, ti_TooMany, F_TooMany, b_TooMany, nf_TooMany, ⟨ga_TooMany, gg_TooMany, bE_TooMany, hC_TooMany⟩, _, PySem.W.mg_of X G aC_Refused, bE_Refused, tE_Refused, kC_Refused, ⟨⟨_, _, _, _, _, _, _, _, _, _, _, _, _, _, _, xL_Refused, by decide +kernel⟩, sa_Refused, bE_Refused, tE_Refused, kC_Refused⟩, _, _, ai_Refused, ti_Refused, F_Refused, b_Refused, nf_Refused, ⟨ga_Refused, gg_Refused, bE_Refused, hC_Refused⟩, exm_b bE_InvalidProduct iC_InvalidProduct tE_InvalidProduct s_InvalidProduct_InvalidProduct, exm_b bE_TooMany iC_TooMany tE_TooMany s_InvalidProduct_TooMany, exm_b bE_Refused iC_Refused tE_Refused s_InvalidProduct_Refused, exm_b bE_InvalidProduct iC_InvalidProduct tE_InvalidProduct s_TooMany_InvalidProduct, exm_b bE_TooMany iC_TooMany tE_TooMany s_TooMany_TooMany, exm_b bE_Refused iC_Refused tE_Refused s_TooMany_Refused, exm_b bE_InvalidProduct iC_InvalidProduct tE_InvalidProduct s_Refused_InvalidProduct, exm_b bE_TooMany iC_TooMany tE_TooMany s_Refused_TooMany, exm_b bE_Refused iC_Refused tE_Refused s_Refused_Refused⟩
  refine ⟨_, [(c_w_two_right, 287), (c_w_right, 292)], sp_law K, ?_, ?_, ?_, fun s v => .of_eq rfl, fun H a ns hl _ hT hS => ?_, fun base _ _ TB => ok_law T ?_ ?_⟩
  · intro p hp
    rcases List.mem_cons.mp hp with rfl | hp
    · exact hT_w_two_right
    rcases List.mem_cons.mp hp with rfl | hp
    · exact hT_w_right
    cases hp
  · intro p hp
    rcases List.mem_cons.mp hp with rfl | hp
    · exact nl_w_two_right
    rcases List.mem_cons.mp hp with rfl | hp
    · exact nl_w_right
    cases hp
  · intro p hp
    rcases List.mem_cons.mp hp with rfl | hp
    · exact PySem.W.codeHd_of_K X hd_w_two_right
    rcases List.mem_cons.mp hp with rfl | hp
    · exact PySem.W.codeHd_of_K X hd_w_right
    cases hp
  · exact ⟨a, ns, rfl, hS, hl, tabs0 (hT _ List.mem_cons_self) (hT _ (List.mem_cons_of_mem _ List.mem_cons_self)), fun _ => rfl⟩
  · exact TB _ List.mem_cons_self
  · exact TB _ (List.mem_cons_of_mem _ List.mem_cons_self)
end K4
open PySem PySem.W PyProof.Rows
set_option maxRecDepth 100000 in
set_option maxHeartbeats 0 in
theorem PySem.Challenge.cw_pureladders_k04_whole_products_by_their_holds : PySem.Challenge.rw_pureladders_k04_whole_products_by_their.Holds := by
  w_on; o_law; k_head; (case hw => w_witness2)
  k_fill
  refine LamX.walk_ofTs (l := PySem.Challenge.rw_pureladders_k04_whole_products_by_their) (n := 63) (k := 14) (x := "_law_script") (CX := fun _ => L2.CX0) rfl (by decide) rfl ⟨rfl, by decide, by decide⟩ (fun w h Y => PySem.W.km_in_of Y) ?F (fun _ _ _ _ _ h => h)
  case F =>
    intro w mg fa h Y KX G hmg
    have Z := PySem.W.km_tabs_of Y
    refine' K4.all_mk KX G hmg ?a_is_number ?l_is_number ?cc_is_number ?k_is_number ?a_is_within ?l_is_within ?cc_is_within ?k_is_within ?a_check_within ?l_check_within ?cc_check_within ?k_check_within ?a_are_exponents ?l_are_exponents ?cc_are_exponents ?k_are_exponents ?a_fits ?l_fits ?cc_fits ?k_fits ?a_greater ?l_greater ?cc_greater ?k_greater ?a_lesser ?l_lesser ?cc_lesser ?k_lesser ?a_added ?l_added ?cc_added ?k_added ?a_taken_off ?l_taken_off ?cc_taken_off ?k_taken_off ?a_check_product ?l_check_product ?cc_check_product ?k_check_product ?a_check_any_product ?l_check_any_product ?cc_check_any_product ?k_check_any_product ?a_check_both ?l_check_both ?cc_check_both ?k_check_both ?a_degree_of ?l_degree_of ?cc_degree_of ?k_degree_of ?a_is_product ?l_is_product ?cc_is_product ?k_is_product ?a_does_divide ?l_does_divide ?cc_does_divide ?k_does_divide ?a_multiple_of ?l_multiple_of ?cc_multiple_of ?k_multiple_of ?a_divisor_of ?l_divisor_of ?cc_divisor_of ?k_divisor_of ?a_product_times ?l_product_times ?cc_product_times ?k_product_times ?a_quotient_of ?l_quotient_of ?cc_quotient_of ?k_quotient_of ?a_w_pail ?l_w_pail ?cc_w_pail ?k_w_pail ?a_w_dipped ?l_w_dipped ?cc_w_dipped ?k_w_dipped ?a_w_some ?l_w_some ?cc_w_some ?k_w_some ?a_w_product ?l_w_product ?cc_w_product ?k_w_product ?a_w_divides ?l_w_divides ?cc_w_divides ?k_w_divides ?a_w_joined ?l_w_joined ?cc_w_joined ?k_w_joined ?a_w_added ?l_w_added ?cc_w_added ?k_w_added ?a_w_told ?l_w_told ?cc_w_told ?k_w_told ?a_w_great ?l_w_great ?cc_w_great ?k_w_great ?a_w_near ?l_w_near ?cc_w_near ?k_w_near ?a_w_is ?l_w_is ?cc_w_is ?k_w_is ?a_w_two_right ?l_w_two_right ?cc_w_two_right ?k_w_two_right ?hd_w_two_right ?nl_w_two_right ?hT_w_two_right ?a_w_right ?l_w_right ?cc_w_right ?k_w_right ?hd_w_right ?nl_w_right ?hT_w_right ?a_law ?l_law ?cc_law ?k_law ?z_isinstance ?z_int ?z_bool ?z_tuple ?z_len ?z_all ?z_zip ?z_max ?z_min ?z_sum ?z_abs ?z_range ?z_list ?g_MAX_LETTERS ?g_MAX_EXPONENT ?aC_InvalidProduct ?xC_InvalidProduct ?bE_InvalidProduct ?tE_InvalidProduct ?kC_InvalidProduct ?iC_InvalidProduct ?aC_TooMany ?xL_TooMany ?sa_TooMany ?ga_TooMany ?gg_TooMany ?nf_TooMany ?ai_TooMany ?ti_TooMany ?li_TooMany ?ci_TooMany ?ki_TooMany ?hC_TooMany ?bE_TooMany ?tE_TooMany ?kC_TooMany ?iC_TooMany ?aC_Refused ?xL_Refused ?sa_Refused ?ga_Refused ?gg_Refused ?nf_Refused ?ai_Refused ?ti_Refused ?li_Refused ?ci_Refused ?ki_Refused ?hC_Refused ?bE_Refused ?tE_Refused ?kC_Refused ?iC_Refused ?s_InvalidProduct_InvalidProduct ?s_InvalidProduct_TooMany ?s_InvalidProduct_Refused ?s_TooMany_InvalidProduct ?s_TooMany_TooMany ?s_TooMany_Refused ?s_Refused_InvalidProduct ?s_Refused_TooMany ?s_Refused_Refused
    (case a_is_number => first | k_is | kernel_rfl | rfl)
    (case l_is_number => first | k_is | kernel_rfl | rfl)
    (case cc_is_number => first | k_is | kernel_rfl | rfl)
    (case k_is_number => first | k_is | kernel_rfl | rfl)
    (case a_is_within => first | k_is | kernel_rfl | rfl)
    (case l_is_within => first | k_is | kernel_rfl | rfl)
    (case cc_is_within => first | k_is | kernel_rfl | rfl)
    (case k_is_within => first | k_is | kernel_rfl | rfl)
    (case a_check_within => first | k_is | kernel_rfl | rfl)
    (case l_check_within => first | k_is | kernel_rfl | rfl)
    (case cc_check_within => first | k_is | kernel_rfl | rfl)
    (case k_check_within => first | k_is | kernel_rfl | rfl)
    (case a_are_exponents => first | k_is | kernel_rfl | rfl)
    (case l_are_exponents => first | k_is | kernel_rfl | rfl)
    (case cc_are_exponents => first | k_is | kernel_rfl | rfl)
    (case k_are_exponents => first | k_is | kernel_rfl | rfl)
    (case a_fits => first | k_is | kernel_rfl | rfl)
    (case l_fits => first | k_is | kernel_rfl | rfl)
    (case cc_fits => first | k_is | kernel_rfl | rfl)
    (case k_fits => first | k_is | kernel_rfl | rfl)
    (case a_greater => first | k_is | kernel_rfl | rfl)
    (case l_greater => first | k_is | kernel_rfl | rfl)
    (case cc_greater => first | k_is | kernel_rfl | rfl)
    (case k_greater => first | k_is | kernel_rfl | rfl)
    (case a_lesser => first | k_is | kernel_rfl | rfl)
    (case l_lesser => first | k_is | kernel_rfl | rfl)
    (case cc_lesser => first | k_is | kernel_rfl | rfl)
    (case k_lesser => first | k_is | kernel_rfl | rfl)
    (case a_added => first | k_is | kernel_rfl | rfl)
    (case l_added => first | k_is | kernel_rfl | rfl)
    (case cc_added => first | k_is | kernel_rfl | rfl)
    (case k_added => first | k_is | kernel_rfl | rfl)
    (case a_taken_off => first | k_is | kernel_rfl | rfl)
    (case l_taken_off => first | k_is | kernel_rfl | rfl)
    (case cc_taken_off => first | k_is | kernel_rfl | rfl)
    (case k_taken_off => first | k_is | kernel_rfl | rfl)
    (case a_check_product => first | k_is | kernel_rfl | rfl)
    (case l_check_product => first | k_is | kernel_rfl | rfl)
    (case cc_check_product => first | k_is | kernel_rfl | rfl)
    (case k_check_product => first | k_is | kernel_rfl | rfl)
    (case a_check_any_product => first | k_is | kernel_rfl | rfl)
    (case l_check_any_product => first | k_is | kernel_rfl | rfl)
    (case cc_check_any_product => first | k_is | kernel_rfl | rfl)
    (case k_check_any_product => first | k_is | kernel_rfl | rfl)
    (case a_check_both => first | k_is | kernel_rfl | rfl)
    (case l_check_both => first | k_is | kernel_rfl | rfl)
    (case cc_check_both => first | k_is | kernel_rfl | rfl)
    (case k_check_both => first | k_is | kernel_rfl | rfl)
    (case a_degree_of => first | k_is | kernel_rfl | rfl)
    (case l_degree_of => first | k_is | kernel_rfl | rfl)
    (case cc_degree_of => first | k_is | kernel_rfl | rfl)
    (case k_degree_of => first | k_is | kernel_rfl | rfl)
    (case a_is_product => first | k_is | kernel_rfl | rfl)
    (case l_is_product => first | k_is | kernel_rfl | rfl)
    (case cc_is_product => first | k_is | kernel_rfl | rfl)
    (case k_is_product => first | k_is | kernel_rfl | rfl)
    (case a_does_divide => first | k_is | kernel_rfl | rfl)
    (case l_does_divide => first | k_is | kernel_rfl | rfl)
    (case cc_does_divide => first | k_is | kernel_rfl | rfl)
    (case k_does_divide => first | k_is | kernel_rfl | rfl)
    (case a_multiple_of => first | k_is | kernel_rfl | rfl)
    (case l_multiple_of => first | k_is | kernel_rfl | rfl)
    (case cc_multiple_of => first | k_is | kernel_rfl | rfl)
    (case k_multiple_of => first | k_is | kernel_rfl | rfl)
    (case a_divisor_of => first | k_is | kernel_rfl | rfl)
    (case l_divisor_of => first | k_is | kernel_rfl | rfl)
    (case cc_divisor_of => first | k_is | kernel_rfl | rfl)
    (case k_divisor_of => first | k_is | kernel_rfl | rfl)
    (case a_product_times => first | k_is | kernel_rfl | rfl)
    (case l_product_times => first | k_is | kernel_rfl | rfl)
    (case cc_product_times => first | k_is | kernel_rfl | rfl)
    (case k_product_times => first | k_is | kernel_rfl | rfl)
    (case a_quotient_of => first | k_is | kernel_rfl | rfl)
    (case l_quotient_of => first | k_is | kernel_rfl | rfl)
    (case cc_quotient_of => first | k_is | kernel_rfl | rfl)
    (case k_quotient_of => first | k_is | kernel_rfl | rfl)
    (case a_w_pail => first | k_is | kernel_rfl | rfl)
    (case l_w_pail => first | k_is | kernel_rfl | rfl)
    (case cc_w_pail => first | k_is | kernel_rfl | rfl)
    (case k_w_pail => first | k_is | kernel_rfl | rfl)
    (case a_w_dipped => first | k_is | kernel_rfl | rfl)
    (case l_w_dipped => first | k_is | kernel_rfl | rfl)
    (case cc_w_dipped => first | k_is | kernel_rfl | rfl)
    (case k_w_dipped => first | k_is | kernel_rfl | rfl)
    (case a_w_some => first | k_is | kernel_rfl | rfl)
    (case l_w_some => first | k_is | kernel_rfl | rfl)
    (case cc_w_some => first | k_is | kernel_rfl | rfl)
    (case k_w_some => first | k_is | kernel_rfl | rfl)
    (case a_w_product => first | k_is | kernel_rfl | rfl)
    (case l_w_product => first | k_is | kernel_rfl | rfl)
    (case cc_w_product => first | k_is | kernel_rfl | rfl)
    (case k_w_product => first | k_is | kernel_rfl | rfl)
    (case a_w_divides => first | k_is | kernel_rfl | rfl)
    (case l_w_divides => first | k_is | kernel_rfl | rfl)
    (case cc_w_divides => first | k_is | kernel_rfl | rfl)
    (case k_w_divides => first | k_is | kernel_rfl | rfl)
    (case a_w_joined => first | k_is | kernel_rfl | rfl)
    (case l_w_joined => first | k_is | kernel_rfl | rfl)
    (case cc_w_joined => first | k_is | kernel_rfl | rfl)
    (case k_w_joined => first | k_is | kernel_rfl | rfl)
    (case a_w_added => first | k_is | kernel_rfl | rfl)
    (case l_w_added => first | k_is | kernel_rfl | rfl)
    (case cc_w_added => first | k_is | kernel_rfl | rfl)
    (case k_w_added => first | k_is | kernel_rfl | rfl)
    (case a_w_told => first | k_is | kernel_rfl | rfl)
    (case l_w_told => first | k_is | kernel_rfl | rfl)
    (case cc_w_told => first | k_is | kernel_rfl | rfl)
    (case k_w_told => first | k_is | kernel_rfl | rfl)
    (case a_w_great => first | k_is | kernel_rfl | rfl)
    (case l_w_great => first | k_is | kernel_rfl | rfl)
    (case cc_w_great => first | k_is | kernel_rfl | rfl)
    (case k_w_great => first | k_is | kernel_rfl | rfl)
    (case a_w_near => first | k_is | kernel_rfl | rfl)
    (case l_w_near => first | k_is | kernel_rfl | rfl)
    (case cc_w_near => first | k_is | kernel_rfl | rfl)
    (case k_w_near => first | k_is | kernel_rfl | rfl)
    (case a_w_is => first | k_is | kernel_rfl | rfl)
    (case l_w_is => first | k_is | kernel_rfl | rfl)
    (case cc_w_is => first | k_is | kernel_rfl | rfl)
    (case k_w_is => first | k_is | kernel_rfl | rfl)
    (case a_w_two_right => first | k_is | kernel_rfl | rfl)
    (case l_w_two_right => first | k_is | kernel_rfl | rfl)
    (case cc_w_two_right => first | k_is | kernel_rfl | rfl)
    (case k_w_two_right => first | k_is | kernel_rfl | rfl)
    (case hd_w_two_right => first | rfl | decide | kernel_rfl | k_is)
    (case nl_w_two_right => first | rfl | decide | kernel_rfl | k_is)
    (case hT_w_two_right => exact Z _ (by first | exact List.mem_cons_self | exact List.mem_cons_of_mem _ List.mem_cons_self))
    (case a_w_right => first | k_is | kernel_rfl | rfl)
    (case l_w_right => first | k_is | kernel_rfl | rfl)
    (case cc_w_right => first | k_is | kernel_rfl | rfl)
    (case k_w_right => first | k_is | kernel_rfl | rfl)
    (case hd_w_right => first | rfl | decide | kernel_rfl | k_is)
    (case nl_w_right => first | rfl | decide | kernel_rfl | k_is)
    (case hT_w_right => exact Z _ (by first | exact List.mem_cons_self | exact List.mem_cons_of_mem _ List.mem_cons_self))
    (case a_law => first | k_is | kernel_rfl | rfl)
    (case l_law => first | k_is | kernel_rfl | rfl)
    (case cc_law => first | k_is | kernel_rfl | rfl)
    (case k_law => first | k_is | kernel_rfl | rfl)
    (case z_isinstance => first | k_is | kernel_rfl | rfl)
    (case z_int => first | k_is | kernel_rfl | rfl)
    (case z_bool => first | k_is | kernel_rfl | rfl)
    (case z_tuple => first | k_is | kernel_rfl | rfl)
    (case z_len => first | k_is | kernel_rfl | rfl)
    (case z_all => first | k_is | kernel_rfl | rfl)
    (case z_zip => first | k_is | kernel_rfl | rfl)
    (case z_max => first | k_is | kernel_rfl | rfl)
    (case z_min => first | k_is | kernel_rfl | rfl)
    (case z_sum => first | k_is | kernel_rfl | rfl)
    (case z_abs => first | k_is | kernel_rfl | rfl)
    (case z_range => first | k_is | kernel_rfl | rfl)
    (case z_list => first | k_is | kernel_rfl | rfl)
    (case g_MAX_LETTERS => first | k_is | kernel_rfl | rfl)
    (case g_MAX_EXPONENT => first | k_is | kernel_rfl | rfl)
    (case aC_InvalidProduct => first | k_is | kernel_rfl | rfl)
    (case xC_InvalidProduct => first | k_is | kernel_rfl | rfl)
    (case bE_InvalidProduct => first | k_is | kernel_rfl | rfl)
    (case tE_InvalidProduct => first | k_is | kernel_rfl | rfl)
    (case kC_InvalidProduct => first | k_is | kernel_rfl | rfl)
    (case iC_InvalidProduct => first | k_is | kernel_rfl | rfl)
    (case aC_TooMany => first | k_is | kernel_rfl | rfl)
    (case xL_TooMany => first | k_is | kernel_rfl | rfl)
    (case sa_TooMany => first | k_is | kernel_rfl | rfl)
    (case ga_TooMany => first | k_is | kernel_rfl | rfl)
    (case gg_TooMany => first | k_is | kernel_rfl | rfl)
    (case nf_TooMany => first | k_is | kernel_rfl | rfl)
    (case ai_TooMany => first | k_is | kernel_rfl | rfl)
    (case ti_TooMany => first | k_is | kernel_rfl | rfl)
    (case li_TooMany => first | k_is | kernel_rfl | rfl)
    (case ci_TooMany => first | k_is | kernel_rfl | rfl)
    (case ki_TooMany => first | k_is | kernel_rfl | rfl)
    (case hC_TooMany => first | k_is | kernel_rfl | rfl)
    (case bE_TooMany => first | k_is | kernel_rfl | rfl)
    (case tE_TooMany => first | k_is | kernel_rfl | rfl)
    (case kC_TooMany => first | k_is | kernel_rfl | rfl)
    (case iC_TooMany => first | k_is | kernel_rfl | rfl)
    (case aC_Refused => first | k_is | kernel_rfl | rfl)
    (case xL_Refused => first | k_is | kernel_rfl | rfl)
    (case sa_Refused => first | k_is | kernel_rfl | rfl)
    (case ga_Refused => first | k_is | kernel_rfl | rfl)
    (case gg_Refused => first | k_is | kernel_rfl | rfl)
    (case nf_Refused => first | k_is | kernel_rfl | rfl)
    (case ai_Refused => first | k_is | kernel_rfl | rfl)
    (case ti_Refused => first | k_is | kernel_rfl | rfl)
    (case li_Refused => first | k_is | kernel_rfl | rfl)
    (case ci_Refused => first | k_is | kernel_rfl | rfl)
    (case ki_Refused => first | k_is | kernel_rfl | rfl)
    (case hC_Refused => first | k_is | kernel_rfl | rfl)
    (case bE_Refused => first | k_is | kernel_rfl | rfl)
    (case tE_Refused => first | k_is | kernel_rfl | rfl)
    (case kC_Refused => first | k_is | kernel_rfl | rfl)
    (case iC_Refused => first | k_is | kernel_rfl | rfl)
    (case s_InvalidProduct_InvalidProduct => first | k_is | kernel_rfl | rfl)
    (case s_InvalidProduct_TooMany => first | k_is | kernel_rfl | rfl)
    (case s_InvalidProduct_Refused => first | k_is | kernel_rfl | rfl)
    (case s_TooMany_InvalidProduct => first | k_is | kernel_rfl | rfl)
    (case s_TooMany_TooMany => first | k_is | kernel_rfl | rfl)
    (case s_TooMany_Refused => first | k_is | kernel_rfl | rfl)
    (case s_Refused_InvalidProduct => first | k_is | kernel_rfl | rfl)
    (case s_Refused_TooMany => first | k_is | kernel_rfl | rfl)
    (case s_Refused_Refused => first | k_is | kernel_rfl | rfl)
