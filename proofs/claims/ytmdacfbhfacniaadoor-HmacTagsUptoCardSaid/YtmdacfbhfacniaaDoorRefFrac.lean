/-
  The contract of the reference's fraction: numbers of six digits as numbers.
-/
import Derived.Test.YtmdacfbhfacniaaDoorRefBig
namespace Go.Proofs.YtmdacfbhfacniaaDoor
open Go.RowKit

/-! What digits come to. -/
def val (l : List Nat) : Nat → Nat
  | 0 => 0
  | n + 1 => val l n + l.getD n 0 * 4294967296 ^ n
theorem val_succ (l : List Nat) (n : Nat) : val l (n + 1) = val l n + l.getD n 0 * 4294967296 ^ n := rfl
theorem val_lt {l : List Nat} (h : Digits l) : ∀ n, val l n < 4294967296 ^ n
  | 0 => by simp [val]
  | n + 1 => by
    have h1 := val_lt h n
    have h2 := h.2 n
    have h3 : (l.getD n 0 + 1) * 4294967296 ^ n ≤ 4294967296 * 4294967296 ^ n := Nat.mul_le_mul_right _ (by omega)
    rw [Nat.add_mul, Nat.one_mul] at h3
    rw [val, Nat.pow_succ, Nat.mul_comm (4294967296 ^ n)]
    omega
theorem val_set_ge (l : List Nat) (k v : Nat) : ∀ n, n ≤ k → val (l.set k v) n = val l n
  | 0, _ => rfl
  | n + 1, h => by
    rw [val, val, val_set_ge l k v n (by omega)]
    simp only [List.getD_eq_getElem?_getD, List.getElem?_set]
    rw [if_neg (by omega)]
theorem val_set (l : List Nat) (k v : Nat) (hk : k < l.length) : ∀ n, k < n → val (l.set k v) n + l.getD k 0 * 4294967296 ^ k = val l n + v * 4294967296 ^ k
  | 0, h => by omega
  | n + 1, h => by
    rw [val, val]
    by_cases e : k = n
    · subst e
      rw [val_set_ge l k v k (Nat.le_refl _)]
      have : (l.set k v).getD k 0 = v := by simp [List.getD_eq_getElem?_getD, hk]
      rw [this]
      omega
    · have := val_set l k v hk n (by omega)
      have e2 : (l.set k v).getD n 0 = l.getD n 0 := by
        simp only [List.getD_eq_getElem?_getD, List.getElem?_set]
        rw [if_neg e]
      rw [e2]
      omega
theorem val_split (l : List Nat) (a : Nat) : ∀ d, ∃ m, val l (a + d) = val l a + m * 4294967296 ^ a
  | 0 => ⟨0, by simp⟩
  | d + 1 => by
    obtain ⟨m, hm⟩ := val_split l a d
    refine ⟨m + l.getD (a + d) 0 * 4294967296 ^ d, ?_⟩
    rw [← Nat.add_assoc, val, hm, Nat.pow_add, Nat.add_mul, Nat.mul_assoc, Nat.mul_comm (4294967296 ^ a) (4294967296 ^ d)]
    omega
theorem val6 (a b c d e f : Nat) : val [a, b, c, d, e, f] 6 = a * 4294967296 ^ 0 + b * 4294967296 ^ 1 + c * 4294967296 ^ 2 + d * 4294967296 ^ 3 + e * 4294967296 ^ 4 + f * 4294967296 ^ 5 := by
  rw [val_succ _ 5, val_succ _ 4, val_succ _ 3, val_succ _ 2, val_succ _ 1, val_succ _ 0]
  simp only [val, List.getD_cons_zero, List.getD_cons_succ, Nat.zero_add]
theorem mr_val {x : Nat} {b o : List Nat} {i : Nat} (hx : x < 4294967296) (hb : Digits b) (ho : Digits o) (j : Nat) : i + j ≤ 6 →
    val (mr x b i o j).1 6 + (mr x b i o j).2 * 4294967296 ^ (i + j) = val o 6 + x * val b j * 4294967296 ^ i := by
  induction j with
  | zero =>
    intro _
    show val o 6 + 0 * _ = val o 6 + x * 0 * _
    rw [Nat.zero_mul, Nat.mul_zero, Nat.zero_mul]
  | succ j ih =>
    intro h
    have ih := ih (by omega)
    obtain ⟨hd, hc⟩ := mr_ok (i := i) hx hb ho j
    obtain ⟨v, hv⟩ : ∃ v, v = x * b.getD j 0 + (mr x b i o j).1.getD (i + j) 0 + (mr x b i o j).2 := ⟨_, rfl⟩
    have hs := val_set (mr x b i o j).1 (i + j) (v % 4294967296) (by rw [hd.1]; omega) 6 (by omega)
    rw [mr, ← hv, val_succ b j]
    show val ((mr x b i o j).1.set (i + j) (v % 4294967296)) 6 + v / 4294967296 * 4294967296 ^ (i + (j + 1)) = _
    rw [show i + (j + 1) = (i + j) + 1 by omega, Nat.pow_succ, Nat.mul_add, Nat.add_mul]
    have e1 : v / 4294967296 * (4294967296 ^ (i + j) * 4294967296) + v % 4294967296 * 4294967296 ^ (i + j) = v * 4294967296 ^ (i + j) := by
      rw [Nat.mul_comm (4294967296 ^ (i + j)) 4294967296, ← Nat.mul_assoc, ← Nat.add_mul, Nat.mul_comm (v / 4294967296), Nat.div_add_mod]
    have e2 : x * (b.getD j 0 * 4294967296 ^ j) * 4294967296 ^ i = x * b.getD j 0 * 4294967296 ^ (i + j) := by
      rw [Nat.add_comm i j, Nat.pow_add, Nat.mul_assoc, Nat.mul_assoc, Nat.mul_assoc]
    rw [e2]
    have e3 : v * 4294967296 ^ (i + j) = x * b.getD j 0 * 4294967296 ^ (i + j) + (mr x b i o j).1.getD (i + j) 0 * 4294967296 ^ (i + j) + (mr x b i o j).2 * 4294967296 ^ (i + j) := by
      rw [hv, Nat.add_mul, Nat.add_mul]
    omega
theorem tm_step (va ai vb vb' m Bi Bj M V W' c : Nat) (hM : Bi * Bj = M) (hm : vb = vb' + m * Bj) (h1 : W' + c * M = V + ai * vb' * Bi) (ih : V % M = (va * vb) % M) :
    W' % M = ((va + ai * Bi) * vb) % M := by
  have e2 : ai * Bi * vb = ai * vb' * Bi + ai * m * M := by
    rw [hm, ← hM, Nat.mul_add]
    simp only [Nat.mul_comm, Nat.mul_left_comm]
  rw [Nat.add_mul, e2, ← Nat.add_assoc, Nat.add_mul_mod_self_right, ← Nat.mod_add_mod, ← ih, Nat.mod_add_mod, ← h1, Nat.add_mul_mod_self_right]
theorem tm_val {a b : List Nat} (ha : Digits a) (hb : Digits b) (M : Nat) (hM : M = 4294967296 ^ 6) (i : Nat) : i ≤ 6 → val (tm a b i) 6 % M = (val a i * val b 6) % M := by
  induction i with
  | zero =>
    intro _
    have h0 : val (tm a b 0) 6 = 0 := by
      rw [show tm a b 0 = [0, 0, 0, 0, 0, 0] from rfl, val6]
    rw [h0, show val a 0 = 0 from rfl, Nat.zero_mul]
  | succ i ih =>
    intro h
    have ih := ih (by omega)
    rw [val_succ a i, tm]
    split
    · rename_i e
      rw [e, Nat.zero_mul, Nat.add_zero]
      exact ih
    · have h1 := mr_val (i := i) (ha.2 i) hb (tm_ok ha hb i) (6 - i) (by omega)
      obtain ⟨m, hm⟩ := val_split b (6 - i) i
      rw [show 6 - i + i = 6 by omega] at hm
      rw [show i + (6 - i) = 6 by omega, ← hM] at h1
      have hP : 4294967296 ^ i * 4294967296 ^ (6 - i) = M := by rw [← Nat.pow_add, show i + (6 - i) = 6 by omega, hM]
      exact tm_step _ _ _ _ _ _ _ _ _ _ _ hP hm h1 ih
theorem times_val {a b : List Nat} (ha : Digits a) (hb : Digits b) (h : val a 6 * val b 6 < 4294967296 ^ 6) : val (timesL a b) 6 = val a 6 * val b 6 := by
  have := tm_val ha hb _ rfl 6 (Nat.le_refl _)
  rwa [Nat.mod_eq_of_lt h, Nat.mod_eq_of_lt (val_lt (tm_ok ha hb 6) 6)] at this
theorem less_val {a b : List Nat} (ha : Digits a) (hb : Digits b) : ∀ n, lessL a b n = decide (val a n < val b n)
  | 0 => by simp [lessL, val]
  | n + 1 => by
    rw [lessL, val, val]
    have h1 := val_lt ha n
    have h2 := val_lt hb n
    obtain ⟨P, hP⟩ : ∃ P, P = 4294967296 ^ n := ⟨_, rfl⟩
    obtain ⟨x, hx⟩ : ∃ x, x = a.getD n 0 := ⟨_, rfl⟩
    obtain ⟨y, hy⟩ : ∃ y, y = b.getD n 0 := ⟨_, rfl⟩
    rw [← hP] at h1 h2 ⊢
    rw [← hx, ← hy]
    split
    · rename_i hne
      rcases Nat.lt_or_gt_of_ne hne with h | h
      · have : (x + 1) * P ≤ y * P := Nat.mul_le_mul_right _ h
        rw [Nat.add_mul, Nat.one_mul] at this
        simp [h]
        omega
      · have : (y + 1) * P ≤ x * P := Nat.mul_le_mul_right _ h
        rw [Nat.add_mul, Nat.one_mul] at this
        have e1 : ¬ x < y := by omega
        simp [e1]
        omega
    · rename_i he
      have he : x = y := by simpa using he
      rw [less_val ha hb n, he]
      simp

/-! The greatest root, bit by bit. -/
def unitAt (m : Nat) : Nat := 68719476736 / 2 ^ m
def fr (p k : Nat) : Nat → Nat
  | 0 => 0
  | m + 1 => if (fr p k m + unitAt m) ^ k ≤ p * 4294967296 ^ k then fr p k m + unitAt m else fr p k m
theorem unit_half (m : Nat) : unitAt (m + 1) = unitAt m / 2 := by
  rw [unitAt, unitAt, Nat.pow_succ, Nat.div_div_eq_div_mul]
theorem fr_le (p k : Nat) : ∀ m, fr p k m + 2 * unitAt m ≤ 137438953472
  | 0 => by simp [fr, unitAt]
  | m + 1 => by
    have := fr_le p k m
    rw [unit_half, fr]
    split <;> omega
def topL (p k : Nat) : List Nat := (List.replicate 6 0).set k p
def pairL (t : Nat) : List Nat := [t % 4294967296, t / 4294967296, 0, 0, 0, 0]
theorem top_ok {p k : Nat} (hp : p < 4294967296) : Digits (topL p k) :=
  ⟨by simp [topL], getD_lt (fun i => by
    simp only [List.getD_eq_getElem?_getD, List.getElem?_replicate]
    split <;> simp) _ _ hp⟩
theorem top_val {p k : Nat} (hk : k < 6) : val (topL p k) 6 = p * 4294967296 ^ k := by
  have := val_set (List.replicate 6 0) k p (by simpa using hk) 6 hk
  have hz : val (List.replicate 6 0) 6 = 0 := by
    rw [show List.replicate 6 0 = [0, 0, 0, 0, 0, 0] from rfl, val6]
  rw [hz] at this
  have h0 : (List.replicate 6 0).getD k 0 = 0 := by
    simp only [List.getD_eq_getElem?_getD, List.getElem?_replicate]
    split <;> simp
  rw [h0] at this
  rw [topL]
  omega
theorem pair_ok {t : Nat} (ht : t < 18446744073709551616) : Digits (pairL t) := by
  refine ⟨rfl, fun i => ?_⟩
  match i with
  | 0 => simp [pairL]; omega
  | 1 => simp [pairL]; omega
  | 2 => simp [pairL]
  | 3 => simp [pairL]
  | 4 => simp [pairL]
  | 5 => simp [pairL]
  | i + 6 => simp [pairL]
theorem pair_val (t : Nat) : val (pairL t) 6 = t := by
  rw [pairL, val6]
  simp only [Nat.zero_mul, Nat.pow_zero, Nat.pow_one]
  omega
def powL (t k : Nat) : List Nat := if k = 3 then timesL (timesL (pairL t) (pairL t)) (pairL t) else timesL (pairL t) (pairL t)
theorem pow_ok {t : Nat} (ht : t < 18446744073709551616) (k : Nat) : Digits (powL t k) := by
  have h := pair_ok ht
  rw [powL]
  split
  · exact tm_ok (tm_ok h h 6) h 6
  · exact tm_ok h h 6
theorem pow_val {t : Nat} (ht : t ≤ 137438953472) {k : Nat} (hk : k = 2 ∨ k = 3) : val (powL t k) 6 = t ^ k := by
  have h := pair_ok (t := t) (by omega)
  have h1 : t * t ≤ 137438953472 * 137438953472 := Nat.mul_le_mul ht ht
  have h2 : t * t * t ≤ 137438953472 * 137438953472 * 137438953472 := Nat.mul_le_mul h1 ht
  have e2 : val (timesL (pairL t) (pairL t)) 6 = t * t := by
    have := times_val h h (by rw [pair_val]; omega)
    rwa [pair_val] at this
  rcases hk with rfl | rfl
  · rw [powL, if_neg (by omega), e2, Nat.pow_two]
  · have h3 : Digits (timesL (pairL t) (pairL t)) := tm_ok h h 6
    have e3 := times_val h3 h (by rw [e2, pair_val]; omega)
    rw [e2, pair_val] at e3
    rw [powL, if_pos rfl, e3, Nat.pow_succ, Nat.pow_two]
theorem less_pow {p t k : Nat} (hp : p < 4294967296) (ht : t ≤ 137438953472) (hk : k = 2 ∨ k = 3) :
    lessL (topL p k) (powL t k) 6 = decide (¬ t ^ k ≤ p * 4294967296 ^ k) := by
  rw [less_val (top_ok hp) (pow_ok (by omega) k), top_val (by omega), pow_val ht hk]
  simp

/-! The walk. -/
def ZB : Array Value := QA (List.replicate 6 0)
theorem built_pair (a b : Nat) : Tryd.prog.built 69 [(0, .int .u64 (a : Int)), (1, .int .u64 (b : Int))] = some (QA [a, b, 0, 0, 0, 0]) := by kernel_rfl
theorem run_build_pair (a b : Nat) (w : World) :
    (Instr.build 69 #[(0, .int .u64 (a : Int)), (1, .int .u64 (b : Int))]).run Tryd.prog w = .ok (.agg (QA [a, b, 0, 0, 0, 0])) w :=
  run_build w _ _ _ (built_pair a b)

theorem big_info {l : List Nat} (h : l.length = 6) : (Tryd.prog.info? 69).map (·.size) = some (QA l).size := by
  rw [QA_size h]
  kernel_rfl
theorem big_one (l : List Nat) : (QA l).all (·.oneCell') = true := by
  rw [Array.all_eq_true]
  intro i hi
  simp [QA, Q, Value.oneCell']
def BigAt (w : World) (b : Nat) (l : List Nat) : Prop := l.length = 6 ∧ w.heap[b]? = some (.cells (QA l) 69 (0, 0))
theorem BigAt.load {ops : Array Oper} {rest : List Oper} {o : Oper} {a : Act} {w : World} {Q : Exit → Act → World → Prop} {b : Nat} {l : List Nat} (hb : BigAt w b l) (hgd : o.guard = none) (x : Operand) (ho : o.op = .load 69 x)
    (hx : a.eval x = .pointer (some ⟨b, 0, none⟩)) (h : wpList Tryd.prog ops Q rest (a.put o.dst (.agg (QA l))) w) : wpList Tryd.prog ops Q (o :: rest) a w :=
  wpList_load_row hgd _ x ho b hx 69 (QA l) (0, 0) _ hb.2 Tryd.underlying69 rfl (big_info hb.1) h
theorem BigAt.below {w w' : World} {b B : Nat} {l : List Nat} (hb : BigAt w b l) (hB : Below B w w') (h : b < B) : BigAt w' b l := ⟨hb.1, (hB.block b h).trans hb.2⟩
theorem BigAt.far {w w' : World} {b : Nat} {l : List Nat} (hb : BigAt w b l) (hB : Below w.heap.size w w') : BigAt w' b l := hb.below hB (Array.getElem?_eq_some_iff.mp hb.2).1
theorem BigAt.lt {w : World} {b : Nat} {l : List Nat} (hb : BigAt w b l) : b < w.heap.size := (Array.getElem?_eq_some_iff.mp hb.2).1
theorem big_new (w : World) {l : List Nat} (h : l.length = 6) : BigAt (w.alloc (.cells (QA l) 69)) w.heap.size l := ⟨h, heap_alloc_new w _⟩

def FrRel (w : World) (p k : Nat) (r u : Value) (wr : World) : Prop :=
  ∃ m : Nat, m ≤ 37 ∧ r = .int .u64 ((fr p k m : Nat) : Int) ∧ u = .int .u64 ((unitAt m : Nat) : Int) ∧ Below w.heap.size w wr ∧ BigAt wr w.heap.size (topL p k)
theorem unit_pos : ∀ m, m < 37 → 0 < unitAt m := by decide
theorem unit_end : unitAt 37 = 0 := by decide

set_option maxRecDepth 100000 in
set_option maxHeartbeats 1000000 in
theorem fraction_any (w : World) (p k : Nat) (hp : p < 4294967296) (hk : k = 2 ∨ k = 3) :
    Calls Tryd.prog 29 #[.int .u64 (p : Int), .int .i64 (k : Int)] w (Below0 w (W (BitVec.ofNat 32 (fr p k 37)))) := by
  have hz : ∀ w, (zeroValue 69).run Tryd.prog w = .ok (.agg ZB) w := (zero_of_info (n := 6) (by kernel_rfl)).1
  have i0 : (0 : Int) ≤ (k : Int) ∧ (k : Int) < 6 := by omega
  have hc0 : (w.alloc (.cells ZB 69)).cell? ⟨w.heap.size, k, none⟩ = some (.int .u64 0) := by
    rw [cell_of_row _ _ _ ZB 69 (0, 0) (heap_alloc_new w _)]
    rcases hk with rfl | rfl <;> rfl
  have hf0 : (w.alloc (.cells ZB 69)).frozen? ⟨w.heap.size, k, none⟩ = false := frozen_of_row _ _ k ZB _ (heap_alloc_new w _)
  have hs0 : (w.alloc (.cells ZB 69)).setCell ⟨w.heap.size, k, none⟩ (.int .u64 (p : Int)) = w.alloc (.cells (QA (topL p k)) 69) := by
    rw [World.setCell_alloc_at (w := w) ZB 69 w.heap.size k _ rfl, topL, QA_set]
    rfl
  go_enter Tryd.func29, Tryd.ntmps29
  go_wp2_with (fail)
  clear hs0 hc0 hf0
  have HP := Lib.hid (And.intro hp hk)
  go_loopw [6, 7] (FrRel w p k) (fun _ u _ => (intOf u).toNat)
  case atStart => exact ⟨0, by omega, rfl, rfl, (Below.refl _ w).alloc (Nat.le_refl _) _, big_new w (top_ok hp).1⟩
  case round =>
    obtain ⟨m, hm37, rfl, rfl, hB, hT⟩ := hrel
    by_cases hm : m < 37
    · have hu0 := unit_pos m hm
      have hle := fr_le p k m
      have hH := unit_half m
      have hfs : fr p k (m + 1) = if (fr p k m + unitAt m) ^ k ≤ p * 4294967296 ^ k then fr p k m + unitAt m else fr p k m := rfl
      obtain ⟨r, hr⟩ : ∃ r, r = fr p k m := ⟨_, rfl⟩
      obtain ⟨u, hu⟩ : ∃ u, u = unitAt m := ⟨_, rfl⟩
      rw [← hr, ← hu] at hfs hle
      rw [← hu] at hH hu0
      rw [← hr, ← hu]
      obtain ⟨t, ht⟩ : ∃ t : Nat, (r : Int) + (u : Int) = t := ⟨r + u, by omega⟩
      have hte : r + u = t := by omega
      rw [hte] at hfs
      have ht37 : t ≤ 137438953472 := by omega
      have htw : IntKind.u64.wrap (t : Int) = t := u64_in (by omega)
      obtain ⟨v, hv⟩ : ∃ v : Nat, (u : Int) / 2 = v := ⟨u / 2, by simp⟩
      have hv2 : unitAt (m + 1) = v := by omega
      have hvw : IntKind.u64.wrap (v : Int) = v := u64_in (by omega)
      have gt0 : (0 : Int) < (u : Int) := by omega
      obtain ⟨t0, ht0⟩ : ∃ t0, t0 = t % 4294967296 := ⟨_, rfl⟩
      obtain ⟨t1, ht1⟩ : ∃ t1, t1 = t / 4294967296 := ⟨_, rfl⟩
      have q0 : (t : Int) % 4294967296 = (t0 : Int) := by rw [ht0]; simp
      have q1 : (t : Int) / 4294967296 = (t1 : Int) := by rw [ht1]; simp
      have q2 : IntKind.u64.wrap (t1 : Int) = t1 := u64_in (by omega)
      have hpair : pairL t = [t0, t1, 0, 0, 0, 0] := by rw [pairL, ht0, ht1]
      have HR := Lib.hid (And.intro hB (And.intro hT (And.intro hr (And.intro hfs (And.intro ht37 (And.intro hv2 hpair))))))
      clear hB hT hr hfs hte hv2 hH hle hu0 hu ht37 ht0 ht1 hp hk hpair
      go_upto_region 8 with (fail)
      refine wp_region_lit ?_
      iterate 12 go_step
      refine wpList_plain rfl fun K hK => ?_
      unfold Oper.wp execOp
      simp only [Sem.run_bind, List.map_toArray, List.map_cons, List.map_nil, Act.eval]
      show Oper.upon _ _ _ _ _ (Result.andThen (Sem.run Tryd.prog (Instr.build 69 #[(0, .int .u64 ((t : Int) % 4294967296)), (1, .int .u64 (t1 : Int))]) wr) _)
      rw [q0, run_build_pair, ← HR.out.2.2.2.2.2.2]
      refine hK _ _ ?_
      clear hK K
      iterate 3 go_step
      refine wpList_store_row rfl _ _ _ rfl wr.heap.size (QA (pairL t)) rfl rfl 69 ZB (heap_alloc_new wr _) (big_info rfl) rfl (big_one _) ?_
      rw [World.setRow_alloc_new]
      obtain ⟨hB, hT, hr, hfs, ht37, hv2, -⟩ := HR.out
      obtain ⟨W1, hW1⟩ : ∃ W1, W1 = wr.alloc (.cells (QA (pairL t)) 69) := ⟨_, rfl⟩
      have hX : BigAt W1 wr.heap.size (pairL t) := by rw [hW1]; exact big_new wr rfl
      have hB1 : Below wr.heap.size wr W1 := by rw [hW1]; exact (Below.refl _ wr).alloc (Nat.le_refl _) _
      have hT1 : BigAt W1 w.heap.size (topL p k) := hT.far hB1
      have hB1' : Below w.heap.size w W1 := hB.trans (hB1.mono hB.size)
      have hne : w.heap.size < wr.heap.size := hT.lt
      rw [← hW1]
      obtain ⟨b1, hb1⟩ : ∃ b1, b1 = wr.heap.size := ⟨_, rfl⟩
      rw [← hb1] at hX hne ⊢
      have HX := Lib.hid (And.intro hX (And.intro hT1 (And.intro hB1' hne)))
      have HF := Lib.hid (And.intro hr (And.intro hfs (And.intro ht37 hv2)))
      clear HR hB hT hr hfs ht37 hv2 hX hB1 hT1 hB1' hne hW1 hb1
      go_upto_region 9 with (fail)
      refine wp_region_lit ?_
      refine HX.out.1.load rfl _ rfl rfl ?_
      refine HX.out.1.load rfl _ rfl rfl ?_
      go_wp2_with (fail)
      have hpd := pair_ok (t := t) (by have := HF.out.2.2.1; omega)
      refine (times_any W1 _ _ hpd hpd).mono ?_
      rintro e w2 ⟨rfl, hB2⟩
      obtain ⟨hX, hT, hB, hne⟩ := HX.out
      have hY := hpd
      obtain ⟨y, hy⟩ : ∃ y, y = timesL (pairL t) (pairL t) := ⟨_, rfl⟩
      have hyd : Digits y := by rw [hy]; exact tm_ok hpd hpd 6
      obtain ⟨W2, hW2⟩ : ∃ W2, W2 = w2.alloc (.cells (QA y) 69) := ⟨_, rfl⟩
      have hB3 : Below W1.heap.size W1 W2 := by rw [hW2]; exact hB2.alloc hB2.size _
      have hY2 : BigAt W2 w2.heap.size y := by rw [hW2]; exact big_new w2 hyd.1
      have h12 := hB2.size
      have hlt := hX.lt
      have HX2 := Lib.hid (And.intro (hX.far hB3) (And.intro (hT.far hB3) (And.intro (hB.trans (hB3.mono hB.size)) (And.intro hY2 (And.intro hyd (And.intro hpd (And.intro hy (And.intro (show b1 < w2.heap.size by omega) hne))))))))
      rw [← hy]
      dsimp only
      iterate 4 go_step
      refine wpList_store_row rfl _ _ _ rfl w2.heap.size (QA y) rfl rfl 69 ZB (heap_alloc_new w2 _) (big_info hyd.1) (by rw [QA_size hyd.1]; rfl) (big_one _) ?_
      rw [World.setRow_alloc_new, ← hW2]
      obtain ⟨b2, hb2⟩ : ∃ b2, b2 = w2.heap.size := ⟨_, rfl⟩
      rw [← hb2] at HX2 ⊢
      clear hX hT hB hne hY hyd hB3 hY2 h12 hlt HX hB2 hW2 hb2 hpd hy
      go_upto_if 30 with (fail)
      go_cut [] from 31 to 33 (fun wx => Below w.heap.size w wx ∧ BigAt wx w.heap.size (topL p k) ∧ BigAt wx b2 (powL t k))
      case first =>
        rcases HP.out.2 with rfl | rfl
        · go_wp2_with (fail)
          go_meet
          refine ⟨HX2.out.2.2.1, HX2.out.2.1, ?_⟩
          rw [powL, if_neg (by omega), ← HX2.out.2.2.2.2.2.2.1]
          exact HX2.out.2.2.2.1
        · go_upto_region 11 with (fail)
          refine wp_region_lit ?_
          refine HX2.out.2.2.2.1.load rfl _ rfl rfl ?_
          refine HX2.out.1.load rfl _ rfl rfl ?_
          go_wp2_with (fail)
          refine (times_any W2 _ _ HX2.out.2.2.2.2.1 HX2.out.2.2.2.2.2.1).mono ?_
          rintro e w3 ⟨rfl, hB3⟩
          obtain ⟨y3, hy3⟩ : ∃ y3, y3 = timesL y (pairL t) := ⟨_, rfl⟩
          have hyd3 : y3.length = 6 := by rw [hy3]; exact (tm_ok HX2.out.2.2.2.2.1 HX2.out.2.2.2.2.2.1 6).1
          have hY3 := HX2.out.2.2.2.1.far hB3
          have hT3 := HX2.out.2.1.far hB3
          have hB3' := HX2.out.2.2.1.trans (hB3.mono HX2.out.2.2.1.size)
          have hb2 : w.heap.size < b2 := by have := HX2.out.2.2.2.2.2.2.2; omega
          rw [← hy3]
          have HX3 := Lib.hid (And.intro hyd3 (And.intro hY3 (And.intro hT3 (And.intro hB3' (And.intro hb2 hy3)))))
          clear hyd3 hY3 hT3 hB3' hb2 hy3 hB3
          dsimp only
          go_step
          refine wpList_store_row rfl _ _ _ rfl b2 (QA y3) rfl rfl 69 (QA y) HX3.out.2.1.2 (big_info HX3.out.1) (by rw [QA_size HX3.out.1, QA_size HX3.out.2.1.1]) (big_one _) ?_
          go_wp2_with (fail)
          go_meet
          obtain ⟨hyd3, hY3, hT3, hB3, hb2, hy3⟩ := HX3.out
          refine ⟨hB3.trans ⟨rfl, rfl, rfl, by simp, fun k hk => setRow_other _ _ _ _ (by omega)⟩, ⟨hT3.1, (setRow_other _ _ _ _ (by omega)).trans hT3.2⟩, ?_⟩
          have e : powL t 3 = y3 := by rw [powL, if_pos rfl, hy3, HX2.out.2.2.2.2.2.2.1]
          rw [e]
          exact ⟨hyd3, setRow_heap _ _ _ _ _ _ hY3.2⟩
      case rest =>
        obtain ⟨hB, hT, hY⟩ := hcut
        have HX3 := Lib.hid (And.intro hB (And.intro hT hY))
        clear hB hT hY HX2
        go_upto_region 12 with (fail)
        refine wp_region_lit ?_
        refine HX3.out.2.1.load rfl _ rfl rfl ?_
        refine HX3.out.2.2.load rfl _ rfl rfl ?_
        go_wp2_with (fail)
        refine (less_any wc _ _ HX3.out.2.1.1 HX3.out.2.2.1).mono ?_
        rintro e w4 ⟨rfl, hB4⟩
        have hB5 := HX3.out.1.trans (hB4.mono HX3.out.1.size)
        have hT5 := HX3.out.2.1.far hB4
        rw [less_pow HP.out.1 HF.out.2.2.1 HP.out.2]
        have HX4 := Lib.hid (And.intro hB5 hT5)
        clear hB5 hT5 hB4
        by_cases hle : t ^ k ≤ p * 4294967296 ^ k
        · rw [show decide (¬ t ^ k ≤ p * 4294967296 ^ k) = false by simp [hle]]
          have HL := Lib.hid hle
          clear hle
          dsimp only
          go_wp2_with (fail)
          refine ⟨⟨m + 1, by omega, ?_, ?_, HX4.out.1, HX4.out.2⟩, by simp [intOf]; omega⟩
          · rw [HF.out.2.1, if_pos HL.out]
          · rw [HF.out.2.2.2]
        · rw [show decide (¬ t ^ k ≤ p * 4294967296 ^ k) = true by simpa using hle]
          have HL := Lib.hid hle
          clear hle
          dsimp only
          go_wp2_with (fail)
          refine ⟨⟨m + 1, by omega, ?_, ?_, HX4.out.1, HX4.out.2⟩, by simp [intOf]; omega⟩
          · rw [HF.out.2.1, if_neg HL.out]
          · rw [HF.out.2.2.2]
    · obtain rfl : m = 37 := by omega
      rw [unit_end]
      clear hm37 hm hp hk
      obtain ⟨r, hr⟩ : ∃ r, r = fr p k 37 := ⟨_, rfl⟩
      rw [← hr]
      have HR := Lib.hid (And.intro hB (And.intro hT hr))
      clear hB hT hr
      go_wp2_with (fail)
      go_ret
      refine ⟨?_, HR.out.1⟩
      rw [← HR.out.2.2]
      show Ending.returned (Value.int .u32 ((r : Int) % 4294967296)) = Ending.returned (Value.int .u32 (((BitVec.ofNat 32 r).toNat : Nat) : Int))
      rw [BitVec.toNat_ofNat]
      rfl
end Go.Proofs.YtmdacfbhfacniaaDoor
