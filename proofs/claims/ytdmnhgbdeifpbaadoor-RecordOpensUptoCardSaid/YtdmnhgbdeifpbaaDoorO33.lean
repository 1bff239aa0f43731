/-
  Part 33 of 42 of what the proof leans on.
-/
import Derived.Test.YtdmnhgbdeifpbaaDoorO15
import Derived.Deep.CutRange
import Derived.Maps.AppendAt
import Derived.Deep.AppendLies
import Derived.OwnWalk
import Derived.Test.YtdmnhgbdeifpbaaDoorO2
import Derived.Great.BuildSlice
namespace Go.Proofs.YtdmnhgbdeifpbaaDoor
open Go.RowKit
theorem rotr_ref (x : BitVec 32) (n : Nat) (hn : n ≤ 32) (w : World) : Calls Tryd.prog 90 #[W x, .int .i64 n] w fun e w' => e = .returned (W (rotr x n)) ∧ ∃ k, w' = w.drewN k := by
  obtain ⟨m, hm⟩ : ∃ m : Nat, (32 : Int) - (n : Int) = m := ⟨32 - n, by omega⟩
  have hmn : m = 32 - n := by omega
  have hmw : IntKind.i64.wrap (m : Int) = m := IntWalk.i64_in _ (by omega)
  have s1 : ∀ w, (binOp .shr 105 (W x) (.int .i64 (n : Int))).run Tryd.prog w = .ok (W (x >>> n)) w := fun w => run_shr_W _ _ x w .i64 n hn
  have s2 : ∀ w, (binOp .shl 105 (W x) (.int .i64 (m : Int))).run Tryd.prog w = .ok (W (x <<< m)) w := fun w => run_shl_W _ _ x w .i64 m (by omega)
  have HM := Lib.hid hmn; clear hmn
  go_enter Tryd.func90, Tryd.ntmps90
  go_wp2_with (fail)
  go_quiet (fail)
  go_wp2_with (fail); go_ret; refine ⟨?_, nq, rfl⟩; rw [rotr, ← HM.out]; rfl
def Q (n : Nat) : Value := .int .u64 (n : Int)
def Digits (l : List Nat) : Prop := l.length = 6 ∧ ∀ i, l.getD i 0 < 4294967296
def QA (l : List Nat) : Array Value := (l.map Q).toArray
theorem QA_at {l : List Nat} (h : l.length = 6) {i : Nat} (hi : i < 6) : (QA l)[i]? = some (.int .u64 ((l.getD i 0 : Nat) : Int)) := by
  simp [QA, Q, h, hi]
theorem QA_size {l : List Nat} (h : l.length = 6) : (QA l).size = 6 := by simp [QA, h]
theorem QA_set (l : List Nat) (i v : Nat) : QA (l.set i v) = (QA l).setIfInBounds i (.int .u64 (v : Int)) := by
  simp [QA, Q]
def lessL (a b : List Nat) : Nat → Bool
  | 0 => false
  | i + 1 => if a.getD i 0 ≠ b.getD i 0 then decide (a.getD i 0 < b.getD i 0) else lessL a b i
def LessRel (W2 : World) (a b : List Nat) (v : Value) (wr : World) : Prop :=
  ∃ (t n : Nat) (i : Int), t ≤ 6 ∧ i + 1 = t ∧ v = .int .i64 i ∧ wr = W2.drewN n ∧ lessL a b 6 = lessL a b t
set_option maxRecDepth 100000 in
set_option maxHeartbeats 1000000 in
theorem less_any (w : World) (a b : List Nat) (ha : a.length = 6) (hb : b.length = 6) :
    Calls Tryd.prog 99 #[.agg (QA a), .agg (QA b)] w (Below0 w (.bool (lessL a b 6))) := by
  go_enter Tryd.func99, Tryd.ntmps99
  go_wp2_with (fail); obtain ⟨W2, hW2⟩ : ∃ W2, W2 = (w.alloc (.cells (QA a) 137)).alloc (.cells (QA b) 137) := ⟨_, rfl⟩; rw [← hW2]
  have hB : Below w.heap.size w W2 := by rw [hW2]; exact ((Below.refl _ w).alloc (Nat.le_refl _) _).alloc (by simp) _
  have h1 : W2.heap[w.heap.size]? = some (.cells (QA a) 137 (0, 0)) := by rw [hW2]; exact heap_alloc2_old w _ _
  have h2 : W2.heap[w.heap.size + 1]? = some (.cells (QA b) 137 (0, 0)) := by rw [hW2]; exact heap_alloc2_new w _ _
  have HX := Lib.hid (And.intro hB (And.intro h1 (And.intro h2 (And.intro ha hb)))); clear hW2 hB h1 h2 ha hb
  go_loopw [5] (LessRel W2 a b) (fun v _ => (intOf v + 1).toNat)
  case atStart => exact ⟨6, 0, 5, by omega, rfl, rfl, rfl, rfl⟩
  case round =>
    obtain ⟨t, n, i, ht, hi, rfl, rfl, hr⟩ := hrel; have HR := Lib.hid hr; clear hr
    match t, ht, hi, HR with
    | 0, ht, hi, HR =>
      obtain rfl : i = -1 := by omega
      go_wp2_with (fail); go_ret
      exact ⟨by rw [HR.out]; rfl, below_draws HX.out.1 n⟩
    | t + 1, ht, hi, HR =>
      obtain rfl : i = (t : Int) := by omega
      have k1 : W2.cell? ⟨w.heap.size, t, none⟩ = some (.int .u64 ((a.getD t 0 : Nat) : Int)) := by rw [cell_of_row W2 _ _ _ _ _ HX.out.2.1]; exact QA_at HX.out.2.2.2.1 (by omega)
      have k2 : W2.cell? ⟨w.heap.size + 1, t, none⟩ = some (.int .u64 ((b.getD t 0 : Nat) : Int)) := by rw [cell_of_row W2 _ _ _ _ _ HX.out.2.2.1]; exact QA_at HX.out.2.2.2.2 (by omega)
      obtain ⟨x, hx⟩ : ∃ x, x = a.getD t 0 := ⟨_, rfl⟩; obtain ⟨y, hy⟩ : ∃ y, y = b.getD t 0 := ⟨_, rfl⟩; rw [← hx] at k1; rw [← hy] at k2; have HXY := Lib.hid (And.intro hx hy); clear hx hy
      have i0 : (0 : Int) ≤ (t : Int) ∧ (t : Int) < 6 := by omega
      by_cases hxy : x = y
      · have e0 : ((x : Int) != (y : Int)) = false := by rw [hxy]; simp
        have HE := Lib.hid hxy; clear hxy hi; go_wp2_with (fail)
        go_quiet (fail)
        go_wp2_with (fail)
        refine ⟨⟨t, n + nq, (t : Int) - 1, by omega, by omega, rfl, rfl, ?_⟩, by simp [intOf]⟩
        rw [HR.out, lessL, if_neg (by rw [← HXY.out.1, ← HXY.out.2]; simpa using HE.out)]
      · have e0 : ((x : Int) != (y : Int)) = true := by simp; omega
        have HE := Lib.hid hxy; clear hxy hi; go_wp2_with (fail)
        go_quiet (fail)
        go_wp2_with (fail)
        go_quiet (fail)
        go_wp2_with (fail); go_ret; refine ⟨?_, below_draws (below_draws (below_draws HX.out.1 n) _) _⟩
        rw [HR.out, lessL, if_pos (by rw [← HXY.out.1, ← HXY.out.2]; exact HE.out), ← HXY.out.1, ← HXY.out.2]
        rfl
def mr (x : Nat) (b : List Nat) (i : Nat) (o : List Nat) : Nat → List Nat × Nat
  | 0 => (o, 0)
  | j + 1 =>
    ((mr x b i o j).1.set (i + j) ((x * b.getD j 0 + (mr x b i o j).1.getD (i + j) 0 + (mr x b i o j).2) % 4294967296), (x * b.getD j 0 + (mr x b i o j).1.getD (i + j) 0 + (mr x b i o j).2) / 4294967296)
def tm (a b : List Nat) : Nat → List Nat
  | 0 => List.replicate 6 0
  | i + 1 => if a.getD i 0 = 0 then tm a b i else (mr (a.getD i 0) b i (tm a b i) (6 - i)).1
def timesL (a b : List Nat) : List Nat := tm a b 6
theorem getD_lt {l : List Nat} (h : ∀ i, l.getD i 0 < 4294967296) (k v : Nat) (hv : v < 4294967296) : ∀ i, (l.set k v).getD i 0 < 4294967296 := by
  intro i; have := h i; simp only [List.getD_eq_getElem?_getD, List.getElem?_set] at this ⊢
  split
  · split
    · exact hv
    · simp
  · exact this
theorem u64_in {x : Nat} (h : x < 18446744073709551616) : IntKind.u64.wrap (x : Int) = x := by
  exact IntWalk.u64_in _ (by omega)
theorem mul_lt32 {x y : Nat} (hx : x < 4294967296) (hy : y < 4294967296) : x * y ≤ 18446744065119617025 := by
  have : x * y ≤ 4294967295 * 4294967295 := Nat.mul_le_mul (by omega) (by omega)
  omega
theorem mr_ok {x : Nat} {b o : List Nat} {i : Nat} (hx : x < 4294967296) (hb : Digits b) (ho : Digits o) : ∀ j, Digits (mr x b i o j).1 ∧ (mr x b i o j).2 < 4294967296
  | 0 => ⟨ho, by simp [mr]⟩
  | j + 1 => by
    obtain ⟨h1, h2⟩ := mr_ok (i := i) hx hb ho j; have h3 := mul_lt32 hx (hb.2 j); have h4 := h1.2 (i + j)
    refine ⟨⟨by simp [mr, h1.1], getD_lt h1.2 _ _ (Nat.mod_lt _ (by omega))⟩, ?_⟩
    show (x * b.getD j 0 + (mr x b i o j).1.getD (i + j) 0 + (mr x b i o j).2) / 4294967296 < _
    omega
theorem tm_ok {a b : List Nat} (ha : Digits a) (hb : Digits b) : ∀ i, Digits (tm a b i)
  | 0 => ⟨by simp [tm], fun i => by
    simp only [tm, List.getD_eq_getElem?_getD, List.getElem?_replicate]
    split <;> simp⟩
  | i + 1 => by
    rw [tm]
    split
    · exact tm_ok ha hb i
    · exact (mr_ok (ha.2 i) hb (tm_ok ha hb i) _).1
theorem heap_alloc4 (w : World) (o1 o2 o3 o4 : Obj) :
    ((((w.alloc o1).alloc o2).alloc o3).alloc o4).heap[w.heap.size]? = some o1 ∧ ((((w.alloc o1).alloc o2).alloc o3).alloc o4).heap[w.heap.size + 1]? = some o2 ∧ ((((w.alloc o1).alloc o2).alloc o3).alloc o4).heap[w.heap.size + 1 + 1]? = some o3 ∧ ((((w.alloc o1).alloc o2).alloc o3).alloc o4).heap[w.heap.size + 1 + 1 + 1]? = some o4 := by
  refine ⟨?_, ?_, ?_, ?_⟩
  · rw [Below.heap_alloc _ _ _ (by simp; omega), Below.heap_alloc _ _ _ (by simp; omega)]
    exact heap_alloc2_old w _ _
  · rw [Below.heap_alloc _ _ _ (by simp), Below.heap_alloc _ _ _ (by simp)]
    exact heap_alloc2_new w _ _
  · have := heap_alloc2_old ((w.alloc o1).alloc o2) o3 o4
    simpa using this
  · have := heap_alloc2_new ((w.alloc o1).alloc o2) o3 o4
    simpa using this
def TOut (W0 : World) (g : Nat) (k : Value) (a b : List Nat) (wr : World) : Prop :=
  ∃ t : Nat, t ≤ 6 ∧ k = .int .i64 t ∧ wr.heap[g]? = some (.cells (QA (tm a b t)) 137 (0, 0)) ∧ W0.grownBy wr (some g)
def TIn (W0 : World) (g i x : Nat) (b o : List Nat) (cr jv : Value) (wr : World) : Prop :=
  ∃ j : Nat, i + j ≤ 6 ∧ (x = 0 → j = 0) ∧ jv = .int .i64 j ∧ cr = .int .u64 (((mr x b i o j).2 : Nat) : Int) ∧ wr.heap[g]? = some (.cells (QA (mr x b i o j).1) 137 (0, 0)) ∧ W0.grownBy wr (some g)
set_option maxRecDepth 100000 in
set_option maxHeartbeats 1000000 in
theorem times_any (w : World) (a b : List Nat) (ha : Digits a) (hb : Digits b) :
    Calls Tryd.prog 98 #[.agg (QA a), .agg (QA b)] w (Below0 w (.agg (QA (timesL a b)))) := by
  obtain ⟨Z, hZ⟩ : ∃ Z : Array Value, Z = QA (List.replicate 6 0) := ⟨_, rfl⟩
  have hz : ∀ w, (zeroValue 137).run Tryd.prog w = .ok (.agg Z) w := by rw [hZ]; exact (zero_of_info (n := 6) (by kernel_rfl)).1
  have HZ := Lib.hid hZ; have hix : ∀ (t : Nat) (ht : t < 6) W', (Instr.index 137 (.agg (QA a)) (.int .i64 (t : Int))).run Tryd.prog W' = .ok (.int .u64 ((a.getD t 0 : Nat) : Int)) W' := fun t ht W' =>
    run_index_arr _ 95 6 Tryd.underlying137 Tryd.sizeOf95 Tryd.isAgg95 _ t ht _ (QA_at ha.1 ht) W'
  have HA := Lib.hid (And.intro ha (And.intro hb hix)); clear hZ ha hb hix
  go_enter Tryd.func98, Tryd.ntmps98
  go_upto_region 2 with (fail)
  obtain ⟨W0, hW0⟩ : ∃ W0, W0 = (((w.alloc (.cells (QA a) 137)).alloc (.cells (QA b) 137)).alloc (.cells Z 137)).alloc (.cells Z 137) := ⟨_, rfl⟩; rw [← hW0]
  have hB : Below w.heap.size w W0 := by rw [hW0]; exact ((((Below.refl _ w).alloc (Nat.le_refl _) _).alloc (by simp) _).alloc (by simp; omega) _).alloc (by simp; omega) _
  obtain ⟨h1, h2, h3, h4⟩ := heap_alloc4 w (.cells (QA a) 137) (.cells (QA b) 137) (.cells Z 137) (.cells Z 137); rw [← hW0] at h1 h2 h3 h4; obtain ⟨g, hg⟩ : ∃ g, g = w.heap.size + 1 + 1 + 1 := ⟨_, rfl⟩; rw [← hg] at h4 ⊢; have HX := Lib.hid (And.intro hB (And.intro h1 (And.intro h2 (And.intro h3 (And.intro h4 hg))))); clear hW0 hB h1 h2 h3 h4 hg hz
  have hi : (Tryd.prog.info? 137).map (·.size) = some (QA a).size := by rw [QA_size HA.out.1.1]; kernel_rfl
  refine wp_region_lit ?_; refine wpList_load_row rfl _ _ rfl w.heap.size rfl 137 (QA a) (0, 0) _ HX.out.2.1 Tryd.underlying137 rfl hi ?_; clear hi; go_wp2_with (fail)
  go_loopw [12] (fun k wr => TOut W0 g k a b wr) (fun k _ => 6 - (intOf k).toNat)
  case atStart => exact ⟨0, by omega, rfl, by rw [HX.out.2.2.2.2.1, HZ.out]; rfl, ⟨rfl, rfl, rfl, Nat.le_refl _, fun _ _ _ => rfl⟩⟩
  case round =>
    obtain ⟨t, ht, rfl, hh, hgr⟩ := hrel; have HR := Lib.hid (And.intro hh hgr); clear hh hgr
    by_cases hlt : t < 6
    · have hx1 := HA.out.2.2 t hlt; obtain ⟨x, hx⟩ : ∃ x, x = a.getD t 0 := ⟨_, rfl⟩; rw [← hx] at hx1
      have hx32 : x < 4294967296 := by rw [hx]; exact HA.out.1.2 t
      have HXX := Lib.hid hx; clear hx; go_wp2_with (fail)
      go_loopw [8, 9] (fun cr jv wr => TIn W0 g t x b (tm a b t) cr jv wr) (fun _ jv _ => 6 - (intOf jv).toNat)
      case atStart => exact ⟨0, by omega, fun _ => rfl, rfl, rfl, HR.out.1, HR.out.2⟩
      case round =>
        obtain ⟨j, hj, hx0, rfl, rfl, hh, hgr⟩ := hrel; obtain ⟨cr, hcr⟩ : ∃ cr, cr = (mr x b t (tm a b t) j).2 := ⟨_, rfl⟩; rw [← hcr]; obtain ⟨hd1, hd2⟩ := mr_ok (i := t) hx32 HA.out.2.1 (tm_ok HA.out.1 HA.out.2.1 t) j
        by_cases hgo : 0 < x ∧ t + j < 6
        · obtain ⟨hxp, htj⟩ := hgo
          obtain ⟨s, hs⟩ : ∃ s : Nat, (t : Int) + (j : Int) = s := ⟨t + j, by omega⟩
          have hsw : IntKind.i64.wrap (s : Int) = s := IntWalk.i64_in _ (by omega)
          have hstj : s = t + j := by omega
          have k1 : wr.cell? ⟨w.heap.size + 1, j, none⟩ = some (.int .u64 ((b.getD j 0 : Nat) : Int)) := by
            refine hgr.cell ?_ (by have := HX.out.2.2.2.2.2; simp; omega)
            rw [cell_of_row W0 _ _ _ _ _ HX.out.2.2.1]
            exact QA_at HA.out.2.1.1 (by omega)
          obtain ⟨o, ho⟩ : ∃ o, o = (mr x b t (tm a b t) j).1 := ⟨_, rfl⟩; rw [← ho] at hh hd1; rw [← hcr] at hd2
          have k2 : wr.cell? ⟨g, s, none⟩ = some (.int .u64 ((o.getD s 0 : Nat) : Int)) := by
            rw [cell_of_row wr _ _ _ _ _ hh]
            exact QA_at hd1.1 (by omega)
          obtain ⟨y, hy⟩ : ∃ y, y = b.getD j 0 := ⟨_, rfl⟩; obtain ⟨z, hzz⟩ : ∃ z, z = o.getD s 0 := ⟨_, rfl⟩; rw [← hy] at k1; rw [← hzz] at k2
          have hy32 : y < 4294967296 := by rw [hy]; exact HA.out.2.1.2 j
          have hz32 : z < 4294967296 := by rw [hzz]; exact hd1.2 s
          have hm := mul_lt32 hx32 hy32; obtain ⟨P1, hP1⟩ : ∃ P1 : Nat, P1 = x * y := ⟨_, rfl⟩; rw [← hP1] at hm
          have m1 : (x : Int) * (y : Int) = P1 := by rw [hP1]; simp
          obtain ⟨S1, hS1⟩ : ∃ S1 : Nat, (P1 : Int) + (z : Int) = S1 := ⟨P1 + z, by omega⟩
          obtain ⟨V, hV⟩ : ∃ V : Nat, (S1 : Int) + (cr : Int) = V := ⟨S1 + cr, by omega⟩
          have hVb : V < 18446744073709551616 := by omega
          have hF1 : wr.frozen? ⟨g, s, none⟩ = false := frozen_of_row wr g s _ _ hh
          have w1 : IntKind.u64.wrap (P1 : Int) = P1 := u64_in (by omega)
          have w2 : IntKind.u64.wrap (S1 : Int) = S1 := u64_in (by omega)
          have w3 : IntKind.u64.wrap (V : Int) = V := u64_in (by omega)
          have i0 : (0 : Int) ≤ (j : Int) ∧ (j : Int) < 6 := by omega
          have i1 : (0 : Int) ≤ (s : Int) ∧ (s : Int) < 6 := by omega
          have lt6 : (s : Int) < 6 := by omega
          have gt0 : (0 : Int) < (x : Int) := by omega
          have HD := Lib.hid (And.intro hd1 (And.intro hd2 (And.intro hcr (And.intro ho (And.intro hh hgr))))); have HE := Lib.hid (And.intro hP1 (And.intro hy (And.intro hzz (And.intro hstj (And.intro hm hx0))))); clear hd1 hd2 hcr ho hh hgr hP1 hy hzz hstj hm hx0; go_wp2_with (fail); obtain ⟨q, hq⟩ : ∃ q : Nat, q = V / 4294967296 := ⟨_, rfl⟩; obtain ⟨r, hr⟩ : ∃ r : Nat, r = V % 4294967296 := ⟨_, rfl⟩
          have q1 : (V : Int) / 4294967296 = (q : Int) := by rw [hq]; simp
          have q2 : IntKind.u64.wrap (q : Int) = q := u64_in (by omega)
          have r1 : (V : Int) % 4294967296 = (r : Int) := by rw [hr]; simp
          have HF := Lib.hid (And.intro hq hr); clear hq hr
          go_quiet (fail)
          go_wp2_with (fail); obtain ⟨hd1, hd2, hcr, ho, hh, hgr⟩ := HD.out; obtain ⟨hP1, hy, hzz, hstj, hm, hx0⟩ := HE.out
          have hV' : V = x * b.getD j 0 + (mr x b t (tm a b t) j).1.getD (t + j) 0 + (mr x b t (tm a b t) j).2 := by rw [← ho, ← hcr, ← hstj, ← hzz, ← hy, ← hP1]; omega
          have e1 : (mr x b t (tm a b t) (j + 1)).1 = o.set s r := by rw [mr, ← hV', ← ho, hstj, HF.out.2]
          have e2 : (mr x b t (tm a b t) (j + 1)).2 = q := by rw [mr, ← hV', HF.out.1]
          refine ⟨⟨j + 1, by omega, fun h => by omega, rfl, by rw [e2], ?_, ?_⟩, by simp [intOf]; omega⟩
          · rw [e1, QA_set]; exact heap_setCell_same _ _ _ _ _ _ hh
          · have hgd : W0.grownBy (wr.drewN nq) (some g) := grown_trans hgr ⟨rfl, rfl, rfl, Nat.le_refl _, fun _ _ _ => rfl⟩; exact grown_trans hgd (grown_setCell (wr.drewN nq) g s _)
        · have hx0' := hx0; have HD := Lib.hid (And.intro hh (And.intro hgr (And.intro hcr hx0))); clear hh hgr hcr hx0 hd1 hd2
          by_cases hxz : x = 0
          · have hj0 := hx0' hxz; have HZ0 := Lib.hid (And.intro hxz hj0)
            have gt0 : ¬ ((0 : Int) < (x : Int)) := by omega
            clear hgo hx0' hxz hj0; go_wp2_with (fail)
            refine ⟨⟨t + 1, by omega, rfl, ?_, HD.out.2.1⟩, by simp [intOf]; omega⟩
            rw [tm, if_pos (by rw [← HXX.out]; exact HZ0.out.1)]
            have := HD.out.1; rw [HZ0.out.2] at this; exact this
          · have gt0 : (0 : Int) < (x : Int) := by omega
            have e6 : (t : Int) + (j : Int) = 6 := by omega
            have HZ0 := Lib.hid hxz; clear hgo hx0' hxz; go_wp2_with (fail)
            refine ⟨⟨t + 1, by omega, rfl, ?_, HD.out.2.1⟩, by simp [intOf]; omega⟩
            rw [tm, if_neg (by rw [← HXX.out]; exact HZ0.out), ← HXX.out, show 6 - t = j by omega]
            exact HD.out.1
    · obtain rfl : t = 6 := by omega
      have hts : (timesL a b).length = 6 := (tm_ok HA.out.1 HA.out.2.1 6).1
      have hi : (Tryd.prog.info? 137).map (·.size) = some (QA (timesL a b)).size := by rw [QA_size hts]; kernel_rfl
      have h3 : wr.heap[w.heap.size + 1 + 1]? = some (.cells Z 137 (0, 0)) :=
        (HR.out.2.block _ (by have := HX.out.2.2.2.2.1; have h4 := (Array.getElem?_eq_some_iff.mp this).1; have := HX.out.2.2.2.2.2; omega) (by have := HX.out.2.2.2.2.2; simp; omega)).trans HX.out.2.2.2.1
      have hZs : Z.size = (QA (timesL a b)).size := by rw [HZ.out, QA_size hts]; simp [QA]
      have hone : (QA (timesL a b)).all (·.oneCell') = true := by
        rw [Array.all_eq_true]; intro i hi; simp [QA, Q, Value.oneCell']
      clear hlt ht hts
      go_upto_region 13 with (fail)
      refine wp_region_lit ?_; refine wpList_load_row rfl _ _ rfl g rfl 137 (QA (timesL a b)) (0, 0) _ HR.out.1 Tryd.underlying137 rfl hi ?_; refine wpList_store_row rfl _ _ _ rfl (w.heap.size + 1 + 1) (QA (timesL a b)) rfl rfl 137 Z h3 hi hZs hone ?_; have HI := Lib.hid (And.intro hi (And.intro h3 (And.intro hZs hone))); clear hi h3 hZs hone; go_wp2_with (fail); obtain ⟨hi, h3, hZs, hone⟩ := HI.out; refine bodyPost_ret (v := .agg (QA (timesL a b))) (results_cell_row rfl _ _ (w.heap.size + 1 + 1) 137 (QA (timesL a b)) (0, 0) _ rfl (setRow_heap _ _ Z _ _ _ h3) Tryd.underlying137 rfl hi) rfl ⟨rfl, ?_⟩; obtain ⟨hgr, hB, hg⟩ := And.intro HR.out.2 (And.intro HX.out.1 HX.out.2.2.2.2.2)
      exact hB.trans ⟨hgr.os, hgr.tape, hgr.output, by simpa using hgr.size, fun k hk => (setRow_other _ _ _ _ (by omega)).trans (hgr.block k (Nat.lt_of_lt_of_le hk hB.size) (by simp; omega))⟩
end Go.Proofs.YtdmnhgbdeifpbaaDoor
namespace Go.Proofs.YtdmnhgbdeifpbaaDoor
open Go.RowKit
def val (l : List Nat) : Nat → Nat
  | 0 => 0
  | n + 1 => val l n + l.getD n 0 * 4294967296 ^ n
theorem val_succ (l : List Nat) (n : Nat) : val l (n + 1) = val l n + l.getD n 0 * 4294967296 ^ n := rfl
theorem val_lt {l : List Nat} (h : Digits l) : ∀ n, val l n < 4294967296 ^ n
  | 0 => by simp [val]
  | n + 1 => by
    have h1 := val_lt h n; have h2 := h.2 n
    have h3 : (l.getD n 0 + 1) * 4294967296 ^ n ≤ 4294967296 * 4294967296 ^ n := Nat.mul_le_mul_right _ (by omega)
    rw [Nat.add_mul, Nat.one_mul] at h3; rw [val, Nat.pow_succ, Nat.mul_comm (4294967296 ^ n)]; omega
theorem val_set_ge (l : List Nat) (k v : Nat) : ∀ n, n ≤ k → val (l.set k v) n = val l n
  | 0, _ => rfl
  | n + 1, h => by
    rw [val, val, val_set_ge l k v n (by omega)]
    simp only [List.getD_eq_getElem?_getD, List.getElem?_set]
    rw [if_neg (by omega)]
theorem val_set (l : List Nat) (k v : Nat) (hk : k < l.length) : ∀ n, k < n → val (l.set k v) n + l.getD k 0 * 4294967296 ^ k = val l n + v * 4294967296 ^ k
  | 0, h => by omega
  | n + 1, h => by
    rw [val, val]
    by_cases e : k = n
    · subst e; rw [val_set_ge l k v k (Nat.le_refl _)]
      have : (l.set k v).getD k 0 = v := by simp [List.getD_eq_getElem?_getD, hk]
      rw [this]; omega
    · have := val_set l k v hk n (by omega)
      have e2 : (l.set k v).getD n 0 = l.getD n 0 := by
        simp only [List.getD_eq_getElem?_getD, List.getElem?_set]; rw [if_neg e]
      rw [e2]; omega
theorem val_split (l : List Nat) (a : Nat) : ∀ d, ∃ m, val l (a + d) = val l a + m * 4294967296 ^ a
  | 0 => ⟨0, by simp⟩
  | d + 1 => by
    obtain ⟨m, hm⟩ := val_split l a d; refine ⟨m + l.getD (a + d) 0 * 4294967296 ^ d, ?_⟩; rw [← Nat.add_assoc, val, hm, Nat.pow_add, Nat.add_mul, Nat.mul_assoc, Nat.mul_comm (4294967296 ^ a) (4294967296 ^ d)]; omega
theorem val6 (a b c d e f : Nat) : val [a, b, c, d, e, f] 6 = a * 4294967296 ^ 0 + b * 4294967296 ^ 1 + c * 4294967296 ^ 2 + d * 4294967296 ^ 3 + e * 4294967296 ^ 4 + f * 4294967296 ^ 5 := by
  rw [val_succ _ 5, val_succ _ 4, val_succ _ 3, val_succ _ 2, val_succ _ 1, val_succ _ 0]; simp only [val, List.getD_cons_zero, List.getD_cons_succ, Nat.zero_add]
theorem mr_val {x : Nat} {b o : List Nat} {i : Nat} (hx : x < 4294967296) (hb : Digits b) (ho : Digits o) (j : Nat) : i + j ≤ 6 →
    val (mr x b i o j).1 6 + (mr x b i o j).2 * 4294967296 ^ (i + j) = val o 6 + x * val b j * 4294967296 ^ i := by
  induction j with
  | zero =>
    intro _
    show val o 6 + 0 * _ = val o 6 + x * 0 * _
    rw [Nat.zero_mul, Nat.mul_zero, Nat.zero_mul]
  | succ j ih =>
    intro h
    have ih := ih (by omega)
    obtain ⟨hd, hc⟩ := mr_ok (i := i) hx hb ho j; obtain ⟨v, hv⟩ : ∃ v, v = x * b.getD j 0 + (mr x b i o j).1.getD (i + j) 0 + (mr x b i o j).2 := ⟨_, rfl⟩
    have hs := val_set (mr x b i o j).1 (i + j) (v % 4294967296) (by rw [hd.1]; omega) 6 (by omega)
    rw [mr, ← hv, val_succ b j]
    show val ((mr x b i o j).1.set (i + j) (v % 4294967296)) 6 + v / 4294967296 * 4294967296 ^ (i + (j + 1)) = _
    rw [show i + (j + 1) = (i + j) + 1 by omega, Nat.pow_succ, Nat.mul_add, Nat.add_mul]
    have e1 : v / 4294967296 * (4294967296 ^ (i + j) * 4294967296) + v % 4294967296 * 4294967296 ^ (i + j) = v * 4294967296 ^ (i + j) := by
      rw [Nat.mul_comm (4294967296 ^ (i + j)) 4294967296, ← Nat.mul_assoc, ← Nat.add_mul, Nat.mul_comm (v / 4294967296), Nat.div_add_mod]
    have e2 : x * (b.getD j 0 * 4294967296 ^ j) * 4294967296 ^ i = x * b.getD j 0 * 4294967296 ^ (i + j) := by
      rw [Nat.add_comm i j, Nat.pow_add, Nat.mul_assoc, Nat.mul_assoc, Nat.mul_assoc]
    rw [e2]
    have e3 : v * 4294967296 ^ (i + j) = x * b.getD j 0 * 4294967296 ^ (i + j) + (mr x b i o j).1.getD (i + j) 0 * 4294967296 ^ (i + j) + (mr x b i o j).2 * 4294967296 ^ (i + j) := by
      rw [hv, Nat.add_mul, Nat.add_mul]
    omega
theorem tm_step (va ai vb vb' m Bi Bj M V W' c : Nat) (hM : Bi * Bj = M) (hm : vb = vb' + m * Bj) (h1 : W' + c * M = V + ai * vb' * Bi) (ih : V % M = (va * vb) % M) :
    W' % M = ((va + ai * Bi) * vb) % M := by
  have e2 : ai * Bi * vb = ai * vb' * Bi + ai * m * M := by
    rw [hm, ← hM, Nat.mul_add]; simp only [Nat.mul_comm, Nat.mul_left_comm]
  rw [Nat.add_mul, e2, ← Nat.add_assoc, Nat.add_mul_mod_self_right, ← Nat.mod_add_mod, ← ih, Nat.mod_add_mod, ← h1, Nat.add_mul_mod_self_right]
theorem tm_val {a b : List Nat} (ha : Digits a) (hb : Digits b) (M : Nat) (hM : M = 4294967296 ^ 6) (i : Nat) : i ≤ 6 → val (tm a b i) 6 % M = (val a i * val b 6) % M := by
  induction i with
  | zero =>
    intro _
    have h0 : val (tm a b 0) 6 = 0 := by
      rw [show tm a b 0 = [0, 0, 0, 0, 0, 0] from rfl, val6]
    rw [h0, show val a 0 = 0 from rfl, Nat.zero_mul]
  | succ i ih =>
    intro h
    have ih := ih (by omega)
    rw [val_succ a i, tm]
    split
    · rename_i e
      rw [e, Nat.zero_mul, Nat.add_zero]; exact ih
    · have h1 := mr_val (i := i) (ha.2 i) hb (tm_ok ha hb i) (6 - i) (by omega)
      obtain ⟨m, hm⟩ := val_split b (6 - i) i
      rw [show 6 - i + i = 6 by omega] at hm
      rw [show i + (6 - i) = 6 by omega, ← hM] at h1
      have hP : 4294967296 ^ i * 4294967296 ^ (6 - i) = M := by rw [← Nat.pow_add, show i + (6 - i) = 6 by omega, hM]
      exact tm_step _ _ _ _ _ _ _ _ _ _ _ hP hm h1 ih
theorem times_val {a b : List Nat} (ha : Digits a) (hb : Digits b) (h : val a 6 * val b 6 < 4294967296 ^ 6) : val (timesL a b) 6 = val a 6 * val b 6 := by
  have := tm_val ha hb _ rfl 6 (Nat.le_refl _)
  rwa [Nat.mod_eq_of_lt h, Nat.mod_eq_of_lt (val_lt (tm_ok ha hb 6) 6)] at this
theorem less_val {a b : List Nat} (ha : Digits a) (hb : Digits b) : ∀ n, lessL a b n = decide (val a n < val b n)
  | 0 => by simp [lessL, val]
  | n + 1 => by
    rw [lessL, val, val]; have h1 := val_lt ha n; have h2 := val_lt hb n; obtain ⟨P, hP⟩ : ∃ P, P = 4294967296 ^ n := ⟨_, rfl⟩; obtain ⟨x, hx⟩ : ∃ x, x = a.getD n 0 := ⟨_, rfl⟩; obtain ⟨y, hy⟩ : ∃ y, y = b.getD n 0 := ⟨_, rfl⟩; rw [← hP] at h1 h2 ⊢; rw [← hx, ← hy]
    split
    · rename_i hne
      rcases Nat.lt_or_gt_of_ne hne with h | h
      · have : (x + 1) * P ≤ y * P := Nat.mul_le_mul_right _ h; rw [Nat.add_mul, Nat.one_mul] at this; simp [h]; omega
      · have : (y + 1) * P ≤ x * P := Nat.mul_le_mul_right _ h; rw [Nat.add_mul, Nat.one_mul] at this
        have e1 : ¬ x < y := by omega
        simp [e1]; omega
    · rename_i he
      have he : x = y := by simpa using he
      rw [less_val ha hb n, he]; simp
def unitAt (m : Nat) : Nat := 68719476736 / 2 ^ m
def fr (p k : Nat) : Nat → Nat
  | 0 => 0
  | m + 1 => if (fr p k m + unitAt m) ^ k ≤ p * 4294967296 ^ k then fr p k m + unitAt m else fr p k m
theorem unit_half (m : Nat) : unitAt (m + 1) = unitAt m / 2 := by
  rw [unitAt, unitAt, Nat.pow_succ, Nat.div_div_eq_div_mul]
theorem fr_le (p k : Nat) : ∀ m, fr p k m + 2 * unitAt m ≤ 137438953472
  | 0 => by simp [fr, unitAt]
  | m + 1 => by
    have := fr_le p k m; rw [unit_half, fr]
    split <;> omega
def topL (p k : Nat) : List Nat := (List.replicate 6 0).set k p
def pairL (t : Nat) : List Nat := [t % 4294967296, t / 4294967296, 0, 0, 0, 0]
theorem top_ok {p k : Nat} (hp : p < 4294967296) : Digits (topL p k) :=
  ⟨by simp [topL], getD_lt (fun i => by
    simp only [List.getD_eq_getElem?_getD, List.getElem?_replicate]
    split <;> simp) _ _ hp⟩
theorem top_val {p k : Nat} (hk : k < 6) : val (topL p k) 6 = p * 4294967296 ^ k := by
  have := val_set (List.replicate 6 0) k p (by simpa using hk) 6 hk
  have hz : val (List.replicate 6 0) 6 = 0 := by
    rw [show List.replicate 6 0 = [0, 0, 0, 0, 0, 0] from rfl, val6]
  rw [hz] at this
  have h0 : (List.replicate 6 0).getD k 0 = 0 := by
    simp only [List.getD_eq_getElem?_getD, List.getElem?_replicate]
    split <;> simp
  rw [h0] at this; rw [topL]; omega
theorem pair_ok {t : Nat} (ht : t < 18446744073709551616) : Digits (pairL t) := by
  refine ⟨rfl, fun i => ?_⟩
  match i with
  | 0 => simp [pairL]; omega
  | 1 => simp [pairL]; omega
  | 2 => simp [pairL]
  | 3 => simp [pairL]
  | 4 => simp [pairL]
  | 5 => simp [pairL]
  | i + 6 => simp [pairL]
theorem pair_val (t : Nat) : val (pairL t) 6 = t := by
  rw [pairL, val6]; simp only [Nat.zero_mul, Nat.pow_zero, Nat.pow_one]; omega
def powL (t k : Nat) : List Nat := if k = 3 then timesL (timesL (pairL t) (pairL t)) (pairL t) else timesL (pairL t) (pairL t)
theorem pow_ok {t : Nat} (ht : t < 18446744073709551616) (k : Nat) : Digits (powL t k) := by
  have h := pair_ok ht; rw [powL]
  split
  · exact tm_ok (tm_ok h h 6) h 6
  · exact tm_ok h h 6
theorem pow_val {t : Nat} (ht : t ≤ 137438953472) {k : Nat} (hk : k = 2 ∨ k = 3) : val (powL t k) 6 = t ^ k := by
  have h := pair_ok (t := t) (by omega)
  have h1 : t * t ≤ 137438953472 * 137438953472 := Nat.mul_le_mul ht ht; have h2 : t * t * t ≤ 137438953472 * 137438953472 * 137438953472 := Nat.mul_le_mul h1 ht
  have e2 : val (timesL (pairL t) (pairL t)) 6 = t * t := by
    have := times_val h h (by rw [pair_val]; omega)
    rwa [pair_val] at this
  rcases hk with rfl | rfl
  · rw [powL, if_neg (by omega), e2, Nat.pow_two]
  · have h3 : Digits (timesL (pairL t) (pairL t)) := tm_ok h h 6
    have e3 := times_val h3 h (by rw [e2, pair_val]; omega)
    rw [e2, pair_val] at e3; rw [powL, if_pos rfl, e3, Nat.pow_succ, Nat.pow_two]
theorem less_pow {p t k : Nat} (hp : p < 4294967296) (ht : t ≤ 137438953472) (hk : k = 2 ∨ k = 3) :
    lessL (topL p k) (powL t k) 6 = decide (¬ t ^ k ≤ p * 4294967296 ^ k) := by
  rw [less_val (top_ok hp) (pow_ok (by omega) k), top_val (by omega), pow_val ht hk]
  simp
def ZB : Array Value := QA (List.replicate 6 0)
theorem built_pair (a b : Nat) : Tryd.prog.built 137 [(0, .int .u64 (a : Int)), (1, .int .u64 (b : Int))] = some (QA [a, b, 0, 0, 0, 0]) := by kernel_rfl
theorem run_build_pair (a b : Nat) (w : World) :
    (Instr.build 137 #[(0, .int .u64 (a : Int)), (1, .int .u64 (b : Int))]).run Tryd.prog w = .ok (.agg (QA [a, b, 0, 0, 0, 0])) w :=
  run_build w _ _ _ (built_pair a b)
theorem big_info {l : List Nat} (h : l.length = 6) : (Tryd.prog.info? 137).map (·.size) = some (QA l).size := by
  rw [QA_size h]
  kernel_rfl
theorem big_one (l : List Nat) : (QA l).all (·.oneCell') = true := by
  rw [Array.all_eq_true]; intro i hi; simp [QA, Q, Value.oneCell']
def BigAt (w : World) (b : Nat) (l : List Nat) : Prop := l.length = 6 ∧ w.heap[b]? = some (.cells (QA l) 137 (0, 0))
theorem BigAt.load {ops : Array Oper} {rest : List Oper} {o : Oper} {a : Act} {w : World} {Q : Exit → Act → World → Prop} {b : Nat} {l : List Nat} (hb : BigAt w b l) (hgd : o.guard = none) (x : Operand) (ho : o.op = .load 137 x)
    (hx : a.eval x = .pointer (some ⟨b, 0, none⟩)) (h : wpList Tryd.prog ops Q rest (a.put o.dst (.agg (QA l))) w) : wpList Tryd.prog ops Q (o :: rest) a w :=
  wpList_load_row hgd _ x ho b hx 137 (QA l) (0, 0) _ hb.2 Tryd.underlying137 rfl (big_info hb.1) h
theorem BigAt.below {w w' : World} {b B : Nat} {l : List Nat} (hb : BigAt w b l) (hB : Below B w w') (h : b < B) : BigAt w' b l := ⟨hb.1, (hB.block b h).trans hb.2⟩
theorem BigAt.far {w w' : World} {b : Nat} {l : List Nat} (hb : BigAt w b l) (hB : Below w.heap.size w w') : BigAt w' b l := hb.below hB (Array.getElem?_eq_some_iff.mp hb.2).1
theorem BigAt.lt {w : World} {b : Nat} {l : List Nat} (hb : BigAt w b l) : b < w.heap.size := (Array.getElem?_eq_some_iff.mp hb.2).1
theorem big_new (w : World) {l : List Nat} (h : l.length = 6) : BigAt (w.alloc (.cells (QA l) 137)) w.heap.size l := ⟨h, heap_alloc_new w _⟩
def FrRel (w : World) (p k : Nat) (r u : Value) (wr : World) : Prop :=
  ∃ m : Nat, m ≤ 37 ∧ r = .int .u64 ((fr p k m : Nat) : Int) ∧ u = .int .u64 ((unitAt m : Nat) : Int) ∧ Below w.heap.size w wr ∧ BigAt wr w.heap.size (topL p k)
theorem unit_pos : ∀ m, m < 37 → 0 < unitAt m := by decide
theorem unit_end : unitAt 37 = 0 := by decide
set_option maxRecDepth 100000 in
set_option maxHeartbeats 1000000 in
theorem fraction_any (w : World) (p k : Nat) (hp : p < 4294967296) (hk : k = 2 ∨ k = 3) :
    Calls Tryd.prog 89 #[.int .u64 (p : Int), .int .i64 (k : Int)] w (Below0 w (W (BitVec.ofNat 32 (fr p k 37)))) := by
  have hz : ∀ w, (zeroValue 137).run Tryd.prog w = .ok (.agg ZB) w := (zero_of_info (n := 6) (by kernel_rfl)).1
  have i0 : (0 : Int) ≤ (k : Int) ∧ (k : Int) < 6 := by omega
  have hc0 : (w.alloc (.cells ZB 137)).cell? ⟨w.heap.size, k, none⟩ = some (.int .u64 0) := by
    rw [cell_of_row _ _ _ ZB 137 (0, 0) (heap_alloc_new w _)]
    rcases hk with rfl | rfl <;> rfl
  have hf0 : (w.alloc (.cells ZB 137)).frozen? ⟨w.heap.size, k, none⟩ = false := frozen_of_row _ _ k ZB _ (heap_alloc_new w _)
  have hs0 : (w.alloc (.cells ZB 137)).setCell ⟨w.heap.size, k, none⟩ (.int .u64 (p : Int)) = w.alloc (.cells (QA (topL p k)) 137) := by
    rw [World.setCell_alloc_at (w := w) ZB 137 w.heap.size k _ rfl, topL, QA_set]; rfl
  go_enter Tryd.func89, Tryd.ntmps89
  go_wp2_with (fail); clear hs0 hc0 hf0; have HP := Lib.hid (And.intro hp hk)
  go_loopw [6, 7] (FrRel w p k) (fun _ u _ => (intOf u).toNat)
  case atStart => exact ⟨0, by omega, rfl, rfl, (Below.refl _ w).alloc (Nat.le_refl _) _, big_new w (top_ok hp).1⟩
  case round =>
    obtain ⟨m, hm37, rfl, rfl, hB, hT⟩ := hrel
    by_cases hm : m < 37
    · have hu0 := unit_pos m hm; have hle := fr_le p k m; have hH := unit_half m
      have hfs : fr p k (m + 1) = if (fr p k m + unitAt m) ^ k ≤ p * 4294967296 ^ k then fr p k m + unitAt m else fr p k m := rfl
      obtain ⟨r, hr⟩ : ∃ r, r = fr p k m := ⟨_, rfl⟩; obtain ⟨u, hu⟩ : ∃ u, u = unitAt m := ⟨_, rfl⟩; rw [← hr, ← hu] at hfs hle; rw [← hu] at hH hu0; rw [← hr, ← hu]
      obtain ⟨t, ht⟩ : ∃ t : Nat, (r : Int) + (u : Int) = t := ⟨r + u, by omega⟩
      have hte : r + u = t := by omega
      rw [hte] at hfs
      have ht37 : t ≤ 137438953472 := by omega
      have htw : IntKind.u64.wrap (t : Int) = t := u64_in (by omega)
      obtain ⟨v, hv⟩ : ∃ v : Nat, (u : Int) / 2 = v := ⟨u / 2, by simp⟩
      have hv2 : unitAt (m + 1) = v := by omega
      have hvw : IntKind.u64.wrap (v : Int) = v := u64_in (by omega)
      have gt0 : (0 : Int) < (u : Int) := by omega
      obtain ⟨t0, ht0⟩ : ∃ t0, t0 = t % 4294967296 := ⟨_, rfl⟩; obtain ⟨t1, ht1⟩ : ∃ t1, t1 = t / 4294967296 := ⟨_, rfl⟩
      have q0 : (t : Int) % 4294967296 = (t0 : Int) := by rw [ht0]; simp
      have q1 : (t : Int) / 4294967296 = (t1 : Int) := by rw [ht1]; simp
      have q2 : IntKind.u64.wrap (t1 : Int) = t1 := u64_in (by omega)
      have hpair : pairL t = [t0, t1, 0, 0, 0, 0] := by rw [pairL, ht0, ht1]
      have HR := Lib.hid (And.intro hB (And.intro hT (And.intro hr (And.intro hfs (And.intro ht37 (And.intro hv2 hpair)))))); clear hB hT hr hfs hte hv2 hH hle hu0 hu ht37 ht0 ht1 hp hk hpair
      go_upto_region 8 with (fail)
      refine wp_region_lit ?_
      iterate 12 go_step
      refine wpList_plain rfl fun K hK => ?_; unfold Oper.wp execOp; simp only [Sem.run_bind, List.map_toArray, List.map_cons, List.map_nil, Act.eval]
      show Oper.upon _ _ _ _ _ (Result.andThen (Sem.run Tryd.prog (Instr.build 137 #[(0, .int .u64 ((t : Int) % 4294967296)), (1, .int .u64 (t1 : Int))]) wr) _)
      rw [q0, run_build_pair, ← HR.out.2.2.2.2.2.2]; refine hK _ _ ?_; clear hK K
      iterate 3 go_step
      refine wpList_store_row rfl _ _ _ rfl wr.heap.size (QA (pairL t)) rfl rfl 137 ZB (heap_alloc_new wr _) (big_info rfl) rfl (big_one _) ?_; rw [World.setRow_alloc_new]; obtain ⟨hB, hT, hr, hfs, ht37, hv2, -⟩ := HR.out; obtain ⟨W1, hW1⟩ : ∃ W1, W1 = wr.alloc (.cells (QA (pairL t)) 137) := ⟨_, rfl⟩
      have hX : BigAt W1 wr.heap.size (pairL t) := by rw [hW1]; exact big_new wr rfl
      have hB1 : Below wr.heap.size wr W1 := by rw [hW1]; exact (Below.refl _ wr).alloc (Nat.le_refl _) _
      have hT1 : BigAt W1 w.heap.size (topL p k) := hT.far hB1; have hB1' : Below w.heap.size w W1 := hB.trans (hB1.mono hB.size); have hne : w.heap.size < wr.heap.size := hT.lt; rw [← hW1]; obtain ⟨b1, hb1⟩ : ∃ b1, b1 = wr.heap.size := ⟨_, rfl⟩; rw [← hb1] at hX hne ⊢; have HX := Lib.hid (And.intro hX (And.intro hT1 (And.intro hB1' hne))); have HF := Lib.hid (And.intro hr (And.intro hfs (And.intro ht37 hv2))); clear HR hB hT hr hfs ht37 hv2 hX hB1 hT1 hB1' hne hW1 hb1
      go_upto_region 9 with (fail)
      refine wp_region_lit ?_; refine HX.out.1.load rfl _ rfl rfl ?_; refine HX.out.1.load rfl _ rfl rfl ?_; go_wp2_with (fail)
      have hpd := pair_ok (t := t) (by have := HF.out.2.2.1; omega)
      refine (times_any W1 _ _ hpd hpd).mono ?_; rintro e w2 ⟨rfl, hB2⟩; obtain ⟨hX, hT, hB, hne⟩ := HX.out; have hY := hpd; obtain ⟨y, hy⟩ : ∃ y, y = timesL (pairL t) (pairL t) := ⟨_, rfl⟩
      have hyd : Digits y := by rw [hy]; exact tm_ok hpd hpd 6
      obtain ⟨W2, hW2⟩ : ∃ W2, W2 = w2.alloc (.cells (QA y) 137) := ⟨_, rfl⟩
      have hB3 : Below W1.heap.size W1 W2 := by rw [hW2]; exact hB2.alloc hB2.size _
      have hY2 : BigAt W2 w2.heap.size y := by rw [hW2]; exact big_new w2 hyd.1
      have h12 := hB2.size; have hlt := hX.lt
      have HX2 := Lib.hid (And.intro (hX.far hB3) (And.intro (hT.far hB3) (And.intro (hB.trans (hB3.mono hB.size)) (And.intro hY2 (And.intro hyd (And.intro hpd (And.intro hy (And.intro (show b1 < w2.heap.size by omega) hne))))))))
      rw [← hy]; dsimp only
      iterate 4 go_step
      refine wpList_store_row rfl _ _ _ rfl w2.heap.size (QA y) rfl rfl 137 ZB (heap_alloc_new w2 _) (big_info hyd.1) (by rw [QA_size hyd.1]; rfl) (big_one _) ?_
      rw [World.setRow_alloc_new, ← hW2]; obtain ⟨b2, hb2⟩ : ∃ b2, b2 = w2.heap.size := ⟨_, rfl⟩; rw [← hb2] at HX2 ⊢; clear hX hT hB hne hY hyd hB3 hY2 h12 hlt HX hB2 hW2 hb2 hpd hy
      go_upto_if 30 with (fail)
      go_cut [] from 31 to 33 (fun wx => Below w.heap.size w wx ∧ BigAt wx w.heap.size (topL p k) ∧ BigAt wx b2 (powL t k))
      case first =>
        rcases HP.out.2 with rfl | rfl
        · go_wp2_with (fail)
          go_meet
          refine ⟨HX2.out.2.2.1, HX2.out.2.1, ?_⟩
          rw [powL, if_neg (by omega), ← HX2.out.2.2.2.2.2.2.1]
          exact HX2.out.2.2.2.1
        · go_upto_region 11 with (fail)
          refine wp_region_lit ?_; refine HX2.out.2.2.2.1.load rfl _ rfl rfl ?_; refine HX2.out.1.load rfl _ rfl rfl ?_; go_wp2_with (fail); refine (times_any W2 _ _ HX2.out.2.2.2.2.1 HX2.out.2.2.2.2.2.1).mono ?_; rintro e w3 ⟨rfl, hB3⟩; obtain ⟨y3, hy3⟩ : ∃ y3, y3 = timesL y (pairL t) := ⟨_, rfl⟩
          have hyd3 : y3.length = 6 := by rw [hy3]; exact (tm_ok HX2.out.2.2.2.2.1 HX2.out.2.2.2.2.2.1 6).1
          have hY3 := HX2.out.2.2.2.1.far hB3; have hT3 := HX2.out.2.1.far hB3; have hB3' := HX2.out.2.2.1.trans (hB3.mono HX2.out.2.2.1.size)
          have hb2 : w.heap.size < b2 := by have := HX2.out.2.2.2.2.2.2.2; omega
          rw [← hy3]; have HX3 := Lib.hid (And.intro hyd3 (And.intro hY3 (And.intro hT3 (And.intro hB3' (And.intro hb2 hy3))))); clear hyd3 hY3 hT3 hB3' hb2 hy3 hB3; dsimp only; go_step
          refine wpList_store_row rfl _ _ _ rfl b2 (QA y3) rfl rfl 137 (QA y) HX3.out.2.1.2 (big_info HX3.out.1) (by rw [QA_size HX3.out.1, QA_size HX3.out.2.1.1]) (big_one _) ?_
          go_wp2_with (fail)
          go_meet
          obtain ⟨hyd3, hY3, hT3, hB3, hb2, hy3⟩ := HX3.out
          refine ⟨hB3.trans ⟨rfl, rfl, rfl, by simp, fun k hk => setRow_other _ _ _ _ (by omega)⟩, ⟨hT3.1, (setRow_other _ _ _ _ (by omega)).trans hT3.2⟩, ?_⟩
          have e : powL t 3 = y3 := by rw [powL, if_pos rfl, hy3, HX2.out.2.2.2.2.2.2.1]
          rw [e]; exact ⟨hyd3, setRow_heap _ _ _ _ _ _ hY3.2⟩
      case rest =>
        obtain ⟨hB, hT, hY⟩ := hcut; have HX3 := Lib.hid (And.intro hB (And.intro hT hY)); clear hB hT hY HX2
        go_upto_region 12 with (fail)
        refine wp_region_lit ?_; refine HX3.out.2.1.load rfl _ rfl rfl ?_; refine HX3.out.2.2.load rfl _ rfl rfl ?_; go_wp2_with (fail); refine (less_any wc _ _ HX3.out.2.1.1 HX3.out.2.2.1).mono ?_; rintro e w4 ⟨rfl, hB4⟩; have hB5 := HX3.out.1.trans (hB4.mono HX3.out.1.size); have hT5 := HX3.out.2.1.far hB4; rw [less_pow HP.out.1 HF.out.2.2.1 HP.out.2]; have HX4 := Lib.hid (And.intro hB5 hT5); clear hB5 hT5 hB4
        by_cases hle : t ^ k ≤ p * 4294967296 ^ k
        · rw [show decide (¬ t ^ k ≤ p * 4294967296 ^ k) = false by simp [hle]]
          have HL := Lib.hid hle; clear hle; dsimp only; go_wp2_with (fail)
          refine ⟨⟨m + 1, by omega, ?_, ?_, HX4.out.1, HX4.out.2⟩, by simp [intOf]; omega⟩
          · rw [HF.out.2.1, if_pos HL.out]
          · rw [HF.out.2.2.2]
        · rw [show decide (¬ t ^ k ≤ p * 4294967296 ^ k) = true by simpa using hle]
          have HL := Lib.hid hle; clear hle; dsimp only; go_wp2_with (fail)
          refine ⟨⟨m + 1, by omega, ?_, ?_, HX4.out.1, HX4.out.2⟩, by simp [intOf]; omega⟩
          · rw [HF.out.2.1, if_neg HL.out]
          · rw [HF.out.2.2.2]
    · obtain rfl : m = 37 := by omega
      rw [unit_end]; clear hm37 hm hp hk; obtain ⟨r, hr⟩ : ∃ r, r = fr p k 37 := ⟨_, rfl⟩; rw [← hr]; have HR := Lib.hid (And.intro hB (And.intro hT hr)); clear hB hT hr; go_wp2_with (fail); go_ret; refine ⟨?_, HR.out.1⟩; rw [← HR.out.2.2]
      show Ending.returned (Value.int .u32 ((r : Int) % 4294967296)) = Ending.returned (Value.int .u32 (((BitVec.ofNat 32 r).toNat : Nat) : Int))
      rw [BitVec.toNat_ofNat]; rfl
end Go.Proofs.YtdmnhgbdeifpbaaDoor
namespace Go.Proofs.YtdmnhgbdeifpbaaDoor
open Go.RowKit
theorem info53 : (Tryd.prog.info? 95).map (fun i => (i.zero, i.size, i.bytes)) = some (some (.int .u64 0), 1, 8) := by kernel_rfl
theorem info34 : (Tryd.prog.info? 105).map (fun i => (i.zero, i.size, i.bytes)) = some (some (.int .u32 0), 1, 4) := by kernel_rfl
def primesTo : Nat → List Nat
  | 0 => []
  | n + 1 => if (primesTo n).all (fun q => (n + 2) % q != 0) then primesTo n ++ [n + 2] else primesTo n
theorem primes_mem : ∀ n, ∀ q ∈ primesTo n, 2 ≤ q ∧ q < n + 2
  | 0, q, h => by simp [primesTo] at h
  | n + 1, q, h => by
    rw [primesTo] at h
    split at h
    · rcases List.mem_append.mp h with h | h
      · have := primes_mem n q h; omega
      · simp at h; omega
    · have := primes_mem n q h; omega
theorem primes_mono (a : Nat) : ∀ d, (primesTo a).length ≤ (primesTo (a + d)).length
  | 0 => Nat.le_refl _
  | d + 1 => by
    have := primes_mono a d; rw [← Nat.add_assoc, primesTo]
    split
    · simp; omega
    · exact this
theorem primes_309 : (primesTo 309).length = 63 := by decide +kernel
theorem primes_310 : (primesTo 310).length = 64 := by decide +kernel
theorem primes_short {n : Nat} (h : n < 310) : (primesTo n).length < 64 := by
  have := primes_mono n (309 - n)
  rw [show n + (309 - n) = 309 by omega, primes_309] at this
  omega
end Go.Proofs.YtdmnhgbdeifpbaaDoor
namespace Go.Proofs.YtdmnhgbdeifpbaaDoor
open Go.RowKit
def PrRel (w : World) (out p : Value) (wr : World) : Prop :=
  ∃ n : Nat, n ≤ 310 ∧ p = .int .u64 ((n + 2 : Nat) : Int) ∧ Own wr w.heap.size 95 out ((primesTo n).map Q) ∧ Below w.heap.size w wr
def PrIn (wr0 : World) (P : Nat) (L : List Nat) (pr i : Value) (wr : World) : Prop :=
  ∃ t : Nat, t ≤ L.length ∧ pr = .bool ((L.take t).all (fun q => P % q != 0)) ∧ i = .int .i64 (t : Int) ∧ wr = wr0
theorem bne_cast (m : Nat) : ((m : Int) != 0) = (m != 0) := by
  rw [Bool.eq_iff_iff]; simp
theorem all_take_succ (L : List Nat) (f : Nat → Bool) (t : Nat) (h : t < L.length) : (L.take (t + 1)).all f = ((L.take t).all f && f (L.getD t 0)) := by
  rw [List.take_add_one, List.all_append]; simp [List.getElem?_eq_getElem h]
def PrimesEnd (w : World) (e : Ending) (w' : World) : Prop := ∃ v, e = .returned v ∧ Own w' w.heap.size 95 v ((primesTo 310).map Q) ∧ Below w.heap.size w w'
set_option maxRecDepth 100000 in
set_option maxHeartbeats 1000000 in
theorem primes_any (w : World) : Calls Tryd.prog 88 #[.int .i64 64] w (PrimesEnd w) := by
  go_enter Tryd.func88, Tryd.ntmps88
  go_wp2_with (fail)
  go_loopw [3, 4] (PrRel w) (fun _ p _ => 312 - (intOf p).toNat)
  case atStart => exact ⟨0, by omega, rfl, Own.nil _ _ _, Below.refl _ _⟩
  case round =>
    obtain ⟨n, hn, rfl, hown, hB⟩ := hrel; obtain ⟨L, hL⟩ : ∃ L, L = primesTo n := ⟨_, rfl⟩; obtain ⟨P, hP⟩ : ∃ P, P = n + 2 := ⟨_, rfl⟩; obtain ⟨a, c, rfl⟩ := hown.form
    have hll : ((primesTo n).map Q).length = L.length := by rw [hL]; simp
    have hn64 : L.length ≤ 64 := by
      rw [hL]; have := primes_mono n (310 - n)
      rw [show n + (310 - n) = 310 by omega, primes_310] at this
      exact this
    rw [hll, ← hL] at hown; rw [hll, ← hP]
    have hPw : IntKind.u64.wrap ((P : Int) + 1) = ((P + 1 : Nat) : Int) := by rw [show (P : Int) + 1 = ((P + 1 : Nat) : Int) by omega]; exact u64_in (by omega)
    have hP311 : n < 310 → P ≤ 311 := by omega
    by_cases hlt : n < 310
    · have hl64 : (L.length : Int) < 64 := by have := primes_short hlt; rw [← hL] at this; omega
      have hP311 := hP311 hlt; have HR := Lib.hid (And.intro hown (And.intro hB (And.intro hL (And.intro hP (And.intro hn hll))))); clear hown hB hL hP hll; go_wp2_with (fail)
      go_loopw [5, 16] (PrIn wr P L) (fun _ i _ => L.length - (intOf i).toNat)
      case atStart => exact ⟨0, by omega, rfl, rfl, rfl⟩
      case round =>
        obtain ⟨t, ht, rfl, rfl, rfl⟩ := hrel; have hs := all_take_succ L (fun q => P % q != 0) t; obtain ⟨pr, hpr⟩ : ∃ pr, pr = (L.take t).all (fun q => P % q != 0) := ⟨_, rfl⟩; rw [← hpr] at hs ⊢
        by_cases hti : t < L.length
        · obtain ⟨g, c', hv, -, -⟩ := HR.out.1.form1 (by simpa using (by omega : 0 < L.length))
          have hag : a = some ⟨g, 0, none⟩ := by
            rw [Value.slice.injEq] at hv; exact hv.1
          subst hag
          have hlq : (L.map Q).length = L.length := by simp
          have hq2 := primes_mem n (L.getD t 0) (by rw [← HR.out.2.2.1]; simp [List.getD_eq_getElem?_getD, List.getElem?_eq_getElem hti])
          have k1 : wr.cell? ⟨g, t, none⟩ = some (.int .u64 ((L.getD t 0 : Nat) : Int)) := by
            have := HR.out.1
            rw [show L.length = (L.map Q).length by simp] at this
            rw [this.cellAt t (by simpa using hti)]
            simp [Q, List.getElem?_eq_getElem hti, List.getD_eq_getElem?_getD]
          have hs := hs hti; obtain ⟨q, hq⟩ : ∃ q, q = L.getD t 0 := ⟨_, rfl⟩; rw [← hq] at hs hq2 k1; obtain ⟨m, hm⟩ : ∃ m, m = P % q := ⟨_, rfl⟩
          have m1 : (P : Int) % (q : Int) = (m : Int) := by rw [hm]; omega
          have q0 : ((q : Int) == 0) = false := by simp; omega
          have q1 : ¬ (q : Int) = 0 := by omega
          have HS := Lib.hid (And.intro hs (And.intro hm hq)); clear hs hm hpr hv hq
          cases pr with
          | false =>
            go_wp2_with (fail)
            refine ⟨⟨t + 1, by omega, ?_, rfl, rfl⟩, by simp [intOf]; omega⟩
            rw [HS.out.1]; rfl
          | true =>
            go_wp2_with (fail)
            refine ⟨⟨t + 1, by omega, ?_, rfl, rfl⟩, by simp [intOf]; omega⟩
            have e := bne_cast m; rw [HS.out.1, ← HS.out.2.1, e]; rfl
        · obtain rfl : t = L.length := by omega
          rw [List.take_length] at hpr; have hw0 : wr.drewN 0 = wr := rfl
          cases pr with
          | false =>
            have hpn : primesTo (n + 1) = primesTo n := by
              rw [primesTo, ← HR.out.2.2.1, ← HR.out.2.2.2.1, if_neg (by rw [← hpr]; simp)]
            have HS := Lib.hid hpn; clear hpn hpr hs; go_wp2_with (fail)
            refine ⟨⟨n + 1, by omega, ?_, ?_, HR.out.2.1⟩, ?_⟩
            rotate_left 2
            · show 312 - ((P : Int) + 1).toNat < 312 - (P : Int).toNat
              omega
            · rw [HR.out.2.2.2.1]
              go_num
            · rw [HS.out, ← HR.out.2.2.1]; have := HR.out.1; exact this
          | true =>
            have hpn : primesTo (n + 1) = L ++ [P] := by
              rw [primesTo, ← HR.out.2.2.1, ← HR.out.2.2.2.1, if_pos (by rw [← hpr])]
            have HS := Lib.hid hpn; clear hpn hpr hs
            go_upto_region 12 with (fail)
            refine wp_region_lit ?_
            iterate 9 go_step
            refine wpList_push Tryd.underlying123 info53 rfl rfl (.tmp 29) (.tmp 31) rfl w.heap.size _ (L.map Q) rfl (HR.out.1.alloc _) (Q P) wr.heap.size rfl (by go_simp; rfl) rfl (by simp; omega) (by have := HR.out.2.1.size; simp; omega) (by omega) ?_
            intro v' w' k1 k2 k3; have HK := Lib.hid (And.intro k1 k2); clear k1 k2 k3; go_wp2_with (fail)
            refine ⟨⟨n + 1, by omega, ?_, ?_, ?_⟩, ?_⟩
            rotate_left 3
            · show 312 - ((P : Int) + 1).toNat < 312 - (P : Int).toNat
              omega
            · rw [HR.out.2.2.2.1]
              go_num
            · rw [HS.out, List.map_append]; exact HK.out.1
            · have h1 := (HR.out.2.1.alloc HR.out.2.1.size (.cells #[Value.int .u64 (P : Int)] 95)); exact h1.trans (below_grown (HR.out.1.alloc _) HK.out.2 h1.size)
    · obtain rfl : n = 310 := by omega
      have hlen : L.length = 64 := by rw [hL]; exact primes_310
      have e64 : (L.length : Int) = 64 := by omega
      have HR := Lib.hid (And.intro hown (And.intro hB hL)); clear hown hB hL hlen hll; go_wp2_with (fail); go_ret; obtain ⟨hown, hB, hL⟩ := HR.out; refine ⟨_, rfl, ?_, hB⟩; rw [← hL]; exact hown
end Go.Proofs.YtdmnhgbdeifpbaaDoor
namespace Go.Proofs.YtdmnhgbdeifpbaaDoor
open Go.RowKit
theorem fill1_W (x : BitVec 32) : Instr.fill (fun i => some (i * 1, 1)) ((Array.range (1 * 1)).map ((Value.int .u32 0).cells[· % (Value.int .u32 0).cells.size]!)) [(0, W x)] = some #[W x] := by kernel_rfl
theorem wpList_slice1_W {ops : Array Oper} {rest : List Oper} {o : Oper} {a : Act} {w : World} {Q : Exit → Act → World → Prop} (hg : o.guard = none) (y : Operand) (ho : o.op = .buildSlice 112 1 #[(0, y)]) (x : BitVec 32) (hy : a.eval y = W x)
    (h : wpList Tryd.prog ops Q rest (a.put o.dst (.slice (some ⟨w.heap.size, 0, none⟩) 1 1)) (w.alloc (.cells #[W x] 105))) : wpList Tryd.prog ops Q (o :: rest) a w := by
  obtain ⟨i, hi, hz0, hz1, hz2⟩ := info_parts info34
  refine wpList_buildSlice hg 112 105 1 _ ho #[W x] i _ Tryd.underlying112 hi hz0 (by rw [hz1]; decide) (by rw [hz1]; decide) ?_ h
  rw [hz1]; simp only [List.map_toArray, List.map_cons, List.map_nil, hy]; exact fill1_W x
def kL (t : Nat) : List Value := ((primesTo 310).take t).map (fun p => W (BitVec.ofNat 32 (fr p 3 37)))
def sL (t : Nat) : List Value := ((primesTo 310).take (min t 8)).map (fun p => W (BitVec.ofNat 32 (fr p 2 37)))
theorem kL_succ {t : Nat} (h : t < 64) : kL (t + 1) = kL t ++ [W (BitVec.ofNat 32 (fr ((primesTo 310).getD t 0) 3 37))] := by
  have hl : t < (primesTo 310).length := by rw [primes_310]; exact h
  rw [kL, List.take_add_one, List.map_append, List.getElem?_eq_getElem hl]; simp [kL, List.getD_eq_getElem?_getD, List.getElem?_eq_getElem hl]
theorem sL_succ {t : Nat} (h : t < 8) : sL (t + 1) = sL t ++ [W (BitVec.ofNat 32 (fr ((primesTo 310).getD t 0) 2 37))] := by
  have hl : t < (primesTo 310).length := by rw [primes_310]; omega
  rw [sL, show min (t + 1) 8 = t + 1 by omega, List.take_add_one, List.map_append, List.getElem?_eq_getElem hl, sL, show min t 8 = t by omega]
  simp [List.getD_eq_getElem?_getD, List.getElem?_eq_getElem hl]
theorem sL_same {t : Nat} (h : 8 ≤ t) : sL (t + 1) = sL t := by
  rw [sL, sL, show min (t + 1) 8 = 8 by omega, show min t 8 = 8 by omega]
theorem kL_len {t : Nat} (h : t ≤ 64) : (kL t).length = t := by
  simp [kL, primes_310]; omega
theorem sL_len (t : Nat) : (sL t).length ≤ 8 := by
  simp [sL, primes_310]; omega
def Apart (k s : Value) : Prop := s.ownBlock = none ∨ s.ownBlock ≠ k.ownBlock
theorem Apart.symm {k s : Value} (h : Apart k s) : Apart s k := by
  rcases h with h | h
  · rcases hk : k.ownBlock with _ | b
    · exact .inl hk
    · exact .inr (by rw [h, hk]; simp)
  · exact .inr (Ne.symm h)
theorem push_apart {w w' : World} {base : Nat} {e : TypeId} {k s k' : Value} {ys : List Value} (hs : Own w base e s ys) (h : Apart k s) (hg : w.grownBy w' k.ownBlock) (hk : k'.ownBlock = k.ownBlock ∨ k'.ownBlock = some w.heap.size) :
    Own w' base e s ys ∧ Apart k' s := by
  refine ⟨hs.kept hg h, ?_⟩
  rcases hk with hk | hk
  · rw [Apart, hk]; exact h
  · rcases hb : s.ownBlock with _ | b
    · exact .inl hb
    · refine .inr ?_; have := hs.lt hb; rw [hb, hk]; simp; omega
def TabRel (w1 : World) (k s i : Value) (wr : World) : Prop :=
  ∃ t : Nat, t ≤ 64 ∧ i = .int .i64 (t : Int) ∧ Own wr w1.heap.size 105 k (kL t) ∧ Own wr w1.heap.size 105 s (sL t) ∧ Apart k s ∧ Below w1.heap.size w1 wr
def TableEnd (w : World) (e : Ending) (w' : World) : Prop :=
  ∃ k s, e = .returned (.tuple #[k, s]) ∧ Own w' w.heap.size 105 k (kL 64) ∧ Own w' w.heap.size 105 s (sL 64) ∧ Below w.heap.size w w'
set_option maxRecDepth 100000 in
set_option maxHeartbeats 1000000 in
theorem table_any (w : World) : Calls Tryd.prog 75 #[] w (TableEnd w) := by
  go_enter Tryd.func75, Tryd.ntmps75
  go_wp2_with (fail); refine (primes_any w).mono ?_; rintro e w1 ⟨v, rfl, hv, hBp⟩
  have hlen : ((primesTo 310).map Q).length = 64 := by simp [primes_310]
  obtain ⟨g, c, hvv, hg1, hg2⟩ := hv.form1 (by rw [hlen]; omega)
  subst hvv
  have hcell : ∀ t < 64, w1.cell? ⟨g, t, none⟩ = some (.int .u64 (((primesTo 310).getD t 0 : Nat) : Int)) := fun t ht => by
    rw [hv.cellAt t (by rw [hlen]; exact ht)]
    have hl : t < (primesTo 310).length := by rw [primes_310]; exact ht
    simp [Q, List.getElem?_eq_getElem hl, List.getD_eq_getElem?_getD]
  rw [hlen]; have HP := Lib.hid (And.intro hcell (And.intro hBp hg2)); clear hcell hBp hv hg1 hg2 hlen; dsimp only; go_wp2_with (fail)
  go_loopw [2, 3, 8] (TabRel w1) (fun _ _ i _ => 64 - (intOf i).toNat)
  case atStart => exact ⟨0, by omega, rfl, Own.nil _ _ _, Own.nil _ _ _, .inl rfl, Below.refl _ _⟩
  case round =>
    obtain ⟨t, ht, rfl, hk, hs, hA, hB⟩ := hrel
    by_cases hlt : t < 64
    · have kc : wr.cell? ⟨g, t, none⟩ = some (.int .u64 (((primesTo 310).getD t 0 : Nat) : Int)) := (hB.cell (p := ⟨g, t, none⟩) HP.out.2.2).trans (HP.out.1 t hlt)
      have hp32 : (primesTo 310).getD t 0 < 4294967296 := by
        have hl : t < (primesTo 310).length := by rw [primes_310]; exact hlt
        have := primes_mem 310 ((primesTo 310).getD t 0) (by simp [List.getD_eq_getElem?_getD, List.getElem?_eq_getElem hl])
        omega
      have hks := kL_succ hlt; have hss := sL_succ (t := t); obtain ⟨p, hp⟩ : ∃ p, p = (primesTo 310).getD t 0 := ⟨_, rfl⟩; rw [← hp] at kc hp32 hks hss
      have i0 : (0 : Int) ≤ (t : Int) ∧ (t : Int) < 64 := by omega
      have HR := Lib.hid (And.intro hk (And.intro hs (And.intro hA (And.intro hB (And.intro hks hss))))); clear hk hs hA hB hks hss hp; go_wp2_with (fail); refine (fraction_any wr p 3 hp32 (.inr rfl)).mono ?_; rintro e w2 ⟨rfl, hB2⟩; obtain ⟨x, hx⟩ : ∃ x, x = BitVec.ofNat 32 (fr p 3 37) := ⟨_, rfl⟩; obtain ⟨hk, hs, hA, hB, hks, hss⟩ := HR.out; rw [← hx] at hks ⊢; have HR2 := Lib.hid (And.intro (hk.far hB2) (And.intro (hs.far hB2) (And.intro hA (And.intro (hB.trans (hB2.mono hB.size)) (And.intro hks hss))))); clear hk hs hA hB hks hss hB2 hx HR; dsimp only; go_step; refine wpList_slice1_W rfl (.tmp 15) rfl x rfl ?_
      refine wpList_push Tryd.underlying112 info34 rfl rfl (.tmp 13) (.tmp 16) rfl w1.heap.size _ (kL t) rfl (HR2.out.1.alloc _) (W x) w2.heap.size rfl (by go_simp) rfl (by rw [kL_len (by omega)]; omega) (by have := HR2.out.2.2.2.1.size; simp; omega) (by omega) ?_
      intro k' w3 g1 g2 g3; obtain ⟨hk, hs, hA, hB, hks, hss⟩ := HR2.out; obtain ⟨hs', hA'⟩ := push_apart (hs.alloc _) hA g2 g3; have hB1 := (hB.alloc hB.size (.cells #[W x] 105)); have hB' := hB1.trans (below_grown (hk.alloc _) g2 hB1.size); rw [← hks] at g1; have HR3 := Lib.hid (And.intro g1 (And.intro hs' (And.intro hA' (And.intro hB' hss)))); clear hk hs hA hB hks hss hs' hA' hB1 hB' g1 g2 g3 HR2
      by_cases h8 : t < 8
      · go_wp2_with (fail); refine (fraction_any w3 p 2 hp32 (.inl rfl)).mono ?_; rintro e w4 ⟨rfl, hB4⟩; obtain ⟨x2, hx2⟩ : ∃ x2, x2 = BitVec.ofNat 32 (fr p 2 37) := ⟨_, rfl⟩; obtain ⟨hk, hs, hA, hB, hss⟩ := HR3.out; have hss := hss h8; rw [← hx2] at hss ⊢; have hl := sL_len t; have HR4 := Lib.hid (And.intro (hk.far hB4) (And.intro (hs.far hB4) (And.intro hA (And.intro (hB.trans (hB4.mono hB.size)) (And.intro hss hl))))); clear hk hs hA hB hss hB4 hx2 hl HR3; dsimp only; go_step; refine wpList_slice1_W rfl (.tmp 22) rfl x2 rfl ?_
        refine wpList_push Tryd.underlying112 info34 rfl rfl (.tmp 20) (.tmp 23) rfl w1.heap.size _ (sL t) rfl (HR4.out.2.1.alloc _) (W x2) w4.heap.size rfl (by go_simp) rfl (by have := HR4.out.2.2.2.2.2; omega) (by have := HR4.out.2.2.2.1.size; simp; omega) (by omega) ?_
        intro s' w5 g1 g2 g3; obtain ⟨hk, hs, hA, hB, hss, -⟩ := HR4.out; obtain ⟨hk', hA'⟩ := push_apart (hk.alloc _) hA.symm g2 g3; have hB1 := (hB.alloc hB.size (.cells #[W x2] 105)); have hB' := hB1.trans (below_grown (hs.alloc _) g2 hB1.size); rw [← hss] at g1; have HR5 := Lib.hid (And.intro hk' (And.intro g1 (And.intro hA'.symm hB'))); clear hk hs hA hB hss hk' hA' hB1 hB' g1 g2 g3 HR4; go_wp2_with (fail)
        exact ⟨⟨t + 1, by omega, rfl, HR5.out⟩, by simp [intOf]; omega⟩
      · go_wp2_with (fail)
        refine ⟨⟨t + 1, by omega, rfl, HR3.out.1, ?_, HR3.out.2.2.1, HR3.out.2.2.2.1⟩, by simp [intOf]; omega⟩
        rw [sL_same (by omega)]
        exact HR3.out.2.1
    · obtain rfl : t = 64 := by omega
      have HR := Lib.hid (And.intro hk (And.intro hs (And.intro hA hB))); clear hk hs hA hB; go_wp2_with (fail)
      go_ret2
      obtain ⟨hk, hs, hA, hB⟩ := HR.out; exact ⟨_, _, rfl, hk.mono HP.out.2.1.size, hs.mono HP.out.2.1.size, HP.out.2.1.trans (hB.mono HP.out.2.1.size)⟩
theorem kL_is : (primesTo 310).map (fun p => BitVec.ofNat 32 (fr p 3 37)) = kTable := by decide +kernel
theorem sL_is : ((primesTo 310).take 8).map (fun p => BitVec.ofNat 32 (fr p 2 37)) = firstSt.ws := by decide +kernel
theorem kL_all : kL 64 = kTable.map W := by
  rw [kL, List.take_of_length_le (by rw [primes_310]; exact Nat.le_refl _), ← kL_is, List.map_map]
  rfl
theorem sL_all : sL 64 = firstSt.ws.map W := by
  rw [sL, ← sL_is, List.map_map]; rfl
end Go.Proofs.YtdmnhgbdeifpbaaDoor
namespace Go.Proofs.YtdmnhgbdeifpbaaDoor
open Go.RowKit
theorem run_add_S80 (w : World) (a : List (BitVec 8)) (h : a.length ≤ 1048000) : (binOp .add 9 (Sv a) (.string ⟨#[128]⟩)).run Tryd.prog w = .ok (Sv (a ++ [0x80])) w :=
  run_add_Sv w a [0x80] (by simp; omega)
theorem run_add_S0 (w : World) (a : List (BitVec 8)) (h : a.length ≤ 1048000) : (binOp .add 9 (Sv a) (.string ⟨#[0]⟩)).run Tryd.prog w = .ok (Sv (a ++ [0])) w :=
  run_add_Sv w a [0] (by simp; omega)
theorem run_mul256_W {P : Program} (w : World) (t : TypeId) (x : BitVec 32) : (binOp .mul t (W x) (.int .u32 256)).run P w = .ok (W (x * 256)) w := by
  simp only [W, binOp_mul, Op.intArith]
  show Result.ok (Value.int .u32 (IntKind.u32.wrap _)) w = _
  simp [IntKind.wrap, IntKind.bits, IntKind.signed, BitVec.toNat_mul]
theorem be4_is (a b c d : BitVec 8) : (((((0 * 256 + a.setWidth 32) * 256 + b.setWidth 32) * 256 + c.setWidth 32) * 256 + d.setWidth 32) : BitVec 32) = be4 a b c d := by
  have ha := a.isLt; have hb := b.isLt; have hc := c.isLt; have hd := d.isLt
  apply BitVec.eq_of_toNat_eq
  have e1 : (be4 a b c d).toNat = a.toNat * 2 ^ 24 ||| b.toNat * 2 ^ 16 ||| c.toNat * 2 ^ 8 ||| d.toNat := by
    simp only [be4, BitVec.toNat_or, BitVec.toNat_shiftLeft, BitVec.toNat_setWidth, Nat.shiftLeft_eq]
    rw [Nat.mod_eq_of_lt (a := a.toNat) (by omega), Nat.mod_eq_of_lt (a := b.toNat) (by omega), Nat.mod_eq_of_lt (a := c.toNat) (by omega), Nat.mod_eq_of_lt (a := d.toNat) (by omega),
      Nat.mod_eq_of_lt (by omega), Nat.mod_eq_of_lt (by omega), Nat.mod_eq_of_lt (by omega)]
  have e2 : a.toNat * 2 ^ 24 ||| b.toNat * 2 ^ 16 = (a.toNat * 2 ^ 8 + b.toNat) * 2 ^ 16 := by
    rw [Nat.mul_comm a.toNat, ← Nat.two_pow_add_eq_or_of_lt (by omega)]
    omega
  have e3 : (a.toNat * 2 ^ 8 + b.toNat) * 2 ^ 16 ||| c.toNat * 2 ^ 8 = ((a.toNat * 2 ^ 8 + b.toNat) * 2 ^ 8 + c.toNat) * 2 ^ 8 := by
    rw [Nat.mul_comm _ (2 ^ 16), ← Nat.two_pow_add_eq_or_of_lt (by omega)]
    omega
  have e4 : ((a.toNat * 2 ^ 8 + b.toNat) * 2 ^ 8 + c.toNat) * 2 ^ 8 ||| d.toNat = ((a.toNat * 2 ^ 8 + b.toNat) * 2 ^ 8 + c.toNat) * 2 ^ 8 + d.toNat := by
    rw [Nat.mul_comm _ (2 ^ 8), ← Nat.two_pow_add_eq_or_of_lt (by omega)]
  rw [e1, e2, e3, e4]; simp only [BitVec.toNat_add, BitVec.toNat_mul, BitVec.toNat_setWidth, show (256 : BitVec 32).toNat = 256 from rfl, show (0 : BitVec 32).toNat = 0 from rfl]; omega
def vj (f : Nat → BitVec 8) (t : Nat) : Nat → BitVec 32
  | 0 => 0
  | j + 1 => vj f t j * 256 + (f (4 * t + j)).setWidth 32
theorem vj_4 (f : Nat → BitVec 8) (t : Nat) (h : t < 16) : vj f t 4 = sched f t := by
  rw [sched_lo f t h, ← be4_is]; rfl
def lenTail (n i : Nat) : List (BitVec 8) := ((List.range 8).drop (8 - i)).map (lenByte n)
theorem lenTail_succ (n i : Nat) (h : i < 8) : lenTail n (i + 1) = lenByte n (7 - i) :: lenTail n i := by
  match i, h with
  | 0, _ => rfl
  | 1, _ => rfl
  | 2, _ => rfl
  | 3, _ => rfl
  | 4, _ => rfl
  | 5, _ => rfl
  | 6, _ => rfl
  | 7, _ => rfl
theorem lenByte_is (n i : Nat) (h : i < 8) : lenByte n (7 - i) = BitVec.ofNat 8 (8 * n / 256 ^ i % 256) := by
  have e : 56 - 8 * (7 - i) = 8 * i := by omega
  rw [lenByte, e, Nat.pow_mul]
  apply BitVec.eq_of_toNat_eq
  simp
theorem run_inv_W (w : World) (t : TypeId) (x : BitVec 32) {P : Program} : (binOp .sub t (.int .u32 4294967295) (W x)).run P w = .ok (W (~~~x)) w := by
  simp only [W, binOp_sub, Op.intArith]
  show Result.ok (Value.int .u32 (IntKind.u32.wrap _)) w = _
  have := x.isLt; simp [IntKind.wrap, IntKind.bits, IntKind.signed, BitVec.toNat_not]; omega
end Go.Proofs.YtdmnhgbdeifpbaaDoor
namespace Go.Proofs.YtdmnhgbdeifpbaaDoor
open Go.RowKit
def Row8 (w : World) (g n : Nat) (f : Nat → BitVec 32) : Prop := ∀ i < n, w.cell? ⟨g, i, none⟩ = some (W (f i))
theorem Row8.lt {w : World} {g n : Nat} {f : Nat → BitVec 32} (h : Row8 w g n f) (hn : 0 < n) : g < w.heap.size := block_lt_of_cell (h 0 hn)
theorem Row8.below {w w' : World} {g n B : Nat} {f : Nat → BitVec 32} (h : Row8 w g n f) (hB : Below B w w') (hg : g < B) : Row8 w' g n f := fun i hi => (hB.cell (p := ⟨g, i, none⟩) hg).trans (h i hi)
def ws8 (s : St) : List Value := s.ws.map W
theorem ws8_len (s : St) : (ws8 s).length = 8 := rfl
theorem ws8_at (s : St) (i : Nat) (h : i < 8) : (ws8 s)[i]? = some (W (s.at i)) := by
  match i, h with
  | 0, _ => rfl
  | 1, _ => rfl
  | 2, _ => rfl
  | 3, _ => rfl
  | 4, _ => rfl
  | 5, _ => rfl
  | 6, _ => rfl
  | 7, _ => rfl
theorem Own.row8 {w : World} {base : Nat} {e : TypeId} {g c : Nat} {s : St} (h : Own w base e (.slice (some ⟨g, 0, none⟩) 8 c) (ws8 s)) : Row8 w g 8 s.at := fun i hi => by
  rw [Own.cellAt (xs := ws8 s) h i hi, ws8_at s i hi]
theorem wpList_copy8 {ops : Array Oper} {rest : List Oper} {o : Oper} {a : Act} {Q : Exit → Act → World → Prop} {w : World} (hgd : o.guard = none) (s x : Operand)
    (ho : o.op = .call { callee := .builtin .append, args := #[s, x], argTypes := #[112, 112] })
    (g0 : Nat) (hs : a.eval s = .slice (some ⟨g0, 0, none⟩) 0 0) (h0 : w.heap[g0]? = some (.cells #[] 105 (0, 0))) (g c : Nat) (hx : a.eval x = .slice (some ⟨g, 0, none⟩) 8 c) (st : St) (hg : Row8 w g 8 st.at)
    (h : ∀ g' c' w', Own w' g0 105 (.slice (some ⟨g', 0, none⟩) 8 c') (ws8 st) → Below g0 w w' → wpList Tryd.prog ops Q rest (a.put o.dst (.slice (some ⟨g', 0, none⟩) 8 c')) w') :
    wpList Tryd.prog ops Q (o :: rest) a w := by
  obtain ⟨i, hi, hz0, hz1, hz2⟩ := info_parts info34; have hlt : g0 < w.heap.size := (Array.getElem?_eq_some_iff.mp h0).1
  have hown : w.ownsRow g0 105 1 (.slice (some ⟨g0, 0, none⟩) 0 0) 0 [] := ⟨rfl, .inr ⟨g0, 0, #[], rfl, Nat.le_refl _, h0, Nat.le_refl _, by unfold maxLen; omega, rfl, rfl⟩⟩
  refine wpList_append_own_at _ hgd s x 112 ho g0 105 i _ 1 4 Tryd.underlying112 hi hz0 hz1 hz2 rfl (by decide) _ 0 [] hs hown ⟨g, 0, none⟩ 8 c (ws8 st) hx rfl ?_ ?_ (by unfold maxLen; omega) (by omega) (by omega) ?_
  · intro j u hj
    have hj8 : j < 8 := by
      have := (List.getElem?_eq_some_iff.mp hj).1
      rwa [ws8_len] at this
    rw [ws8_at st j hj8] at hj; have := hg j hj8; simp only [Option.some.injEq] at hj; rw [addr_add, Nat.zero_add, this, hj]
  · intro u hu; simp only [ws8, List.mem_map] at hu; obtain ⟨y, _, rfl⟩ := hu; rfl
  · intro v' w' k1 k2 _ _
    obtain ⟨g', c', rfl, _, _⟩ := World.ownsRow.form k1 (by omega)
    exact h g' c' w' k1 ⟨k2.os, k2.tape, k2.output, k2.size, fun k hk => k2.block k (by omega) (by simp [Value.ownBlock]; omega)⟩
def szOf : Value → Nat
  | .string s => s.size
  | _ => 0
theorem szOf_Sv (m : List (BitVec 8)) : szOf (Sv m) = m.length := strOf_size m
def MixA (n : Nat) (m : List (BitVec 8)) (v : Value) (wr0 wr : World) : Prop := ∃ z : Nat, z + 1 ≤ gap n ∧ v = Sv (m ++ 0x80 :: List.replicate z 0) ∧ wr = wr0
def MixB (w : World) (Z : Array Value) (n : Nat) (x s i : Value) (wr : World) : Prop := ∃ t : Nat, t ≤ 8 ∧ i = .int .i64 (t : Int) ∧ x = .int .u64 ((8 * n / 256 ^ t : Nat) : Int) ∧ s = Sv (lenTail n t) ∧ Below w.heap.size w wr ∧ wr.heap[w.heap.size]? = some (.cells Z 23 (0, 0))
def MixC (w : World) (Z : Array Value) (g0 hg hc : Nat) (Mp : List (BitVec 8)) (cnt : Nat) (at_ : Value) (wr : World) : Prop :=
  ∃ j A : Nat, j ≤ cnt ∧ A = 64 * j ∧ at_ = .int .i64 (A : Int) ∧ Own wr g0 105 (.slice (some ⟨hg, 0, none⟩) 8 hc) (ws8 (chain (gl Mp) j)) ∧ Below w.heap.size w wr ∧ wr.heap[w.heap.size]? = some (.cells Z 23 (0, 0))
def SL (f : Nat → BitVec 8) (t : Nat) : List Value := (List.range t).map (fun i => W (sched f i))
theorem SL_len (f : Nat → BitVec 8) (t : Nat) : (SL f t).length = t := by simp [SL]
theorem SL_succ (f : Nat → BitVec 8) (t : Nat) : SL f (t + 1) = SL f t ++ [W (sched f t)] := by simp [SL, List.range_succ]
theorem SL_at (f : Nat → BitVec 8) (t i : Nat) (h : i < t) : (SL f t)[i]? = some (W (sched f i)) := by simp [SL, h]
def MixD (Wb : World) (f : Nat → BitVec 8) (wv tv : Value) (wr : World) : Prop :=
  ∃ t : Nat, t ≤ 64 ∧ tv = .int .i64 (t : Int) ∧ Own wr Wb.heap.size 105 wv (SL f t) ∧ Below Wb.heap.size Wb wr
def MixE (wx : World) (f : Nat → BitVec 8) (t : Nat) (v jv : Value) (wr : World) : Prop := ∃ j : Nat, j ≤ 4 ∧ jv = .int .i64 (j : Int) ∧ v = W (vj f t j) ∧ wr = wx
theorem rr2 (x : BitVec 32) (w : World) : Calls Tryd.prog 90 #[W x, .int .i64 2] w fun e w' => e = .returned (W (rotr x 2)) ∧ ∃ k, w' = w.drewN k := rotr_ref x 2 (by omega) w
theorem rr6 (x : BitVec 32) (w : World) : Calls Tryd.prog 90 #[W x, .int .i64 6] w fun e w' => e = .returned (W (rotr x 6)) ∧ ∃ k, w' = w.drewN k := rotr_ref x 6 (by omega) w
theorem rr7 (x : BitVec 32) (w : World) : Calls Tryd.prog 90 #[W x, .int .i64 7] w fun e w' => e = .returned (W (rotr x 7)) ∧ ∃ k, w' = w.drewN k := rotr_ref x 7 (by omega) w
theorem rr11 (x : BitVec 32) (w : World) : Calls Tryd.prog 90 #[W x, .int .i64 11] w fun e w' => e = .returned (W (rotr x 11)) ∧ ∃ k, w' = w.drewN k := rotr_ref x 11 (by omega) w
theorem rr13 (x : BitVec 32) (w : World) : Calls Tryd.prog 90 #[W x, .int .i64 13] w fun e w' => e = .returned (W (rotr x 13)) ∧ ∃ k, w' = w.drewN k := rotr_ref x 13 (by omega) w
theorem rr17 (x : BitVec 32) (w : World) : Calls Tryd.prog 90 #[W x, .int .i64 17] w fun e w' => e = .returned (W (rotr x 17)) ∧ ∃ k, w' = w.drewN k := rotr_ref x 17 (by omega) w
theorem rr18 (x : BitVec 32) (w : World) : Calls Tryd.prog 90 #[W x, .int .i64 18] w fun e w' => e = .returned (W (rotr x 18)) ∧ ∃ k, w' = w.drewN k := rotr_ref x 18 (by omega) w
theorem rr19 (x : BitVec 32) (w : World) : Calls Tryd.prog 90 #[W x, .int .i64 19] w fun e w' => e = .returned (W (rotr x 19)) ∧ ∃ k, w' = w.drewN k := rotr_ref x 19 (by omega) w
theorem rr22 (x : BitVec 32) (w : World) : Calls Tryd.prog 90 #[W x, .int .i64 22] w fun e w' => e = .returned (W (rotr x 22)) ∧ ∃ k, w' = w.drewN k := rotr_ref x 22 (by omega) w
theorem rr25 (x : BitVec 32) (w : World) : Calls Tryd.prog 90 #[W x, .int .i64 25] w fun e w' => e = .returned (W (rotr x 25)) ∧ ∃ k, w' = w.drewN k := rotr_ref x 25 (by omega) w
theorem fill8_W (x0 x1 x2 x3 x4 x5 x6 x7 : BitVec 32) : Instr.fill (fun i => some (i * 1, 1)) ((Array.range (8 * 1)).map ((Value.int .u32 0).cells[· % (Value.int .u32 0).cells.size]!)) [(0, W x0), (1, W x1), (2, W x2), (3, W x3), (4, W x4), (5, W x5), (6, W x6), (7, W x7)] = some #[W x0, W x1, W x2, W x3, W x4, W x5, W x6, W x7] := by kernel_rfl
theorem wpList_slice8_W {ops : Array Oper} {rest : List Oper} {o : Oper} {a : Act} {w : World} {Q : Exit → Act → World → Prop} (hg : o.guard = none) (y0 y1 y2 y3 y4 y5 y6 y7 : Operand)
    (ho : o.op = .buildSlice 112 8 #[(0, y0), (1, y1), (2, y2), (3, y3), (4, y4), (5, y5), (6, y6), (7, y7)]) (s : St)
    (h0 : a.eval y0 = W s.a) (h1 : a.eval y1 = W s.b) (h2 : a.eval y2 = W s.c) (h3 : a.eval y3 = W s.d) (h4 : a.eval y4 = W s.e) (h5 : a.eval y5 = W s.f) (h6 : a.eval y6 = W s.g) (h7 : a.eval y7 = W s.h)
    (h : wpList Tryd.prog ops Q rest (a.put o.dst (.slice (some ⟨w.heap.size, 0, none⟩) 8 8)) (w.alloc (.cells #[W s.a, W s.b, W s.c, W s.d, W s.e, W s.f, W s.g, W s.h] 105))) : wpList Tryd.prog ops Q (o :: rest) a w := by
  obtain ⟨i, hi, hz0, hz1, hz2⟩ := info_parts info34
  refine wpList_buildSlice hg 112 105 8 _ ho #[W s.a, W s.b, W s.c, W s.d, W s.e, W s.f, W s.g, W s.h] i _ Tryd.underlying112 hi hz0 (by rw [hz1]; decide) (by rw [hz1]; decide) ?_ h
  rw [hz1]; simp only [List.map_toArray, List.map_cons, List.map_nil, h0, h1, h2, h3, h4, h5, h6, h7]; exact fill8_W _ _ _ _ _ _ _ _
theorem row8_new (w : World) (s : St) (t : TypeId) (i : Nat) (h : i < 8) : (w.alloc (.cells #[W s.a, W s.b, W s.c, W s.d, W s.e, W s.f, W s.g, W s.h] t)).cell? ⟨w.heap.size, i, none⟩ = some (W (s.at i)) := by
  rw [cell_of_row _ _ i _ _ _ (heap_alloc_new w _)]; exact s.cell i h
theorem SL_form {w : World} {base : Nat} {e : TypeId} {v : Value} {f : Nat → BitVec 8} {t : Nat} (h : Own w base e v (SL f t)) (h0 : 0 < t) :
    ∃ g c, v = .slice (some ⟨g, 0, none⟩) t c ∧ base ≤ g ∧ g < w.heap.size ∧ ∀ i < t, w.cell? ⟨g, i, none⟩ = some (W (sched f i)) := by
  obtain ⟨g, c, h1, h2, h3⟩ := h.form1 (by rw [SL_len]; exact h0)
  subst h1
  refine ⟨g, c, by rw [SL_len], h2, h3, fun i hi => ?_⟩
  rw [h.cellAt i (by rw [SL_len]; exact hi), SL_at f t i hi]
def MixF (wf : World) (f : Nat → BitVec 8) (st : St) (vv tv : Value) (wr : World) : Prop :=
  ∃ t gv cv : Nat, t ≤ 64 ∧ tv = .int .i64 (t : Int) ∧ vv = .slice (some ⟨gv, 0, none⟩) 8 cv ∧ wf.heap.size ≤ gv ∧ Row8 wr gv 8 (rnds f st t).at ∧ Below wf.heap.size wf wr
theorem quiet_of1 {P : Program} {f : FuncId} {args : Array Value} {w : World} {m : Nat} {v : Value}
    (h : Calls P f args (w.drewN m) fun e w' => e = .returned v ∧ ∃ k, w' = (w.drewN m).drewN k) : Calls P f args (w.drewN m) fun e w'' => e = .returned v ∧ ∃ k, w'' = w.drewN k :=
  h.mono fun _ _ ⟨he, k, hk⟩ => ⟨he, m + k, by rw [hk, World.drewN_drewN]⟩
theorem own_set8 {w : World} {base : Nat} {e : TypeId} {g c : Nat} {xs : List Value} (h : w.ownsRow base e 1 (.slice (some ⟨g, 0, none⟩) 8 c) 8 xs) (i : Nat) (v : Value) :
    (w.setCell ⟨g, i, none⟩ v).ownsRow base e 1 (.slice (some ⟨g, 0, none⟩) 8 c) 8 (xs.set i v) := by
  refine ⟨by rw [List.length_set]; exact h.1, ?_⟩
  rcases h.2 with ⟨h1, _⟩ | ⟨g', c', cur, h1, h2, h3, h4, h5, h6, h7⟩
  · simp at h1
  · simp only [Value.slice.injEq, Option.some.injEq, Addr.mk.injEq, and_true, true_and] at h1; obtain ⟨e1, e2⟩ := h1; subst e1; subst e2
    refine .inr ⟨g, c, cur.setIfInBounds i v, rfl, h2, ?_, h4, h5, by simpa using h6, ?_⟩
    · rw [setCell_eq_setRow w g i cur e (0, 0) v h3]; exact setRow_heap w g cur _ e _ h3
    · rw [← h7]; simp [List.take_set]
def GL (s r : St) (i : Nat) : List Value := (List.range 8).map fun j => W (if j < i then s.at j + r.at j else s.at j)
theorem GL_len (s r : St) (i : Nat) : (GL s r i).length = 8 := by simp [GL]
theorem GL_at (s r : St) (i j : Nat) (h : j < 8) : (GL s r i)[j]? = some (W (if j < i then s.at j + r.at j else s.at j)) := by simp [GL, h]
theorem GL_zero (s r : St) : GL s r 0 = ws8 s := by
  simp only [GL, Nat.not_lt_zero, if_false]; rfl
theorem GL_all (s r : St) : GL s r 8 = ws8 (s.add r) := by
  apply List.ext_getElem?
  intro i
  by_cases h : i < 8
  · rw [GL_at s r 8 i h, if_pos h, ws8_at _ i h, at_add s r i h]
  · rw [List.getElem?_eq_none (by rw [GL_len]; omega), List.getElem?_eq_none (by rw [ws8_len]; omega)]
theorem GL_succ (s r : St) (i : Nat) (hi : i < 8) : (GL s r i).set i (W (s.at i + r.at i)) = GL s r (i + 1) := by
  apply List.ext_getElem?
  intro j; rw [List.getElem?_set]
  by_cases h : j < 8
  · rw [GL_at s r (i + 1) j h, GL_at s r i j h, GL_len]
    by_cases hij : i = j
    · subst hij
      rw [if_pos rfl, if_pos h, if_pos (by omega)]
    · rw [if_neg hij]
      by_cases hlt : j < i
      · rw [if_pos hlt, if_pos (by omega)]
      · rw [if_neg hlt, if_neg (by omega)]
  · rw [if_neg (by omega), List.getElem?_eq_none (by rw [GL_len]; omega), List.getElem?_eq_none (by rw [GL_len]; omega)]
def MixG (wg : World) (w : World) (Z : Array Value) (g0 hg hc gv : Nat) (s r : St) (iv : Value) (wr : World) : Prop :=
  ∃ i : Nat, i ≤ 8 ∧ iv = .int .i64 (i : Int) ∧ Own wr g0 105 (.slice (some ⟨hg, 0, none⟩) 8 hc) (GL s r i) ∧ Row8 wr gv 8 r.at ∧ Below w.heap.size w wr ∧ wr.heap[w.heap.size]? = some (.cells Z 23 (0, 0)) ∧ wg.heap.size ≤ wr.heap.size
def MixH (wc : World) (s : St) (iv : Value) (wr : World) : Prop :=
  ∃ (i : Nat) (C : Array Value), i ≤ 8 ∧ iv = .int .i64 (i : Int) ∧ C.size = 32 ∧ (∀ k < 4 * i, C[k]? = some (B (byteAt s k))) ∧ wr.heap[wc.heap.size]? = some (.cells C 23 (0, 0)) ∧ Below wc.heap.size wc wr
def MixI (wc : World) (s : St) (i : Nat) (jv : Value) (wr : World) : Prop :=
  ∃ (j : Nat) (C : Array Value), j ≤ 4 ∧ jv = .int .i64 (j : Int) ∧ C.size = 32 ∧ (∀ k < 4 * i + j, C[k]? = some (B (byteAt s k))) ∧ wr.heap[wc.heap.size]? = some (.cells C 23 (0, 0)) ∧ Below wc.heap.size wc wr
theorem byteAt_is (s : St) (i j : Nat) (h : j < 4) : byteAt s (4 * i + j) = (s.at i >>> (24 - 8 * j)).setWidth 8 := by
  rw [byteAt, show (4 * i + j) / 4 = i by omega, show (4 * i + j) % 4 = j by omega]
end Go.Proofs.YtdmnhgbdeifpbaaDoor
