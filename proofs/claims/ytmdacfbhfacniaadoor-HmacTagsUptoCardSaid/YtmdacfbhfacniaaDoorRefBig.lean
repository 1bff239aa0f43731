/-
  The contracts of the reference's rotr, times and less.
-/
import Derived.Test.YtmdacfbhfacniaaDoorShaSum
import Derived.Deep.CutRange
namespace Go.Proofs.YtmdacfbhfacniaaDoor
open Go.RowKit

theorem rotr_ref (x : BitVec 32) (n : Nat) (hn : n ≤ 32) (w : World) : Calls Tryd.prog 30 #[W x, .int .i64 n] w fun e w' => e = .returned (W (rotr x n)) ∧ ∃ k, w' = w.drewN k := by
  obtain ⟨m, hm⟩ : ∃ m : Nat, (32 : Int) - (n : Int) = m := ⟨32 - n, by omega⟩
  have hmn : m = 32 - n := by omega
  have hmw : IntKind.i64.wrap (m : Int) = m := IntWalk.i64_in _ (by omega)
  have s1 : ∀ w, (binOp .shr 54 (W x) (.int .i64 (n : Int))).run Tryd.prog w = .ok (W (x >>> n)) w := fun w => run_shr_W _ _ x w .i64 n hn
  have s2 : ∀ w, (binOp .shl 54 (W x) (.int .i64 (m : Int))).run Tryd.prog w = .ok (W (x <<< m)) w := fun w => run_shl_W _ _ x w .i64 m (by omega)
  have HM := Lib.hid hmn
  clear hmn
  go_enter Tryd.func30, Tryd.ntmps30
  go_wp2_with (fail)
  go_quiet (fail)
  go_wp2_with (fail)
  go_ret
  refine ⟨?_, nq, rfl⟩
  rw [rotr, ← HM.out]
  rfl

/-! Numbers of six digits. -/
def Q (n : Nat) : Value := .int .u64 (n : Int)
def Digits (l : List Nat) : Prop := l.length = 6 ∧ ∀ i, l.getD i 0 < 4294967296
def QA (l : List Nat) : Array Value := (l.map Q).toArray
theorem QA_at {l : List Nat} (h : l.length = 6) {i : Nat} (hi : i < 6) : (QA l)[i]? = some (.int .u64 ((l.getD i 0 : Nat) : Int)) := by
  simp [QA, Q, h, hi]
theorem QA_size {l : List Nat} (h : l.length = 6) : (QA l).size = 6 := by simp [QA, h]

theorem QA_set (l : List Nat) (i v : Nat) : QA (l.set i v) = (QA l).setIfInBounds i (.int .u64 (v : Int)) := by
  simp [QA, Q]
def lessL (a b : List Nat) : Nat → Bool
  | 0 => false
  | i + 1 => if a.getD i 0 ≠ b.getD i 0 then decide (a.getD i 0 < b.getD i 0) else lessL a b i

def LessRel (W2 : World) (a b : List Nat) (v : Value) (wr : World) : Prop :=
  ∃ (t n : Nat) (i : Int), t ≤ 6 ∧ i + 1 = t ∧ v = .int .i64 i ∧ wr = W2.drewN n ∧ lessL a b 6 = lessL a b t

set_option maxRecDepth 100000 in
set_option maxHeartbeats 1000000 in
theorem less_any (w : World) (a b : List Nat) (ha : a.length = 6) (hb : b.length = 6) :
    Calls Tryd.prog 34 #[.agg (QA a), .agg (QA b)] w (Below0 w (.bool (lessL a b 6))) := by
  go_enter Tryd.func34, Tryd.ntmps34
  go_wp2_with (fail)
  obtain ⟨W2, hW2⟩ : ∃ W2, W2 = (w.alloc (.cells (QA a) 69)).alloc (.cells (QA b) 69) := ⟨_, rfl⟩
  rw [← hW2]
  have hB : Below w.heap.size w W2 := by rw [hW2]; exact ((Below.refl _ w).alloc (Nat.le_refl _) _).alloc (by simp) _
  have h1 : W2.heap[w.heap.size]? = some (.cells (QA a) 69 (0, 0)) := by rw [hW2]; exact heap_alloc2_old w _ _
  have h2 : W2.heap[w.heap.size + 1]? = some (.cells (QA b) 69 (0, 0)) := by rw [hW2]; exact heap_alloc2_new w _ _
  have HX := Lib.hid (And.intro hB (And.intro h1 (And.intro h2 (And.intro ha hb))))
  clear hW2 hB h1 h2 ha hb
  go_loopw [5] (LessRel W2 a b) (fun v _ => (intOf v + 1).toNat)
  case atStart => exact ⟨6, 0, 5, by omega, rfl, rfl, rfl, rfl⟩
  case round =>
    obtain ⟨t, n, i, ht, hi, rfl, rfl, hr⟩ := hrel
    have HR := Lib.hid hr
    clear hr
    match t, ht, hi, HR with
    | 0, ht, hi, HR =>
      obtain rfl : i = -1 := by omega
      go_wp2_with (fail)
      go_ret
      exact ⟨by rw [HR.out]; rfl, below_draws HX.out.1 n⟩
    | t + 1, ht, hi, HR =>
      obtain rfl : i = (t : Int) := by omega
      have k1 : W2.cell? ⟨w.heap.size, t, none⟩ = some (.int .u64 ((a.getD t 0 : Nat) : Int)) := by rw [cell_of_row W2 _ _ _ _ _ HX.out.2.1]; exact QA_at HX.out.2.2.2.1 (by omega)
      have k2 : W2.cell? ⟨w.heap.size + 1, t, none⟩ = some (.int .u64 ((b.getD t 0 : Nat) : Int)) := by rw [cell_of_row W2 _ _ _ _ _ HX.out.2.2.1]; exact QA_at HX.out.2.2.2.2 (by omega)
      obtain ⟨x, hx⟩ : ∃ x, x = a.getD t 0 := ⟨_, rfl⟩
      obtain ⟨y, hy⟩ : ∃ y, y = b.getD t 0 := ⟨_, rfl⟩
      rw [← hx] at k1
      rw [← hy] at k2
      have HXY := Lib.hid (And.intro hx hy)
      clear hx hy
      have i0 : (0 : Int) ≤ (t : Int) ∧ (t : Int) < 6 := by omega
      by_cases hxy : x = y
      · have e0 : ((x : Int) != (y : Int)) = false := by rw [hxy]; simp
        have HE := Lib.hid hxy
        clear hxy hi
        go_wp2_with (fail)
        go_quiet (fail)
        go_wp2_with (fail)
        refine ⟨⟨t, n + nq, (t : Int) - 1, by omega, by omega, rfl, rfl, ?_⟩, by simp [intOf]⟩
        rw [HR.out, lessL, if_neg (by rw [← HXY.out.1, ← HXY.out.2]; simpa using HE.out)]
      · have e0 : ((x : Int) != (y : Int)) = true := by simp; omega
        have HE := Lib.hid hxy
        clear hxy hi
        go_wp2_with (fail)
        go_quiet (fail)
        go_wp2_with (fail)
        go_quiet (fail)
        go_wp2_with (fail)
        go_ret
        refine ⟨?_, below_draws (below_draws (below_draws HX.out.1 n) _) _⟩
        rw [HR.out, lessL, if_pos (by rw [← HXY.out.1, ← HXY.out.2]; exact HE.out), ← HXY.out.1, ← HXY.out.2]
        rfl

/-! The product, digit by digit. -/
def mr (x : Nat) (b : List Nat) (i : Nat) (o : List Nat) : Nat → List Nat × Nat
  | 0 => (o, 0)
  | j + 1 =>
    ((mr x b i o j).1.set (i + j) ((x * b.getD j 0 + (mr x b i o j).1.getD (i + j) 0 + (mr x b i o j).2) % 4294967296), (x * b.getD j 0 + (mr x b i o j).1.getD (i + j) 0 + (mr x b i o j).2) / 4294967296)
def tm (a b : List Nat) : Nat → List Nat
  | 0 => List.replicate 6 0
  | i + 1 => if a.getD i 0 = 0 then tm a b i else (mr (a.getD i 0) b i (tm a b i) (6 - i)).1
def timesL (a b : List Nat) : List Nat := tm a b 6

theorem getD_lt {l : List Nat} (h : ∀ i, l.getD i 0 < 4294967296) (k v : Nat) (hv : v < 4294967296) : ∀ i, (l.set k v).getD i 0 < 4294967296 := by
  intro i
  have := h i
  simp only [List.getD_eq_getElem?_getD, List.getElem?_set] at this ⊢
  split
  · split
    · exact hv
    · simp
  · exact this
theorem u64_in {x : Nat} (h : x < 18446744073709551616) : IntKind.u64.wrap (x : Int) = x := by
  exact IntWalk.u64_in _ (by omega)
theorem mul_lt32 {x y : Nat} (hx : x < 4294967296) (hy : y < 4294967296) : x * y ≤ 18446744065119617025 := by
  have : x * y ≤ 4294967295 * 4294967295 := Nat.mul_le_mul (by omega) (by omega)
  omega
theorem mr_ok {x : Nat} {b o : List Nat} {i : Nat} (hx : x < 4294967296) (hb : Digits b) (ho : Digits o) : ∀ j, Digits (mr x b i o j).1 ∧ (mr x b i o j).2 < 4294967296
  | 0 => ⟨ho, by simp [mr]⟩
  | j + 1 => by
    obtain ⟨h1, h2⟩ := mr_ok (i := i) hx hb ho j
    have h3 := mul_lt32 hx (hb.2 j)
    have h4 := h1.2 (i + j)
    refine ⟨⟨by simp [mr, h1.1], getD_lt h1.2 _ _ (Nat.mod_lt _ (by omega))⟩, ?_⟩
    show (x * b.getD j 0 + (mr x b i o j).1.getD (i + j) 0 + (mr x b i o j).2) / 4294967296 < _
    omega
theorem tm_ok {a b : List Nat} (ha : Digits a) (hb : Digits b) : ∀ i, Digits (tm a b i)
  | 0 => ⟨by simp [tm], fun i => by
    simp only [tm, List.getD_eq_getElem?_getD, List.getElem?_replicate]
    split <;> simp⟩
  | i + 1 => by
    rw [tm]
    split
    · exact tm_ok ha hb i
    · exact (mr_ok (ha.2 i) hb (tm_ok ha hb i) _).1

theorem heap_alloc4 (w : World) (o1 o2 o3 o4 : Obj) :
    ((((w.alloc o1).alloc o2).alloc o3).alloc o4).heap[w.heap.size]? = some o1 ∧ ((((w.alloc o1).alloc o2).alloc o3).alloc o4).heap[w.heap.size + 1]? = some o2 ∧ ((((w.alloc o1).alloc o2).alloc o3).alloc o4).heap[w.heap.size + 1 + 1]? = some o3 ∧ ((((w.alloc o1).alloc o2).alloc o3).alloc o4).heap[w.heap.size + 1 + 1 + 1]? = some o4 := by
  refine ⟨?_, ?_, ?_, ?_⟩
  · rw [Below.heap_alloc _ _ _ (by simp; omega), Below.heap_alloc _ _ _ (by simp; omega)]
    exact heap_alloc2_old w _ _
  · rw [Below.heap_alloc _ _ _ (by simp), Below.heap_alloc _ _ _ (by simp)]
    exact heap_alloc2_new w _ _
  · have := heap_alloc2_old ((w.alloc o1).alloc o2) o3 o4
    simpa using this
  · have := heap_alloc2_new ((w.alloc o1).alloc o2) o3 o4
    simpa using this

def TOut (W0 : World) (g : Nat) (k : Value) (a b : List Nat) (wr : World) : Prop :=
  ∃ t : Nat, t ≤ 6 ∧ k = .int .i64 t ∧ wr.heap[g]? = some (.cells (QA (tm a b t)) 69 (0, 0)) ∧ W0.grownBy wr (some g)
def TIn (W0 : World) (g i x : Nat) (b o : List Nat) (cr jv : Value) (wr : World) : Prop :=
  ∃ j : Nat, i + j ≤ 6 ∧ (x = 0 → j = 0) ∧ jv = .int .i64 j ∧ cr = .int .u64 (((mr x b i o j).2 : Nat) : Int) ∧ wr.heap[g]? = some (.cells (QA (mr x b i o j).1) 69 (0, 0)) ∧ W0.grownBy wr (some g)

set_option maxRecDepth 100000 in
set_option maxHeartbeats 1000000 in
theorem times_any (w : World) (a b : List Nat) (ha : Digits a) (hb : Digits b) :
    Calls Tryd.prog 33 #[.agg (QA a), .agg (QA b)] w (Below0 w (.agg (QA (timesL a b)))) := by
  obtain ⟨Z, hZ⟩ : ∃ Z : Array Value, Z = QA (List.replicate 6 0) := ⟨_, rfl⟩
  have hz : ∀ w, (zeroValue 69).run Tryd.prog w = .ok (.agg Z) w := by rw [hZ]; exact (zero_of_info (n := 6) (by kernel_rfl)).1
  have HZ := Lib.hid hZ
  have hix : ∀ (t : Nat) (ht : t < 6) W', (Instr.index 69 (.agg (QA a)) (.int .i64 (t : Int))).run Tryd.prog W' = .ok (.int .u64 ((a.getD t 0 : Nat) : Int)) W' := fun t ht W' =>
    run_index_arr _ 61 6 Tryd.underlying69 Tryd.sizeOf61 Tryd.isAgg61 _ t ht _ (QA_at ha.1 ht) W'
  have HA := Lib.hid (And.intro ha (And.intro hb hix))
  clear hZ ha hb hix
  go_enter Tryd.func33, Tryd.ntmps33
  go_upto_region 2 with (fail)
  obtain ⟨W0, hW0⟩ : ∃ W0, W0 = (((w.alloc (.cells (QA a) 69)).alloc (.cells (QA b) 69)).alloc (.cells Z 69)).alloc (.cells Z 69) := ⟨_, rfl⟩
  rw [← hW0]
  have hB : Below w.heap.size w W0 := by rw [hW0]; exact ((((Below.refl _ w).alloc (Nat.le_refl _) _).alloc (by simp) _).alloc (by simp; omega) _).alloc (by simp; omega) _
  obtain ⟨h1, h2, h3, h4⟩ := heap_alloc4 w (.cells (QA a) 69) (.cells (QA b) 69) (.cells Z 69) (.cells Z 69)
  rw [← hW0] at h1 h2 h3 h4
  obtain ⟨g, hg⟩ : ∃ g, g = w.heap.size + 1 + 1 + 1 := ⟨_, rfl⟩
  rw [← hg] at h4 ⊢
  have HX := Lib.hid (And.intro hB (And.intro h1 (And.intro h2 (And.intro h3 (And.intro h4 hg)))))
  clear hW0 hB h1 h2 h3 h4 hg hz
  have hi : (Tryd.prog.info? 69).map (·.size) = some (QA a).size := by rw [QA_size HA.out.1.1]; kernel_rfl
  refine wp_region_lit ?_
  refine wpList_load_row rfl _ _ rfl w.heap.size rfl 69 (QA a) (0, 0) _ HX.out.2.1 Tryd.underlying69 rfl hi ?_
  clear hi
  go_wp2_with (fail)
  go_loopw [12] (fun k wr => TOut W0 g k a b wr) (fun k _ => 6 - (intOf k).toNat)
  case atStart => exact ⟨0, by omega, rfl, by rw [HX.out.2.2.2.2.1, HZ.out]; rfl, ⟨rfl, rfl, rfl, Nat.le_refl _, fun _ _ _ => rfl⟩⟩
  case round =>
    obtain ⟨t, ht, rfl, hh, hgr⟩ := hrel
    have HR := Lib.hid (And.intro hh hgr)
    clear hh hgr
    by_cases hlt : t < 6
    · have hx1 := HA.out.2.2 t hlt
      obtain ⟨x, hx⟩ : ∃ x, x = a.getD t 0 := ⟨_, rfl⟩
      rw [← hx] at hx1
      have hx32 : x < 4294967296 := by rw [hx]; exact HA.out.1.2 t
      have HXX := Lib.hid hx
      clear hx
      go_wp2_with (fail)
      go_loopw [8, 9] (fun cr jv wr => TIn W0 g t x b (tm a b t) cr jv wr) (fun _ jv _ => 6 - (intOf jv).toNat)
      case atStart => exact ⟨0, by omega, fun _ => rfl, rfl, rfl, HR.out.1, HR.out.2⟩
      case round =>
        obtain ⟨j, hj, hx0, rfl, rfl, hh, hgr⟩ := hrel
        obtain ⟨cr, hcr⟩ : ∃ cr, cr = (mr x b t (tm a b t) j).2 := ⟨_, rfl⟩
        rw [← hcr]
        obtain ⟨hd1, hd2⟩ := mr_ok (i := t) hx32 HA.out.2.1 (tm_ok HA.out.1 HA.out.2.1 t) j
        by_cases hgo : 0 < x ∧ t + j < 6
        · obtain ⟨hxp, htj⟩ := hgo
          obtain ⟨s, hs⟩ : ∃ s : Nat, (t : Int) + (j : Int) = s := ⟨t + j, by omega⟩
          have hsw : IntKind.i64.wrap (s : Int) = s := IntWalk.i64_in _ (by omega)
          have hstj : s = t + j := by omega
          have k1 : wr.cell? ⟨w.heap.size + 1, j, none⟩ = some (.int .u64 ((b.getD j 0 : Nat) : Int)) := by
            refine hgr.cell ?_ (by have := HX.out.2.2.2.2.2; simp; omega)
            rw [cell_of_row W0 _ _ _ _ _ HX.out.2.2.1]
            exact QA_at HA.out.2.1.1 (by omega)
          obtain ⟨o, ho⟩ : ∃ o, o = (mr x b t (tm a b t) j).1 := ⟨_, rfl⟩
          rw [← ho] at hh hd1
          rw [← hcr] at hd2
          have k2 : wr.cell? ⟨g, s, none⟩ = some (.int .u64 ((o.getD s 0 : Nat) : Int)) := by
            rw [cell_of_row wr _ _ _ _ _ hh]
            exact QA_at hd1.1 (by omega)
          obtain ⟨y, hy⟩ : ∃ y, y = b.getD j 0 := ⟨_, rfl⟩
          obtain ⟨z, hzz⟩ : ∃ z, z = o.getD s 0 := ⟨_, rfl⟩
          rw [← hy] at k1
          rw [← hzz] at k2
          have hy32 : y < 4294967296 := by rw [hy]; exact HA.out.2.1.2 j
          have hz32 : z < 4294967296 := by rw [hzz]; exact hd1.2 s
          have hm := mul_lt32 hx32 hy32
          obtain ⟨P1, hP1⟩ : ∃ P1 : Nat, P1 = x * y := ⟨_, rfl⟩
          rw [← hP1] at hm
          have m1 : (x : Int) * (y : Int) = P1 := by rw [hP1]; simp
          obtain ⟨S1, hS1⟩ : ∃ S1 : Nat, (P1 : Int) + (z : Int) = S1 := ⟨P1 + z, by omega⟩
          obtain ⟨V, hV⟩ : ∃ V : Nat, (S1 : Int) + (cr : Int) = V := ⟨S1 + cr, by omega⟩
          have hVb : V < 18446744073709551616 := by omega
          have hF1 : wr.frozen? ⟨g, s, none⟩ = false := frozen_of_row wr g s _ _ hh
          have w1 : IntKind.u64.wrap (P1 : Int) = P1 := u64_in (by omega)
          have w2 : IntKind.u64.wrap (S1 : Int) = S1 := u64_in (by omega)
          have w3 : IntKind.u64.wrap (V : Int) = V := u64_in (by omega)
          have i0 : (0 : Int) ≤ (j : Int) ∧ (j : Int) < 6 := by omega
          have i1 : (0 : Int) ≤ (s : Int) ∧ (s : Int) < 6 := by omega
          have lt6 : (s : Int) < 6 := by omega
          have gt0 : (0 : Int) < (x : Int) := by omega
          have HD := Lib.hid (And.intro hd1 (And.intro hd2 (And.intro hcr (And.intro ho (And.intro hh hgr)))))
          have HE := Lib.hid (And.intro hP1 (And.intro hy (And.intro hzz (And.intro hstj (And.intro hm hx0)))))
          clear hd1 hd2 hcr ho hh hgr hP1 hy hzz hstj hm hx0
          go_wp2_with (fail)
          obtain ⟨q, hq⟩ : ∃ q : Nat, q = V / 4294967296 := ⟨_, rfl⟩
          obtain ⟨r, hr⟩ : ∃ r : Nat, r = V % 4294967296 := ⟨_, rfl⟩
          have q1 : (V : Int) / 4294967296 = (q : Int) := by rw [hq]; simp
          have q2 : IntKind.u64.wrap (q : Int) = q := u64_in (by omega)
          have r1 : (V : Int) % 4294967296 = (r : Int) := by rw [hr]; simp
          have HF := Lib.hid (And.intro hq hr)
          clear hq hr
          go_quiet (fail)
          go_wp2_with (fail)
          obtain ⟨hd1, hd2, hcr, ho, hh, hgr⟩ := HD.out
          obtain ⟨hP1, hy, hzz, hstj, hm, hx0⟩ := HE.out
          have hV' : V = x * b.getD j 0 + (mr x b t (tm a b t) j).1.getD (t + j) 0 + (mr x b t (tm a b t) j).2 := by rw [← ho, ← hcr, ← hstj, ← hzz, ← hy, ← hP1]; omega
          have e1 : (mr x b t (tm a b t) (j + 1)).1 = o.set s r := by rw [mr, ← hV', ← ho, hstj, HF.out.2]
          have e2 : (mr x b t (tm a b t) (j + 1)).2 = q := by rw [mr, ← hV', HF.out.1]
          refine ⟨⟨j + 1, by omega, fun h => by omega, rfl, by rw [e2], ?_, ?_⟩, by simp [intOf]; omega⟩
          · rw [e1, QA_set]
            exact heap_setCell_same _ _ _ _ _ _ hh
          · have hgd : W0.grownBy (wr.drewN nq) (some g) := grown_trans hgr ⟨rfl, rfl, rfl, Nat.le_refl _, fun _ _ _ => rfl⟩
            exact grown_trans hgd (grown_setCell (wr.drewN nq) g s _)
        · have hx0' := hx0
          have HD := Lib.hid (And.intro hh (And.intro hgr (And.intro hcr hx0)))
          clear hh hgr hcr hx0 hd1 hd2
          by_cases hxz : x = 0
          · have hj0 := hx0' hxz
            have HZ0 := Lib.hid (And.intro hxz hj0)
            have gt0 : ¬ ((0 : Int) < (x : Int)) := by omega
            clear hgo hx0' hxz hj0
            go_wp2_with (fail)
            refine ⟨⟨t + 1, by omega, rfl, ?_, HD.out.2.1⟩, by simp [intOf]; omega⟩
            rw [tm, if_pos (by rw [← HXX.out]; exact HZ0.out.1)]
            have := HD.out.1
            rw [HZ0.out.2] at this
            exact this
          · have gt0 : (0 : Int) < (x : Int) := by omega
            have e6 : (t : Int) + (j : Int) = 6 := by omega
            have HZ0 := Lib.hid hxz
            clear hgo hx0' hxz
            go_wp2_with (fail)
            refine ⟨⟨t + 1, by omega, rfl, ?_, HD.out.2.1⟩, by simp [intOf]; omega⟩
            rw [tm, if_neg (by rw [← HXX.out]; exact HZ0.out), ← HXX.out, show 6 - t = j by omega]
            exact HD.out.1
    · obtain rfl : t = 6 := by omega
      have hts : (timesL a b).length = 6 := (tm_ok HA.out.1 HA.out.2.1 6).1
      have hi : (Tryd.prog.info? 69).map (·.size) = some (QA (timesL a b)).size := by rw [QA_size hts]; kernel_rfl
      have h3 : wr.heap[w.heap.size + 1 + 1]? = some (.cells Z 69 (0, 0)) :=
        (HR.out.2.block _ (by have := HX.out.2.2.2.2.1; have h4 := (Array.getElem?_eq_some_iff.mp this).1; have := HX.out.2.2.2.2.2; omega) (by have := HX.out.2.2.2.2.2; simp; omega)).trans HX.out.2.2.2.1
      have hZs : Z.size = (QA (timesL a b)).size := by rw [HZ.out, QA_size hts]; simp [QA]
      have hone : (QA (timesL a b)).all (·.oneCell') = true := by
        rw [Array.all_eq_true]
        intro i hi
        simp [QA, Q, Value.oneCell']
      clear hlt ht hts
      go_upto_region 13 with (fail)
      refine wp_region_lit ?_
      refine wpList_load_row rfl _ _ rfl g rfl 69 (QA (timesL a b)) (0, 0) _ HR.out.1 Tryd.underlying69 rfl hi ?_
      refine wpList_store_row rfl _ _ _ rfl (w.heap.size + 1 + 1) (QA (timesL a b)) rfl rfl 69 Z h3 hi hZs hone ?_
      have HI := Lib.hid (And.intro hi (And.intro h3 (And.intro hZs hone)))
      clear hi h3 hZs hone
      go_wp2_with (fail)
      obtain ⟨hi, h3, hZs, hone⟩ := HI.out
      refine bodyPost_ret (v := .agg (QA (timesL a b))) (results_cell_row rfl _ _ (w.heap.size + 1 + 1) 69 (QA (timesL a b)) (0, 0) _ rfl (setRow_heap _ _ Z _ _ _ h3) Tryd.underlying69 rfl hi) rfl ⟨rfl, ?_⟩
      obtain ⟨hgr, hB, hg⟩ := And.intro HR.out.2 (And.intro HX.out.1 HX.out.2.2.2.2.2)
      exact hB.trans ⟨hgr.os, hgr.tape, hgr.output, by simpa using hgr.size, fun k hk => (setRow_other _ _ _ _ (by omega)).trans (hgr.block k (Nat.lt_of_lt_of_le hk hB.size) (by simp; omega))⟩
end Go.Proofs.YtmdacfbhfacniaaDoor
