/-
  Part 12 of 53 of what the proof leans on.
-/
import Derived.Test.YtjeeghafachebaaGreatG6
import Derived.Test.YtjeeghafachebaaGreatG1
namespace Go.Proofs.YtjeeghafachebaaGreat
open Go Go.RowKit
set_option maxRecDepth 100000 in
theorem qwindows_any (w : World) (q : QueryL) : Calls Tryz.prog 46 #[.agg q.cells] w (Below0 w (.bool q.winB)) := by
  obtain ⟨kind, size, slide, late, agg, k⟩ := q; obtain ⟨r, hr⟩ : ∃ r, r = (QueryL.mk kind size slide late agg k).winB := ⟨_, rfl⟩; rw [← hr]; simp only [QueryL.winB] at hr; unfold QueryL.cells
  by_cases t0 : size < 1
  · obtain rfl : r = false := by rw [hr, decide_eq_false (by omega)]; rfl
    clear hr
    go_enter Tryz.func46, Tryz.ntmps46
    go_wp2_with (fail); go_ret; exact ⟨rfl, (Below.refl _ w).alloc (Nat.le_refl _) _⟩
  by_cases t1 : 1073741824 < size
  · obtain rfl : r = false := by rw [hr, decide_eq_false (by omega)]; rfl
    clear hr
    go_enter Tryz.func46, Tryz.ntmps46
    go_wp2_with (fail); go_ret; exact ⟨rfl, (Below.refl _ w).alloc (Nat.le_refl _) _⟩
  rw [decide_eq_true (show 1 ≤ size ∧ size ≤ 1073741824 by omega), Bool.true_and] at hr
  by_cases k2 : kind = 2
  · subst k2; rw [if_pos rfl] at hr
    by_cases s0 : slide < 1
    · obtain rfl : r = false := by rw [hr, decide_eq_false (by omega)]
      clear hr
      have d0 : decide ((1 : Int) ≤ slide) = false := decide_eq_false (by omega)
      go_enter Tryz.func46, Tryz.ntmps46
      go_wp2_with (fail); go_ret; exact ⟨rfl, (Below.refl _ w).alloc (Nat.le_refl _) _⟩
    have d0 : decide ((1 : Int) ≤ slide) = true := decide_eq_true (by omega)
    by_cases s1 : size < slide
    · obtain rfl : r = false := by rw [hr, decide_eq_false (by omega)]
      clear hr
      have d1 : decide (slide ≤ size) = false := decide_eq_false (by omega)
      go_enter Tryz.func46, Tryz.ntmps46
      go_wp2_with (fail); go_ret; exact ⟨rfl, (Below.refl _ w).alloc (Nat.le_refl _) _⟩
    have d1 : decide (slide ≤ size) = true := decide_eq_true (by omega)
    by_cases s2 : 16 * slide < size
    · obtain rfl : r = false := by rw [hr, decide_eq_false (by omega)]
      clear hr
      have d2 : decide (size ≤ 16 * slide) = false := decide_eq_false (by omega)
      go_enter Tryz.func46, Tryz.ntmps46
      go_wp2_with (fail); go_ret; exact ⟨rfl, (Below.refl _ w).alloc (Nat.le_refl _) _⟩
    · obtain rfl : r = true := by rw [hr, decide_eq_true (by omega)]
      clear hr
      have d2 : decide (size ≤ 16 * slide) = true := decide_eq_true (by omega)
      go_enter Tryz.func46, Tryz.ntmps46
      go_wp2_with (fail); go_ret; exact ⟨rfl, (Below.refl _ w).alloc (Nat.le_refl _) _⟩
  rw [if_neg k2] at hr
  have e2 : (kind == 2) = false := by simpa using k2
  by_cases k1 : kind = 1
  · subst k1; clear k2 e2
    by_cases s0 : slide = 0
    · subst s0
      obtain rfl : r = true := by rw [hr]; rfl
      clear hr
      go_enter Tryz.func46, Tryz.ntmps46
      go_wp2_with (fail); go_ret; exact ⟨rfl, (Below.refl _ w).alloc (Nat.le_refl _) _⟩
    · obtain rfl : r = false := by rw [hr, decide_eq_false (by omega)]
      have e0 : (slide == 0) = false := by simpa using s0
      clear hr s0
      go_enter Tryz.func46, Tryz.ntmps46
      go_wp2_with (fail); go_ret; exact ⟨rfl, (Below.refl _ w).alloc (Nat.le_refl _) _⟩
  have e1 : (kind == 1) = false := by simpa using k1
  by_cases k3 : kind = 3
  · subst k3; clear k2 e2 k1 e1
    by_cases s0 : slide = 0
    · subst s0
      obtain rfl : r = true := by rw [hr]; rfl
      clear hr
      go_enter Tryz.func46, Tryz.ntmps46
      go_wp2_with (fail); go_ret; exact ⟨rfl, (Below.refl _ w).alloc (Nat.le_refl _) _⟩
    · obtain rfl : r = false := by rw [hr, decide_eq_false (by omega)]
      have e0 : (slide == 0) = false := by simpa using s0
      clear hr s0
      go_enter Tryz.func46, Tryz.ntmps46
      go_wp2_with (fail); go_ret; exact ⟨rfl, (Below.refl _ w).alloc (Nat.le_refl _) _⟩
  have e3 : (kind == 3) = false := by simpa using k3
  obtain rfl : r = false := by rw [hr, decide_eq_false (by omega)]
  clear hr k1 k2 k3
  go_enter Tryz.func46, Tryz.ntmps46
  go_wp2_with (fail); go_ret; exact ⟨rfl, (Below.refl _ w).alloc (Nat.le_refl _) _⟩
set_option maxRecDepth 100000 in
theorem qaggregate_any (w : World) (q : QueryL) : Calls Tryz.prog 47 #[.agg q.cells] w (Below0 w (.bool q.aggB)) := by
  obtain ⟨kind, size, slide, late, agg, k⟩ := q; obtain ⟨r, hr⟩ : ∃ r, r = (QueryL.mk kind size slide late agg k).aggB := ⟨_, rfl⟩; rw [← hr]; simp only [QueryL.aggB] at hr; unfold QueryL.cells
  by_cases a6 : agg = 6
  · subst a6; rw [if_pos rfl] at hr
    by_cases s0 : k < 1
    · obtain rfl : r = false := by rw [hr, decide_eq_false (by omega)]
      clear hr
      have d0 : decide ((1 : Int) ≤ k) = false := decide_eq_false (by omega)
      go_enter Tryz.func47, Tryz.ntmps47
      go_wp2_with (fail); go_ret; exact ⟨rfl, (Below.refl _ w).alloc (Nat.le_refl _) _⟩
    have d0 : decide ((1 : Int) ≤ k) = true := decide_eq_true (by omega)
    by_cases s1 : 8 < k
    · obtain rfl : r = false := by rw [hr, decide_eq_false (by omega)]
      clear hr
      have d1 : decide (k ≤ (8 : Int)) = false := decide_eq_false (by omega)
      go_enter Tryz.func47, Tryz.ntmps47
      go_wp2_with (fail); go_ret; exact ⟨rfl, (Below.refl _ w).alloc (Nat.le_refl _) _⟩
    · obtain rfl : r = true := by rw [hr, decide_eq_true (by omega)]
      clear hr
      have d1 : decide (k ≤ (8 : Int)) = true := decide_eq_true (by omega)
      go_enter Tryz.func47, Tryz.ntmps47
      go_wp2_with (fail); go_ret; exact ⟨rfl, (Below.refl _ w).alloc (Nat.le_refl _) _⟩
  rw [if_neg a6] at hr
  have e6 : (agg == 6) = false := by simpa using a6
  by_cases s0 : agg < 1
  · obtain rfl : r = false := by rw [hr, decide_eq_false (by omega)]
    clear hr a6
    have d0 : decide ((1 : Int) ≤ agg) = false := decide_eq_false (by omega)
    go_enter Tryz.func47, Tryz.ntmps47
    go_wp2_with (fail); go_ret; exact ⟨rfl, (Below.refl _ w).alloc (Nat.le_refl _) _⟩
  have d0 : decide ((1 : Int) ≤ agg) = true := decide_eq_true (by omega)
  by_cases s1 : 7 < agg
  · obtain rfl : r = false := by rw [hr, decide_eq_false (by omega)]
    clear hr a6
    have d1 : decide (agg ≤ (7 : Int)) = false := decide_eq_false (by omega)
    go_enter Tryz.func47, Tryz.ntmps47
    go_wp2_with (fail); go_ret; exact ⟨rfl, (Below.refl _ w).alloc (Nat.le_refl _) _⟩
  have d1 : decide (agg ≤ (7 : Int)) = true := decide_eq_true (by omega)
  by_cases s2 : k = 0
  · subst s2
    obtain rfl : r = true := by rw [hr, decide_eq_true (by omega)]
    clear hr a6
    go_enter Tryz.func47, Tryz.ntmps47
    go_wp2_with (fail); go_ret; exact ⟨rfl, (Below.refl _ w).alloc (Nat.le_refl _) _⟩
  · obtain rfl : r = false := by rw [hr, decide_eq_false (by omega)]
    have e0 : (k == 0) = false := by simpa using s2
    clear hr a6 s2
    go_enter Tryz.func47, Tryz.ntmps47
    go_wp2_with (fail); go_ret; exact ⟨rfl, (Below.refl _ w).alloc (Nat.le_refl _) _⟩
theorem box_cells (w : World) (q : QueryL) : ∀ w', Below (w.alloc (.cells q.cells 23)).heap.size (w.alloc (.cells q.cells 23)) w' → ∀ i v, q.cells[i]? = some v → w'.cell? ⟨w.heap.size, i, none⟩ = some v := by
  intro w' hB i v hi; have hrow := heap_alloc_new w (.cells q.cells 23); rw [cell_of_row w' _ i _ _ _ ((hB.block _ (Array.getElem?_eq_some_iff.1 hrow).1).trans hrow)]; exact hi
set_option maxRecDepth 100000 in
theorem qright_any (w : World) (q : QueryL) : Calls Tryz.prog 28 #[.agg q.cells] w (Below0 w (.bool q.rightB)) := by
  obtain ⟨w1, hw1⟩ : ∃ W, W = w.alloc (.cells q.cells 23) := ⟨_, rfl⟩
  have HB : Hid (Below w.heap.size w w1) := by rw [hw1]; exact (Below.refl _ w).alloc (Nat.le_refl _) _
  have HC : Hid (∀ w', Below w1.heap.size w1 w' → ∀ i v, q.cells[i]? = some v → w'.cell? ⟨w.heap.size, i, none⟩ = some v) := by rw [hw1]; exact Lib.hid (box_cells w q)
  have HW := Lib.hid (qwindows_any w1 q); have HA : Hid (∀ w', Calls Tryz.prog 47 #[.agg q.cells] w' (Below0 w' (.bool q.aggB))) := Lib.hid (fun w' => qaggregate_any w' q); obtain ⟨r, hr⟩ : ∃ r, r = q.rightB := ⟨_, rfl⟩; rw [← hr]; obtain ⟨bw, hbw⟩ : ∃ b, b = q.winB := ⟨_, rfl⟩; obtain ⟨ba, hba⟩ : ∃ b, b = q.aggB := ⟨_, rfl⟩; rw [QueryL.rightB, ← hbw, ← hba] at hr; rw [← hbw] at HW; rw [← hba] at HA; clear hbw hba; obtain ⟨kind, size, slide, late, agg, k⟩ := q; unfold QueryL.cells at hw1 HC HW HA ⊢; simp only at hr; have c0 := HC.out w1 (Below.refl _ _) 0 _ rfl; have c1 := HC.out w1 (Below.refl _ _) 1 _ rfl; have c2 := HC.out w1 (Below.refl _ _) 2 _ rfl; have c3 := HC.out w1 (Below.refl _ _) 3 _ rfl; have c4 := HC.out w1 (Below.refl _ _) 4 _ rfl; have c5 := HC.out w1 (Below.refl _ _) 5 _ rfl
  cases bw with
  | false =>
    obtain rfl : r = false := by rw [hr]; rfl
    clear hr
    go_enter Tryz.func28, Tryz.ntmps28
    go_upto_region 1 with (fail)
    rw [← hw1]; clear hw1; go_wp2_with (fail); refine HW.out.mono ?_; rintro e w2 ⟨rfl, hB⟩; have H2 := Lib.hid hB; clear hB c0 c1 c2 c3 c4 c5; dsimp only; go_wp2_with (fail); go_ret; exact ⟨rfl, HB.out.trans (H2.out.mono HB.out.size)⟩
  | true =>
    rw [Bool.true_and] at hr
    by_cases l0 : late < 0
    · obtain rfl : r = false := by rw [hr, decide_eq_false (by omega)]; rfl
      clear hr
      have d0 : decide ((0 : Int) ≤ late) = false := decide_eq_false (by omega)
      go_enter Tryz.func28, Tryz.ntmps28
      go_upto_region 1 with (fail)
      rw [← hw1]; clear hw1; go_wp2_with (fail); refine HW.out.mono ?_; rintro e w2 ⟨rfl, hB⟩; have H2 := Lib.hid hB; clear hB c0 c1 c2 c3 c4 c5; have c3 := HC.out w2 H2.out 3 _ rfl; dsimp only; go_wp2_with (fail); go_ret; exact ⟨rfl, HB.out.trans (H2.out.mono HB.out.size)⟩
    have d0 : decide ((0 : Int) ≤ late) = true := decide_eq_true (by omega)
    by_cases l1 : 1073741824 < late
    · obtain rfl : r = false := by rw [hr, decide_eq_false (by omega)]; rfl
      clear hr
      have d1 : decide (late ≤ (1073741824 : Int)) = false := decide_eq_false (by omega)
      go_enter Tryz.func28, Tryz.ntmps28
      go_upto_region 1 with (fail)
      rw [← hw1]; clear hw1; go_wp2_with (fail); refine HW.out.mono ?_; rintro e w2 ⟨rfl, hB⟩; have H2 := Lib.hid hB; clear hB c0 c1 c2 c3 c4 c5; have c3 := HC.out w2 H2.out 3 _ rfl; dsimp only; go_wp2_with (fail); go_ret; exact ⟨rfl, HB.out.trans (H2.out.mono HB.out.size)⟩
    have d1 : decide (late ≤ (1073741824 : Int)) = true := decide_eq_true (by omega)
    rw [decide_eq_true (show 0 ≤ late ∧ late ≤ 1073741824 by omega), Bool.true_and] at hr
    obtain rfl : r = ba := hr
    go_enter Tryz.func28, Tryz.ntmps28
    go_upto_region 1 with (fail)
    rw [← hw1]; clear hw1; go_wp2_with (fail); refine HW.out.mono ?_; rintro e w2 ⟨rfl, hB⟩; have H2 := Lib.hid hB; clear hB c0 c1 c2 c3 c4 c5; have c0 := HC.out w2 H2.out 0 _ rfl; have c1 := HC.out w2 H2.out 1 _ rfl; have c2 := HC.out w2 H2.out 2 _ rfl; have c3 := HC.out w2 H2.out 3 _ rfl; have c4 := HC.out w2 H2.out 4 _ rfl; have c5 := HC.out w2 H2.out 5 _ rfl; dsimp only; go_wp2_with (fail); refine (HA.out w2).mono ?_; rintro e w3 ⟨rfl, hB⟩; have H3 := Lib.hid (H2.out.trans (hB.mono H2.out.size)); clear hB c0 c1 c2 c3 c4 c5; dsimp only; go_wp2_with (fail); go_ret; exact ⟨rfl, HB.out.trans (H3.out.mono HB.out.size)⟩
end Go.Proofs.YtjeeghafachebaaGreat
