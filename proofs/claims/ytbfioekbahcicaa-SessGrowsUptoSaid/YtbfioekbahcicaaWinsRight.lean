/-
  The contracts of package wins's Right, Has, Ripe and Gone.
-/
import Derived.Test.YtbfioekbahcicaaWinsRow
import Derived.Test.YtbfioekbahcicaaEventName
namespace Go.Proofs.Ytbfioekbahcicaa
open Go Go.RowKit

set_option maxRecDepth 100000 in
theorem wtime_any (w : World) (t : Int) : Calls Try.prog 31 #[.int .i64 t] w (fun e w' => e = .returned (.bool (decide (0 ≤ t ∧ t ≤ 1099511627776))) ∧ w' = w) := by
  by_cases h0 : 0 ≤ t
  · by_cases h1 : t ≤ 1099511627776
    · rw [decide_eq_true ⟨h0, h1⟩]
      go_enter Try.func31, Try.ntmps31
      go_wp2_with (fail)
      go_ret
      exact ⟨rfl, rfl⟩
    · rw [decide_eq_false (fun h => h1 h.2)]
      have d1 : decide (t ≤ 1099511627776) = false := decide_eq_false h1
      go_enter Try.func31, Try.ntmps31
      go_wp2_with (fail)
      go_ret
      exact ⟨rfl, rfl⟩
  · rw [decide_eq_false (fun h => h0 h.1)]
    have d0 : decide (0 ≤ t) = false := decide_eq_false h0
    go_enter Try.func31, Try.ntmps31
    go_wp2_with (fail)
    go_ret
    exact ⟨rfl, rfl⟩
set_option maxRecDepth 100000 in
theorem wright_any (w : World) (x : WindowL) (hl : x.key.length ≤ 1000000) :
    Calls Try.prog 19 #[.agg x.cells] w (Below0 w (.bool x.rightB)) := by
  obtain ⟨key, lo, hi⟩ := x
  obtain ⟨r, hr⟩ : ∃ r, r = (WindowL.mk key lo hi).rightB := ⟨_, rfl⟩
  rw [← hr]
  have hN := fun w => ename_any w key hl
  obtain ⟨nb, hnb⟩ : ∃ b, b = nameB key := ⟨_, rfl⟩
  rw [← hnb] at hN
  simp only [WindowL.rightB] at hr
  rw [← hnb] at hr
  have HNm := Lib.hid hN
  obtain ⟨tb, htb⟩ : ∃ b, b = decide (0 ≤ lo ∧ lo ≤ 1099511627776) := ⟨_, rfl⟩
  have HTm : Hid (∀ w', Calls Try.prog 31 #[.int .i64 lo] w' (fun e w'' => e = .returned (.bool tb) ∧ w'' = w')) := by
    rw [htb]
    exact Lib.hid (fun w' => wtime_any w' lo)
  clear hnb hN hl
  unfold WindowL.cells
  cases nb with
  | false =>
    obtain rfl : r = false := by rw [hr]; rfl
    clear hr htb
    go_enter Try.func19, Try.ntmps19
    go_wp2_with (fail)
    refine (HNm.out _).mono ?_
    rintro e w3 ⟨rfl, rfl⟩
    dsimp only
    go_wp2_with (fail)
    go_ret
    exact ⟨rfl, (Below.refl _ w).alloc (Nat.le_refl _) _⟩
  | true =>
    rw [Bool.true_and] at hr
    cases tb with
    | false =>
      have h0 := of_decide_eq_false htb.symm
      obtain rfl : r = false := by rw [hr, decide_eq_false (by omega)]
      clear hr htb h0
      go_enter Try.func19, Try.ntmps19
      go_wp2_with (fail)
      refine (HNm.out _).mono ?_
      rintro e w3 ⟨rfl, rfl⟩
      dsimp only
      go_wp2_with (fail)
      refine (HTm.out _).mono ?_
      rintro e w3 ⟨rfl, rfl⟩
      dsimp only
      go_wp2_with (fail)
      go_ret
      exact ⟨rfl, (Below.refl _ w).alloc (Nat.le_refl _) _⟩
    | true =>
    have h0 := of_decide_eq_true htb.symm
    by_cases h2 : lo < hi
    case neg =>
      obtain rfl : r = false := by rw [hr, decide_eq_false (by omega)]
      have d2 : decide (lo < hi) = false := decide_eq_false h2
      clear hr htb h0
      go_enter Try.func19, Try.ntmps19
      go_wp2_with (fail)
      refine (HNm.out _).mono ?_
      rintro e w3 ⟨rfl, rfl⟩
      dsimp only
      go_wp2_with (fail)
      refine (HTm.out _).mono ?_
      rintro e w3 ⟨rfl, rfl⟩
      dsimp only
      go_wp2_with (fail)
      go_ret
      exact ⟨rfl, (Below.refl _ w).alloc (Nat.le_refl _) _⟩
    by_cases h3 : hi ≤ 4398046511104
    case neg =>
      obtain rfl : r = false := by rw [hr, decide_eq_false (by omega)]
      have d3 : decide (hi ≤ 4398046511104) = false := decide_eq_false h3
      clear hr htb h0
      go_enter Try.func19, Try.ntmps19
      go_wp2_with (fail)
      refine (HNm.out _).mono ?_
      rintro e w3 ⟨rfl, rfl⟩
      dsimp only
      go_wp2_with (fail)
      refine (HTm.out _).mono ?_
      rintro e w3 ⟨rfl, rfl⟩
      dsimp only
      go_wp2_with (fail)
      go_ret
      exact ⟨rfl, (Below.refl _ w).alloc (Nat.le_refl _) _⟩
    obtain rfl : r = true := by rw [hr, decide_eq_true (by omega)]
    clear hr htb h0
    go_enter Try.func19, Try.ntmps19
    go_wp2_with (fail)
    refine (HNm.out _).mono ?_
    rintro e w3 ⟨rfl, rfl⟩
    dsimp only
    go_wp2_with (fail)
    refine (HTm.out _).mono ?_
    rintro e w3 ⟨rfl, rfl⟩
    dsimp only
    go_wp2_with (fail)
    go_ret
    exact ⟨rfl, (Below.refl _ w).alloc (Nat.le_refl _) _⟩
set_option maxRecDepth 100000 in
theorem whas_any (w : World) (x : WindowL) (t : Int) (hl : x.key.length ≤ 1000000) : Calls Try.prog 18 #[.agg x.cells, .int .i64 t] w (Below0 w (.bool (hasW x t))) := by
  obtain ⟨b, hb⟩ : ∃ b, b = hasW x t := ⟨_, rfl⟩
  rw [← hb]
  obtain ⟨w1, hw1⟩ : ∃ W, W = w.alloc (.cells x.cells 24) := ⟨_, rfl⟩
  obtain ⟨xb, hxb⟩ : ∃ b, b = w.heap.size := ⟨_, rfl⟩
  have H1 : Hid (Below w.heap.size w w1) := by rw [hw1]; exact Lib.hid ((Below.refl _ w).alloc (Nat.le_refl _) _)
  have HD : Hid (∀ w', Below w1.heap.size w1 w' → D3 w' xb x.key x.lo x.hi) := by
    have h1 : RowW w1 xb x := by rw [hw1, hxb]; exact heap_alloc_new w _
    exact Lib.hid (fun w' h => (h1.below h).d3)
  obtain ⟨r, hr⟩ : ∃ r, r = x.rightB := ⟨_, rfl⟩
  have HRt : Hid (∀ w', Calls Try.prog 19 #[.agg x.cells] w' (Below0 w' (.bool r))) := by
    rw [hr]
    exact Lib.hid (fun w' => wright_any w' x hl)
  unfold hasW at hb
  rw [← hr] at hb
  obtain ⟨key, lo, hi⟩ := x
  simp only at hb
  unfold WindowL.cells at hw1 HRt ⊢
  simp only at HD
  obtain ⟨d0, d1, d2⟩ := HD.out w1 (Below.refl _ _)
  clear hr hl
  cases r with
  | false =>
    obtain rfl : b = false := by rw [hb]; rfl
    clear hb
    go_enter Try.func18, Try.ntmps18
    go_upto_region 1 with (fail)
    rw [← hw1, ← hxb]
    clear hw1 hxb
    go_wp2_with (fail)
    refine (HRt.out _).mono ?_
    rintro e w3 ⟨rfl, hB⟩
    have H3 := Lib.hid (H1.out.trans (hB.mono H1.out.size))
    have HB3 := Lib.hid hB
    clear hB d0 d1 d2
    obtain ⟨d0, d1, d2⟩ := HD.out w3 HB3.out
    dsimp only
    go_wp2_with (fail)
    go_ret
    exact ⟨rfl, H3.out⟩
  | true =>
    rw [Bool.true_and] at hb
    by_cases h0 : lo ≤ t
    case neg =>
      obtain rfl : b = false := by rw [hb, decide_eq_false (by omega)]
      have e0 : decide (lo ≤ t) = false := decide_eq_false h0
      clear hb
      go_enter Try.func18, Try.ntmps18
      go_upto_region 1 with (fail)
      rw [← hw1, ← hxb]
      clear hw1 hxb
      go_wp2_with (fail)
      refine (HRt.out _).mono ?_
      rintro e w3 ⟨rfl, hB⟩
      have H3 := Lib.hid (H1.out.trans (hB.mono H1.out.size))
      have HB3 := Lib.hid hB
      clear hB d0 d1 d2
      obtain ⟨d0, d1, d2⟩ := HD.out w3 HB3.out
      dsimp only
      go_wp2_with (fail)
      go_ret
      exact ⟨rfl, H3.out⟩
    by_cases h1 : t < hi
    case neg =>
      obtain rfl : b = false := by rw [hb, decide_eq_false (by omega)]
      have e1 : decide (t < hi) = false := decide_eq_false h1
      clear hb
      go_enter Try.func18, Try.ntmps18
      go_upto_region 1 with (fail)
      rw [← hw1, ← hxb]
      clear hw1 hxb
      go_wp2_with (fail)
      refine (HRt.out _).mono ?_
      rintro e w3 ⟨rfl, hB⟩
      have H3 := Lib.hid (H1.out.trans (hB.mono H1.out.size))
      have HB3 := Lib.hid hB
      clear hB d0 d1 d2
      obtain ⟨d0, d1, d2⟩ := HD.out w3 HB3.out
      dsimp only
      go_wp2_with (fail)
      go_ret
      exact ⟨rfl, H3.out⟩
    obtain rfl : b = true := by rw [hb, decide_eq_true (by omega)]
    clear hb
    go_enter Try.func18, Try.ntmps18
    go_upto_region 1 with (fail)
    rw [← hw1, ← hxb]
    clear hw1 hxb
    go_wp2_with (fail)
    refine (HRt.out _).mono ?_
    rintro e w3 ⟨rfl, hB⟩
    have H3 := Lib.hid (H1.out.trans (hB.mono H1.out.size))
    have HB3 := Lib.hid hB
    clear hB d0 d1 d2
    obtain ⟨d0, d1, d2⟩ := HD.out w3 HB3.out
    dsimp only
    go_wp2_with (fail)
    go_ret
    exact ⟨rfl, H3.out⟩
end Go.Proofs.Ytbfioekbahcicaa
