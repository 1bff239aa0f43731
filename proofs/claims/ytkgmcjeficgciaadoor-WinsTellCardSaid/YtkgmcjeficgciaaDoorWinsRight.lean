/-
  The contracts of package wins's Right, Has, Ripe and Gone.
-/
import Derived.Test.YtkgmcjeficgciaaDoorWinsRow
import Derived.Test.YtkgmcjeficgciaaDoorEventName
namespace Go.Proofs.YtkgmcjeficgciaaDoor
open Go Go.RowKit

set_option maxRecDepth 100000 in
theorem wtime_any (w : World) (t : Int) : Calls Tryd.prog 38 #[.int .i64 t] w (fun e w' => e = .returned (.bool (decide (0 ≤ t ∧ t ≤ 1099511627776))) ∧ w' = w) := by
  by_cases h0 : 0 ≤ t
  · by_cases h1 : t ≤ 1099511627776
    · rw [decide_eq_true ⟨h0, h1⟩]
      go_enter Tryd.func38, Tryd.ntmps38
      go_wp2_with (fail)
      go_ret
      exact ⟨rfl, rfl⟩
    · rw [decide_eq_false (fun h => h1 h.2)]
      have d1 : decide (t ≤ 1099511627776) = false := decide_eq_false h1
      go_enter Tryd.func38, Tryd.ntmps38
      go_wp2_with (fail)
      go_ret
      exact ⟨rfl, rfl⟩
  · rw [decide_eq_false (fun h => h0 h.1)]
    have d0 : decide (0 ≤ t) = false := decide_eq_false h0
    go_enter Tryd.func38, Tryd.ntmps38
    go_wp2_with (fail)
    go_ret
    exact ⟨rfl, rfl⟩
set_option maxRecDepth 100000 in
theorem wright_any (w : World) (x : WindowL) (hl : x.key.length ≤ 1000000) :
    Calls Tryd.prog 17 #[.agg x.cells] w (Below0 w (.bool x.rightB)) := by
  obtain ⟨key, lo, hi⟩ := x
  obtain ⟨r, hr⟩ : ∃ r, r = (WindowL.mk key lo hi).rightB := ⟨_, rfl⟩
  rw [← hr]
  have hN := fun w => ename_any w key hl
  obtain ⟨nb, hnb⟩ : ∃ b, b = nameB key := ⟨_, rfl⟩
  rw [← hnb] at hN
  simp only [WindowL.rightB] at hr
  rw [← hnb] at hr
  have HNm := Lib.hid hN
  obtain ⟨tb, htb⟩ : ∃ b, b = decide (0 ≤ lo ∧ lo ≤ 1099511627776) := ⟨_, rfl⟩
  have HTm : Hid (∀ w', Calls Tryd.prog 38 #[.int .i64 lo] w' (fun e w'' => e = .returned (.bool tb) ∧ w'' = w')) := by
    rw [htb]
    exact Lib.hid (fun w' => wtime_any w' lo)
  clear hnb hN hl
  unfold WindowL.cells
  cases nb with
  | false =>
    obtain rfl : r = false := by rw [hr]; rfl
    clear hr htb
    go_enter Tryd.func17, Tryd.ntmps17
    go_wp2_with (fail)
    refine (HNm.out _).mono ?_
    rintro e w3 ⟨rfl, rfl⟩
    dsimp only
    go_wp2_with (fail)
    go_ret
    exact ⟨rfl, (Below.refl _ w).alloc (Nat.le_refl _) _⟩
  | true =>
    rw [Bool.true_and] at hr
    cases tb with
    | false =>
      have h0 := of_decide_eq_false htb.symm
      obtain rfl : r = false := by rw [hr, decide_eq_false (by omega)]
      clear hr htb h0
      go_enter Tryd.func17, Tryd.ntmps17
      go_wp2_with (fail)
      refine (HNm.out _).mono ?_
      rintro e w3 ⟨rfl, rfl⟩
      dsimp only
      go_wp2_with (fail)
      refine (HTm.out _).mono ?_
      rintro e w3 ⟨rfl, rfl⟩
      dsimp only
      go_wp2_with (fail)
      go_ret
      exact ⟨rfl, (Below.refl _ w).alloc (Nat.le_refl _) _⟩
    | true =>
    have h0 := of_decide_eq_true htb.symm
    by_cases h2 : lo < hi
    case neg =>
      obtain rfl : r = false := by rw [hr, decide_eq_false (by omega)]
      have d2 : decide (lo < hi) = false := decide_eq_false h2
      clear hr htb h0
      go_enter Tryd.func17, Tryd.ntmps17
      go_wp2_with (fail)
      refine (HNm.out _).mono ?_
      rintro e w3 ⟨rfl, rfl⟩
      dsimp only
      go_wp2_with (fail)
      refine (HTm.out _).mono ?_
      rintro e w3 ⟨rfl, rfl⟩
      dsimp only
      go_wp2_with (fail)
      go_ret
      exact ⟨rfl, (Below.refl _ w).alloc (Nat.le_refl _) _⟩
    by_cases h3 : hi ≤ 4398046511104
    case neg =>
      obtain rfl : r = false := by rw [hr, decide_eq_false (by omega)]
      have d3 : decide (hi ≤ 4398046511104) = false := decide_eq_false h3
      clear hr htb h0
      go_enter Tryd.func17, Tryd.ntmps17
      go_wp2_with (fail)
      refine (HNm.out _).mono ?_
      rintro e w3 ⟨rfl, rfl⟩
      dsimp only
      go_wp2_with (fail)
      refine (HTm.out _).mono ?_
      rintro e w3 ⟨rfl, rfl⟩
      dsimp only
      go_wp2_with (fail)
      go_ret
      exact ⟨rfl, (Below.refl _ w).alloc (Nat.le_refl _) _⟩
    obtain rfl : r = true := by rw [hr, decide_eq_true (by omega)]
    clear hr htb h0
    go_enter Tryd.func17, Tryd.ntmps17
    go_wp2_with (fail)
    refine (HNm.out _).mono ?_
    rintro e w3 ⟨rfl, rfl⟩
    dsimp only
    go_wp2_with (fail)
    refine (HTm.out _).mono ?_
    rintro e w3 ⟨rfl, rfl⟩
    dsimp only
    go_wp2_with (fail)
    go_ret
    exact ⟨rfl, (Below.refl _ w).alloc (Nat.le_refl _) _⟩
set_option maxRecDepth 100000 in
theorem whas_any (w : World) (x : WindowL) (t : Int) (hl : x.key.length ≤ 1000000) : Calls Tryd.prog 23 #[.agg x.cells, .int .i64 t] w (Below0 w (.bool (hasW x t))) := by
  obtain ⟨b, hb⟩ : ∃ b, b = hasW x t := ⟨_, rfl⟩
  rw [← hb]
  obtain ⟨w1, hw1⟩ : ∃ W, W = w.alloc (.cells x.cells 31) := ⟨_, rfl⟩
  obtain ⟨xb, hxb⟩ : ∃ b, b = w.heap.size := ⟨_, rfl⟩
  have H1 : Hid (Below w.heap.size w w1) := by rw [hw1]; exact Lib.hid ((Below.refl _ w).alloc (Nat.le_refl _) _)
  have HD : Hid (∀ w', Below w1.heap.size w1 w' → D3 w' xb x.key x.lo x.hi) := by
    have h1 : RowW w1 xb x := by rw [hw1, hxb]; exact heap_alloc_new w _
    exact Lib.hid (fun w' h => (h1.below h).d3)
  obtain ⟨r, hr⟩ : ∃ r, r = x.rightB := ⟨_, rfl⟩
  have HRt : Hid (∀ w', Calls Tryd.prog 17 #[.agg x.cells] w' (Below0 w' (.bool r))) := by
    rw [hr]
    exact Lib.hid (fun w' => wright_any w' x hl)
  unfold hasW at hb
  rw [← hr] at hb
  obtain ⟨key, lo, hi⟩ := x
  simp only at hb
  unfold WindowL.cells at hw1 HRt ⊢
  simp only at HD
  obtain ⟨d0, d1, d2⟩ := HD.out w1 (Below.refl _ _)
  clear hr hl
  cases r with
  | false =>
    obtain rfl : b = false := by rw [hb]; rfl
    clear hb
    go_enter Tryd.func23, Tryd.ntmps23
    go_upto_region 1 with (fail)
    rw [← hw1, ← hxb]
    clear hw1 hxb
    go_wp2_with (fail)
    refine (HRt.out _).mono ?_
    rintro e w3 ⟨rfl, hB⟩
    have H3 := Lib.hid (H1.out.trans (hB.mono H1.out.size))
    have HB3 := Lib.hid hB
    clear hB d0 d1 d2
    obtain ⟨d0, d1, d2⟩ := HD.out w3 HB3.out
    dsimp only
    go_wp2_with (fail)
    go_ret
    exact ⟨rfl, H3.out⟩
  | true =>
    rw [Bool.true_and] at hb
    by_cases h0 : lo ≤ t
    case neg =>
      obtain rfl : b = false := by rw [hb, decide_eq_false (by omega)]
      have e0 : decide (lo ≤ t) = false := decide_eq_false h0
      clear hb
      go_enter Tryd.func23, Tryd.ntmps23
      go_upto_region 1 with (fail)
      rw [← hw1, ← hxb]
      clear hw1 hxb
      go_wp2_with (fail)
      refine (HRt.out _).mono ?_
      rintro e w3 ⟨rfl, hB⟩
      have H3 := Lib.hid (H1.out.trans (hB.mono H1.out.size))
      have HB3 := Lib.hid hB
      clear hB d0 d1 d2
      obtain ⟨d0, d1, d2⟩ := HD.out w3 HB3.out
      dsimp only
      go_wp2_with (fail)
      go_ret
      exact ⟨rfl, H3.out⟩
    by_cases h1 : t < hi
    case neg =>
      obtain rfl : b = false := by rw [hb, decide_eq_false (by omega)]
      have e1 : decide (t < hi) = false := decide_eq_false h1
      clear hb
      go_enter Tryd.func23, Tryd.ntmps23
      go_upto_region 1 with (fail)
      rw [← hw1, ← hxb]
      clear hw1 hxb
      go_wp2_with (fail)
      refine (HRt.out _).mono ?_
      rintro e w3 ⟨rfl, hB⟩
      have H3 := Lib.hid (H1.out.trans (hB.mono H1.out.size))
      have HB3 := Lib.hid hB
      clear hB d0 d1 d2
      obtain ⟨d0, d1, d2⟩ := HD.out w3 HB3.out
      dsimp only
      go_wp2_with (fail)
      go_ret
      exact ⟨rfl, H3.out⟩
    obtain rfl : b = true := by rw [hb, decide_eq_true (by omega)]
    clear hb
    go_enter Tryd.func23, Tryd.ntmps23
    go_upto_region 1 with (fail)
    rw [← hw1, ← hxb]
    clear hw1 hxb
    go_wp2_with (fail)
    refine (HRt.out _).mono ?_
    rintro e w3 ⟨rfl, hB⟩
    have H3 := Lib.hid (H1.out.trans (hB.mono H1.out.size))
    have HB3 := Lib.hid hB
    clear hB d0 d1 d2
    obtain ⟨d0, d1, d2⟩ := HD.out w3 HB3.out
    dsimp only
    go_wp2_with (fail)
    go_ret
    exact ⟨rfl, H3.out⟩
set_option maxRecDepth 100000 in
theorem wripe_any (w : World) (x : WindowL) (mark : Int) (hl : x.key.length ≤ 1000000) : Calls Tryd.prog 12 #[.agg x.cells, .int .i64 mark] w (Below0 w (.bool (ripeW x mark))) := by
  obtain ⟨b, hb⟩ : ∃ b, b = ripeW x mark := ⟨_, rfl⟩
  rw [← hb]
  obtain ⟨w1, hw1⟩ : ∃ W, W = w.alloc (.cells x.cells 31) := ⟨_, rfl⟩
  obtain ⟨xb, hxb⟩ : ∃ b, b = w.heap.size := ⟨_, rfl⟩
  have H1 : Hid (Below w.heap.size w w1) := by rw [hw1]; exact Lib.hid ((Below.refl _ w).alloc (Nat.le_refl _) _)
  have HD : Hid (∀ w', Below w1.heap.size w1 w' → D3 w' xb x.key x.lo x.hi) := by
    have h1 : RowW w1 xb x := by rw [hw1, hxb]; exact heap_alloc_new w _
    exact Lib.hid (fun w' h => (h1.below h).d3)
  obtain ⟨r, hr⟩ : ∃ r, r = x.rightB := ⟨_, rfl⟩
  have HRt : Hid (∀ w', Calls Tryd.prog 17 #[.agg x.cells] w' (Below0 w' (.bool r))) := by
    rw [hr]
    exact Lib.hid (fun w' => wright_any w' x hl)
  unfold ripeW at hb
  rw [← hr] at hb
  obtain ⟨key, lo, hi⟩ := x
  simp only at hb
  unfold WindowL.cells at hw1 HRt ⊢
  simp only at HD
  obtain ⟨d0, d1, d2⟩ := HD.out w1 (Below.refl _ _)
  clear hr hl
  cases r with
  | false =>
    obtain rfl : b = false := by rw [hb]; rfl
    clear hb
    go_enter Tryd.func12, Tryd.ntmps12
    go_upto_region 1 with (fail)
    rw [← hw1, ← hxb]
    clear hw1 hxb
    go_wp2_with (fail)
    refine (HRt.out _).mono ?_
    rintro e w3 ⟨rfl, hB⟩
    have H3 := Lib.hid (H1.out.trans (hB.mono H1.out.size))
    have HB3 := Lib.hid hB
    clear hB d0 d1 d2
    obtain ⟨d0, d1, d2⟩ := HD.out w3 HB3.out
    dsimp only
    go_wp2_with (fail)
    go_ret
    exact ⟨rfl, H3.out⟩
  | true =>
    rw [Bool.true_and] at hb
    by_cases h0 : hi ≤ mark
    case neg =>
      obtain rfl : b = false := by rw [hb, decide_eq_false (by omega)]
      have e0 : decide (hi ≤ mark) = false := decide_eq_false h0
      clear hb
      go_enter Tryd.func12, Tryd.ntmps12
      go_upto_region 1 with (fail)
      rw [← hw1, ← hxb]
      clear hw1 hxb
      go_wp2_with (fail)
      refine (HRt.out _).mono ?_
      rintro e w3 ⟨rfl, hB⟩
      have H3 := Lib.hid (H1.out.trans (hB.mono H1.out.size))
      have HB3 := Lib.hid hB
      clear hB d0 d1 d2
      obtain ⟨d0, d1, d2⟩ := HD.out w3 HB3.out
      dsimp only
      go_wp2_with (fail)
      go_ret
      exact ⟨rfl, H3.out⟩
    obtain rfl : b = true := by rw [hb, decide_eq_true (by omega)]
    clear hb
    go_enter Tryd.func12, Tryd.ntmps12
    go_upto_region 1 with (fail)
    rw [← hw1, ← hxb]
    clear hw1 hxb
    go_wp2_with (fail)
    refine (HRt.out _).mono ?_
    rintro e w3 ⟨rfl, hB⟩
    have H3 := Lib.hid (H1.out.trans (hB.mono H1.out.size))
    have HB3 := Lib.hid hB
    clear hB d0 d1 d2
    obtain ⟨d0, d1, d2⟩ := HD.out w3 HB3.out
    dsimp only
    go_wp2_with (fail)
    go_ret
    exact ⟨rfl, H3.out⟩
set_option maxRecDepth 100000 in
theorem wgone_any (w : World) (q : QueryL) (x : WindowL) (mark : Int) (hl : x.key.length ≤ 1000000) : Calls Tryd.prog 13 #[.agg q.cells, .agg x.cells, .int .i64 mark] w (Below0 w (.bool (goneW q x mark))) := by
  obtain ⟨b, hb⟩ : ∃ b, b = goneW q x mark := ⟨_, rfl⟩
  rw [← hb]
  obtain ⟨w1, hw1⟩ : ∃ W, W = (w.alloc (.cells q.cells 23)).alloc (.cells x.cells 31) := ⟨_, rfl⟩
  obtain ⟨qb, hxb⟩ : ∃ b, b = w.heap.size := ⟨_, rfl⟩
  obtain ⟨xb, hxb2⟩ : ∃ b, b = w.heap.size + 1 := ⟨_, rfl⟩
  have H1 : Hid (Below w.heap.size w w1) := by
    have h1 := (Below.refl _ w).alloc (Nat.le_refl _) (.cells q.cells 23)
    rw [hw1]
    exact Lib.hid (h1.alloc h1.size _)
  have HD : Hid (∀ w', Below w1.heap.size w1 w' → D3 w' xb x.key x.lo x.hi ∧ D6 w' qb q.kind q.size q.slide q.late q.agg q.k) := by
    have h1 : RowW w1 xb x := by rw [hw1, hxb2, ← heap_alloc_size w (.cells q.cells 23)]; exact heap_alloc_new _ _
    have h2 : RowQ w1 qb q := by
      have h3 : RowQ (w.alloc (.cells q.cells 23)) qb q := by rw [hxb]; exact heap_alloc_new w _
      rw [hw1]
      exact h3.below ((Below.refl _ _).alloc (Nat.le_refl _) _)
    exact Lib.hid (fun w' h => ⟨(h1.below h).d3, (h2.below h).d6⟩)
  obtain ⟨r, hr⟩ : ∃ r, r = x.rightB := ⟨_, rfl⟩
  obtain ⟨s, hs⟩ : ∃ r, r = q.rightB := ⟨_, rfl⟩
  have HRt : Hid (∀ w', Calls Tryd.prog 17 #[.agg x.cells] w' (Below0 w' (.bool r))) := by
    rw [hr]
    exact Lib.hid (fun w' => wright_any w' x hl)
  have HQt : Hid (∀ w', Calls Tryd.prog 36 #[.agg q.cells] w' (Below0 w' (.bool s))) := by
    rw [hs]
    exact Lib.hid (fun w' => qright_any w' q)
  have HBd : Hid (r = true → s = true → (0 ≤ x.hi ∧ x.hi ≤ 4398046511104) ∧ 0 ≤ q.late ∧ q.late ≤ 1073741824) := by
    refine Lib.hid (fun h1 h2 => ?_)
    have g1 := rightW_cases (x := x) (by rw [← hr]; exact h1)
    have g2 := rightQ_bd (q := q) (by rw [← hs]; exact h2)
    omega
  unfold goneW at hb
  rw [← hr, ← hs] at hb
  obtain ⟨key, lo, hi⟩ := x
  obtain ⟨kind, size, slide, late, agg, tk⟩ := q
  unfold WindowL.cells at hw1 HRt ⊢
  unfold QueryL.cells at hw1 HQt ⊢
  simp only at HD HBd hb
  obtain ⟨⟨d0, d1, d2⟩, f0, f1, f2, f3, f4, f5⟩ := HD.out w1 (Below.refl _ _)
  clear hr hs hl
  cases s with
  | false =>
    obtain rfl : b = false := by rw [hb]; rfl
    clear hb
    go_enter Tryd.func13, Tryd.ntmps13
    go_upto_region 1 with (fail)
    rw [← hw1, ← hxb2, ← hxb]
    clear hw1 hxb hxb2
    go_wp2_with (fail)
    refine (HQt.out _).mono ?_
    rintro e w2 ⟨rfl, hB⟩
    have H2 := Lib.hid (H1.out.trans (hB.mono H1.out.size))
    have HB2 := Lib.hid hB
    clear hB d0 d1 d2 f0 f1 f2 f3 f4 f5
    dsimp only
    go_wp2_with (fail)
    go_ret
    exact ⟨rfl, H2.out⟩
  | true =>
    cases r with
    | false =>
      obtain rfl : b = false := by rw [hb]; rfl
      clear hb
      go_enter Tryd.func13, Tryd.ntmps13
      go_upto_region 1 with (fail)
      rw [← hw1, ← hxb2, ← hxb]
      clear hw1 hxb hxb2
      go_wp2_with (fail)
      refine (HQt.out _).mono ?_
      rintro e w2 ⟨rfl, hB⟩
      have H2 := Lib.hid (H1.out.trans (hB.mono H1.out.size))
      have HB2 := Lib.hid hB
      clear hB d0 d1 d2 f0 f1 f2 f3 f4 f5
      obtain ⟨d0, d1, d2⟩ := (HD.out w2 HB2.out).1
      obtain ⟨f0, f1, f2, f3, f4, f5⟩ := (HD.out w2 HB2.out).2
      dsimp only
      go_wp2_with (fail)
      refine (HRt.out _).mono ?_
      rintro e w3 ⟨rfl, hB⟩
      have H3 := Lib.hid (H2.out.trans (hB.mono H2.out.size))
      have HB3 := Lib.hid (HB2.out.trans (hB.mono HB2.out.size))
      clear hB d0 d1 d2 f0 f1 f2 f3 f4 f5
      obtain ⟨d0, d1, d2⟩ := (HD.out w3 HB3.out).1
      obtain ⟨f0, f1, f2, f3, f4, f5⟩ := (HD.out w3 HB3.out).2
      dsimp only
      go_wp2_with (fail)
      go_ret
      exact ⟨rfl, H3.out⟩
    | true =>
      obtain ⟨⟨g1, g2⟩, g3, g4⟩ := HBd.out rfl rfl
      obtain rfl : b = decide (hi + late ≤ mark) := by rw [hb]; rfl
      clear hb
      go_enter Tryd.func13, Tryd.ntmps13
      go_upto_region 1 with (fail)
      rw [← hw1, ← hxb2, ← hxb]
      clear hw1 hxb hxb2
      go_wp2_with (fail)
      refine (HQt.out _).mono ?_
      rintro e w2 ⟨rfl, hB⟩
      have H2 := Lib.hid (H1.out.trans (hB.mono H1.out.size))
      have HB2 := Lib.hid hB
      clear hB d0 d1 d2 f0 f1 f2 f3 f4 f5
      obtain ⟨d0, d1, d2⟩ := (HD.out w2 HB2.out).1
      obtain ⟨f0, f1, f2, f3, f4, f5⟩ := (HD.out w2 HB2.out).2
      dsimp only
      go_wp2_with (fail)
      refine (HRt.out _).mono ?_
      rintro e w3 ⟨rfl, hB⟩
      have H3 := Lib.hid (H2.out.trans (hB.mono H2.out.size))
      have HB3 := Lib.hid (HB2.out.trans (hB.mono HB2.out.size))
      clear hB d0 d1 d2 f0 f1 f2 f3 f4 f5
      obtain ⟨d0, d1, d2⟩ := (HD.out w3 HB3.out).1
      obtain ⟨f0, f1, f2, f3, f4, f5⟩ := (HD.out w3 HB3.out).2
      dsimp only
      go_wp2_with (fail)
      go_ret
      exact ⟨rfl, H3.out⟩
end Go.Proofs.YtkgmcjeficgciaaDoor
