/-
  The contracts of package query's Slides and Put.
-/
import Derived.Test.YteoolfifpmbkeaaDoorQueryRight
import Derived.Test.YteoolfifpmbkeaaDoorPenPen
namespace Go.Proofs.YteoolfifpmbkeaaDoor
open Go Go.RowKit

set_option maxRecDepth 100000 in
theorem qslides_any (w : World) (q : QueryL) : Calls Tryd.prog 12 #[.agg q.cells] w (Below0 w (.int .i64 q.slides)) := by
  obtain ⟨w1, hw1⟩ : ∃ W, W = w.alloc (.cells q.cells 23) := ⟨_, rfl⟩
  have HB : Hid (Below w.heap.size w w1) := by rw [hw1]; exact (Below.refl _ w).alloc (Nat.le_refl _) _
  have HC : Hid (∀ w', Below w1.heap.size w1 w' → ∀ i v, q.cells[i]? = some v → w'.cell? ⟨w.heap.size, i, none⟩ = some v) := by rw [hw1]; exact Lib.hid (box_cells w q)
  have HR := Lib.hid (qright_any w1 q)
  cases hr : q.rightB with
  | false =>
    rw [hr] at HR
    have HS : Hid (q.slides = 0) := by rw [QueryL.slides, hr]; exact Lib.hid rfl
    clear hr
    rw [HS.out]
    rw [hw1] at HB HR
    clear hw1 HC w1
    obtain ⟨kind, size, slide, late, agg, k⟩ := q
    unfold QueryL.cells at HB HR ⊢
    go_enter Tryd.func12, Tryd.ntmps12
    go_wp2_with (fail)
    refine HR.out.mono ?_
    rintro e w3 ⟨rfl, hB3⟩
    have HZ : Hid (Below w.heap.size w w3) := HB.out.trans (hB3.mono HB.out.size)
    clear hB3
    dsimp only
    go_wp2_with (fail)
    go_ret
    exact ⟨rfl, HZ.out⟩
  | true =>
    rw [hr] at HR
    obtain ⟨b1, _, _, b4, _⟩ := rightQ_cases hr
    have HS : Hid (q.slides = if q.kind = 2 then (q.size + q.slide - 1) / q.slide else 1) := by rw [QueryL.slides, hr]; exact Lib.hid rfl
    obtain ⟨n, hn⟩ : ∃ n, n = q.slides := ⟨_, rfl⟩
    rw [← hn] at HS ⊢
    clear hr hn
    obtain ⟨kind, size, slide, late, agg, k⟩ := q
    simp only at b1 b4
    by_cases k2 : kind = 2
    · obtain ⟨s1, s2, s3⟩ := b4 k2
      have e2 : (kind == 2) = true := by simpa using k2
      have HN : Hid (n = (size + slide - 1) / slide) := by rw [HS.out]; exact Lib.hid (if_pos k2)
      have HC2 : Hid (∀ w', Below w1.heap.size w1 w' → w'.cell? ⟨w.heap.size, 0, none⟩ = some (.int .i64 kind) ∧ w'.cell? ⟨w.heap.size, 1, none⟩ = some (.int .i64 size) ∧ w'.cell? ⟨w.heap.size, 2, none⟩ = some (.int .i64 slide)) := Lib.hid (fun w' h => ⟨HC.out w' h 0 _ rfl, HC.out w' h 1 _ rfl, HC.out w' h 2 _ rfl⟩)
      rw [hw1] at HB HR HC2
      clear k2 b4 HC hw1 w1
      unfold QueryL.cells at HB HR HC2 ⊢
      go_enter Tryd.func12, Tryd.ntmps12
      go_wp2_with (fail)
      refine HR.out.mono ?_
      rintro e w3 ⟨rfl, hB3⟩
      obtain ⟨c0, c1, c2⟩ := HC2.out w3 hB3
      have HZ : Hid (Below w.heap.size w w3) := HB.out.trans (hB3.mono HB.out.size)
      clear hB3
      dsimp only
      go_wp2_with (fail)
      go_ret
      exact ⟨by rw [HN.out]; rfl, HZ.out⟩
    · have e2 : (kind == 2) = false := by simpa using k2
      have HN : Hid (n = 1) := by rw [HS.out]; exact Lib.hid (if_neg k2)
      have HC2 : Hid (∀ w', Below w1.heap.size w1 w' → w'.cell? ⟨w.heap.size, 0, none⟩ = some (.int .i64 kind)) := Lib.hid (fun w' h => HC.out w' h 0 _ rfl)
      rw [hw1] at HB HR HC2
      clear k2 b4 HC hw1 w1
      unfold QueryL.cells at HB HR HC2 ⊢
      go_enter Tryd.func12, Tryd.ntmps12
      go_wp2_with (fail)
      refine HR.out.mono ?_
      rintro e w3 ⟨rfl, hB3⟩
      have c0 := HC2.out w3 hB3
      have HZ : Hid (Below w.heap.size w w3) := HB.out.trans (hB3.mono HB.out.size)
      clear hB3
      dsimp only
      go_wp2_with (fail)
      go_ret
      exact ⟨by rw [HN.out]; rfl, HZ.out⟩
theorem qput_nil (w : World) (q : QueryL) : Calls Tryd.prog 16 #[.pointer none, .agg q.cells] w (Below0 w (.bool false)) := by
  obtain ⟨kind, size, slide, late, agg, k⟩ := q
  unfold QueryL.cells
  go_enter Tryd.func16, Tryd.ntmps16
  go_wp2_with (fail)
  go_ret
  exact ⟨rfl, (Below.refl _ w).alloc (Nat.le_refl _) _⟩
set_option maxRecDepth 100000 in
theorem qput_no (w : World) (b : Nat) (q : QueryL) (hr : q.rightB = false) : Calls Tryd.prog 16 #[.pointer (some ⟨b, 0, none⟩), .agg q.cells] w (Below0 w (.bool false)) := by
  obtain ⟨w1, hw1⟩ : ∃ W, W = w.alloc (.cells q.cells 23) := ⟨_, rfl⟩
  have HB : Hid (Below w.heap.size w w1) := by rw [hw1]; exact (Below.refl _ w).alloc (Nat.le_refl _) _
  have HR := Lib.hid (qright_any w1 q)
  rw [hr] at HR
  clear hr
  rw [hw1] at HB HR
  clear hw1 w1
  obtain ⟨kind, size, slide, late, agg, k⟩ := q
  unfold QueryL.cells at HB HR ⊢
  go_enter Tryd.func16, Tryd.ntmps16
  go_wp2_with (fail)
  refine HR.out.mono ?_
  rintro e w3 ⟨rfl, hB3⟩
  have HZ : Hid (Below w.heap.size w w3) := HB.out.trans (hB3.mono HB.out.size)
  clear hB3
  dsimp only
  go_wp2_with (fail)
  go_ret
  exact ⟨rfl, HZ.out⟩
theorem QueryL.bytes_length (q : QueryL) : q.bytes.length ≤ 60 := by
  have h1 := wordL_length q.kind.toNat
  have h2 := wordL_length q.size.toNat
  have h3 := wordL_length q.slide.toNat
  have h4 := wordL_length q.late.toNat
  have h5 := wordL_length q.agg.toNat
  have h6 := wordL_length q.k.toNat
  unfold QueryL.bytes numberL
  simp only [List.length_append]
  omega
set_option maxRecDepth 100000 in
set_option maxHeartbeats 2000000 in
theorem qput_yes (w : World) (X : Nat → Prop) (b : Nat) (l : List (BitVec 8)) (q : QueryL) (hr : q.rightB = true) (hP : PenAt X w b l) (hX : ∀ k, X k → k < w.heap.size) (hl : l.length ≤ 1073700000) :
    Calls Tryd.prog 16 #[.pointer (some ⟨b, 0, none⟩), .agg q.cells] w (PenEnd X b w (l ++ q.bytes) (.bool true)) := by
  obtain ⟨b1, b2, b3, b4, b5, b6, b7, b8, b9, b10, b11, b12⟩ := rightQ_bd hr
  obtain ⟨kind, size, slide, late, agg, k⟩ := q
  simp only at b1 b2 b3 b4 b5 b6 b7 b8 b9 b10 b11 b12
  obtain ⟨n0, rfl⟩ : ∃ n : Nat, kind = (n : Int) := ⟨kind.toNat, by omega⟩
  obtain ⟨n1, rfl⟩ : ∃ n : Nat, size = (n : Int) := ⟨size.toNat, by omega⟩
  obtain ⟨n2, rfl⟩ : ∃ n : Nat, slide = (n : Int) := ⟨slide.toNat, by omega⟩
  obtain ⟨n3, rfl⟩ : ∃ n : Nat, late = (n : Int) := ⟨late.toNat, by omega⟩
  obtain ⟨n4, rfl⟩ : ∃ n : Nat, agg = (n : Int) := ⟨agg.toNat, by omega⟩
  obtain ⟨n5, rfl⟩ : ∃ n : Nat, k = (n : Int) := ⟨k.toNat, by omega⟩
  have hbl := hP.lt
  obtain ⟨w1, hw1⟩ : ∃ W, W = w.alloc (.cells (QueryL.mk (n0 : Int) n1 n2 n3 n4 n5).cells 23) := ⟨_, rfl⟩
  have HB : Hid (Below w.heap.size w w1) := by rw [hw1]; exact (Below.refl _ w).alloc (Nat.le_refl _) _
  have hrow : w1.heap[w.heap.size]? = some (.cells (QueryL.mk (n0 : Int) n1 n2 n3 n4 n5).cells 23 (0, 0)) := by rw [hw1]; exact heap_alloc_new w _
  have HC : Hid (∀ w', PKept X b w1 w' → ∀ i v, (QueryL.mk (n0 : Int) n1 n2 n3 n4 n5).cells[i]? = some v → w'.cell? ⟨w.heap.size, i, none⟩ = some v) := fun w' hK i v hi => by
    rw [cell_of_row w' _ i _ _ _ (hK.row hrow (by decide) (by omega))]
    exact hi
  have HK1 : Hid (PKept X b w w1) := PKept.of_below HB.out
  have HP1 : Hid (PenAt X w1 b l) := hP.below HB.out
  have HR := Lib.hid (qright_any w1 (QueryL.mk (n0 : Int) n1 n2 n3 n4 n5))
  rw [hr] at HR
  have lw : ∀ n, (wordL n).length ≤ 10 := wordL_length
  have HN : Hid (∀ w' l' n, n < 9223372036854775808 → l'.length ≤ 1073710000 → PenAt X w' b l' → PKept X b w w' → Calls Tryd.prog 32 #[.pointer (some ⟨b, 0, none⟩), .int .i64 ((n : Nat) : Int)] w' (PenEnd X b w' (l' ++ wordL n) (.bool true))) :=
    Lib.hid (fun w' l' n hn hl' h1 h2 => pnumber_any w' X b n l' hn h1 (fun k hk => Nat.lt_of_lt_of_le (hX k hk) h2.size) (by omega))
  have HNs : Hid (n0 < 9223372036854775808 ∧ n1 < 9223372036854775808 ∧ n2 < 9223372036854775808 ∧ n3 < 9223372036854775808 ∧ n4 < 9223372036854775808 ∧ n5 < 9223372036854775808) := Lib.hid (by omega)
  obtain ⟨l0, hl0⟩ : ∃ x, x = l := ⟨_, rfl⟩
  have HL0 : Hid (l0.length ≤ 1073700000) := by rw [hl0]; exact Lib.hid hl
  rw [← hl0] at HP1
  obtain ⟨l1, hl1⟩ : ∃ x, x = l0 ++ wordL n0 := ⟨_, rfl⟩
  have HL1 : Hid (l1.length ≤ 1073700010) := by
    have := lw n0
    have := HL0.out
    refine Lib.hid ?_
    rw [hl1, List.length_append]
    omega
  obtain ⟨l2, hl2⟩ : ∃ x, x = l1 ++ wordL n1 := ⟨_, rfl⟩
  have HL2 : Hid (l2.length ≤ 1073700020) := by
    have := lw n1
    have := HL1.out
    refine Lib.hid ?_
    rw [hl2, List.length_append]
    omega
  obtain ⟨l3, hl3⟩ : ∃ x, x = l2 ++ wordL n2 := ⟨_, rfl⟩
  have HL3 : Hid (l3.length ≤ 1073700030) := by
    have := lw n2
    have := HL2.out
    refine Lib.hid ?_
    rw [hl3, List.length_append]
    omega
  obtain ⟨l4, hl4⟩ : ∃ x, x = l3 ++ wordL n3 := ⟨_, rfl⟩
  have HL4 : Hid (l4.length ≤ 1073700040) := by
    have := lw n3
    have := HL3.out
    refine Lib.hid ?_
    rw [hl4, List.length_append]
    omega
  obtain ⟨l5, hl5⟩ : ∃ x, x = l4 ++ wordL n4 := ⟨_, rfl⟩
  have HL5 : Hid (l5.length ≤ 1073700050) := by
    have := lw n4
    have := HL4.out
    refine Lib.hid ?_
    rw [hl5, List.length_append]
    omega
  obtain ⟨l6, hl6⟩ : ∃ x, x = l5 ++ wordL n5 := ⟨_, rfl⟩
  have HL6 : Hid (l6.length ≤ 1073700060) := by
    have := lw n5
    have := HL5.out
    refine Lib.hid ?_
    rw [hl6, List.length_append]
    omega
  have hfin : l ++ (QueryL.mk (n0 : Int) n1 n2 n3 n4 n5).bytes = l6 := by
    rw [hl6, hl5, hl4, hl3, hl2, hl1, hl0]
    simp only [QueryL.bytes, numberL, Int.toNat_natCast, List.append_assoc]
  rw [hfin]
  have HLs : Hid (l1 = l0 ++ wordL n0 ∧ l2 = l1 ++ wordL n1 ∧ l3 = l2 ++ wordL n2 ∧ l4 = l3 ++ wordL n3 ∧ l5 = l4 ++ wordL n4 ∧ l6 = l5 ++ wordL n5) := Lib.hid ⟨hl1, hl2, hl3, hl4, hl5, hl6⟩
  have c0 := HC.out w1 (PKept.refl _ _ _) 0 _ rfl
  have c1 := HC.out w1 (PKept.refl _ _ _) 1 _ rfl
  have c2 := HC.out w1 (PKept.refl _ _ _) 2 _ rfl
  have c3 := HC.out w1 (PKept.refl _ _ _) 3 _ rfl
  have c4 := HC.out w1 (PKept.refl _ _ _) 4 _ rfl
  have c5 := HC.out w1 (PKept.refl _ _ _) 5 _ rfl
  unfold QueryL.cells at hw1 HR HC c0 c1 c2 c3 c4 c5 ⊢
  clear hrow hr hP hX hl hbl lw hfin hl0 hl1 hl2 hl3 hl4 hl5 hl6 b1 b2 b3 b4 b5 b6 b7 b8 b9 b10 b11 b12
  go_enter Tryd.func16, Tryd.ntmps16
  go_upto_region 1 with (fail)
  rw [← hw1]
  clear hw1
  go_wp2_with (fail)
  refine HR.out.mono ?_
  rintro e w2 ⟨rfl, hB⟩
  have H2 : Hid (PenAt X w2 b l0 ∧ PKept X b w1 w2) := Lib.hid ⟨HP1.out.below hB, PKept.of_below hB⟩
  clear hB c0 c1 c2 c3 c4 c5
  have c0 := HC.out w2 H2.out.2 0 _ rfl
  dsimp only
  go_wp2_with (fail)
  refine (HN.out w2 l0 n0 HNs.out.1 (by have := HL0.out; omega) H2.out.1 (HK1.out.trans H2.out.2)).mono ?_
  rintro e w3 ⟨rfl, hp, hk⟩
  rw [← HLs.out.1] at hp
  have H3 : Hid (PenAt X w3 b l1 ∧ PKept X b w1 w3) := Lib.hid ⟨hp, H2.out.2.trans hk⟩
  clear hp hk c0
  have c1 := HC.out w3 H3.out.2 1 _ rfl
  dsimp only
  go_wp2_with (fail)
  refine (HN.out w3 l1 n1 HNs.out.2.1 (by have := HL1.out; omega) H3.out.1 (HK1.out.trans H3.out.2)).mono ?_
  rintro e w4 ⟨rfl, hp, hk⟩
  rw [← HLs.out.2.1] at hp
  have H4 : Hid (PenAt X w4 b l2 ∧ PKept X b w1 w4) := Lib.hid ⟨hp, H3.out.2.trans hk⟩
  clear hp hk c1
  have c2 := HC.out w4 H4.out.2 2 _ rfl
  dsimp only
  go_wp2_with (fail)
  refine (HN.out w4 l2 n2 HNs.out.2.2.1 (by have := HL2.out; omega) H4.out.1 (HK1.out.trans H4.out.2)).mono ?_
  rintro e w5 ⟨rfl, hp, hk⟩
  rw [← HLs.out.2.2.1] at hp
  have H5 : Hid (PenAt X w5 b l3 ∧ PKept X b w1 w5) := Lib.hid ⟨hp, H4.out.2.trans hk⟩
  clear hp hk c2
  have c3 := HC.out w5 H5.out.2 3 _ rfl
  dsimp only
  go_wp2_with (fail)
  refine (HN.out w5 l3 n3 HNs.out.2.2.2.1 (by have := HL3.out; omega) H5.out.1 (HK1.out.trans H5.out.2)).mono ?_
  rintro e w6 ⟨rfl, hp, hk⟩
  rw [← HLs.out.2.2.2.1] at hp
  have H6 : Hid (PenAt X w6 b l4 ∧ PKept X b w1 w6) := Lib.hid ⟨hp, H5.out.2.trans hk⟩
  clear hp hk c3
  have c4 := HC.out w6 H6.out.2 4 _ rfl
  dsimp only
  go_wp2_with (fail)
  refine (HN.out w6 l4 n4 HNs.out.2.2.2.2.1 (by have := HL4.out; omega) H6.out.1 (HK1.out.trans H6.out.2)).mono ?_
  rintro e w7 ⟨rfl, hp, hk⟩
  rw [← HLs.out.2.2.2.2.1] at hp
  have H7 : Hid (PenAt X w7 b l5 ∧ PKept X b w1 w7) := Lib.hid ⟨hp, H6.out.2.trans hk⟩
  clear hp hk c4
  have c5 := HC.out w7 H7.out.2 5 _ rfl
  dsimp only
  go_wp2_with (fail)
  refine (HN.out w7 l5 n5 HNs.out.2.2.2.2.2 (by have := HL5.out; omega) H7.out.1 (HK1.out.trans H7.out.2)).mono ?_
  rintro e w8 ⟨rfl, hp, hk⟩
  rw [← HLs.out.2.2.2.2.2] at hp
  have H8 : Hid (PenAt X w8 b l6 ∧ PKept X b w1 w8) := Lib.hid ⟨hp, H7.out.2.trans hk⟩
  clear hp hk c5
  dsimp only
  go_wp2_with (fail)
  go_ret
  exact ⟨rfl, H8.out.1, HK1.out.trans H8.out.2⟩
end Go.Proofs.YteoolfifpmbkeaaDoor
