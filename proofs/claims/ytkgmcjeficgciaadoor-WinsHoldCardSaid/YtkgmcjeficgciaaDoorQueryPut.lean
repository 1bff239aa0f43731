/-
  The contracts of package query's Slides and Put.
-/
import Derived.Test.YtkgmcjeficgciaaDoorQueryRight
import Derived.Test.YtkgmcjeficgciaaDoorPenPen
namespace Go.Proofs.YtkgmcjeficgciaaDoor
open Go Go.RowKit

set_option maxRecDepth 100000 in
theorem qslides_any (w : World) (q : QueryL) : Calls Tryd.prog 35 #[.agg q.cells] w (Below0 w (.int .i64 q.slides)) := by
  obtain ⟨w1, hw1⟩ : ∃ W, W = w.alloc (.cells q.cells 23) := ⟨_, rfl⟩
  have HB : Hid (Below w.heap.size w w1) := by rw [hw1]; exact (Below.refl _ w).alloc (Nat.le_refl _) _
  have HC : Hid (∀ w', Below w1.heap.size w1 w' → ∀ i v, q.cells[i]? = some v → w'.cell? ⟨w.heap.size, i, none⟩ = some v) := by rw [hw1]; exact Lib.hid (box_cells w q)
  have HR := Lib.hid (qright_any w1 q)
  cases hr : q.rightB with
  | false =>
    rw [hr] at HR
    have HS : Hid (q.slides = 0) := by rw [QueryL.slides, hr]; exact Lib.hid rfl
    clear hr
    rw [HS.out]
    rw [hw1] at HB HR
    clear hw1 HC w1
    obtain ⟨kind, size, slide, late, agg, k⟩ := q
    unfold QueryL.cells at HB HR ⊢
    go_enter Tryd.func35, Tryd.ntmps35
    go_wp2_with (fail)
    refine HR.out.mono ?_
    rintro e w3 ⟨rfl, hB3⟩
    have HZ : Hid (Below w.heap.size w w3) := HB.out.trans (hB3.mono HB.out.size)
    clear hB3
    dsimp only
    go_wp2_with (fail)
    go_ret
    exact ⟨rfl, HZ.out⟩
  | true =>
    rw [hr] at HR
    obtain ⟨b1, _, _, b4, _⟩ := rightQ_cases hr
    have HS : Hid (q.slides = if q.kind = 2 then (q.size + q.slide - 1) / q.slide else 1) := by rw [QueryL.slides, hr]; exact Lib.hid rfl
    obtain ⟨n, hn⟩ : ∃ n, n = q.slides := ⟨_, rfl⟩
    rw [← hn] at HS ⊢
    clear hr hn
    obtain ⟨kind, size, slide, late, agg, k⟩ := q
    simp only at b1 b4
    by_cases k2 : kind = 2
    · obtain ⟨s1, s2, s3⟩ := b4 k2
      have e2 : (kind == 2) = true := by simpa using k2
      have HN : Hid (n = (size + slide - 1) / slide) := by rw [HS.out]; exact Lib.hid (if_pos k2)
      have HC2 : Hid (∀ w', Below w1.heap.size w1 w' → w'.cell? ⟨w.heap.size, 0, none⟩ = some (.int .i64 kind) ∧ w'.cell? ⟨w.heap.size, 1, none⟩ = some (.int .i64 size) ∧ w'.cell? ⟨w.heap.size, 2, none⟩ = some (.int .i64 slide)) := Lib.hid (fun w' h => ⟨HC.out w' h 0 _ rfl, HC.out w' h 1 _ rfl, HC.out w' h 2 _ rfl⟩)
      rw [hw1] at HB HR HC2
      clear k2 b4 HC hw1 w1
      unfold QueryL.cells at HB HR HC2 ⊢
      go_enter Tryd.func35, Tryd.ntmps35
      go_wp2_with (fail)
      refine HR.out.mono ?_
      rintro e w3 ⟨rfl, hB3⟩
      obtain ⟨c0, c1, c2⟩ := HC2.out w3 hB3
      have HZ : Hid (Below w.heap.size w w3) := HB.out.trans (hB3.mono HB.out.size)
      clear hB3
      dsimp only
      go_wp2_with (fail)
      go_ret
      exact ⟨by rw [HN.out]; rfl, HZ.out⟩
    · have e2 : (kind == 2) = false := by simpa using k2
      have HN : Hid (n = 1) := by rw [HS.out]; exact Lib.hid (if_neg k2)
      have HC2 : Hid (∀ w', Below w1.heap.size w1 w' → w'.cell? ⟨w.heap.size, 0, none⟩ = some (.int .i64 kind)) := Lib.hid (fun w' h => HC.out w' h 0 _ rfl)
      rw [hw1] at HB HR HC2
      clear k2 b4 HC hw1 w1
      unfold QueryL.cells at HB HR HC2 ⊢
      go_enter Tryd.func35, Tryd.ntmps35
      go_wp2_with (fail)
      refine HR.out.mono ?_
      rintro e w3 ⟨rfl, hB3⟩
      have c0 := HC2.out w3 hB3
      have HZ : Hid (Below w.heap.size w w3) := HB.out.trans (hB3.mono HB.out.size)
      clear hB3
      dsimp only
      go_wp2_with (fail)
      go_ret
      exact ⟨by rw [HN.out]; rfl, HZ.out⟩
theorem QueryL.bytes_length (q : QueryL) : q.bytes.length ≤ 60 := by
  have h1 := wordL_length q.kind.toNat
  have h2 := wordL_length q.size.toNat
  have h3 := wordL_length q.slide.toNat
  have h4 := wordL_length q.late.toNat
  have h5 := wordL_length q.agg.toNat
  have h6 := wordL_length q.k.toNat
  unfold QueryL.bytes numberL
  simp only [List.length_append]
  omega
end Go.Proofs.YtkgmcjeficgciaaDoor
