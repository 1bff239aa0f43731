/-
  The contract of package wins's Text.
-/
import Derived.Test.YtkgmcjeficgciaaDoorWinsRight
import Derived.Test.YtkgmcjeficgciaaDoorLocal
namespace Go.Proofs.YtkgmcjeficgciaaDoor
open Go Go.RowKit

set_option maxRecDepth 100000 in
theorem wtext_no (w : World) (x : WindowL) (hl : x.key.length ≤ 1000000) (hr : x.rightB = false) : Calls Tryd.prog 18 #[.agg x.cells] w (Below0 w (Sv [])) := by
  obtain ⟨w1, hw1⟩ : ∃ W, W = w.alloc (.cells x.cells 31) := ⟨_, rfl⟩
  have HB : Hid (Below w.heap.size w w1) := by rw [hw1]; exact (Below.refl _ w).alloc (Nat.le_refl _) _
  have HR := Lib.hid (wright_any w1 x hl)
  rw [hr] at HR
  clear hr hl
  rw [hw1] at HB HR
  clear hw1 w1
  obtain ⟨key, lo, hi⟩ := x
  unfold WindowL.cells at HB HR ⊢
  go_enter Tryd.func18, Tryd.ntmps18
  go_wp2_with (fail)
  refine HR.out.mono ?_
  rintro e w3 ⟨rfl, hB3⟩
  have HZ : Hid (Below w.heap.size w w3) := HB.out.trans (hB3.mono HB.out.size)
  clear hB3
  dsimp only
  go_wp2_with (fail)
  go_ret
  exact ⟨rfl, HZ.out⟩
set_option maxRecDepth 100000 in
set_option maxHeartbeats 1000000 in
theorem wtext_yes (w : World) (x : WindowL) (hr : x.rightB = true) (hT : PowTab w) :
    Calls Tryd.prog 18 #[.agg x.cells] w (Below0 w (Sv x.text)) := by
  obtain ⟨n1, n2, n3, n4, n5, n6, n7⟩ := rightW_cases hr
  obtain ⟨w1, hw1⟩ : ∃ W, W = w.alloc (.cells x.cells 31) := ⟨_, rfl⟩
  have HB : Hid (Below w.heap.size w w1) := by rw [hw1]; exact (Below.refl _ w).alloc (Nat.le_refl _) _
  have HC : Hid (∀ w', Below w1.heap.size w1 w' → ∀ i v, x.cells[i]? = some v → w'.cell? ⟨w.heap.size, i, none⟩ = some v) := by rw [hw1]; exact Lib.hid (boxW_cells w x)
  have HR := Lib.hid (wright_any w1 x (Nat.le_trans n3 (by decide)))
  rw [hr] at HR
  clear hr
  obtain ⟨key, lo, hi⟩ := x
  simp only at n1 n2 n3 n4 n5 n6 n7
  have l1 := itoaL_length lo (by omega)
  have l2 := itoaL_length hi (by omega)
  obtain ⟨al, hal⟩ : ∃ a, a = itoaL lo := ⟨_, rfl⟩
  obtain ⟨ah, hah⟩ : ∃ a, a = itoaL hi := ⟨_, rfl⟩
  obtain ⟨s1, hs1⟩ : ∃ a, a = key ++ bBlank := ⟨_, rfl⟩
  obtain ⟨s2, hs2⟩ : ∃ a, a = s1 ++ al := ⟨_, rfl⟩
  obtain ⟨s3, hs3⟩ : ∃ a, a = s2 ++ bDots := ⟨_, rfl⟩
  obtain ⟨s4, hs4⟩ : ∃ a, a = s3 ++ ah := ⟨_, rfl⟩
  have HCL : Hid ((∀ w', Below w.heap.size w w' → Calls Tryd.prog 41 #[.int .i64 lo] w' (Below0 w' (Sv al))) ∧ (∀ w', Below w.heap.size w w' → Calls Tryd.prog 41 #[.int .i64 hi] w' (Below0 w' (Sv ah)))) := by
    rw [hal, hah]
    exact ⟨fun w' h => itoa_any w' lo (by omega) (by omega) (hT.below h), fun w' h => itoa_any w' hi (by omega) (by omega) (hT.below h)⟩
  rw [← hal] at l1
  rw [← hah] at l2
  have HADD : Hid ((∀ w, (binOp .add 9 (Sv key) (.string ⟨#[32]⟩)).run Tryd.prog w = .ok (Sv s1) w) ∧ (∀ w, (binOp .add 9 (Sv s1) (Sv al)).run Tryd.prog w = .ok (Sv s2) w) ∧
      (∀ w, (binOp .add 9 (Sv s2) (.string ⟨#[46, 46]⟩)).run Tryd.prog w = .ok (Sv s3) w) ∧ (∀ w, (binOp .add 9 (Sv s3) (Sv ah)).run Tryd.prog w = .ok (Sv s4) w)) := by
    have e1 : bBlank.length = 1 := rfl
    have e2 : bDots.length = 2 := rfl
    have l4 : s1.length = key.length + bBlank.length := by rw [hs1, List.length_append]
    have l5 : s2.length = s1.length + al.length := by rw [hs2, List.length_append]
    have l6 : s3.length = s2.length + bDots.length := by rw [hs3, List.length_append]
    exact ⟨fun w => by rw [hs1]; exact run_add_Sv w key bBlank (by omega), fun w => by rw [hs2]; exact run_add_Sv w _ _ (by omega), fun w => by rw [hs3]; exact run_add_Sv w s2 bDots (by omega), fun w => by rw [hs4]; exact run_add_Sv w _ _ (by omega)⟩
  have htext : (WindowL.mk key lo hi).text = s4 := by rw [hs4, hs3, hs2, hs1, hal, hah]; rfl
  rw [htext]
  unfold WindowL.cells at hw1 HC ⊢
  clear htext hT hal hah hs1 hs2 hs3 hs4 l1 l2 n1 n2 n3 n4 n5 n6 n7
  unfold WindowL.cells at HR
  have c0 : w1.cell? ⟨w.heap.size, 0, none⟩ = some (Sv key) := HC.out w1 (Below.refl _ w1) 0 _ rfl
  have c1 : w1.cell? ⟨w.heap.size, 1, none⟩ = some (.int .i64 lo) := HC.out w1 (Below.refl _ w1) 1 _ rfl
  have c2 : w1.cell? ⟨w.heap.size, 2, none⟩ = some (.int .i64 hi) := HC.out w1 (Below.refl _ w1) 2 _ rfl
  go_enter Tryd.func18, Tryd.ntmps18
  go_upto_region 1 with (fail)
  rw [← hw1]
  clear hw1
  go_wp2_with (fail)
  refine HR.out.mono ?_
  rintro e w4 ⟨rfl, hB4⟩
  have HG0 : Hid (Below w1.heap.size w1 w4.drew) := Lib.hid (hB4.drew)
  clear hB4 c0 c1 c2
  dsimp only
  go_upto_region 3 with (fail)
  refine wp_region_seq_frame (by kernel_rfl) [none, none, none, none, none, none, none, none, none, none, none, none, none] [] (vOfC [.pointer (some ⟨w.heap.size, 0, none⟩), Sv key, Sv s1, .pointer (some ⟨w.heap.size, 1, none⟩), .int .i64 lo, Sv al, Sv s2, Sv s3, .pointer (some ⟨w.heap.size, 2, none⟩), .int .i64 hi, Sv ah, Sv s4, Sv s4]) (fun _ w' => Below w1.heap.size w1 w') (fun _ _ => True) (fun _ _ _ _ _ h => h) (by kernel_rfl) (by kernel_rfl) (by kernel_rfl) HG0.out ⟨trivial, trivial, trivial, trivial, trivial, trivial, trivial, trivial, trivial, trivial, trivial, trivial, trivial, trivial⟩ ?_ ?_
  · refine ⟨?_, ?_, ?_, ?_, ?_, ?_, ?_, ?_, ?_, ?_, ?_, ?_, ?_, trivial⟩
    · intro k a w' hG hout hpre K hK
      have q1 := ev_of ((hout 1 rfl).trans (show _ = .pointer (some ⟨w.heap.size, 0, none⟩) from rfl))
      clear hout hpre
      go_step
      exact hK _ _ rfl hG trivial
    · intro k a w' hG hout hpre K hK
      obtain ⟨p0, _⟩ := hpre
      have q6 := ev_of (show a.eval (.tmp 6) = .pointer (some ⟨w.heap.size, 0, none⟩) from p0)
      have hc : w'.cell? ⟨w.heap.size, 0, none⟩ = some (Sv key) := HC.out w' hG 0 _ rfl
      clear hout p0
      go_step
      exact hK _ _ rfl hG trivial
    · intro k a w' hG hout hpre K hK
      obtain ⟨p0, _⟩ := hpre
      have q7 := ev_of (show a.eval (.tmp 7) = Sv key from p0)
      have hadd := HADD.out.1
      clear hout p0
      go_step
      exact hK _ _ rfl hG trivial
    · intro k a w' hG hout hpre K hK
      have q1 := ev_of ((hout 1 rfl).trans (show _ = .pointer (some ⟨w.heap.size, 0, none⟩) from rfl))
      clear hout hpre
      go_step
      exact hK _ _ rfl hG trivial
    · intro k a w' hG hout hpre K hK
      obtain ⟨p0, _⟩ := hpre
      have q9 := ev_of (show a.eval (.tmp 9) = .pointer (some ⟨w.heap.size, 1, none⟩) from p0)
      have hc : w'.cell? ⟨w.heap.size, 1, none⟩ = some (.int .i64 lo) := HC.out w' hG 1 _ rfl
      clear hout p0
      go_step
      exact hK _ _ rfl hG trivial
    · intro k a w' hG hout hpre K hK
      obtain ⟨p0, _⟩ := hpre
      have q10 := ev_of (show a.eval (.tmp 10) = .int .i64 lo from p0)
      have HS := Lib.hid (HCL.out.1 w' (HB.out.trans (hG.mono HB.out.size)))
      clear hout p0
      go_step
      refine HS.out.mono ?_
      rintro e w3 ⟨rfl, hB⟩
      exact hK _ _ rfl (hG.trans (hB.mono hG.size)) trivial
    · intro k a w' hG hout hpre K hK
      obtain ⟨p0, p1, _⟩ := hpre
      have q8 := ev_of (show a.eval (.tmp 8) = Sv s1 from p0)
      have q11 := ev_of (show a.eval (.tmp 11) = Sv al from p1)
      have hadd := HADD.out.2.1
      clear hout p0 p1
      go_step
      exact hK _ _ rfl hG trivial
    · intro k a w' hG hout hpre K hK
      obtain ⟨p0, _⟩ := hpre
      have q12 := ev_of (show a.eval (.tmp 12) = Sv s2 from p0)
      have hadd := HADD.out.2.2.1
      clear hout p0
      go_step
      exact hK _ _ rfl hG trivial
    · intro k a w' hG hout hpre K hK
      have q1 := ev_of ((hout 1 rfl).trans (show _ = .pointer (some ⟨w.heap.size, 0, none⟩) from rfl))
      clear hout hpre
      go_step
      exact hK _ _ rfl hG trivial
    · intro k a w' hG hout hpre K hK
      obtain ⟨p0, _⟩ := hpre
      have q14 := ev_of (show a.eval (.tmp 14) = .pointer (some ⟨w.heap.size, 2, none⟩) from p0)
      have hc : w'.cell? ⟨w.heap.size, 2, none⟩ = some (.int .i64 hi) := HC.out w' hG 2 _ rfl
      clear hout p0
      go_step
      exact hK _ _ rfl hG trivial
    · intro k a w' hG hout hpre K hK
      obtain ⟨p0, _⟩ := hpre
      have q15 := ev_of (show a.eval (.tmp 15) = .int .i64 hi from p0)
      have HS := Lib.hid (HCL.out.2 w' (HB.out.trans (hG.mono HB.out.size)))
      clear hout p0
      go_step
      refine HS.out.mono ?_
      rintro e w3 ⟨rfl, hB⟩
      exact hK _ _ rfl (hG.trans (hB.mono hG.size)) trivial
    · intro k a w' hG hout hpre K hK
      obtain ⟨p0, p1, _⟩ := hpre
      have q13 := ev_of (show a.eval (.tmp 13) = Sv s3 from p0)
      have q16 := ev_of (show a.eval (.tmp 16) = Sv ah from p1)
      have hadd := HADD.out.2.2.2
      clear hout p0 p1
      go_step
      exact hK _ _ rfl hG trivial
    · intro k a w' hG hout hpre K hK
      obtain ⟨p0, _⟩ := hpre
      have q17 := ev_of (show a.eval (.tmp 17) = Sv s4 from p0)
      clear hout p0
      go_step
      exact hK _ _ rfl hG trivial
  · intro vs w2 hG hlen hV
    match vs, hlen, hV with
    | [v0, v1, v2, v3, v4, v5, v6, v7, v8, v9, v10, v11, v12], _, hV =>
      obtain rfl : v12 = Sv s4 := hV 12 2 v12 rfl rfl
      clear hV
      simp only [putsL, List.tail_cons, List.headD_cons]
      simp only [Act.put, List.setIfInBounds_toArray, List.set_cons_succ, List.set_cons_zero]
      have HZ : Hid (Below w.heap.size w w2) := HB.out.trans (hG.mono HB.out.size)
      clear hG
      go_wp2_with (fail)
      go_ret
      exact ⟨rfl, HZ.out⟩
theorem wtextP_any (w : World) (x : WindowL) (hl : x.key.length ≤ 1000000) (hT : PowTab w) : Calls Tryd.prog 18 #[.agg x.cells] w (Below0 w (Sv x.told)) := by
  cases hr : x.rightB with
  | false =>
    rw [WindowL.told, hr]
    exact wtext_no w x hl hr
  | true =>
    rw [WindowL.told, hr]
    exact wtext_yes w x hr hT
end Go.Proofs.YtkgmcjeficgciaaDoor
