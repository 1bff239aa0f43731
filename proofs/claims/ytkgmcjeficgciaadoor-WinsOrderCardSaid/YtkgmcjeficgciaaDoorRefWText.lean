/-
  The contracts of the reference's Text and Bytes: a right window's.
-/
import Derived.Test.YtkgmcjeficgciaaDoorRefW
import Derived.Test.YtkgmcjeficgciaaDoorLocal
namespace Go.Proofs.YtkgmcjeficgciaaDoor
open Go Go.RowKit

set_option maxRecDepth 100000 in
set_option maxHeartbeats 1000000 in
theorem rwText_yes (w : World) (x : WindowL) (hr : x.rightB = true) (hT : PowTab w) :
    Calls Tryd.prog 16 #[.agg x.cells] w (Below0 w (Sv x.text)) := by
  obtain ⟨n1, n2, n3, n4, n5, n6, n7⟩ := rightW_cases hr
  obtain ⟨w1, hw1⟩ : ∃ W, W = w.alloc (.cells x.cells 31) := ⟨_, rfl⟩
  have HB : Hid (Below w.heap.size w w1) := by rw [hw1]; exact (Below.refl _ w).alloc (Nat.le_refl _) _
  have HC : Hid (∀ w', Below w1.heap.size w1 w' → ∀ i v, x.cells[i]? = some v → w'.cell? ⟨w.heap.size, i, none⟩ = some v) := by rw [hw1]; exact Lib.hid (boxW_cells w x)
  clear hr
  obtain ⟨key, lo, hi⟩ := x
  simp only at n1 n2 n3 n4 n5 n6 n7
  have l1 := itoaL_length lo (by omega)
  have l2 := itoaL_length hi (by omega)
  obtain ⟨al, hal⟩ : ∃ a, a = itoaL lo := ⟨_, rfl⟩
  obtain ⟨ah, hah⟩ : ∃ a, a = itoaL hi := ⟨_, rfl⟩
  obtain ⟨s1, hs1⟩ : ∃ a, a = key ++ bBlank := ⟨_, rfl⟩
  obtain ⟨s2, hs2⟩ : ∃ a, a = s1 ++ al := ⟨_, rfl⟩
  obtain ⟨s3, hs3⟩ : ∃ a, a = s2 ++ bDots := ⟨_, rfl⟩
  obtain ⟨s4, hs4⟩ : ∃ a, a = s3 ++ ah := ⟨_, rfl⟩
  have HCL : Hid ((∀ w', Below w.heap.size w w' → Calls Tryd.prog 41 #[.int .i64 lo] w' (Below0 w' (Sv al))) ∧ (∀ w', Below w.heap.size w w' → Calls Tryd.prog 41 #[.int .i64 hi] w' (Below0 w' (Sv ah)))) := by
    rw [hal, hah]
    exact ⟨fun w' h => itoa_any w' lo (by omega) (by omega) (hT.below h), fun w' h => itoa_any w' hi (by omega) (by omega) (hT.below h)⟩
  rw [← hal] at l1
  rw [← hah] at l2
  have HADD : Hid ((∀ w, (binOp .add 9 (Sv key) (.string ⟨#[32]⟩)).run Tryd.prog w = .ok (Sv s1) w) ∧ (∀ w, (binOp .add 9 (Sv s1) (Sv al)).run Tryd.prog w = .ok (Sv s2) w) ∧
      (∀ w, (binOp .add 9 (Sv s2) (.string ⟨#[46, 46]⟩)).run Tryd.prog w = .ok (Sv s3) w) ∧ (∀ w, (binOp .add 9 (Sv s3) (Sv ah)).run Tryd.prog w = .ok (Sv s4) w)) := by
    have e1 : bBlank.length = 1 := rfl
    have e2 : bDots.length = 2 := rfl
    have l4 : s1.length = key.length + bBlank.length := by rw [hs1, List.length_append]
    have l5 : s2.length = s1.length + al.length := by rw [hs2, List.length_append]
    have l6 : s3.length = s2.length + bDots.length := by rw [hs3, List.length_append]
    exact ⟨fun w => by rw [hs1]; exact run_add_Sv w key bBlank (by omega), fun w => by rw [hs2]; exact run_add_Sv w _ _ (by omega), fun w => by rw [hs3]; exact run_add_Sv w s2 bDots (by omega), fun w => by rw [hs4]; exact run_add_Sv w _ _ (by omega)⟩
  have htext : (WindowL.mk key lo hi).text = s4 := by rw [hs4, hs3, hs2, hs1, hal, hah]; rfl
  rw [htext]
  unfold WindowL.cells at hw1 HC ⊢
  clear htext hT hal hah hs1 hs2 hs3 hs4 l1 l2 n1 n2 n3 n4 n5 n6 n7
  go_enter Tryd.func16, Tryd.ntmps16
  go_upto_region 1 with (fail)
  rw [← hw1]
  clear hw1
  have HG0 : Hid (Below w1.heap.size w1 w1.drew) := (Below.refl _ w1).drew
  refine wp_region_seq_frame (by kernel_rfl) [none, none, none, none, none, none, none, none, none, none, none, none, none] [] (vOfC [.pointer (some ⟨w.heap.size, 0, none⟩), Sv key, Sv s1, .pointer (some ⟨w.heap.size, 1, none⟩), .int .i64 lo, Sv al, Sv s2, Sv s3, .pointer (some ⟨w.heap.size, 2, none⟩), .int .i64 hi, Sv ah, Sv s4, Sv s4]) (fun _ w' => Below w1.heap.size w1 w') (fun _ _ => True) (fun _ _ _ _ _ h => h) (by kernel_rfl) (by kernel_rfl) (by kernel_rfl) HG0.out ⟨trivial, trivial, trivial, trivial, trivial, trivial, trivial, trivial, trivial, trivial, trivial, trivial, trivial, trivial⟩ ?_ ?_
  · refine ⟨?_, ?_, ?_, ?_, ?_, ?_, ?_, ?_, ?_, ?_, ?_, ?_, ?_, trivial⟩
    · intro k a w' hG hout hpre K hK
      have q1 := ev_of ((hout 1 rfl).trans (show _ = .pointer (some ⟨w.heap.size, 0, none⟩) from rfl))
      clear hout hpre
      go_step
      exact hK _ _ rfl hG trivial
    · intro k a w' hG hout hpre K hK
      obtain ⟨p0, _⟩ := hpre
      have q3 := ev_of (show a.eval (.tmp 3) = .pointer (some ⟨w.heap.size, 0, none⟩) from p0)
      have hc : w'.cell? ⟨w.heap.size, 0, none⟩ = some (Sv key) := HC.out w' hG 0 _ rfl
      clear hout p0
      go_step
      exact hK _ _ rfl hG trivial
    · intro k a w' hG hout hpre K hK
      obtain ⟨p0, _⟩ := hpre
      have q4 := ev_of (show a.eval (.tmp 4) = Sv key from p0)
      have hadd := HADD.out.1
      clear hout p0
      go_step
      exact hK _ _ rfl hG trivial
    · intro k a w' hG hout hpre K hK
      have q1 := ev_of ((hout 1 rfl).trans (show _ = .pointer (some ⟨w.heap.size, 0, none⟩) from rfl))
      clear hout hpre
      go_step
      exact hK _ _ rfl hG trivial
    · intro k a w' hG hout hpre K hK
      obtain ⟨p0, _⟩ := hpre
      have q6 := ev_of (show a.eval (.tmp 6) = .pointer (some ⟨w.heap.size, 1, none⟩) from p0)
      have hc : w'.cell? ⟨w.heap.size, 1, none⟩ = some (.int .i64 lo) := HC.out w' hG 1 _ rfl
      clear hout p0
      go_step
      exact hK _ _ rfl hG trivial
    · intro k a w' hG hout hpre K hK
      obtain ⟨p0, _⟩ := hpre
      have q7 := ev_of (show a.eval (.tmp 7) = .int .i64 lo from p0)
      have HS := Lib.hid (HCL.out.1 w' (HB.out.trans (hG.mono HB.out.size)))
      clear hout p0
      go_step
      refine HS.out.mono ?_
      rintro e w3 ⟨rfl, hB⟩
      exact hK _ _ rfl (hG.trans (hB.mono hG.size)) trivial
    · intro k a w' hG hout hpre K hK
      obtain ⟨p0, p1, _⟩ := hpre
      have q5 := ev_of (show a.eval (.tmp 5) = Sv s1 from p0)
      have q8 := ev_of (show a.eval (.tmp 8) = Sv al from p1)
      have hadd := HADD.out.2.1
      clear hout p0 p1
      go_step
      exact hK _ _ rfl hG trivial
    · intro k a w' hG hout hpre K hK
      obtain ⟨p0, _⟩ := hpre
      have q9 := ev_of (show a.eval (.tmp 9) = Sv s2 from p0)
      have hadd := HADD.out.2.2.1
      clear hout p0
      go_step
      exact hK _ _ rfl hG trivial
    · intro k a w' hG hout hpre K hK
      have q1 := ev_of ((hout 1 rfl).trans (show _ = .pointer (some ⟨w.heap.size, 0, none⟩) from rfl))
      clear hout hpre
      go_step
      exact hK _ _ rfl hG trivial
    · intro k a w' hG hout hpre K hK
      obtain ⟨p0, _⟩ := hpre
      have q11 := ev_of (show a.eval (.tmp 11) = .pointer (some ⟨w.heap.size, 2, none⟩) from p0)
      have hc : w'.cell? ⟨w.heap.size, 2, none⟩ = some (.int .i64 hi) := HC.out w' hG 2 _ rfl
      clear hout p0
      go_step
      exact hK _ _ rfl hG trivial
    · intro k a w' hG hout hpre K hK
      obtain ⟨p0, _⟩ := hpre
      have q12 := ev_of (show a.eval (.tmp 12) = .int .i64 hi from p0)
      have HS := Lib.hid (HCL.out.2 w' (HB.out.trans (hG.mono HB.out.size)))
      clear hout p0
      go_step
      refine HS.out.mono ?_
      rintro e w3 ⟨rfl, hB⟩
      exact hK _ _ rfl (hG.trans (hB.mono hG.size)) trivial
    · intro k a w' hG hout hpre K hK
      obtain ⟨p0, p1, _⟩ := hpre
      have q10 := ev_of (show a.eval (.tmp 10) = Sv s3 from p0)
      have q13 := ev_of (show a.eval (.tmp 13) = Sv ah from p1)
      have hadd := HADD.out.2.2.2
      clear hout p0 p1
      go_step
      exact hK _ _ rfl hG trivial
    · intro k a w' hG hout hpre K hK
      obtain ⟨p0, _⟩ := hpre
      have q14 := ev_of (show a.eval (.tmp 14) = Sv s4 from p0)
      clear hout p0
      go_step
      exact hK _ _ rfl hG trivial
  · intro vs w2 hG hlen hV
    match vs, hlen, hV with
    | [v0, v1, v2, v3, v4, v5, v6, v7, v8, v9, v10, v11, v12], _, hV =>
      obtain rfl : v12 = Sv s4 := hV 12 2 v12 rfl rfl
      clear hV
      simp only [putsL, List.tail_cons, List.headD_cons]
      simp only [Act.put, List.setIfInBounds_toArray, List.set_cons_succ, List.set_cons_zero]
      have HZ : Hid (Below w.heap.size w w2) := HB.out.trans (hG.mono HB.out.size)
      clear hG
      go_wp2_with (fail)
      go_ret
      exact ⟨rfl, HZ.out⟩
set_option maxRecDepth 100000 in
set_option maxHeartbeats 1000000 in
theorem rwBytes_yes (w : World) (x : WindowL) (hr : x.rightB = true) :
    Calls Tryd.prog 25 #[.agg x.cells] w (Below0 w (Sv x.bytes)) := by
  obtain ⟨n1, n2, n3, n4, n5, n6, n7⟩ := rightW_cases hr
  obtain ⟨w1, hw1⟩ : ∃ W, W = w.alloc (.cells x.cells 31) := ⟨_, rfl⟩
  have HB : Hid (Below w.heap.size w w1) := by rw [hw1]; exact (Below.refl _ w).alloc (Nat.le_refl _) _
  have HC : Hid (∀ w', Below w1.heap.size w1 w' → ∀ i v, x.cells[i]? = some v → w'.cell? ⟨w.heap.size, i, none⟩ = some v) := by rw [hw1]; exact Lib.hid (boxW_cells w x)
  clear hr
  obtain ⟨key, lo, hi⟩ := x
  simp only at n1 n2 n3 n4 n5 n6 n7
  obtain ⟨nl, rfl⟩ : ∃ n : Nat, lo = (n : Int) := ⟨lo.toNat, by omega⟩
  obtain ⟨nd, hnd⟩ : ∃ n : Nat, hi - (nl : Int) = (n : Int) := ⟨(hi - (nl : Int)).toNat, by omega⟩
  have hnl9 : nl < 9223372036854775808 := by omega
  have hnd9 : nd < 9223372036854775808 := by omega
  have l1 := wordL_length nl
  have l2 := wordL_length nd
  have l0 : (textL key).length ≤ 10 + key.length := by have := wordL_length key.length; rw [textL, List.length_append]; omega
  obtain ⟨a0, ha0⟩ : ∃ a, a = textL key := ⟨_, rfl⟩
  obtain ⟨a1, ha1⟩ : ∃ a, a = wordL nl := ⟨_, rfl⟩
  obtain ⟨a2, ha2⟩ : ∃ a, a = wordL nd := ⟨_, rfl⟩
  obtain ⟨s2, hs2⟩ : ∃ a, a = a0 ++ a1 := ⟨_, rfl⟩
  obtain ⟨s4, hs4⟩ : ∃ a, a = s2 ++ a2 := ⟨_, rfl⟩
  have HCL : Hid ((∀ w', Calls Tryd.prog 47 #[Sv key] w' (Below0 w' (Sv a0))) ∧ (∀ w', Calls Tryd.prog 48 #[.int .i64 (nl : Int)] w' (Below0 w' (Sv a1))) ∧ (∀ w', Calls Tryd.prog 48 #[.int .i64 (hi - (nl : Int))] w' (Below0 w' (Sv a2)))) := by
    rw [ha0, ha1, ha2, hnd]
    exact ⟨fun w' => rpText_any w' key (by omega), fun w' => rpNumber_any w' nl hnl9, fun w' => rpNumber_any w' nd hnd9⟩
  rw [← ha0] at l0
  rw [← ha1] at l1
  rw [← ha2] at l2
  have HADD : Hid ((∀ w, (binOp .add 9 (Sv a0) (Sv a1)).run Tryd.prog w = .ok (Sv s2) w) ∧ (∀ w, (binOp .add 9 (Sv s2) (Sv a2)).run Tryd.prog w = .ok (Sv s4) w)) := by
    have l5 : s2.length = a0.length + a1.length := by rw [hs2, List.length_append]
    exact ⟨fun w => by rw [hs2]; exact run_add_Sv w _ _ (by omega), fun w => by rw [hs4]; exact run_add_Sv w _ _ (by omega)⟩
  have htext : (WindowL.mk key (nl : Int) hi).bytes = s4 := by rw [hs4, hs2, ha0, ha1, ha2, WindowL.bytes]; simp only [hnd]; rfl
  have HSub : Hid (0 ≤ hi - (nl : Int) ∧ hi - (nl : Int) ≤ 4398046511104) := Lib.hid (by omega)
  rw [htext]
  unfold WindowL.cells at hw1 HC ⊢
  clear htext ha0 ha1 ha2 hs2 hs4 l0 l1 l2 n1 n2 n3 n4 n5 n6 n7 hnd hnl9 hnd9
  go_enter Tryd.func25, Tryd.ntmps25
  go_upto_region 1 with (fail)
  rw [← hw1]
  clear hw1
  have HG0 : Hid (Below w1.heap.size w1 w1.drew) := (Below.refl _ w1).drew
  refine wp_region_seq_frame (by kernel_rfl) [none, none, none, none, none, none, none, none, none, none, none, none, none, none, none] [] (vOfC [.pointer (some ⟨w.heap.size, 0, none⟩), Sv key, Sv a0, .pointer (some ⟨w.heap.size, 1, none⟩), .int .i64 (nl : Int), Sv a1, Sv s2, .pointer (some ⟨w.heap.size, 2, none⟩), .int .i64 hi, .pointer (some ⟨w.heap.size, 1, none⟩), .int .i64 (nl : Int), .int .i64 (hi - (nl : Int)), Sv a2, Sv s4, Sv s4]) (fun _ w' => Below w1.heap.size w1 w') (fun _ _ => True) (fun _ _ _ _ _ h => h) (by kernel_rfl) (by kernel_rfl) (by kernel_rfl) HG0.out ⟨trivial, trivial, trivial, trivial, trivial, trivial, trivial, trivial, trivial, trivial, trivial, trivial, trivial, trivial, trivial, trivial⟩ ?_ ?_
  · refine ⟨?_, ?_, ?_, ?_, ?_, ?_, ?_, ?_, ?_, ?_, ?_, ?_, ?_, ?_, ?_, trivial⟩
    · intro k a w' hG hout hpre K hK
      have q1 := ev_of ((hout 1 rfl).trans (show _ = .pointer (some ⟨w.heap.size, 0, none⟩) from rfl))
      clear hout hpre
      go_step
      exact hK _ _ rfl hG trivial
    · intro k a w' hG hout hpre K hK
      obtain ⟨p0, _⟩ := hpre
      have q3 := ev_of (show a.eval (.tmp 3) = .pointer (some ⟨w.heap.size, 0, none⟩) from p0)
      have hc : w'.cell? ⟨w.heap.size, 0, none⟩ = some (Sv key) := HC.out w' hG 0 _ rfl
      clear hout p0
      go_step
      exact hK _ _ rfl hG trivial
    · intro k a w' hG hout hpre K hK
      obtain ⟨p0, _⟩ := hpre
      have q4 := ev_of (show a.eval (.tmp 4) = Sv key from p0)
      have HS := Lib.hid (HCL.out.1 w')
      clear hout p0
      go_step
      refine HS.out.mono ?_
      rintro e w3 ⟨rfl, hB⟩
      exact hK _ _ rfl (hG.trans (hB.mono hG.size)) trivial
    · intro k a w' hG hout hpre K hK
      have q1 := ev_of ((hout 1 rfl).trans (show _ = .pointer (some ⟨w.heap.size, 0, none⟩) from rfl))
      clear hout hpre
      go_step
      exact hK _ _ rfl hG trivial
    · intro k a w' hG hout hpre K hK
      obtain ⟨p0, _⟩ := hpre
      have q6 := ev_of (show a.eval (.tmp 6) = .pointer (some ⟨w.heap.size, 1, none⟩) from p0)
      have hc : w'.cell? ⟨w.heap.size, 1, none⟩ = some (.int .i64 (nl : Int)) := HC.out w' hG 1 _ rfl
      clear hout p0
      go_step
      exact hK _ _ rfl hG trivial
    · intro k a w' hG hout hpre K hK
      obtain ⟨p0, _⟩ := hpre
      have q7 := ev_of (show a.eval (.tmp 7) = .int .i64 (nl : Int) from p0)
      have HS := Lib.hid (HCL.out.2.1 w')
      clear hout p0
      go_step
      refine HS.out.mono ?_
      rintro e w3 ⟨rfl, hB⟩
      exact hK _ _ rfl (hG.trans (hB.mono hG.size)) trivial
    · intro k a w' hG hout hpre K hK
      obtain ⟨p0, p1, _⟩ := hpre
      have q5 := ev_of (show a.eval (.tmp 5) = Sv a0 from p0)
      have q8 := ev_of (show a.eval (.tmp 8) = Sv a1 from p1)
      have hadd := HADD.out.1
      clear hout p0 p1
      go_step
      exact hK _ _ rfl hG trivial
    · intro k a w' hG hout hpre K hK
      have q1 := ev_of ((hout 1 rfl).trans (show _ = .pointer (some ⟨w.heap.size, 0, none⟩) from rfl))
      clear hout hpre
      go_step
      exact hK _ _ rfl hG trivial
    · intro k a w' hG hout hpre K hK
      obtain ⟨p0, _⟩ := hpre
      have q10 := ev_of (show a.eval (.tmp 10) = .pointer (some ⟨w.heap.size, 2, none⟩) from p0)
      have hc : w'.cell? ⟨w.heap.size, 2, none⟩ = some (.int .i64 hi) := HC.out w' hG 2 _ rfl
      clear hout p0
      go_step
      exact hK _ _ rfl hG trivial
    · intro k a w' hG hout hpre K hK
      have q1 := ev_of ((hout 1 rfl).trans (show _ = .pointer (some ⟨w.heap.size, 0, none⟩) from rfl))
      clear hout hpre
      go_step
      exact hK _ _ rfl hG trivial
    · intro k a w' hG hout hpre K hK
      obtain ⟨p0, _⟩ := hpre
      have q12 := ev_of (show a.eval (.tmp 12) = .pointer (some ⟨w.heap.size, 1, none⟩) from p0)
      have hc : w'.cell? ⟨w.heap.size, 1, none⟩ = some (.int .i64 (nl : Int)) := HC.out w' hG 1 _ rfl
      clear hout p0
      go_step
      exact hK _ _ rfl hG trivial
    · intro k a w' hG hout hpre K hK
      obtain ⟨p0, p1, _⟩ := hpre
      have q11 := ev_of (show a.eval (.tmp 11) = .int .i64 hi from p0)
      have q13 := ev_of (show a.eval (.tmp 13) = .int .i64 (nl : Int) from p1)
      obtain ⟨hs0, hs1⟩ := HSub.out
      clear hout p0 p1
      go_step
      exact hK _ _ (by go_num) hG trivial
    · intro k a w' hG hout hpre K hK
      obtain ⟨p0, _⟩ := hpre
      have q14 := ev_of (show a.eval (.tmp 14) = .int .i64 (hi - (nl : Int)) from p0)
      have HS := Lib.hid (HCL.out.2.2 w')
      clear hout p0
      go_step
      refine HS.out.mono ?_
      rintro e w3 ⟨rfl, hB⟩
      exact hK _ _ rfl (hG.trans (hB.mono hG.size)) trivial
    · intro k a w' hG hout hpre K hK
      obtain ⟨p0, p1, _⟩ := hpre
      have q9 := ev_of (show a.eval (.tmp 9) = Sv s2 from p0)
      have q15 := ev_of (show a.eval (.tmp 15) = Sv a2 from p1)
      have hadd := HADD.out.2
      clear hout p0 p1
      go_step
      exact hK _ _ rfl hG trivial
    · intro k a w' hG hout hpre K hK
      obtain ⟨p0, _⟩ := hpre
      have q16 := ev_of (show a.eval (.tmp 16) = Sv s4 from p0)
      clear hout p0
      go_step
      exact hK _ _ rfl hG trivial
  · intro vs w2 hG hlen hV
    match vs, hlen, hV with
    | [v0, v1, v2, v3, v4, v5, v6, v7, v8, v9, v10, v11, v12, v13, v14], _, hV =>
      obtain rfl : v14 = Sv s4 := hV 14 2 v14 rfl rfl
      clear hV
      simp only [putsL, List.tail_cons, List.headD_cons]
      simp only [Act.put, List.setIfInBounds_toArray, List.set_cons_succ, List.set_cons_zero]
      have HZ : Hid (Below w.heap.size w w2) := HB.out.trans (hG.mono HB.out.size)
      clear hG
      go_wp2_with (fail)
      go_ret
      exact ⟨rfl, HZ.out⟩
end Go.Proofs.YtkgmcjeficgciaaDoor
