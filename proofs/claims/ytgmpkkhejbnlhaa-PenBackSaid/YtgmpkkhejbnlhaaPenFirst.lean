/-
  The contract of the law's 'first'.
-/
import Derived.Test.YtgmpkkhejbnlhaaPenPen
import Derived.Test.YtgmpkkhejbnlhaaReadMore
import Derived.Test.YtgmpkkhejbnlhaaRegOps
namespace Go.Proofs.Ytgmpkkhejbnlhaa
open Go Go.RowKit

def L7 : List (BitVec 8) := [172, 2, 1, 2, 97, 98, 99]
def M2 : List (BitVec 8) := [97, 98]
def M1 : List (BitVec 8) := [99]
theorem first_l1 : wordL 300 = [172, 2] := by decide +kernel
theorem first_l2 : signedL (-1) = [1] := by decide +kernel
theorem first_l3 : textL [97, 98] = [2, 97, 98] := by decide +kernel
def T0 : TapeL := ⟨L7, 0⟩
def T1 : TapeL := ⟨[1, 2, 97, 98, 99], 0⟩
def T2 : TapeL := ⟨[2, 97, 98, 99], 0⟩
def T3 : TapeL := ⟨[99], 0⟩
def T4 : TapeL := ⟨[], 0⟩
def U0 : TapeL := ⟨[128], 0⟩
def U1 : TapeL := ⟨[], 10⟩
theorem first_t1 : T0.number 300 = (300, T1) := by kernel_rfl
theorem first_t2 : T1.signed = (-1, T2) := by kernel_rfl
theorem first_t3 : T2.text 2 = ([97, 98], T3) := by kernel_rfl
theorem first_t4 : T3.fixed 1 = ([99], T4) := by kernel_rfl
theorem first_u1 : U0.number 9 = (0, U1) := by kernel_rfl
theorem first_u2 : U1.number 9 = (0, U1) := by kernel_rfl
set_option maxRecDepth 100000 in
set_option maxHeartbeats 2000000 in
theorem pfirst_any (w : World) : Calls Try.prog 6 #[] w (Below0 w (.bool true)) := by
  obtain ⟨P, hP⟩ : ∃ P : Ending → World → Prop, P = Below0 w (.bool true) := ⟨_, rfl⟩
  rw [← hP]
  have HP := Lib.hid hP
  clear hP
  obtain ⟨W0, hW0⟩ : ∃ W0, W0 = w.alloc (.cells #[.slice none 0 0] 27) := ⟨_, rfl⟩
  obtain ⟨b, hb⟩ : ∃ b, b = w.heap.size := ⟨_, rfl⟩
  have p0 : PenAt (· < b) W0 b [] := by rw [hW0, hb]; exact PenAt.new _ w
  have s0 : b < W0.heap.size := by rw [hW0, hb]; simp
  have B0 : Below b w W0 := by rw [hW0, hb]; exact (Below.refl _ w).alloc (Nat.le_refl _) _
  have H0 := Lib.hid (And.intro p0 (And.intro s0 B0))
  clear p0 s0 B0
  go_enter Try.func6, Try.ntmps6
  go_upto_region 2 with (fail)
  rw [← hW0, ← hb]
  have HB := Lib.hid hb
  clear hW0 hb
  have HN : Hid (Calls Try.prog 7 #[.pointer (some ⟨b, 0, none⟩), .int .i64 300] W0 (PenEnd (· < b) b W0 ([] ++ wordL 300) (.bool true))) :=
    Lib.hid (pnumber_any W0 (· < b) b 300 [] (by decide) H0.out.1 (fun k hk => Nat.lt_trans hk H0.out.2.1) (by simp))
  go_wp2_with (fail)
  refine HN.out.mono ?_
  rintro e W1 ⟨rfl, p1, k1⟩
  have H1 := Lib.hid (And.intro p1 k1)
  clear p1 k1
  dsimp only
  go_wp2_with (fail)
  refine (pnumber_neg W1 ⟨b, 0, none⟩ (-1) (by decide)).mono ?_
  rintro e w' ⟨rfl, rfl⟩
  dsimp only
  go_wp2_with (fail)
  refine (psigned_any w' (· < b) b (-1) ([] ++ wordL 300) (by decide) (by decide) H1.out.1 (fun k hk => Nat.lt_of_lt_of_le (Nat.lt_trans hk H0.out.2.1) H1.out.2.size) (by rw [first_l1]; decide)).mono ?_
  rintro e W2 ⟨rfl, p2, k2⟩
  have H2 := Lib.hid (And.intro p2 (H1.out.2.trans k2))
  clear p2 k2
  dsimp only
  go_upto_region 4 with (fail)
  refine wp_region_lit ?_
  iterate 3 go_step
  refine wpList_bytes2 rfl rfl 20 rfl (show 20 < 89 by decide) 2 _ rfl rfl [97, 98] rfl (by decide) (by decide) (by kernel_rfl) ?_
  intro g3 W3 hB3 hg3 hr3
  have H3 : Hid (PenAt (fun k => k < b ∨ k = g3) W3 b [172, 2, 1] ∧ (∀ k, (k < b ∨ k = g3) → k < W3.heap.size) ∧ SrcK (fun k => k < b ∨ k = g3) b W3 (some ⟨g3, 0, none⟩) [97, 98] ∧ PKept (· < b) b W0 W3) := by
    obtain ⟨p2, k2⟩ := H2.out
    rw [first_l1, first_l2] at p2
    obtain ⟨fr, hr3⟩ := hr3
    have hl := (Array.getElem?_eq_some_iff.1 hr3).1
    have hb2 := p2.lt
    have hs := hB3.size
    refine ⟨(p2.more _ fun k hk => hk.imp id fun h => (by omega)).below hB3, fun k hk => by omega, .inr ⟨g3, 0, rfl, .inr rfl, by omega, ?_⟩, k2.trans (PKept.of_below hB3)⟩
    rcases src_row hr3 with h | ⟨_, _, h1, h2⟩
    · simp at h
    · injection h1 with h1
      injection h1 with h3 h4
      subst h3 h4
      exact h2
  clear hB3 hg3 hr3
  dsimp only
  go_wp2_with (fail)
  refine (ptext_any W3 (fun k => k < b ∨ k = g3) b 2 2 (some ⟨g3, 0, none⟩) [172, 2, 1] [97, 98] rfl H3.out.2.2.1 (by decide) H3.out.1 H3.out.2.1 (by simp)).mono ?_
  rintro e W4 ⟨rfl, p4, k4⟩
  have H4 : Hid (PenAt (· < b) W4 b [172, 2, 1, 2, 97, 98] ∧ PKept (· < b) b W0 W4) := by
    rw [first_l3] at p4
    exact ⟨p4.mono fun k hk => .inl hk, H3.out.2.2.2.trans (k4.mono fun k hk => .inl hk)⟩
  clear p4 k4
  dsimp only
  go_upto_region 5 with (fail)
  refine wp_region_lit ?_
  iterate 3 go_step
  refine wpList_bytes2 rfl rfl 24 rfl (show 24 < 89 by decide) 1 _ rfl rfl [99] rfl (by decide) (by decide) (by kernel_rfl) ?_
  intro g5 W5 hB5 hg5 hr5
  have H5 : Hid (PenAt (· < b) W5 b [172, 2, 1, 2, 97, 98] ∧ SrcP W5 (some ⟨g5, 0, none⟩) 1 [99] ∧ PKept (· < b) b W0 W5) := by
    obtain ⟨fr, hr5⟩ := hr5
    exact ⟨H4.out.1.below hB5, src_row hr5, H4.out.2.trans (PKept.of_below hB5)⟩
  clear hB5 hg5 hr5
  dsimp only
  go_wp2_with (fail)
  refine (pfixed_any W5 (· < b) b 1 1 (some ⟨g5, 0, none⟩) [172, 2, 1, 2, 97, 98] [99] rfl H5.out.2.1 H5.out.1 (fun k hk => Nat.lt_of_lt_of_le (Nat.lt_trans hk H0.out.2.1) H5.out.2.2.size) (by simp)).mono ?_
  rintro e W6 ⟨rfl, p6, k6⟩
  have H6 : Hid (PenAt (· < b) W6 b L7 ∧ Below b w W6) := by
    have hk := (H5.out.2.2.trans k6).below (B := b) (fun _ h => h) (Nat.le_refl _) (Nat.le_of_lt H0.out.2.1)
    exact ⟨p6, H0.out.2.2.trans hk⟩
  clear p6 k6
  dsimp only
  go_wp2_with (fail)
  refine (pbytes_any W6 (· < b) b L7 H6.out.1 (by decide)).mono ?_
  rintro e W7 ⟨a7, c7, rfl, _, _, hac7, hs7, hB7⟩
  have H7 := Lib.hid (And.intro hac7 (And.intro hs7 hB7))
  clear hac7 hs7 hB7
  dsimp only
  go_wp2_with (fail)
  refine (rread_any W7 a7 c7 7 L7 rfl H7.out.2.1.srcP H7.out.1 (by decide)).mono ?_
  rintro e W8 ⟨r, rfl, hR, hr, hB8⟩
  have H8 : Hid (RdAt W8.heap.size W8 r T0 ∧ W6.heap.size ≤ r ∧ Below W6.heap.size W6 W8) := ⟨hR, Nat.le_trans H7.out.2.2.size hr, H7.out.2.2.trans (hB8.mono H7.out.2.2.size)⟩
  clear hR hr hB8
  dsimp only
  go_wp2_with (fail)
  refine (rnumber_any W8 W8.heap.size r T0 300 H8.out.1).mono ?_
  rintro e W9 ⟨rfl, hR, hg⟩
  rw [first_t1] at hR ⊢
  have H9 := Lib.hid (And.intro hR hg)
  clear hR hg
  dsimp only
  go_wp2_with (fail)
  refine (rsigned_any W9 W8.heap.size r T1 H9.out.1).mono ?_
  rintro e W10 ⟨rfl, hR, hg⟩
  rw [first_t2] at hR ⊢
  have H10 := Lib.hid (And.intro hR (grown_trans H9.out.2 hg))
  clear hR hg
  dsimp only
  go_wp2_with (fail)
  refine (rtext_any W10 W8.heap.size r T2 2 H10.out.1).mono ?_
  rintro e W11 ⟨a11, c11, rfl, hs, hR, hg⟩
  rw [first_t3] at hR hs ⊢
  have H11 := Lib.hid (And.intro hR (And.intro hs (grown_trans H10.out.2 hg)))
  clear hR hs hg
  dsimp only
  go_wp2_with (fail)
  refine (rfixed_any W11 W8.heap.size r T3 1 H11.out.1).mono ?_
  rintro e W12 ⟨a12, c12, rfl, hs, hR, hg⟩
  rw [first_t4] at hR hs ⊢
  have H12 : Hid (RdAt W8.heap.size W12 r T4 ∧ SrcP W12 a11 2 [97, 98] ∧ SrcP W12 a12 1 [99] ∧ PenAt (· < b) W12 b L7 ∧ Below b w W12) := by
    have hrl := H10.out.1.lt
    have hB : Below W6.heap.size W6 W12 := below_own H8.out.2.2 H8.out.2.1 H8.out.2.2.size (grown_trans H11.out.2.2 hg)
    exact ⟨hR, (H11.out.2.1.grown hg hrl).srcP, hs.srcP, H6.out.1.below hB, H6.out.2.trans (hB.mono (by have := H6.out.1.lt; omega))⟩
  clear hs hR hg
  dsimp only
  go_upto_region 8 with (fail)
  refine wp_region_lit ?_
  refine run_slice1_B rfl (.const (.int .u8 128)) rfl 128 rfl ?_
  obtain ⟨W13, hW13⟩ : ∃ W, W = W12.alloc (.cells #[B 128] 5) := ⟨_, rfl⟩
  obtain ⟨g13, hg13⟩ : ∃ g, g = W12.heap.size := ⟨_, rfl⟩
  rw [← hW13, ← hg13]
  have H13 : Hid (SrcP W13 (some ⟨g13, 0, none⟩) 1 [128] ∧ Below W12.heap.size W12 W13) := by
    refine ⟨.inr ⟨g13, 0, rfl, fun i hi => ?_⟩, by rw [hW13]; exact (Below.refl _ _).alloc (Nat.le_refl _) _⟩
    obtain rfl : i = 0 := by omega
    rw [hW13, hg13]
    exact World.cell?_alloc_mark _ _ _ _ _
  clear hW13 hg13
  go_wp2_with (fail)
  refine (rread_any W13 (some ⟨g13, 0, none⟩) 1 1 [128] rfl H13.out.1 (fun h => by cases h) (by decide)).mono ?_
  rintro e W14 ⟨q, rfl, hR, hr, hB⟩
  have H14 : Hid (RdAt W14.heap.size W14 q U0 ∧ W12.heap.size ≤ q ∧ Below W12.heap.size W12 W14) := ⟨hR, Nat.le_trans H13.out.2.size hr, H13.out.2.trans (hB.mono H13.out.2.size)⟩
  clear hR hr hB
  dsimp only
  go_wp2_with (fail)
  refine (rnumber_any W14 W14.heap.size q U0 9 H14.out.1).mono ?_
  rintro e W15 ⟨rfl, hR, hg⟩
  rw [first_u1] at hR ⊢
  have H15 : Hid (RdAt W14.heap.size W15 q U1 ∧ RdAt W8.heap.size W15 r T4 ∧ SrcP W15 a11 2 [97, 98] ∧ SrcP W15 a12 1 [99] ∧ PenAt (· < b) W15 b L7 ∧ Below b w W15) := by
    have hB : Below W12.heap.size W12 W15 := below_own H14.out.2.2 H14.out.2.1 H14.out.2.2.size hg
    obtain ⟨k1, k2, k3, k4, k5⟩ := H12.out
    have hbl := k4.lt
    exact ⟨hR, k1.below hB, k2.below hB, k3.below hB, k4.below hB, k5.trans (hB.mono (by omega))⟩
  clear hR hg
  have hc11 : ∀ w, SrcP w a11 2 [97, 98] → (convert 25 9 (.slice a11 2 c11)).run Try.prog w = .ok (Sv M2) w := fun w h => run_conv_str w a11 c11 [97, 98] h
  have hc12 : ∀ w, SrcP w a12 1 [99] → (convert 25 9 (.slice a12 1 c12)).run Try.prog w = .ok (Sv M1) w := fun w h => run_conv_str w a12 c12 [99] h
  have HC := Lib.hid (And.intro hc11 hc12)
  clear hc11 hc12
  dsimp only
  go_wp2_with (fail)
  refine (pbytes_any W15 (· < b) b L7 H15.out.2.2.2.2.1 (by decide)).mono ?_
  rintro e W16 ⟨a16, c16, rfl, _, _, _, hs16, hB16⟩
  have H16 : Hid (RdAt W14.heap.size W16 q U1 ∧ RdAt W8.heap.size W16 r T4 ∧ Below b w W16) := by
    obtain ⟨k1, k2, k3, k4, k5, k6⟩ := H15.out
    have hbl := k5.lt
    exact ⟨k1.below hB16, k2.below hB16, k6.trans (hB16.mono (by omega))⟩
  have e16 : (convert 25 9 (.slice a16 L7.length c16)).run Try.prog W16 = .ok (Sv L7) W16 := run_conv_str W16 a16 c16 L7 hs16.srcP
  have e11 := HC.out.1 W16 (H15.out.2.2.1.below hB16)
  have e12 := HC.out.2 W16 (H15.out.2.2.2.1.below hB16)
  have q16 : ∀ w, (binOp .eql 9 (Sv L7) (.string ⟨#[172, 2, 1, 2, 97, 98, 99]⟩)).run Try.prog w = .ok (.bool true) w := fun w => run_eql_Sv w L7 L7
  have q11 : ∀ w, (binOp .eql 9 (Sv M2) (.string ⟨#[97, 98]⟩)).run Try.prog w = .ok (.bool true) w := fun w => run_eql_Sv w M2 M2
  have q12 : ∀ w, (binOp .eql 9 (Sv M1) (.string ⟨#[99]⟩)).run Try.prog w = .ok (.bool true) w := fun w => run_eql_Sv w M1 M1
  clear hs16 hB16
  dsimp only
  go_wp2_with (fail)
  refine (rend_any W16 W8.heap.size r T4 H16.out.2.1).mono ?_
  rintro e w1 ⟨rfl, rfl⟩
  have ed : T4.done = 0 := rfl
  rw [ed]
  clear ed
  dsimp only
  go_wp2_with (fail)
  refine (rerr_any w1 W14.heap.size q U1 H16.out.1).mono ?_
  rintro e w2 ⟨rfl, rfl⟩
  have ed : U1.e = 10 := rfl
  rw [ed]
  clear ed
  dsimp only
  go_wp2_with (fail)
  refine (rnumber_any w2 W14.heap.size q U1 9 H16.out.1).mono ?_
  rintro e w3 ⟨rfl, hR, hg⟩
  rw [first_u2]
  have HZ : Hid (Below b w w3) := by
    have hqb : b ≤ q := by
      have := H14.out.2.1
      have := H12.out.2.2.2.1.lt
      omega
    exact below_own H16.out.2.2 hqb (by have := H16.out.1.lt; omega) hg
  clear hR hg
  dsimp only
  go_wp2_with (fail)
  rw [HP.out]
  refine ⟨rfl, ?_⟩
  have := HZ.out
  rw [HB.out] at this
  exact this
end Go.Proofs.Ytgmpkkhejbnlhaa
