/-
  The contract of the law's 'first'.
-/
import Derived.Test.YtoelfjhejfgkiaaDoorGaussParse
import Derived.Test.YtoelfjhejfgkiaaDoorRegOps
namespace Go.Proofs.YtoelfjhejfgkiaaDoor
open Go Go.RowKit

theorem tape_two (a b : Int) (ha : -9223372036854775808 ≤ a ∧ a < 9223372036854775808) (hb : -9223372036854775808 ≤ b ∧ b < 9223372036854775808) :
    (TapeL.mk (signedL a ++ signedL b) 0).signed = (a, ⟨signedL b, 0⟩) ∧ (TapeL.mk (signedL b) 0).signed = (b, ⟨[], 0⟩) := by
  have key : ∀ (n : Int) (r : List (BitVec 8)), -9223372036854775808 ≤ n → n < 9223372036854775808 → (TapeL.mk (signedL n ++ r) 0).signed = (n, ⟨r, 0⟩) := fun n r h1 h2 => by
    rw [TapeL.signed, signedL, tapeWord_ok rfl (rdW_wordL (zig n) r (zig_lt n h1 h2))]
    simp only [zag_zig]
  refine ⟨key a _ ha.1 ha.2, ?_⟩
  have := key b [] hb.1 hb.2
  rw [List.append_nil] at this
  exact this
theorem pair_len (a b : Int) : (signedL a ++ signedL b).length ≤ 20 := by
  have h1 : (signedL a).length ≤ 10 := wordL_length _
  have h2 : (signedL b).length ≤ 10 := wordL_length _
  rw [List.length_append]
  omega
/-- A pen that holds a whole one's bytes: they are read again. -/
theorem got_any (w : World) (X : Nat → Prop) (b : Nat) (u v : Int) (hin : InP u v) (hP : PenAt X w b (signedL u ++ signedL v)) :
    Calls Tryd.prog 26 #[.pointer (some ⟨b, 0, none⟩)] w fun e w1 => ∃ V, e = .returned V ∧ Below w.heap.size w w1 ∧
      Calls Tryd.prog 25 #[V] w1 fun e w2 => ∃ r, e = .returned r ∧ Below w.heap.size w w2 ∧ Calls Tryd.prog 24 #[r] w2 (fun e w3 => e = .returned (numZ u v) ∧ Below w.heap.size w w3) := by
  have hI : -1073741824 ≤ u ∧ u ≤ 1073741824 ∧ -1073741824 ≤ v ∧ v ≤ 1073741824 := hin
  obtain ⟨t1, t2⟩ := tape_two u v (by omega) (by omega)
  have hl := pair_len u v
  obtain ⟨m, hm⟩ : ∃ m, m = signedL u ++ signedL v := ⟨_, rfl⟩
  rw [← hm] at hP t1 hl
  refine (pbytes_any w X b m hP (by omega)).mono ?_
  rintro e w1 ⟨a, c, rfl, h1, h2, h3, h4, h5⟩
  refine ⟨_, rfl, h5, ?_⟩
  refine (rread_any w1 a c m.length m rfl h4.srcP h3 (by omega)).mono ?_
  rintro e w2 ⟨g, rfl, k1, k2, k3⟩
  have hB2 : Below w.heap.size w w2 := h5.trans (k3.mono h5.size)
  refine ⟨_, rfl, hB2, ?_⟩
  refine (get_yes w2 _ g _ _ _ u v k1 t1 t2 rfl hin).mono ?_
  rintro e w3 ⟨rfl, _, hg⟩
  refine ⟨rfl, hB2.trans ⟨hg.os, hg.tape, hg.output, hg.size, fun k hk => hg.block k (Nat.lt_of_lt_of_le hk hB2.size) (fun e => ?_)⟩⟩
  injection e with e
  have := h5.size
  omega
theorem frep_three : FRep 4613937818241073152 3 := ⟨false, 6755399441055744, -51, by kernel_rfl, by decide +kernel⟩
theorem half_no : ¬ (WholeF 4602678819172646912 ∧ WholeF 0) := fun h => by
  have := ((wholeT_iff _).1 h.1).1
  revert this
  decide +kernel
theorem first_text : (Value.string ⟨#[45, 50, 43, 49, 105]⟩) = Sv (bvL (textB (-2) 1)) := by
  have e : textB (-2) 1 = [45, 50, 43, 49, 105] := by
    simp [textB, Lib.itoa, Lib.decDigits, signB]
  rw [e]
  exact Sv_bv _
theorem eql_self (a b : Int) (h : InP a b) (t : TypeId) (w : World) : (binOp .eql t (numZ a b) (numZ a b)).run Tryd.prog w = .ok (.bool true) w := by
  have := (CRep.of a b h).eql (CRep.of a b h) t w
  rw [decide_eq_true ⟨rfl, rfl⟩] at this
  exact this
set_option maxRecDepth 100000 in
set_option maxHeartbeats 2000000 in
theorem gfirst_any (w : World) (hT : PowTab w) : Calls Tryd.prog 6 #[] w (Below0 w (.bool true)) := by
  obtain ⟨P, hP⟩ : ∃ P : Ending → World → Prop, P = Below0 w (.bool true) := ⟨_, rfl⟩
  rw [← hP]
  have HP := Lib.hid hP
  clear hP
  obtain ⟨W0, hW0⟩ : ∃ W0, W0 = w.alloc (.cells #[.slice none 0 0] 50) := ⟨_, rfl⟩
  obtain ⟨b, hb⟩ : ∃ b, b = w.heap.size := ⟨_, rfl⟩
  have p0 : PenAt (· < b) W0 b [] := by rw [hW0, hb]; exact PenAt.new _ w
  have s0 : b < W0.heap.size := by rw [hW0, hb]; simp
  have B0 : Below b w W0 := by rw [hW0, hb]; exact (Below.refl _ w).alloc (Nat.le_refl _) _
  have i12 : InP 1 2 := by decide
  have i21 : InP (-2) 1 := by decide
  have i13 : InP (-1) 3 := by decide
  obtain ⟨Z1, hZ1⟩ : ∃ Z, Z = numZ 1 2 := ⟨_, rfl⟩
  obtain ⟨Z2, hZ2⟩ : ∃ Z, Z = numZ (-2) 1 := ⟨_, rfl⟩
  obtain ⟨Z3, hZ3⟩ : ∃ Z, Z = numZ (-1) 3 := ⟨_, rfl⟩
  have z1 : WholeZ Z1 1 2 := by rw [hZ1]; exact numZ_whole i12
  have z2 : WholeZ Z2 (-2) 1 := by rw [hZ2]; exact numZ_whole i21
  have HO1 : Hid (∀ w, Calls Tryd.prog 9 #[.int .i64 1, .int .i64 2] w fun e w' => e = .returned (.tuple #[Z1, .int .i64 0]) ∧ w' = w) := Lib.hid (fun w => by
    have := of_any w 1 2
    rw [ofV, ofE, if_pos i12, if_pos i12, ← hZ1] at this
    exact this)
  have HO2 : Hid (∀ w, Calls Tryd.prog 9 #[.int .i64 1073741825, .int .i64 0] w fun e w' => e = .returned (.tuple #[zeroZ, .int .i64 20]) ∧ w' = w) := Lib.hid (fun w => by
    have := of_any w 1073741825 0
    rw [ofV, ofE, if_neg (by decide), if_neg (by decide)] at this
    exact this)
  have HT := Lib.hid (fun w => turn_any w 1)
  have HM : Hid (∀ w z, CRep z (turnP 1).1 (turnP 1).2 → Calls Tryd.prog 14 #[Z1, z] w fun e w' => e = .returned (.tuple #[Z2, .int .i64 0]) ∧ w' = w) := Lib.hid (fun w z hz => by
    have := times_yes w Z1 z 1 2 0 1 z1 ⟨hz, by decide⟩
    unfold OpEnd at this
    rw [show (1 : Int) * 0 - 2 * 1 = -2 by decide, show (1 : Int) * 1 + 2 * 0 = 1 by decide, ofV, ofE, if_pos i21, if_pos i21, ← hZ2] at this
    exact this)
  have HA : Hid (∀ w, Calls Tryd.prog 13 #[Z1, Z2] w fun e w' => e = .returned (.tuple #[Z3, .int .i64 0]) ∧ w' = w) := Lib.hid (fun w => by
    have := add_yes w Z1 Z2 1 2 (-2) 1 z1 z2
    unfold OpEnd at this
    rw [show (1 : Int) + -2 = -1 by decide, show (2 : Int) + 1 = 3 by decide, ofV, ofE, if_pos i13, if_pos i13, ← hZ3] at this
    exact this)
  have HQ := Lib.hid (fun w => parts_yes w Z2 (-2) 1 z2)
  have HU := Lib.hid (put_yes W0 (· < b) b [] Z1 1 2 z1 p0 (fun k hk => Nat.lt_trans hk s0) (by simp))
  have HX : Hid (∀ w', Below w.heap.size w w' → Calls Tryd.prog 23 #[.string ⟨#[45, 50, 43, 49, 105]⟩] w' (Below0 w' (.tuple #[Z2, .bool true]))) := Lib.hid (fun w' hB => by
    have := parse_text w' (-2) 1 i21 (hT.below hB)
    rw [← first_text, ← hZ2] at this
    exact this)
  have HN : Hid (∀ w, Calls Tryd.prog 15 #[Z1] w fun e w' => e = .returned (.int .i64 5) ∧ w' = w) := Lib.hid (fun w => norm_yes w Z1 1 2 z1)
  have HS : Hid (∀ w, Calls Tryd.prog 16 #[Z1] w (Below0 w (.int .i64 1))) := Lib.hid (fun w => side_yes w Z1 1 2 z1)
  have HG := Lib.hid (fun w X hP => got_any w X b 1 2 i12 hP)
  simp only [← hZ1] at HG
  have HY : Hid (∀ w', Below w.heap.size w w' → Calls Tryd.prog 17 #[Z2] w' (Below0 w' (.string ⟨#[45, 50, 43, 49, 105]⟩))) := Lib.hid (fun w' hB => by
    have := text_yes w' Z2 (-2) 1 z2 (hT.below hB)
    rw [← first_text] at this
    exact this)
  have HR := Lib.hid (fun w => right_yes w Z1 1 2 z1)
  have HH := Lib.hid (fun w => right_no w 4602678819172646912 0 half_no)
  have q1 : ∀ t w, (binOp .eql t Z1 Z1).run Tryd.prog w = .ok (.bool true) w := fun t w => by rw [hZ1]; exact eql_self _ _ i12 t w
  have q2 : ∀ t w, (binOp .eql t Z2 Z2).run Tryd.prog w = .ok (.bool true) w := fun t w => by rw [hZ2]; exact eql_self _ _ i21 t w
  have q3 : ∀ t w, (binOp .eql t Z3 (.complex .f64 13830554455654793216 4613937818241073152)).run Tryd.prog w = .ok (.bool true) w := fun t w => by
    rw [hZ3]
    exact (CRep.of (-1) 3 i13).eql (k := ⟨_, _, rfl, frep_mone, frep_three⟩) t w
  have q4 : ∀ w, (binOp .eql 9 (.string ⟨#[45, 50, 43, 49, 105]⟩) (.string ⟨#[45, 50, 43, 49, 105]⟩)).run Tryd.prog w = .ok (.bool true) w := fun w => by
    rw [first_text, run_eql_Sv]
    simp
  have g1 : ∀ op t o1 o2 w, (eqGuard op t o1 o2 Z1 Z1).run Tryd.prog w = .ok () w := fun op t o1 o2 w => by rw [hZ1]; cases op <;> rfl
  have g2 : ∀ op t o1 o2 w, (eqGuard op t o1 o2 Z2 Z2).run Tryd.prog w = .ok () w := fun op t o1 o2 w => by rw [hZ2]; cases op <;> rfl
  have g3 : ∀ op t o1 o2 w, (eqGuard op t o1 o2 Z3 (.complex .f64 13830554455654793216 4613937818241073152)).run Tryd.prog w = .ok () w := fun op t o1 o2 w => by rw [hZ3]; cases op <;> rfl
  have HB := Lib.hid (And.intro s0 (And.intro B0 hb))
  clear hZ1 hZ2 hZ3 z1 z2 i12 i21 i13 p0 s0 B0 hT
  go_enter Tryd.func6, Tryd.ntmps6
  go_wp2_with (fail)
  refine (HO1.out _).mono ?_
  rintro e w' ⟨rfl, hw'⟩
  subst w'
  dsimp only
  go_wp2_with (fail)
  refine (HO2.out _).mono ?_
  rintro e w' ⟨rfl, hw'⟩
  subst w'
  dsimp only
  go_wp2_with (fail)
  refine (HT.out _).mono ?_
  rintro e w' ⟨z, rfl, hz, hw'⟩
  subst w'
  have HZ := Lib.hid hz
  clear hz
  dsimp only
  go_wp2_with (fail)
  refine (HM.out _ _ HZ.out).mono ?_
  rintro e w' ⟨rfl, hw'⟩
  subst w'
  clear HZ
  dsimp only
  go_wp2_with (fail)
  refine (HA.out _).mono ?_
  rintro e w' ⟨rfl, hw'⟩
  subst w'
  dsimp only
  go_wp2_with (fail)
  refine (HQ.out _).mono ?_
  rintro e w' ⟨rfl, hw'⟩
  subst w'
  dsimp only
  go_upto_region 7 with (fail)
  rw [← hW0, ← hb]
  clear hW0 hb
  go_wp2_with (fail)
  refine HU.out.mono ?_
  rintro e W1 ⟨rfl, p1, k1⟩
  have H1 : Hid (PenAt (· < b) W1 b (signedL 1 ++ signedL 2) ∧ Below w.heap.size w W1) := by
    refine ⟨p1, ?_⟩
    have := (k1.below (B := b) (fun k hk => hk) (Nat.le_refl _) (Nat.le_of_lt HB.out.1))
    rw [← HB.out.2.2]
    exact HB.out.2.1.trans this
  clear p1 k1
  dsimp only
  go_wp2_with (fail)
  refine (HX.out _ H1.out.2).mono ?_
  rintro e W2 ⟨rfl, hB⟩
  have H2 : Hid (PenAt (· < b) W2 b (signedL 1 ++ signedL 2) ∧ Below w.heap.size w W2) := ⟨H1.out.1.below hB, H1.out.2.trans (hB.mono H1.out.2.size)⟩
  clear hB H1
  dsimp only
  go_wp2_with (fail)
  refine (HN.out _).mono ?_
  rintro e w' ⟨rfl, hw'⟩
  subst w'
  dsimp only
  go_wp2_with (fail)
  refine (HS.out _).mono ?_
  rintro e W3 ⟨rfl, hB⟩
  have H3 : Hid (PenAt (· < b) W3 b (signedL 1 ++ signedL 2) ∧ Below w.heap.size w W3) := ⟨H2.out.1.below hB, H2.out.2.trans (hB.mono H2.out.2.size)⟩
  clear hB H2
  dsimp only
  go_wp2_with (fail)
  refine (HG.out _ _ H3.out.1).mono ?_
  rintro e W4 ⟨V, rfl, hB4, hc4⟩
  have HC4 := Lib.hid hc4
  clear hB4 hc4
  dsimp only
  go_wp2_with (fail)
  refine HC4.out.mono ?_
  rintro e W5 ⟨r, rfl, hB5, hc5⟩
  have HC5 := Lib.hid hc5
  clear hB5 hc5 HC4
  dsimp only
  go_wp2_with (fail)
  refine HC5.out.mono ?_
  rintro e W6 ⟨rfl, hB⟩
  have H6 : Hid (Below w.heap.size w W6) := H3.out.2.trans (hB.mono H3.out.2.size)
  clear hB H3 HC5
  dsimp only
  go_wp2_with (fail)
  refine (HY.out _ H6.out).mono ?_
  rintro e W7 ⟨rfl, hB⟩
  have H7 : Hid (Below w.heap.size w W7) := H6.out.trans (hB.mono H6.out.size)
  clear hB H6
  dsimp only
  go_wp2_with (fail)
  refine (HR.out _).mono ?_
  rintro e w' ⟨rfl, hw'⟩
  subst w'
  dsimp only
  go_wp2_with (fail)
  refine (HH.out _).mono ?_
  rintro e W8 ⟨rfl, hB⟩
  have H8 : Hid (Below w.heap.size w W8) := H7.out.trans (hB.mono H7.out.size)
  clear hB H7
  dsimp only
  go_wp2_with (fail)
  first
  | (rw [HP.out]; exact ⟨rfl, H8.out⟩)
  | (go_ret; rw [HP.out]; exact ⟨rfl, H8.out⟩)
end Go.Proofs.YtoelfjhejfgkiaaDoor
