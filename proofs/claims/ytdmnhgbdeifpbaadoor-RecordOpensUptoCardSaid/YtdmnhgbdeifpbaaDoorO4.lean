/-
  Part 4 of 42 of what the proof leans on.
-/
import Derived.Test.YtdmnhgbdeifpbaaDoorO2
namespace Go.Proofs.YtdmnhgbdeifpbaaDoor
open Go.RowKit
def WordRel (w0 : World) (W0 : Nat) (v s : Value) (wr : World) : Prop :=
  ∃ (n x : Nat) (p : List (BitVec 8)), n + 1 ≤ 10 ∧ x < 128 ^ (n + 1) ∧ x < 18446744073709551616 ∧ v = .int .u64 (x : Int) ∧ s = Sv p ∧ p ++ wordF (n + 1) x = wordL W0 ∧ p.length + n ≤ 10 ∧ Below w0.heap.size w0 wr
theorem wrapU64 (n : Nat) (h : n < 18446744073709551616) : IntKind.u64.wrap (n : Int) = n := IntWalk.u64_in _ (by omega)
set_option maxRecDepth 100000 in
set_option maxHeartbeats 1000000 in
theorem rpWord_any (w : World) (W0 : Nat) (hW : W0 < 18446744073709551616) :
    Calls Tryd.prog 59 #[.int .u64 (W0 : Int)] w (Below0 w (Sv (wordL W0))) := by
  go_enter Tryd.func59, Tryd.ntmps59
  go_wp2_with (fail); rw [Sv_nil]
  go_loopw [0, 3] (WordRel w W0) (fun v _ _ => (intOf v).toNat)
  case atStart => exact ⟨9, W0, [], by omega, by have : (128 : Nat) ^ (9 + 1) = 1180591620717411303424 := by decide
                                                 omega, hW, rfl, rfl, rfl, by simp, Below.refl _ _⟩
  case round =>
    obtain ⟨n, x, p, hn, hx, hx2, rfl, rfl, hp, hpl, hB⟩ := hrel
    by_cases hlt : x < 128
    · have h1 : ¬ (128 : Int) ≤ (x : Int) := by omega
      have hcv : ∀ w, (convert 95 5 (.int .u64 (x : Int))).run Tryd.prog w = .ok (B (BitVec.ofNat 8 x)) w := fun w => run_conv_u64_B w x (by omega)
      obtain ⟨y, hy⟩ : ∃ y, y = BitVec.ofNat 8 x := ⟨_, rfl⟩; rw [← hy] at hcv
      have hadd : ∀ w, (binOp .add 9 (Sv p) (Sv [y])).run Tryd.prog w = .ok (Sv (p ++ [y])) w := fun w => run_add_Sv w p [y] (by simp only [List.length_singleton]; omega)
      have hfin : p ++ [y] = wordL W0 := by rw [← hp, wordF, if_pos hlt, hy]
      have HF := Lib.hid (And.intro hfin hB); clear hfin hB hp hx hx2 hn hpl hy hlt
      go_upto_region 5 with (fail)
      refine wp_region_lit ?_
      iterate 9 go_step
      refine run_slice1_B rfl (.tmp 18) rfl y rfl ?_
      have hcv2 := run_conv_one (wr.alloc (.cells #[B y] 5)) wr.heap.size 1 y (by go_simp)
      obtain ⟨W1, hW1⟩ : ∃ W1, W1 = wr.alloc (.cells #[B y] 5) := ⟨_, rfl⟩
      have HW1 : Hid (Below w.heap.size w W1) := by rw [hW1]; exact HF.out.2.alloc HF.out.2.size _
      rw [← hW1] at hcv2 ⊢; clear hW1; go_wp2_with (fail); go_ret
      exact ⟨by rw [← HF.out.1]; rfl, HW1.out⟩
    · have h1 : (128 : Int) ≤ (x : Int) := by omega
      obtain ⟨m, hm⟩ : ∃ m, x / 128 = m := ⟨_, rfl⟩; obtain ⟨b, hb⟩ : ∃ b, 128 + x % 128 = b := ⟨_, rfl⟩; obtain ⟨c, hc⟩ : ∃ c, x % 128 = c := ⟨_, rfl⟩
      have e1 : (x : Int) % 128 = (c : Int) := by omega
      have e2 : (x : Int) / 128 = (m : Int) := by omega
      have e3 : (128 : Int) + (c : Int) = (b : Int) := by omega
      have e4 : IntKind.u64.wrap (b : Int) = (b : Int) := wrapU64 b (by omega)
      have e5 : IntKind.u64.wrap (m : Int) = (m : Int) := wrapU64 m (by omega)
      have hcv : ∀ w, (convert 95 5 (.int .u64 (b : Int))).run Tryd.prog w = .ok (B (BitVec.ofNat 8 b)) w := fun w => run_conv_u64_B w b (by omega)
      obtain ⟨y, hy⟩ : ∃ y, y = BitVec.ofNat 8 b := ⟨_, rfl⟩; rw [← hy] at hcv
      have hadd : ∀ w, (binOp .add 9 (Sv p) (Sv [y])).run Tryd.prog w = .ok (Sv (p ++ [y])) w := fun w => run_add_Sv w p [y] (by simp only [List.length_singleton]; omega)
      have hn1 : ∃ n', n = n' + 1 := by
        cases n with
        | zero => simp at hx; omega
        | succ n' => exact ⟨n', rfl⟩
      obtain ⟨n', rfl⟩ := hn1
      have hfin : (p ++ [y]) ++ wordF (n' + 1) m = wordL W0 := by rw [← hp, show wordF (n' + 1 + 1) x = BitVec.ofNat 8 (128 + x % 128) :: wordF (n' + 1) (x / 128) from if_neg hlt, hb, hm, hy]; simp
      have hmx : m < 128 ^ (n' + 1) := by
        have : (128 : Nat) ^ (n' + 1 + 1) = 128 ^ (n' + 1) * 128 := Nat.pow_succ _ _; omega
      have hms : m < x := by omega
      have HF := Lib.hid (And.intro hfin (And.intro hB (And.intro hmx (And.intro hn (And.intro hpl (And.intro hms hx2)))))); clear hfin hB hp hx hmx hn hpl hy hlt hm hb hc hms hx2
      go_upto_region 3 with (fail)
      refine wp_region_lit ?_
      iterate 15 go_step
      refine run_slice1_B rfl (.tmp 10) rfl y rfl ?_
      have hcv2 := run_conv_one (wr.alloc (.cells #[B y] 5)) wr.heap.size 1 y (by go_simp)
      obtain ⟨W1, hW1⟩ : ∃ W1, W1 = wr.alloc (.cells #[B y] 5) := ⟨_, rfl⟩
      have HW1 : Hid (Below w.heap.size w W1) := by rw [hW1]; exact HF.out.2.1.alloc HF.out.2.1.size _
      rw [← hW1] at hcv2 ⊢; clear hW1; go_wp2_with (fail); obtain ⟨hfin, hB, hmx, hn, hpl, hms, hx2⟩ := HF.out
      exact ⟨⟨n', m, p ++ [y], by omega, hmx, by omega, rfl, rfl, hfin, by simp only [List.length_append, List.length_singleton]; omega, HW1.out⟩, by simp [intOf]; omega⟩
theorem run_conv_i64_u64n (w : World) (n : Nat) (h : n < 9223372036854775808) : (convert 3 95 (.int .i64 (n : Int))).run Tryd.prog w = .ok (.int .u64 (n : Int)) w := by
  simp [convert, Conv.intToInt, run_underlying Tryd.underlying3, run_underlying Tryd.underlying95, wrapU64 n (by omega)]
theorem rpNumber_any (w : World) (n : Nat) (h : n < 9223372036854775808) :
    Calls Tryd.prog 25 #[.int .i64 (n : Int)] w (Below0 w (Sv (wordL n))) := by
  have hcv := fun w => run_conv_i64_u64n w n h
  have HS := Lib.hid (rpWord_any w n (by omega))
  clear h
  go_enter Tryd.func25, Tryd.ntmps25
  go_wp2_with (fail); refine HS.out.mono ?_; rintro e w1 ⟨rfl, hB⟩; have HB := Lib.hid hB; clear hB; dsimp only; go_wp2_with (fail); go_ret; exact ⟨rfl, HB.out⟩
theorem rpSigned_any (w : World) (n : Int) (h1 : -9223372036854775808 ≤ n) (h2 : n < 9223372036854775808) :
    Calls Tryd.prog 82 #[.int .i64 n] w (Below0 w (Sv (signedL n))) := by
  have HS := Lib.hid (rpWord_any w (zig n) (zig_lt n h1 h2))
  by_cases hn : 0 ≤ n
  · obtain ⟨m, rfl⟩ := Int.eq_ofNat_of_zero_le hn
    have hcv := fun w => run_conv_i64_u64n w m (by omega)
    have hz : zig (m : Int) = 2 * m := by simp [zig]
    obtain ⟨z, hzz⟩ : ∃ z, z = 2 * m := ⟨_, rfl⟩
    have e1 : (2 : Int) * (m : Int) = (z : Int) := by omega
    have e2 : IntKind.u64.wrap (z : Int) = (z : Int) := wrapU64 z (by omega)
    rw [hz, ← hzz] at HS
    have hsg : signedL (m : Int) = wordL z := by rw [signedL, hz, hzz]
    have HG := Lib.hid hsg; clear hz hzz hsg h1 h2
    go_enter Tryd.func82, Tryd.ntmps82
    go_wp2_with (fail); refine HS.out.mono ?_; rintro e w1 ⟨rfl, hB⟩; have HB := Lib.hid hB; clear hB; dsimp only; go_wp2_with (fail); go_ret
    exact ⟨by rw [HG.out]; rfl, HB.out⟩
  · obtain ⟨m, hm⟩ : ∃ m : Nat, -(n + 1) = (m : Int) := ⟨(-(n + 1)).toNat, by omega⟩
    have hcv := fun w => run_conv_i64_u64n w m (by omega)
    have hz : zig n = 2 * m + 1 := by simp only [zig, if_neg hn]; omega
    obtain ⟨z, hzz⟩ : ∃ z, z = 2 * m + 1 := ⟨_, rfl⟩
    have e0 : IntKind.i64.wrap (n + 1) = n + 1 := IntWalk.i64_in _ (by omega)
    have e1 : IntKind.i64.wrap (m : Int) = (m : Int) := IntWalk.i64_in _ (by omega)
    obtain ⟨y, hy⟩ : ∃ y, y = 2 * m := ⟨_, rfl⟩
    have e2 : (2 : Int) * (m : Int) = (y : Int) := by omega
    have e3 : IntKind.u64.wrap (y : Int) = (y : Int) := wrapU64 y (by omega)
    have e4 : (y : Int) + 1 = (z : Int) := by omega
    have e5 : IntKind.u64.wrap (z : Int) = (z : Int) := wrapU64 z (by omega)
    rw [hz, ← hzz] at HS
    have hsg : signedL n = wordL z := by rw [signedL, hz, hzz]
    have HG := Lib.hid hsg; clear hz hzz hsg h1 h2 hy
    go_enter Tryd.func82, Tryd.ntmps82
    go_wp2_with (fail); refine HS.out.mono ?_; rintro e w1 ⟨rfl, hB⟩; have HB := Lib.hid hB; clear hB; dsimp only; go_wp2_with (fail); go_ret
    exact ⟨by rw [HG.out]; rfl, HB.out⟩
theorem rpText_any (w : World) (m : List (BitVec 8)) (h : m.length ≤ 1000000) :
    Calls Tryd.prog 28 #[Sv m] w (Below0 w (Sv (textL m))) := by
  have lk : ∀ w ty, (Builtin.len_ #[9] ty #[Sv m]).run Tryd.prog w = .ok (.int .i64 (m.length : Int)) w := fun w ty => run_len_Sv w ty m; obtain ⟨L, hL⟩ : ∃ L, L = m.length := ⟨_, rfl⟩; rw [← hL] at lk h
  have HS := Lib.hid (rpNumber_any w L (by omega))
  obtain ⟨x, hx⟩ : ∃ x, x = wordL L := ⟨_, rfl⟩
  have hxl : x.length ≤ 10 := by rw [hx]; exact wordL_length L
  rw [← hx] at HS
  have hadd : ∀ w, (binOp .add 9 (Sv x) (Sv m)).run Tryd.prog w = .ok (Sv (textL m)) w := fun w => by
    rw [textL, ← hL, ← hx]
    exact run_add_Sv w x m (by omega)
  clear hL hx hxl h
  go_enter Tryd.func28, Tryd.ntmps28
  go_wp2_with (fail); refine HS.out.mono ?_; rintro e w1 ⟨rfl, hB⟩; have HB := Lib.hid hB; clear hB; dsimp only; go_wp2_with (fail); go_ret; exact ⟨rfl, HB.out⟩
end Go.Proofs.YtdmnhgbdeifpbaaDoor
