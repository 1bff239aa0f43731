/-
  The contracts of RotateLeft32, turns and spread.
-/
import Derived.Test.YtmdacfbhfacniaaDoorRows
import Derived.Test.YtmdacfbhfacniaaDoorShaPure
import Derived.Deep.QuietTactic
import Derived.BigQuiet
namespace Go.Proofs.YtmdacfbhfacniaaDoor
open Go.RowKit

set_option maxHeartbeats 400000 in
theorem rot_any (x : BitVec 32) (n : Nat) (h0 : 0 < n) (h1 : n < 32) (w : World) :
    Calls Tryd.prog 36 #[W x, .int .i64 (-(n : Int))] w fun e w' => e = .returned (W (rotr x n)) ∧ w = w' := by
  have hb : bits .and .u64 (IntKind.u64.wrap (-(n : Int))) 31 = ((32 - n : Nat) : Int) := u64_neg ⟨n, h1⟩ (by simp; omega)
  obtain ⟨m, hm⟩ : ∃ m, m = 32 - n := ⟨_, rfl⟩
  have hs := u64_sub m (by omega)
  have e : 32 - m = n := by omega
  rw [e] at hs
  have s1 : ∀ w, (binOp .shl 54 (W x) (.int .u64 (m : Int))).run Tryd.prog w = .ok (W (x <<< m)) w := fun w => run_shl_W _ _ x w .u64 m (by omega)
  have s2 : ∀ w, (binOp .shr 54 (W x) (.int .u64 (n : Int))).run Tryd.prog w = .ok (W (x >>> n)) w := fun w => run_shr_W _ _ x w .u64 n (by omega)
  rw [← hm] at hb
  have HM : Hid (rotr x n = x <<< m ||| x >>> n) := by
    show rotr x n = _
    rw [rotr, BitVec.or_comm, hm]
  clear hm e
  go_enter Tryd.func36, Tryd.ntmps36
  go_wp2
  go_ret
  exact ⟨by rw [HM.out]; rfl, rfl⟩

set_option maxHeartbeats 400000 in
theorem turns_any (x : BitVec 32) (i j k : Nat) (hi : 0 < i ∧ i < 32) (hj : 0 < j ∧ j < 32) (hk : 0 < k ∧ k < 32) (w : World) :
    Calls Tryd.prog 32 #[W x, .int .i64 i, .int .i64 j, .int .i64 k] w fun e w' => e = .returned (W (rotr x i ^^^ rotr x j ^^^ rotr x k)) ∧ w = w' := by
  have n1 : IntKind.i64.wrap (-(i : Int)) = -(i : Int) := IntWalk.i64_in _ (by omega)
  have n2 : IntKind.i64.wrap (-(j : Int)) = -(j : Int) := IntWalk.i64_in _ (by omega)
  have n3 : IntKind.i64.wrap (-(k : Int)) = -(k : Int) := IntWalk.i64_in _ (by omega)
  go_enter Tryd.func32, Tryd.ntmps32
  go_wp2_with (go_at_call 36; refine (rot_any _ _ (by omega) (by omega) _).mono ?_; rintro e w' ⟨rfl, rfl⟩)
  go_ret
  exact ⟨rfl, rfl⟩


theorem rot_q (x : BitVec 32) (n : Nat) (h0 : 0 < n) (h1 : n < 32) (w : World) :
    Calls Tryd.prog 36 #[W x, .int .i64 (-(n : Int))] w fun e w' => e = .returned (W (rotr x n)) ∧ w' = w :=
  (rot_any x n h0 h1 w).mono fun _ _ h => ⟨h.1, h.2.symm⟩
theorem turns_q (x : BitVec 32) (i j k : Nat) (hi : 0 < i ∧ i < 32) (hj : 0 < j ∧ j < 32) (hk : 0 < k ∧ k < 32) (w : World) :
    Calls Tryd.prog 32 #[W x, .int .i64 i, .int .i64 j, .int .i64 k] w fun e w' => e = .returned (W (rotr x i ^^^ rotr x j ^^^ rotr x k)) ∧ w' = w :=
  (turns_any x i j k hi hj hk w).mono fun _ _ h => ⟨h.1, h.2.symm⟩

set_option maxHeartbeats 400000 in
theorem spread_any (x : BitVec 32) (i j k : Nat) (hi : 0 < i ∧ i < 32) (hj : 0 < j ∧ j < 32) (hk : 0 < k ∧ k < 32) (w : World) :
    Calls Tryd.prog 35 #[W x, .int .i64 i, .int .i64 j, .int .i64 k] w fun e w' => e = .returned (W (rotr x i ^^^ rotr x j ^^^ x >>> k)) ∧ ∃ n, w' = w.drewN n := by
  have n1 : IntKind.i64.wrap (-(i : Int)) = -(i : Int) := IntWalk.i64_in _ (by omega)
  have n2 : IntKind.i64.wrap (-(j : Int)) = -(j : Int) := IntWalk.i64_in _ (by omega)
  have s1 : ∀ w, (binOp .shr 54 (W x) (.int .i64 (k : Int))).run Tryd.prog w = .ok (W (x >>> k)) w := fun w => run_shr_W _ _ x w .i64 k (by omega)
  go_enter Tryd.func35, Tryd.ntmps35
  go_wp2_with fail
  go_quiet ((go_at_call 36; exact Calls.quiet_of_same (rot_q _ _ (by omega) (by omega) _)))
  go_wp2_with fail
  go_ret
  exact ⟨rfl, nq, rfl⟩


theorem spread1 (x : BitVec 32) (w : World) : Calls Tryd.prog 35 #[W x, .int .i64 17, .int .i64 19, .int .i64 10] w fun e w' => e = .returned (W (sp x 17 19 10)) ∧ ∃ n, w' = w.drewN n :=
  spread_any x 17 19 10 (by omega) (by omega) (by omega) w
theorem spread0 (x : BitVec 32) (w : World) : Calls Tryd.prog 35 #[W x, .int .i64 7, .int .i64 18, .int .i64 3] w fun e w' => e = .returned (W (sp x 7 18 3)) ∧ ∃ n, w' = w.drewN n :=
  spread_any x 7 18 3 (by omega) (by omega) (by omega) w
theorem turns1 (x : BitVec 32) (w : World) : Calls Tryd.prog 32 #[W x, .int .i64 6, .int .i64 11, .int .i64 25] w fun e w' => e = .returned (W (tu x 6 11 25)) ∧ w' = w :=
  turns_q x 6 11 25 (by omega) (by omega) (by omega) w
theorem turns0 (x : BitVec 32) (w : World) : Calls Tryd.prog 32 #[W x, .int .i64 2, .int .i64 13, .int .i64 22] w fun e w' => e = .returned (W (tu x 2 13 22)) ∧ w' = w :=
  turns_q x 2 13 22 (by omega) (by omega) (by omega) w

/-- A callee's contract, met in a world that is already some draws behind: the draws add up. -/
theorem quiet_of2 {P : Program} {f : FuncId} {args : Array Value} {w : World} {n m : Nat} {v : Value}
    (h : Calls P f args (w.drewN (n + m)) fun e w' => e = .returned v ∧ ∃ k, w' = (w.drewN (n + m)).drewN k) : Calls P f args (w.drewN (n + m)) fun e w'' => e = .returned v ∧ ∃ k, w'' = w.drewN (n + k) :=
  h.mono fun _ _ ⟨he, k, hk⟩ => ⟨he, m + k, by rw [hk, World.drewN_drewN, Nat.add_assoc]⟩

end Go.Proofs.YtmdacfbhfacniaaDoor
