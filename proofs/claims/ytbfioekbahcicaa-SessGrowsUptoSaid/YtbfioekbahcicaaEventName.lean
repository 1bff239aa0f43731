/-
  The contracts of package event's sign, Name and Right.
-/
import Derived.Test.YtbfioekbahcicaaEventPure
import Derived.Test.YtbfioekbahcicaaRefPen
namespace Go.Proofs.Ytbfioekbahcicaa
open Go Go.RowKit

set_option maxRecDepth 100000 in
theorem esign_any (w : World) (x : Nat) : Calls Try.prog 40 #[.int .u8 (x : Int)] w fun e w' => e = .returned (.bool (nameC x)) ∧ w' = w := by
  obtain ⟨r, hr⟩ : ∃ r, r = nameC x := ⟨_, rfl⟩
  rw [← hr]
  have hd : r = decide ((97 ≤ x ∧ x ≤ 122) ∨ (48 ≤ x ∧ x ≤ 57) ∨ x = 45) := hr
  clear hr
  have hcase : (97 ≤ x ∧ x ≤ 122 ∧ r = true) ∨ (97 ≤ x ∧ 122 < x ∧ r = false) ∨ (x < 97 ∧ 48 ≤ x ∧ x ≤ 57 ∧ r = true) ∨ (x < 97 ∧ 48 ≤ x ∧ 57 < x ∧ r = false) ∨ (x < 97 ∧ x < 48 ∧ x = 45 ∧ r = true) ∨ (x < 97 ∧ x < 48 ∧ x ≠ 45 ∧ r = false) := by
    rw [hd]
    simp only [decide_eq_true_eq, decide_eq_false_iff_not]
    omega
  clear hd
  rcases hcase with ⟨h1, h2, rfl⟩ | ⟨h1, h2, rfl⟩ | ⟨h1, h2, h3, rfl⟩ | ⟨h1, h2, h3, rfl⟩ | ⟨h1, h2, h3, rfl⟩ | ⟨h1, h2, h3, rfl⟩
  · have e1 : decide ((97 : Int) ≤ (x : Int)) = true := decide_eq_true (by omega)
    have e2 : decide ((x : Int) ≤ (122 : Int)) = true := decide_eq_true (by omega)
    go_enter Try.func40, Try.ntmps40
    go_wp2_with (fail)
    go_ret
    exact ⟨rfl, rfl⟩
  · have e1 : decide ((97 : Int) ≤ (x : Int)) = true := decide_eq_true (by omega)
    have e2 : decide ((x : Int) ≤ (122 : Int)) = false := decide_eq_false (by omega)
    have e3 : decide ((48 : Int) ≤ (x : Int)) = true := decide_eq_true (by omega)
    have e4 : decide ((x : Int) ≤ (57 : Int)) = false := decide_eq_false (by omega)
    have e5 : ((x : Int) == 45) = false := by simp; omega
    go_enter Try.func40, Try.ntmps40
    go_wp2_with (fail)
    go_ret
    exact ⟨rfl, rfl⟩
  · have e1 : decide ((97 : Int) ≤ (x : Int)) = false := decide_eq_false (by omega)
    have e3 : decide ((48 : Int) ≤ (x : Int)) = true := decide_eq_true (by omega)
    have e4 : decide ((x : Int) ≤ (57 : Int)) = true := decide_eq_true (by omega)
    go_enter Try.func40, Try.ntmps40
    go_wp2_with (fail)
    go_ret
    exact ⟨rfl, rfl⟩
  · have e1 : decide ((97 : Int) ≤ (x : Int)) = false := decide_eq_false (by omega)
    have e3 : decide ((48 : Int) ≤ (x : Int)) = true := decide_eq_true (by omega)
    have e4 : decide ((x : Int) ≤ (57 : Int)) = false := decide_eq_false (by omega)
    have e5 : ((x : Int) == 45) = false := by simp; omega
    go_enter Try.func40, Try.ntmps40
    go_wp2_with (fail)
    go_ret
    exact ⟨rfl, rfl⟩
  · have e1 : decide ((97 : Int) ≤ (x : Int)) = false := decide_eq_false (by omega)
    have e3 : decide ((48 : Int) ≤ (x : Int)) = false := decide_eq_false (by omega)
    have e5 : ((x : Int) == 45) = true := by simp; omega
    clear h3
    go_enter Try.func40, Try.ntmps40
    go_wp2_with (fail)
    go_ret
    exact ⟨rfl, rfl⟩
  · have e1 : decide ((97 : Int) ≤ (x : Int)) = false := decide_eq_false (by omega)
    have e3 : decide ((48 : Int) ≤ (x : Int)) = false := decide_eq_false (by omega)
    have e5 : ((x : Int) == 45) = false := by simp; omega
    go_enter Try.func40, Try.ntmps40
    go_wp2_with (fail)
    go_ret
    exact ⟨rfl, rfl⟩
def ENameRel (w : World) (s : List (BitVec 8)) (_i v : Value) (wr : World) : Prop := ∃ k : Nat, k ≤ s.length ∧ v = .int .i64 (k : Int) ∧ wr = w ∧ (s.take k).all (fun c => nameC c.toNat) = true
set_option maxRecDepth 100000 in
set_option maxHeartbeats 1000000 in
theorem ename_any (w : World) (s : List (BitVec 8)) (hl : s.length ≤ 1000000) :
    Calls Try.prog 30 #[Sv s] w fun e w' => e = .returned (.bool (nameB s)) ∧ w' = w := by
  obtain ⟨n, hn⟩ : ∃ n, n = s.length := ⟨_, rfl⟩
  have lk : ∀ w ty, (Builtin.len_ #[9] ty #[Sv s]).run Try.prog w = .ok (.int .i64 (n : Int)) w := fun w ty => by rw [run_len_Sv w ty s, hn]
  obtain ⟨r, hr⟩ : ∃ r, r = nameB s := ⟨_, rfl⟩
  rw [← hr]
  have HN := Lib.hid (And.intro hn hr)
  have hn6 : n ≤ 1000000 := by omega
  clear hn hr hl
  by_cases h1 : n < 1
  · obtain rfl : r = false := by rw [HN.out.2, nameB, ← HN.out.1, decide_eq_false (by omega), Bool.and_false]
    have h1' : (n : Int) < 1 := by omega
    clear hn6 h1
    go_enter Try.func30, Try.ntmps30
    go_wp2_with (fail)
    go_ret
    exact ⟨rfl, rfl⟩
  by_cases h16 : 16 < n
  · obtain rfl : r = false := by rw [HN.out.2, nameB, ← HN.out.1, decide_eq_false (by omega), Bool.and_false]
    have h1' : ¬ (n : Int) < 1 := by omega
    have h2' : (16 : Int) < n := by omega
    clear hn6 h1 h16
    go_enter Try.func30, Try.ntmps30
    go_wp2_with (fail)
    go_ret
    exact ⟨rfl, rfl⟩
  have HL2 := Lib.hid (show 1 ≤ n ∧ n ≤ 16 by omega)
  have h1' : ¬ (n : Int) < 1 := by omega
  have h2' : ¬ (16 : Int) < n := by omega
  clear h1 h16 hn6
  go_enter Try.func30, Try.ntmps30
  go_wp2_with (fail)
  go_loopw [3, 14] (ENameRel w s) (fun _ v _ => n - (intOf v).toNat)
  case atStart => exact ⟨0, by omega, rfl, rfl, rfl⟩
  case round =>
    obtain ⟨k, hk, rfl, rfl, hall⟩ := hrel
    rw [← HN.out.1] at hk
    by_cases hlt : k < n
    · have hlt' : (k : Int) < (n : Int) := by omega
      obtain ⟨x, hx⟩ : ∃ x, x = (gl s k).toNat := ⟨_, rfl⟩
      have hix : ∀ w, (Instr.index 9 (Sv s) (.int .i64 (k : Int))).run Try.prog w = .ok (.int .u8 (x : Int)) w := fun w => by
        rw [run_index_Sv w s k (by rw [← HN.out.1]; exact hlt), B, hx]
      have HS := Lib.hid (esign_any wr x)
      obtain ⟨g, hg⟩ : ∃ g, g = nameC x := ⟨_, rfl⟩
      rw [← hg] at HS
      cases g with
      | true =>
        have HZ : Hid (ENameRel wr s (.int .i64 (k : Int)) (.int .i64 ((k : Int) + 1)) wr) := by
          refine ⟨k + 1, by rw [← HN.out.1]; omega, by go_num, rfl, ?_⟩
          rw [nameB_step s k (by rw [← HN.out.1]; exact hlt), hall, ← hx, ← hg]
          rfl
        have HL := Lib.hid (And.intro hlt HL2.out)
        clear hall hx hg hlt
        go_wp2_with (fail)
        refine HS.out.mono ?_
        rintro e w3 ⟨rfl, hw3⟩
        subst w3
        dsimp only
        go_wp2_with (fail)
        have := HL.out
        exact ⟨HZ.out, by simp [intOf]; omega⟩
      | false =>
        obtain rfl : r = false := by
          rw [HN.out.2]
          exact nameB_bad s k (by rw [← HN.out.1]; exact hlt) (by rw [← hx]; exact hg.symm)
        clear hall hx hg hlt
        go_wp2_with (fail)
        refine HS.out.mono ?_
        rintro e w3 ⟨rfl, hw3⟩
        subst w3
        dsimp only
        go_wp2_with (fail)
        go_ret
        exact ⟨rfl, rfl⟩
    · obtain rfl : k = n := by omega
      rw [HN.out.1, List.take_length] at hall
      obtain rfl : r = true := by
        rw [HN.out.2, nameB, hall, ← HN.out.1, decide_eq_true HL2.out]
        rfl
      clear hall hlt
      go_wp2_with (fail)
      go_ret
      exact ⟨rfl, rfl⟩
end Go.Proofs.Ytbfioekbahcicaa
