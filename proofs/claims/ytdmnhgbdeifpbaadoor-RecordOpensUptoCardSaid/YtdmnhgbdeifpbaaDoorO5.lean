/-
  Part 5 of 42 of what the proof leans on.
-/
import Derived.Test.YtdmnhgbdeifpbaaDoorO3
import Derived.Test.YtdmnhgbdeifpbaaDoorO4
namespace Go.Proofs.YtdmnhgbdeifpbaaDoor
open Go Go.RowKit
set_option maxRecDepth 100000 in
theorem esign_any (w : World) (x : Nat) : Calls Tryd.prog 95 #[.int .u8 (x : Int)] w fun e w' => e = .returned (.bool (nameC x)) ∧ w' = w := by
  obtain ⟨r, hr⟩ : ∃ r, r = nameC x := ⟨_, rfl⟩; rw [← hr]; have hd : r = decide ((97 ≤ x ∧ x ≤ 122) ∨ (48 ≤ x ∧ x ≤ 57) ∨ x = 45) := hr; clear hr
  have hcase : (97 ≤ x ∧ x ≤ 122 ∧ r = true) ∨ (97 ≤ x ∧ 122 < x ∧ r = false) ∨ (x < 97 ∧ 48 ≤ x ∧ x ≤ 57 ∧ r = true) ∨ (x < 97 ∧ 48 ≤ x ∧ 57 < x ∧ r = false) ∨ (x < 97 ∧ x < 48 ∧ x = 45 ∧ r = true) ∨ (x < 97 ∧ x < 48 ∧ x ≠ 45 ∧ r = false) := by
    rw [hd]; simp only [decide_eq_true_eq, decide_eq_false_iff_not]; omega
  clear hd
  rcases hcase with ⟨h1, h2, rfl⟩ | ⟨h1, h2, rfl⟩ | ⟨h1, h2, h3, rfl⟩ | ⟨h1, h2, h3, rfl⟩ | ⟨h1, h2, h3, rfl⟩ | ⟨h1, h2, h3, rfl⟩
  · have e1 : decide ((97 : Int) ≤ (x : Int)) = true := decide_eq_true (by omega)
    have e2 : decide ((x : Int) ≤ (122 : Int)) = true := decide_eq_true (by omega)
    go_enter Tryd.func95, Tryd.ntmps95
    go_wp2_with (fail); go_ret; exact ⟨rfl, rfl⟩
  · have e1 : decide ((97 : Int) ≤ (x : Int)) = true := decide_eq_true (by omega)
    have e2 : decide ((x : Int) ≤ (122 : Int)) = false := decide_eq_false (by omega)
    have e3 : decide ((48 : Int) ≤ (x : Int)) = true := decide_eq_true (by omega)
    have e4 : decide ((x : Int) ≤ (57 : Int)) = false := decide_eq_false (by omega)
    have e5 : ((x : Int) == 45) = false := by simp; omega
    go_enter Tryd.func95, Tryd.ntmps95
    go_wp2_with (fail); go_ret; exact ⟨rfl, rfl⟩
  · have e1 : decide ((97 : Int) ≤ (x : Int)) = false := decide_eq_false (by omega)
    have e3 : decide ((48 : Int) ≤ (x : Int)) = true := decide_eq_true (by omega)
    have e4 : decide ((x : Int) ≤ (57 : Int)) = true := decide_eq_true (by omega)
    go_enter Tryd.func95, Tryd.ntmps95
    go_wp2_with (fail); go_ret; exact ⟨rfl, rfl⟩
  · have e1 : decide ((97 : Int) ≤ (x : Int)) = false := decide_eq_false (by omega)
    have e3 : decide ((48 : Int) ≤ (x : Int)) = true := decide_eq_true (by omega)
    have e4 : decide ((x : Int) ≤ (57 : Int)) = false := decide_eq_false (by omega)
    have e5 : ((x : Int) == 45) = false := by simp; omega
    go_enter Tryd.func95, Tryd.ntmps95
    go_wp2_with (fail); go_ret; exact ⟨rfl, rfl⟩
  · have e1 : decide ((97 : Int) ≤ (x : Int)) = false := decide_eq_false (by omega)
    have e3 : decide ((48 : Int) ≤ (x : Int)) = false := decide_eq_false (by omega)
    have e5 : ((x : Int) == 45) = true := by simp; omega
    clear h3
    go_enter Tryd.func95, Tryd.ntmps95
    go_wp2_with (fail); go_ret; exact ⟨rfl, rfl⟩
  · have e1 : decide ((97 : Int) ≤ (x : Int)) = false := decide_eq_false (by omega)
    have e3 : decide ((48 : Int) ≤ (x : Int)) = false := decide_eq_false (by omega)
    have e5 : ((x : Int) == 45) = false := by simp; omega
    go_enter Tryd.func95, Tryd.ntmps95
    go_wp2_with (fail); go_ret; exact ⟨rfl, rfl⟩
def ENameRel (w : World) (s : List (BitVec 8)) (_i v : Value) (wr : World) : Prop := ∃ k : Nat, k ≤ s.length ∧ v = .int .i64 (k : Int) ∧ wr = w ∧ (s.take k).all (fun c => nameC c.toNat) = true
set_option maxRecDepth 100000 in
set_option maxHeartbeats 1000000 in
theorem ename_any (w : World) (s : List (BitVec 8)) (hl : s.length ≤ 1000000) :
    Calls Tryd.prog 83 #[Sv s] w fun e w' => e = .returned (.bool (nameB s)) ∧ w' = w := by
  obtain ⟨n, hn⟩ : ∃ n, n = s.length := ⟨_, rfl⟩
  have lk : ∀ w ty, (Builtin.len_ #[9] ty #[Sv s]).run Tryd.prog w = .ok (.int .i64 (n : Int)) w := fun w ty => by rw [run_len_Sv w ty s, hn]
  obtain ⟨r, hr⟩ : ∃ r, r = nameB s := ⟨_, rfl⟩; rw [← hr]; have HN := Lib.hid (And.intro hn hr)
  have hn6 : n ≤ 1000000 := by omega
  clear hn hr hl
  by_cases h1 : n < 1
  · obtain rfl : r = false := by rw [HN.out.2, nameB, ← HN.out.1, decide_eq_false (by omega), Bool.and_false]
    have h1' : (n : Int) < 1 := by omega
    clear hn6 h1
    go_enter Tryd.func83, Tryd.ntmps83
    go_wp2_with (fail); go_ret; exact ⟨rfl, rfl⟩
  by_cases h16 : 16 < n
  · obtain rfl : r = false := by rw [HN.out.2, nameB, ← HN.out.1, decide_eq_false (by omega), Bool.and_false]
    have h1' : ¬ (n : Int) < 1 := by omega
    have h2' : (16 : Int) < n := by omega
    clear hn6 h1 h16
    go_enter Tryd.func83, Tryd.ntmps83
    go_wp2_with (fail); go_ret; exact ⟨rfl, rfl⟩
  have HL2 := Lib.hid (show 1 ≤ n ∧ n ≤ 16 by omega)
  have h1' : ¬ (n : Int) < 1 := by omega
  have h2' : ¬ (16 : Int) < n := by omega
  clear h1 h16 hn6
  go_enter Tryd.func83, Tryd.ntmps83
  go_wp2_with (fail)
  go_loopw [3, 14] (ENameRel w s) (fun _ v _ => n - (intOf v).toNat)
  case atStart => exact ⟨0, by omega, rfl, rfl, rfl⟩
  case round =>
    obtain ⟨k, hk, rfl, rfl, hall⟩ := hrel; rw [← HN.out.1] at hk
    by_cases hlt : k < n
    · have hlt' : (k : Int) < (n : Int) := by omega
      obtain ⟨x, hx⟩ : ∃ x, x = (gl s k).toNat := ⟨_, rfl⟩
      have hix : ∀ w, (Instr.index 9 (Sv s) (.int .i64 (k : Int))).run Tryd.prog w = .ok (.int .u8 (x : Int)) w := fun w => by
        rw [run_index_Sv w s k (by rw [← HN.out.1]; exact hlt), B, hx]
      have HS := Lib.hid (esign_any wr x); obtain ⟨g, hg⟩ : ∃ g, g = nameC x := ⟨_, rfl⟩; rw [← hg] at HS
      cases g with
      | true =>
        have HZ : Hid (ENameRel wr s (.int .i64 (k : Int)) (.int .i64 ((k : Int) + 1)) wr) := by
          refine ⟨k + 1, by rw [← HN.out.1]; omega, by go_num, rfl, ?_⟩
          rw [nameB_step s k (by rw [← HN.out.1]; exact hlt), hall, ← hx, ← hg]
          rfl
        have HL := Lib.hid (And.intro hlt HL2.out); clear hall hx hg hlt; go_wp2_with (fail); refine HS.out.mono ?_; rintro e w3 ⟨rfl, hw3⟩; subst w3; dsimp only; go_wp2_with (fail); have := HL.out
        exact ⟨HZ.out, by simp [intOf]; omega⟩
      | false =>
        obtain rfl : r = false := by
          rw [HN.out.2]
          exact nameB_bad s k (by rw [← HN.out.1]; exact hlt) (by rw [← hx]; exact hg.symm)
        clear hall hx hg hlt; go_wp2_with (fail); refine HS.out.mono ?_; rintro e w3 ⟨rfl, hw3⟩; subst w3; dsimp only; go_wp2_with (fail); go_ret; exact ⟨rfl, rfl⟩
    · obtain rfl : k = n := by omega
      rw [HN.out.1, List.take_length] at hall
      obtain rfl : r = true := by
        rw [HN.out.2, nameB, hall, ← HN.out.1, decide_eq_true HL2.out]; rfl
      clear hall hlt; go_wp2_with (fail); go_ret; exact ⟨rfl, rfl⟩
set_option maxRecDepth 100000 in
theorem eright_any (w : World) (x : ItemL) (hl : x.key.length ≤ 1000000) :
    Calls Tryd.prog 66 #[.agg x.cells] w (Below0 w (.bool x.rightB)) := by
  obtain ⟨kind, key, time, value⟩ := x; obtain ⟨r, hr⟩ : ∃ r, r = (ItemL.mk kind key time value).rightB := ⟨_, rfl⟩; rw [← hr]; have hN := fun w => ename_any w key hl; obtain ⟨nb, hnb⟩ : ∃ b, b = nameB key := ⟨_, rfl⟩; rw [← hnb] at hN; simp only [ItemL.rightB] at hr; rw [← hnb] at hr; have HNm := Lib.hid hN; clear hnb hN hl; unfold ItemL.cells
  by_cases t0 : time < 0
  · obtain rfl : r = false := by rw [hr, decide_eq_false (by omega)]; rfl
    clear hr
    go_enter Tryd.func66, Tryd.ntmps66
    go_wp2_with (fail); go_ret; exact ⟨rfl, (Below.refl _ w).alloc (Nat.le_refl _) _⟩
  by_cases t1 : 1099511627776 < time
  · obtain rfl : r = false := by rw [hr, decide_eq_false (by omega)]; rfl
    clear hr
    go_enter Tryd.func66, Tryd.ntmps66
    go_wp2_with (fail); go_ret; exact ⟨rfl, (Below.refl _ w).alloc (Nat.le_refl _) _⟩
  rw [decide_eq_true (show 0 ≤ time ∧ time ≤ 1099511627776 by omega), Bool.true_and] at hr
  by_cases k1 : kind = 1
  · have e1 : (kind == 1) = true := by rw [k1]; rfl
    rw [if_neg (by omega), decide_eq_true k1, Bool.true_and] at hr
    clear k1
    cases nb with
    | false =>
      obtain rfl : r = false := by rw [hr]; rfl
      clear hr
      go_enter Tryd.func66, Tryd.ntmps66
      go_wp2_with (fail); refine (HNm.out _).mono ?_; rintro e w3 ⟨rfl, rfl⟩; dsimp only; go_wp2_with (fail); go_ret; exact ⟨rfl, (Below.refl _ w).alloc (Nat.le_refl _) _⟩
    | true =>
      by_cases h1 : -1099511627776 ≤ value
      · have d1 : decide ((-1099511627776 : Int) ≤ value) = true := decide_eq_true h1
        by_cases h2 : value ≤ 1099511627776
        · have d2 : decide (value ≤ (1099511627776 : Int)) = true := decide_eq_true h2
          obtain rfl : r = true := by rw [hr, decide_eq_true ⟨h1, h2⟩]; rfl
          clear hr
          go_enter Tryd.func66, Tryd.ntmps66
          go_wp2_with (fail); refine (HNm.out _).mono ?_; rintro e w3 ⟨rfl, rfl⟩; dsimp only; go_wp2_with (fail); go_ret; exact ⟨rfl, (Below.refl _ w).alloc (Nat.le_refl _) _⟩
        · have d2 : decide (value ≤ (1099511627776 : Int)) = false := decide_eq_false h2
          obtain rfl : r = false := by rw [hr, decide_eq_false (fun h => h2 h.2)]; rfl
          clear hr
          go_enter Tryd.func66, Tryd.ntmps66
          go_wp2_with (fail); refine (HNm.out _).mono ?_; rintro e w3 ⟨rfl, rfl⟩; dsimp only; go_wp2_with (fail); go_ret; exact ⟨rfl, (Below.refl _ w).alloc (Nat.le_refl _) _⟩
      · have d1 : decide ((-1099511627776 : Int) ≤ value) = false := decide_eq_false h1
        obtain rfl : r = false := by rw [hr, decide_eq_false (fun h => h1 h.1)]; rfl
        clear hr
        go_enter Tryd.func66, Tryd.ntmps66
        go_wp2_with (fail); refine (HNm.out _).mono ?_; rintro e w3 ⟨rfl, rfl⟩; dsimp only; go_wp2_with (fail); go_ret; exact ⟨rfl, (Below.refl _ w).alloc (Nat.le_refl _) _⟩
  · have e1 : (kind == 1) = false := by simpa using k1
    by_cases k2 : kind = 2
    · have e2 : (kind == 2) = true := by rw [k2]; rfl
      rw [if_pos k2] at hr; clear k2; obtain ⟨d, hd⟩ : ∃ d, d = decide (key = []) := ⟨_, rfl⟩
      have hkey : ∀ w, (binOp .eql 9 (Sv key) (.string ⟨#[]⟩)).run Tryd.prog w = .ok (.bool d) w := fun w => by rw [hd]; exact run_eql_Sv0 w key
      obtain ⟨v0, hv0⟩ : ∃ v, v = (value == 0) := ⟨_, rfl⟩; have hv : (value == 0) = v0 := hv0.symm
      have hr2 : r = (d && v0) := by
        rw [hr, hd, hv0, Bool.eq_iff_iff]; simp
      clear hr hd hv0 k1
      cases d with
      | true =>
        obtain rfl : r = v0 := by rw [hr2]; rfl
        clear hr2
        cases r with
        | true =>
          go_enter Tryd.func66, Tryd.ntmps66
          go_wp2_with (fail); go_ret; exact ⟨rfl, (Below.refl _ w).alloc (Nat.le_refl _) _⟩
        | false =>
          go_enter Tryd.func66, Tryd.ntmps66
          go_wp2_with (fail); go_ret; exact ⟨rfl, (Below.refl _ w).alloc (Nat.le_refl _) _⟩
      | false =>
        obtain rfl : r = false := by rw [hr2]; rfl
        clear hr2
        go_enter Tryd.func66, Tryd.ntmps66
        go_wp2_with (fail); go_ret; exact ⟨rfl, (Below.refl _ w).alloc (Nat.le_refl _) _⟩
    · have e2 : (kind == 2) = false := by simpa using k2
      obtain rfl : r = false := by rw [hr, if_neg k2, decide_eq_false k1]; rfl
      clear hr k1 k2
      go_enter Tryd.func66, Tryd.ntmps66
      go_wp2_with (fail); go_ret; exact ⟨rfl, (Below.refl _ w).alloc (Nat.le_refl _) _⟩
end Go.Proofs.YtdmnhgbdeifpbaaDoor
