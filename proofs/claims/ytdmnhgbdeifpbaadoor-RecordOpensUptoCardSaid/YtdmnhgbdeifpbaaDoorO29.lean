/-
  Part 29 of 42 of what the proof leans on.
-/
import Derived.Test.YtdmnhgbdeifpbaaDoorO3
import Derived.Test.YtdmnhgbdeifpbaaDoorO4
import Derived.Test.YtdmnhgbdeifpbaaDoorO12
namespace Go.Proofs.YtdmnhgbdeifpbaaDoor
open Go Go.RowKit
def NameRel (w : World) (s : List (BitVec 8)) (v _c : Value) (wr : World) : Prop := ∃ k : Nat, k ≤ s.length ∧ v = .int .i64 (k : Int) ∧ wr = w ∧ (s.take k).all (fun c => nameC c.toNat) = true
set_option maxRecDepth 100000 in
set_option maxHeartbeats 1000000 in
theorem erName_any (w : World) (s : List (BitVec 8)) (hl : s.length ≤ 1000000) :
    Calls Tryd.prog 58 #[Sv s] w fun e w' => e = .returned (.bool (nameB s)) ∧ w' = w := by
  obtain ⟨n, hn⟩ : ∃ n, n = s.length := ⟨_, rfl⟩
  have lk : ∀ w ty, (Builtin.len_ #[9] ty #[Sv s]).run Tryd.prog w = .ok (.int .i64 (n : Int)) w := fun w ty => by rw [run_len_Sv w ty s, hn]
  obtain ⟨r, hr⟩ : ∃ r, r = nameB s := ⟨_, rfl⟩; rw [← hr]; have HN := Lib.hid (And.intro hn hr)
  have hn6 : n ≤ 1000000 := by omega
  clear hn hr hl
  go_enter Tryd.func58, Tryd.ntmps58
  go_wp2_with (fail)
  go_loopw [3, 4] (NameRel w s) (fun v _ _ => n - (intOf v).toNat)
  case atStart => exact ⟨0, by omega, rfl, rfl, rfl⟩
  case round =>
    obtain ⟨k, hk, rfl, rfl, hall⟩ := hrel; rw [← HN.out.1] at hk
    by_cases hlt : k < n
    · have hlt' : (k : Int) < (n : Int) := by omega
      obtain ⟨x, hx⟩ : ∃ x, x = (gl s k).toNat := ⟨_, rfl⟩
      have hx256 : x < 256 := by rw [hx]; exact (gl s k).isLt
      have hix : ∀ w, (Instr.index 9 (Sv s) (.int .i64 (k : Int))).run Tryd.prog w = .ok (.int .u8 (x : Int)) w := fun w => by
        rw [run_index_Sv w s k (by rw [← HN.out.1]; exact hlt), B, hx]
      by_cases hgood : nameC x = true
      · have HZ : Hid (NameRel wr s (.int .i64 ((k : Int) + 1)) (.int .u8 (x : Int)) wr) := by
          refine ⟨k + 1, by rw [← HN.out.1]; omega, by go_num, rfl, ?_⟩
          rw [nameB_step s k (by rw [← HN.out.1]; exact hlt), hall, ← hx, hgood]
          rfl
        have HL := Lib.hid hlt; simp only [nameC, decide_eq_true_eq] at hgood
        have hcase : (97 ≤ x ∧ x ≤ 122) ∨ (x < 97 ∧ 48 ≤ x ∧ x ≤ 57) ∨ (x < 97 ∧ x < 48 ∧ x = 45) := by omega
        clear hall hx hgood hlt
        rcases hcase with ⟨h1, h2⟩ | ⟨h1, h2, h3⟩ | ⟨h1, h2, h3⟩
        · have e1 : ¬ (x : Int) < 97 := by omega
          have e2 : ¬ (122 : Int) < (x : Int) := by omega
          go_wp2_with (fail)
          exact ⟨HZ.out, by have := HL.out; simp [intOf]; omega⟩
        · have e1 : (x : Int) < 97 := by omega
          have e2 : ¬ (x : Int) < 48 := by omega
          have e3 : ¬ (57 : Int) < (x : Int) := by omega
          go_wp2_with (fail)
          exact ⟨HZ.out, by have := HL.out; simp [intOf]; omega⟩
        · have e1 : (x : Int) < 97 := by omega
          have e2 : (x : Int) < 48 := by omega
          have e4 : ((x : Int) != 45) = false := by rw [h3]; rfl
          clear h3; go_wp2_with (fail)
          exact ⟨HZ.out, by have := HL.out; simp [intOf]; omega⟩
      · have HB : Hid (r = false) := by
          rw [HN.out.2]
          exact nameB_bad s k (by rw [← HN.out.1]; exact hlt) (by rw [← hx]; simpa using hgood)
        simp only [nameC, decide_eq_true_eq] at hgood
        have e4 : ((x : Int) != 45) = true := by simp; omega
        have hcase : (122 < x) ∨ (x < 97 ∧ x < 48) ∨ (x < 97 ∧ 57 < x) := by omega
        clear hall hx hgood hlt; obtain rfl : r = false := HB.out
        rcases hcase with h1 | ⟨h1, h2⟩ | ⟨h1, h2⟩
        · have e1 : ¬ (x : Int) < 97 := by omega
          have e2 : (122 : Int) < (x : Int) := by omega
          have e5 : ¬ (x : Int) < 48 := by omega
          have e6 : (57 : Int) < (x : Int) := by omega
          go_wp2_with (fail); go_ret; exact ⟨rfl, rfl⟩
        · have e1 : (x : Int) < 97 := by omega
          have e2 : (x : Int) < 48 := by omega
          go_wp2_with (fail); go_ret; exact ⟨rfl, rfl⟩
        · have e1 : (x : Int) < 97 := by omega
          have e2 : ¬ (x : Int) < 48 := by omega
          have e3 : (57 : Int) < (x : Int) := by omega
          go_wp2_with (fail); go_ret; exact ⟨rfl, rfl⟩
    · obtain rfl : k = n := by omega
      rw [HN.out.1, List.take_length] at hall
      have hr2 : r = decide (1 ≤ k ∧ k ≤ 16) := by rw [HN.out.2, nameB, hall, ← HN.out.1]; rfl
      by_cases h1 : 1 ≤ k
      · have h1' : (1 : Int) ≤ (k : Int) := by omega
        by_cases h16 : k ≤ 16
        · have h16' : (k : Int) ≤ 16 := by omega
          obtain rfl : r = true := by rw [hr2]; exact decide_eq_true ⟨h1, h16⟩
          clear hall hr2 hlt; go_wp2_with (fail); go_ret; exact ⟨rfl, rfl⟩
        · have h16' : ¬ (k : Int) ≤ 16 := by omega
          obtain rfl : r = false := by rw [hr2]; exact decide_eq_false (fun h => h16 h.2)
          clear hall hr2 hlt; go_wp2_with (fail); go_ret; exact ⟨rfl, rfl⟩
      · have h1' : ¬ (1 : Int) ≤ (k : Int) := by omega
        obtain rfl : r = false := by rw [hr2]; exact decide_eq_false (fun h => h1 h.1)
        clear hall hr2 hlt; go_wp2_with (fail); go_ret; exact ⟨rfl, rfl⟩
set_option maxRecDepth 100000 in
theorem erRight_any (w : World) (x : ItemL) (hl : x.key.length ≤ 1000000) :
    Calls Tryd.prog 24 #[.agg x.cells] w (Below0 w (.bool x.rightB)) := by
  obtain ⟨kind, key, time, value⟩ := x; obtain ⟨r, hr⟩ : ∃ r, r = (ItemL.mk kind key time value).rightB := ⟨_, rfl⟩; rw [← hr]; have hN := fun w => erName_any w key hl; obtain ⟨nb, hnb⟩ : ∃ b, b = nameB key := ⟨_, rfl⟩; rw [← hnb] at hN; simp only [ItemL.rightB] at hr; rw [← hnb] at hr; have HNm := Lib.hid hN; clear hnb hN hl; unfold ItemL.cells
  by_cases t0 : time < 0
  · obtain rfl : r = false := by rw [hr, decide_eq_false (by omega)]; rfl
    clear hr
    go_enter Tryd.func24, Tryd.ntmps24
    go_wp2_with (fail); go_ret; exact ⟨rfl, (Below.refl _ w).alloc (Nat.le_refl _) _⟩
  by_cases t1 : 1099511627776 < time
  · obtain rfl : r = false := by rw [hr, decide_eq_false (by omega)]; rfl
    clear hr
    go_enter Tryd.func24, Tryd.ntmps24
    go_wp2_with (fail); go_ret; exact ⟨rfl, (Below.refl _ w).alloc (Nat.le_refl _) _⟩
  rw [decide_eq_true (show 0 ≤ time ∧ time ≤ 1099511627776 by omega), Bool.true_and] at hr
  by_cases k2 : kind = 2
  · have e2 : (kind == 2) = true := by rw [k2]; rfl
    rw [if_pos k2] at hr; clear k2; obtain ⟨d, hd⟩ : ∃ d, d = decide (key = []) := ⟨_, rfl⟩
    have hkey : ∀ w, (binOp .eql 9 (Sv key) (.string ⟨#[]⟩)).run Tryd.prog w = .ok (.bool d) w := fun w => by rw [hd]; exact run_eql_Sv0 w key
    obtain ⟨v0, hv0⟩ : ∃ v, v = (value == 0) := ⟨_, rfl⟩; have hv : (value == 0) = v0 := hv0.symm
    have hr2 : r = (d && v0) := by
      rw [hr, hd, hv0, Bool.eq_iff_iff]; simp
    clear hr hd hv0
    cases d with
    | true =>
      obtain rfl : r = v0 := by rw [hr2]; rfl
      clear hr2
      cases r with
      | true =>
        go_enter Tryd.func24, Tryd.ntmps24
        go_wp2_with (fail); go_ret; exact ⟨rfl, (Below.refl _ w).alloc (Nat.le_refl _) _⟩
      | false =>
        go_enter Tryd.func24, Tryd.ntmps24
        go_wp2_with (fail); go_ret; exact ⟨rfl, (Below.refl _ w).alloc (Nat.le_refl _) _⟩
    | false =>
      obtain rfl : r = false := by rw [hr2]; rfl
      clear hr2
      go_enter Tryd.func24, Tryd.ntmps24
      go_wp2_with (fail); go_ret; exact ⟨rfl, (Below.refl _ w).alloc (Nat.le_refl _) _⟩
  · have e2 : (kind == 2) = false := by simpa using k2
    rw [if_neg k2] at hr; clear k2
    by_cases k1 : kind = 1
    · have e1 : (kind == 1) = true := by rw [k1]; rfl
      rw [decide_eq_true k1, Bool.true_and] at hr; clear k1
      cases nb with
      | false =>
        obtain rfl : r = false := by rw [hr]; rfl
        clear hr
        go_enter Tryd.func24, Tryd.ntmps24
        go_wp2_with (fail); refine (HNm.out _).mono ?_; rintro e w3 ⟨rfl, rfl⟩; dsimp only; go_wp2_with (fail); go_ret; exact ⟨rfl, (Below.refl _ w).alloc (Nat.le_refl _) _⟩
      | true =>
        by_cases h1 : -1099511627776 ≤ value
        · by_cases h2 : value ≤ 1099511627776
          · obtain rfl : r = true := by rw [hr, decide_eq_true ⟨h1, h2⟩]; rfl
            clear hr
            go_enter Tryd.func24, Tryd.ntmps24
            go_wp2_with (fail); refine (HNm.out _).mono ?_; rintro e w3 ⟨rfl, rfl⟩; dsimp only; go_wp2_with (fail); go_ret; exact ⟨rfl, (Below.refl _ w).alloc (Nat.le_refl _) _⟩
          · obtain rfl : r = false := by rw [hr, decide_eq_false (fun h => h2 h.2)]; rfl
            have h2' : decide (value ≤ 1099511627776) = false := decide_eq_false h2; clear hr
            go_enter Tryd.func24, Tryd.ntmps24
            go_wp2_with (fail); refine (HNm.out _).mono ?_; rintro e w3 ⟨rfl, rfl⟩; dsimp only; go_wp2_with (fail); go_ret; exact ⟨rfl, (Below.refl _ w).alloc (Nat.le_refl _) _⟩
        · obtain rfl : r = false := by rw [hr, decide_eq_false (fun h => h1 h.1)]; rfl
          clear hr
          go_enter Tryd.func24, Tryd.ntmps24
          go_wp2_with (fail); refine (HNm.out _).mono ?_; rintro e w3 ⟨rfl, rfl⟩; dsimp only; go_wp2_with (fail); go_ret; exact ⟨rfl, (Below.refl _ w).alloc (Nat.le_refl _) _⟩
    · have e1 : (kind == 1) = false := by simpa using k1
      obtain rfl : r = false := by rw [hr, decide_eq_false k1]; rfl
      clear hr k1
      go_enter Tryd.func24, Tryd.ntmps24
      go_wp2_with (fail); go_ret; exact ⟨rfl, (Below.refl _ w).alloc (Nat.le_refl _) _⟩
end Go.Proofs.YtdmnhgbdeifpbaaDoor
namespace Go.Proofs.YtdmnhgbdeifpbaaDoor
open Go Go.RowKit
end Go.Proofs.YtdmnhgbdeifpbaaDoor
namespace Go.Proofs.YtdmnhgbdeifpbaaDoor
open Go Go.RowKit
end Go.Proofs.YtdmnhgbdeifpbaaDoor
namespace Go.Proofs.YtdmnhgbdeifpbaaDoor
open Go Go.RowKit
end Go.Proofs.YtdmnhgbdeifpbaaDoor
