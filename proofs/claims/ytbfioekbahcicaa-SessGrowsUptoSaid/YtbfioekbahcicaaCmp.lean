/-
  The library's cmp.Compare of ints and of strings, cmp.Or of three ints: read off their own bodies.
-/
import Derived.Test.YtbfioekbahcicaaWinsPure
import Derived.Test.YtbfioekbahcicaaRefW
namespace Go.Proofs.Ytbfioekbahcicaa
open Go Go.RowKit

theorem isNaNI_any (w : World) (a : Int) : Calls Try.prog 42 #[.int .i64 a] w fun e w' => e = .returned (.bool false) ∧ w' = w := by
  have h : (a != a) = false := by simp
  go_enter Try.func42, Try.ntmps42
  go_wp2_with (fail)
  go_ret
  exact ⟨rfl, rfl⟩
theorem isNaNS_any (w : World) (a : List (BitVec 8)) : Calls Try.prog 41 #[Sv a] w fun e w' => e = .returned (.bool false) ∧ w' = w := by
  have h : ∀ w, (binOp .neq 9 (Sv a) (Sv a)).run Try.prog w = .ok (.bool false) w := fun w => by
    have h := run_neq_Sv w a a
    rwa [decide_eq_true rfl] at h
  go_enter Try.func41, Try.ntmps41
  go_wp2_with (fail)
  go_ret
  exact ⟨rfl, rfl⟩
set_option maxRecDepth 100000 in
theorem cmpI_any (w : World) (a b : Int) : Calls Try.prog 36 #[.int .i64 a, .int .i64 b] w fun e w' => e = .returned (.int .i64 (ordI a b)) ∧ w' = w := by
  have HA := Lib.hid (isNaNI_any w a)
  have HB := Lib.hid (isNaNI_any w b)
  obtain ⟨r, hr⟩ : ∃ r, r = ordI a b := ⟨_, rfl⟩
  rw [← hr]
  unfold ordI at hr
  by_cases h1 : a < b
  · obtain rfl : r = -1 := by rw [hr, if_pos h1]
    clear hr
    go_enter Try.func36, Try.ntmps36
    go_wp2_with (fail)
    refine HA.out.mono ?_
    rintro e w1 ⟨rfl, hw⟩
    subst w1
    dsimp only
    go_wp2_with (fail)
    refine HB.out.mono ?_
    rintro e w1 ⟨rfl, hw⟩
    subst w1
    dsimp only
    go_wp2_with (fail)
    go_ret
    exact ⟨rfl, rfl⟩
  rw [if_neg h1] at hr
  by_cases h2 : b < a
  · obtain rfl : r = 1 := by rw [hr, if_pos h2]
    clear hr
    go_enter Try.func36, Try.ntmps36
    go_wp2_with (fail)
    refine HA.out.mono ?_
    rintro e w1 ⟨rfl, hw⟩
    subst w1
    dsimp only
    go_wp2_with (fail)
    refine HB.out.mono ?_
    rintro e w1 ⟨rfl, hw⟩
    subst w1
    dsimp only
    go_wp2_with (fail)
    go_ret
    exact ⟨rfl, rfl⟩
  · obtain rfl : r = 0 := by rw [hr, if_neg h2]
    clear hr
    go_enter Try.func36, Try.ntmps36
    go_wp2_with (fail)
    refine HA.out.mono ?_
    rintro e w1 ⟨rfl, hw⟩
    subst w1
    dsimp only
    go_wp2_with (fail)
    refine HB.out.mono ?_
    rintro e w1 ⟨rfl, hw⟩
    subst w1
    dsimp only
    go_wp2_with (fail)
    go_ret
    exact ⟨rfl, rfl⟩
set_option maxRecDepth 100000 in
theorem cmpS_any (w : World) (a b : List (BitVec 8)) : Calls Try.prog 35 #[Sv a, Sv b] w fun e w' => e = .returned (.int .i64 (ordS a b)) ∧ w' = w := by
  have HA := Lib.hid (isNaNS_any w a)
  have HB := Lib.hid (isNaNS_any w b)
  have l1 : ∀ w, (binOp .lss 9 (Sv a) (Sv b)).run Try.prog w = .ok (.bool (ltS a b)) w := fun w => run_lss_Sv w _ a b
  have l2 : ∀ w, (binOp .gtr 9 (Sv a) (Sv b)).run Try.prog w = .ok (.bool (ltS b a)) w := fun w => run_gtr_Sv w _ a b
  obtain ⟨r, hr⟩ : ∃ r, r = ordS a b := ⟨_, rfl⟩
  rw [← hr]
  unfold ordS at hr
  obtain ⟨p, hp⟩ : ∃ p, p = ltS a b := ⟨_, rfl⟩
  obtain ⟨q, hq⟩ : ∃ q, q = ltS b a := ⟨_, rfl⟩
  rw [← hp] at l1 hr
  rw [← hq] at l2 hr
  clear hp hq
  cases p with
  | true =>
    obtain rfl : r = -1 := hr
    go_enter Try.func35, Try.ntmps35
    go_wp2_with (fail)
    refine HA.out.mono ?_
    rintro e w1 ⟨rfl, hw⟩
    subst w1
    dsimp only
    go_wp2_with (fail)
    refine HB.out.mono ?_
    rintro e w1 ⟨rfl, hw⟩
    subst w1
    dsimp only
    go_wp2_with (fail)
    go_ret
    exact ⟨rfl, rfl⟩
  | false =>
    cases q with
    | true =>
      obtain rfl : r = 1 := hr
      go_enter Try.func35, Try.ntmps35
      go_wp2_with (fail)
      refine HA.out.mono ?_
      rintro e w1 ⟨rfl, hw⟩
      subst w1
      dsimp only
      go_wp2_with (fail)
      refine HB.out.mono ?_
      rintro e w1 ⟨rfl, hw⟩
      subst w1
      dsimp only
      go_wp2_with (fail)
      go_ret
      exact ⟨rfl, rfl⟩
    | false =>
      obtain rfl : r = 0 := hr
      go_enter Try.func35, Try.ntmps35
      go_wp2_with (fail)
      refine HA.out.mono ?_
      rintro e w1 ⟨rfl, hw⟩
      subst w1
      dsimp only
      go_wp2_with (fail)
      refine HB.out.mono ?_
      rintro e w1 ⟨rfl, hw⟩
      subst w1
      dsimp only
      go_wp2_with (fail)
      go_ret
      exact ⟨rfl, rfl⟩
def OrRel (w0 : World) (ns : List Int) (v : Value) (wr : World) : Prop := ∃ j : Nat, j ≤ 3 ∧ v = .int .i64 (j : Int) ∧ (∀ i < j, ns.getD i 0 = 0) ∧ wr = w0
theorem firstI_of (a b c : Int) : (∀ j < 3, (∀ i < j, ([a, b, c] : List Int).getD i 0 = 0) → ([a, b, c] : List Int).getD j 0 ≠ 0 → firstI a b c = ([a, b, c] : List Int).getD j 0) ∧ ((∀ i < 3, ([a, b, c] : List Int).getD i 0 = 0) → firstI a b c = 0) := by
  constructor
  · intro j hj hz hn
    obtain rfl | rfl | rfl : j = 0 ∨ j = 1 ∨ j = 2 := by omega
    · exact if_pos hn
    · have h0 : a = 0 := hz 0 (by omega)
      unfold firstI
      rw [if_neg (by simpa using h0)]
      exact if_pos hn
    · have h0 : a = 0 := hz 0 (by omega)
      have h1 : b = 0 := hz 1 (by omega)
      unfold firstI
      rw [if_neg (by simpa using h0), if_neg (by simpa using h1)]
      rfl
  · intro hz
    have h0 : a = 0 := hz 0 (by omega)
    have h1 : b = 0 := hz 1 (by omega)
    have h2 : c = 0 := hz 2 (by omega)
    unfold firstI
    rw [if_neg (by simpa using h0), if_neg (by simpa using h1), h2]
set_option maxRecDepth 100000 in
theorem or3_any (w : World) (g : Nat) (a b c : Int) (hg : w.heap[g]? = some (.cells #[.int .i64 a, .int .i64 b, .int .i64 c] 3 (0, 0))) :
    Calls Try.prog 34 #[.slice (some ⟨g, 0, none⟩) 3 3] w fun e w' => e = .returned (.int .i64 (firstI a b c)) ∧ w' = w := by
  obtain ⟨r, hr⟩ : ∃ r, r = firstI a b c := ⟨_, rfl⟩
  rw [← hr]
  obtain ⟨ns, hns⟩ : ∃ l, l = ([a, b, c] : List Int) := ⟨_, rfl⟩
  have HW : Hid (∀ j < 3, w.cell? ⟨g, j, none⟩ = some (.int .i64 (ns.getD j 0))) := by
    rw [hns]
    refine Lib.hid (fun j hj => ?_)
    rw [cell_of_row _ _ _ _ _ _ hg]
    obtain rfl | rfl | rfl : j = 0 ∨ j = 1 ∨ j = 2 := by omega
    all_goals rfl
  have HR2 : Hid ((∀ j < 3, (∀ i < j, ns.getD i 0 = 0) → ns.getD j 0 ≠ 0 → r = ns.getD j 0) ∧ ((∀ i < 3, ns.getD i 0 = 0) → r = 0)) := by
    rw [hr, hns]
    exact Lib.hid (firstI_of a b c)
  clear hns hr hg
  go_enter Try.func34, Try.ntmps34
  go_wp2_with (fail)
  go_loopw [8] (OrRel w ns) (fun v _ => 3 - (intOf v).toNat)
  case atStart => exact ⟨0, by omega, rfl, fun i hi => by omega, rfl⟩
  case round =>
    obtain ⟨j, hj, rfl, hz, hwr⟩ := hrel
    subst wr
    have HZj := Lib.hid hz
    clear hz
    by_cases hlt : j < 3
    · have hc := HW.out j hlt
      obtain ⟨n, hn⟩ : ∃ n, n = ns.getD j 0 := ⟨_, rfl⟩
      rw [← hn] at hc
      have HN := Lib.hid hn
      clear hn
      by_cases hn0 : n = 0
      · have e0 : (n != 0) = false := by rw [hn0]; rfl
        have HN0 := Lib.hid hn0
        clear hn0
        go_wp2_with (fail)
        go_roundw
        case rel =>
          refine ⟨j + 1, hlt, by go_num, fun i hi => ?_, rfl⟩
          by_cases hij : i < j
          · exact HZj.out i hij
          · obtain rfl : i = j := by omega
            rw [← HN.out]
            exact HN0.out
        case measure => simp [intOf]; omega
      · have e0 : (n != 0) = true := by simpa using hn0
        obtain rfl : r = n := by rw [HN.out]; exact HR2.out.1 j hlt HZj.out (by rw [← HN.out]; exact hn0)
        clear hn0
        go_wp2_with (fail)
        go_ret
        exact ⟨rfl, rfl⟩
    · obtain rfl : j = 3 := by omega
      obtain rfl : r = 0 := HR2.out.2 HZj.out
      clear hlt hj
      go_wp2_with (fail)
      go_ret
      exact ⟨rfl, rfl⟩
end Go.Proofs.Ytbfioekbahcicaa
