/-
  Part 19 of 53 of what the proof leans on.
-/
import Derived.Test.YtjeeghafachebaaGreatG6
import Derived.Test.YtjeeghafachebaaGreatG1
import Derived.Test.YtjeeghafachebaaGreatG14
import Derived.Test.YtjeeghafachebaaGreatG3
import Derived.Test.YtjeeghafachebaaGreatG2
namespace Go.Proofs.YtjeeghafachebaaGreat
open Go Go.RowKit
theorem rightB_no {kind size slide late agg k : Int} (h : kind < 1 ∨ 3 < kind ∨ size < 1 ∨ 1073741824 < size ∨ late < 0 ∨ 1073741824 < late ∨ agg < 1 ∨ 7 < agg) : (QueryL.mk kind size slide late agg k).rightB = false := by
  cases hr : (QueryL.mk kind size slide late agg k).rightB with
  | false => rfl
  | true =>
    obtain ⟨h1, h2, h3, _, _, h6, _, _⟩ := rightQ_cases hr; simp only at h1 h2 h3 h6; omega
theorem rightB_in {kind size slide late agg k : Int} (h : 1 ≤ kind ∧ kind ≤ 3 ∧ 1 ≤ size ∧ size ≤ 1073741824 ∧ 0 ≤ late ∧ late ≤ 1073741824 ∧ 1 ≤ agg ∧ agg ≤ 7) :
    (QueryL.mk kind size slide late agg k).rightB = ((if kind = 2 then decide (1 ≤ slide ∧ slide ≤ size ∧ size ≤ 16 * slide) else decide (slide = 0)) && (if agg = 6 then decide (1 ≤ k ∧ k ≤ 8) else decide (k = 0))) := by
  unfold QueryL.rightB QueryL.winB QueryL.aggB; simp only
  rw [decide_eq_true (show 1 ≤ size ∧ size ≤ 1073741824 by omega), decide_eq_true (show 0 ≤ late ∧ late ≤ 1073741824 by omega), Bool.true_and, Bool.and_true]
  congr 1
  · split
    · rfl
    · exact decide_eq_decide.2 ⟨fun h => h.2, fun h => ⟨by omega, h⟩⟩
  · split
    · rfl
    · exact decide_eq_decide.2 ⟨fun h => h.2.2, fun h => ⟨by omega, by omega, h⟩⟩
set_option maxRecDepth 100000 in
set_option maxHeartbeats 2000000 in
theorem rqRight_any (w : World) (q : QueryL) : Calls Tryz.prog 14 #[.agg q.cells] w (Below0 w (.bool q.rightB)) := by
  obtain ⟨kind, size, slide, late, agg, k⟩ := q; obtain ⟨r, hr⟩ : ∃ r, r = (QueryL.mk kind size slide late agg k).rightB := ⟨_, rfl⟩; rw [← hr]; unfold QueryL.cells
  by_cases t0 : kind < 1
  · obtain rfl : r = false := by rw [hr, rightB_no (by omega)]
    clear hr
    go_enter Tryz.func14, Tryz.ntmps14
    go_wp2_with (fail); go_ret; exact ⟨rfl, (Below.refl _ w).alloc (Nat.le_refl _) _⟩
  by_cases t1 : 3 < kind
  · obtain rfl : r = false := by rw [hr, rightB_no (by omega)]
    clear hr
    go_enter Tryz.func14, Tryz.ntmps14
    go_wp2_with (fail); go_ret; exact ⟨rfl, (Below.refl _ w).alloc (Nat.le_refl _) _⟩
  by_cases t2 : size < 1
  · obtain rfl : r = false := by rw [hr, rightB_no (by omega)]
    clear hr
    go_enter Tryz.func14, Tryz.ntmps14
    go_wp2_with (fail); go_ret; exact ⟨rfl, (Below.refl _ w).alloc (Nat.le_refl _) _⟩
  by_cases t3 : 1073741824 < size
  · obtain rfl : r = false := by rw [hr, rightB_no (by omega)]
    clear hr
    go_enter Tryz.func14, Tryz.ntmps14
    go_wp2_with (fail); go_ret; exact ⟨rfl, (Below.refl _ w).alloc (Nat.le_refl _) _⟩
  by_cases t4 : late < 0
  · obtain rfl : r = false := by rw [hr, rightB_no (by omega)]
    clear hr
    go_enter Tryz.func14, Tryz.ntmps14
    go_wp2_with (fail); go_ret; exact ⟨rfl, (Below.refl _ w).alloc (Nat.le_refl _) _⟩
  by_cases t5 : 1073741824 < late
  · obtain rfl : r = false := by rw [hr, rightB_no (by omega)]
    clear hr
    go_enter Tryz.func14, Tryz.ntmps14
    go_wp2_with (fail); go_ret; exact ⟨rfl, (Below.refl _ w).alloc (Nat.le_refl _) _⟩
  by_cases t6 : agg < 1
  · obtain rfl : r = false := by rw [hr, rightB_no (by omega)]
    clear hr
    go_enter Tryz.func14, Tryz.ntmps14
    go_wp2_with (fail); go_ret; exact ⟨rfl, (Below.refl _ w).alloc (Nat.le_refl _) _⟩
  by_cases t7 : 7 < agg
  · obtain rfl : r = false := by rw [hr, rightB_no (by omega)]
    clear hr
    go_enter Tryz.func14, Tryz.ntmps14
    go_wp2_with (fail); go_ret; exact ⟨rfl, (Below.refl _ w).alloc (Nat.le_refl _) _⟩
  rw [rightB_in (by omega)] at hr
  by_cases k2 : kind = 2
  · subst k2; rw [if_pos rfl] at hr
    by_cases s3 : slide < 1
    · obtain rfl : r = false := by rw [hr, decide_eq_false (by omega), Bool.false_and]
      clear hr
      go_enter Tryz.func14, Tryz.ntmps14
      go_wp2_with (fail); go_ret; exact ⟨rfl, (Below.refl _ w).alloc (Nat.le_refl _) _⟩
    by_cases s4 : size < slide
    · obtain rfl : r = false := by rw [hr, decide_eq_false (by omega), Bool.false_and]
      clear hr
      go_enter Tryz.func14, Tryz.ntmps14
      go_wp2_with (fail); go_ret; exact ⟨rfl, (Below.refl _ w).alloc (Nat.le_refl _) _⟩
    by_cases s5 : 16 * slide < size
    · obtain rfl : r = false := by rw [hr, decide_eq_false (by omega), Bool.false_and]
      clear hr
      go_enter Tryz.func14, Tryz.ntmps14
      go_wp2_with (fail); go_ret; exact ⟨rfl, (Below.refl _ w).alloc (Nat.le_refl _) _⟩
    rw [decide_eq_true (by omega), Bool.true_and] at hr
    by_cases a6 : agg = 6
    · subst a6; rw [if_pos rfl] at hr
      by_cases s0 : k < 1
      · obtain rfl : r = false := by rw [hr, decide_eq_false (by omega)]
        clear hr
        have d0 : decide ((1 : Int) ≤ k) = false := decide_eq_false (by omega)
        go_enter Tryz.func14, Tryz.ntmps14
        go_wp2_with (fail); go_ret; exact ⟨rfl, (Below.refl _ w).alloc (Nat.le_refl _) _⟩
      have d0 : decide ((1 : Int) ≤ k) = true := decide_eq_true (by omega)
      by_cases s1 : 8 < k
      · obtain rfl : r = false := by rw [hr, decide_eq_false (by omega)]
        clear hr
        have d1 : decide (k ≤ (8 : Int)) = false := decide_eq_false (by omega)
        go_enter Tryz.func14, Tryz.ntmps14
        go_wp2_with (fail); go_ret; exact ⟨rfl, (Below.refl _ w).alloc (Nat.le_refl _) _⟩
      · obtain rfl : r = true := by rw [hr, decide_eq_true (by omega)]
        clear hr
        have d1 : decide (k ≤ (8 : Int)) = true := decide_eq_true (by omega)
        go_enter Tryz.func14, Tryz.ntmps14
        go_wp2_with (fail); go_ret; exact ⟨rfl, (Below.refl _ w).alloc (Nat.le_refl _) _⟩
    · rw [if_neg a6] at hr
      have e6 : (agg == 6) = false := by simpa using a6
      by_cases s2 : k = 0
      · subst s2
        obtain rfl : r = true := by rw [hr, decide_eq_true (by omega)]
        clear hr a6
        go_enter Tryz.func14, Tryz.ntmps14
        go_wp2_with (fail); go_ret; exact ⟨rfl, (Below.refl _ w).alloc (Nat.le_refl _) _⟩
      · obtain rfl : r = false := by rw [hr, decide_eq_false (by omega)]
        have e0 : (k == 0) = false := by simpa using s2
        clear hr a6 s2
        go_enter Tryz.func14, Tryz.ntmps14
        go_wp2_with (fail); go_ret; exact ⟨rfl, (Below.refl _ w).alloc (Nat.le_refl _) _⟩
  · rw [if_neg k2] at hr
    have e2 : (kind == 2) = false := by simpa using k2
    have e2n : (kind != 2) = true := by simpa using k2
    by_cases s3 : slide = 0
    · subst s3; rw [decide_eq_true rfl, Bool.true_and] at hr; clear k2
      by_cases a6 : agg = 6
      · subst a6; rw [if_pos rfl] at hr
        by_cases s0 : k < 1
        · obtain rfl : r = false := by rw [hr, decide_eq_false (by omega)]
          clear hr
          have d0 : decide ((1 : Int) ≤ k) = false := decide_eq_false (by omega)
          go_enter Tryz.func14, Tryz.ntmps14
          go_wp2_with (fail); go_ret; exact ⟨rfl, (Below.refl _ w).alloc (Nat.le_refl _) _⟩
        have d0 : decide ((1 : Int) ≤ k) = true := decide_eq_true (by omega)
        by_cases s1 : 8 < k
        · obtain rfl : r = false := by rw [hr, decide_eq_false (by omega)]
          clear hr
          have d1 : decide (k ≤ (8 : Int)) = false := decide_eq_false (by omega)
          go_enter Tryz.func14, Tryz.ntmps14
          go_wp2_with (fail); go_ret; exact ⟨rfl, (Below.refl _ w).alloc (Nat.le_refl _) _⟩
        · obtain rfl : r = true := by rw [hr, decide_eq_true (by omega)]
          clear hr
          have d1 : decide (k ≤ (8 : Int)) = true := decide_eq_true (by omega)
          go_enter Tryz.func14, Tryz.ntmps14
          go_wp2_with (fail); go_ret; exact ⟨rfl, (Below.refl _ w).alloc (Nat.le_refl _) _⟩
      · rw [if_neg a6] at hr
        have e6 : (agg == 6) = false := by simpa using a6
        by_cases s2 : k = 0
        · subst s2
          obtain rfl : r = true := by rw [hr, decide_eq_true (by omega)]
          clear hr a6
          go_enter Tryz.func14, Tryz.ntmps14
          go_wp2_with (fail); go_ret; exact ⟨rfl, (Below.refl _ w).alloc (Nat.le_refl _) _⟩
        · obtain rfl : r = false := by rw [hr, decide_eq_false (by omega)]
          have e0 : (k == 0) = false := by simpa using s2
          clear hr a6 s2
          go_enter Tryz.func14, Tryz.ntmps14
          go_wp2_with (fail); go_ret; exact ⟨rfl, (Below.refl _ w).alloc (Nat.le_refl _) _⟩
    · obtain rfl : r = false := by rw [hr, decide_eq_false s3, Bool.false_and]
      have e3 : (slide == 0) = false := by simpa using s3
      have e3n : (slide != 0) = true := by simpa using s3
      clear hr k2 s3
      go_enter Tryz.func14, Tryz.ntmps14
      go_wp2_with (fail); go_ret; exact ⟨rfl, (Below.refl _ w).alloc (Nat.le_refl _) _⟩
end Go.Proofs.YtjeeghafachebaaGreat
namespace Go.Proofs.YtjeeghafachebaaGreat
open Go Go.RowKit
theorem run_lss_Sv {P : Program} (w : World) (t : TypeId) (a b : List (BitVec 8)) : (binOp .lss t (Sv a) (Sv b)).run P w = .ok (.bool (ltS a b)) w := by
  simp [Sv, binOp, Op.stringOp, ltS]
theorem run_gtr_Sv {P : Program} (w : World) (t : TypeId) (a b : List (BitVec 8)) : (binOp .gtr t (Sv a) (Sv b)).run P w = .ok (.bool (ltS b a)) w := by
  rw [ltS, ← bytesLess_total]; simp [Sv, binOp, Op.stringOp]
end Go.Proofs.YtjeeghafachebaaGreat
namespace Go.Proofs.YtjeeghafachebaaGreat
open Go Go.RowKit
theorem isNaNI_any (w : World) (a : Int) : Calls Tryz.prog 116 #[.int .i64 a] w fun e w' => e = .returned (.bool false) ∧ w' = w := by
  have h : (a != a) = false := by simp
  go_enter Tryz.func116, Tryz.ntmps116
  go_wp2_with (fail); go_ret; exact ⟨rfl, rfl⟩
theorem isNaNS_any (w : World) (a : List (BitVec 8)) : Calls Tryz.prog 115 #[Sv a] w fun e w' => e = .returned (.bool false) ∧ w' = w := by
  have h : ∀ w, (binOp .neq 9 (Sv a) (Sv a)).run Tryz.prog w = .ok (.bool false) w := fun w => by
    have h := run_neq_Sv w a a
    rwa [decide_eq_true rfl] at h
  go_enter Tryz.func115, Tryz.ntmps115
  go_wp2_with (fail); go_ret; exact ⟨rfl, rfl⟩
set_option maxRecDepth 100000 in
theorem cmpI_any (w : World) (a b : Int) : Calls Tryz.prog 91 #[.int .i64 a, .int .i64 b] w fun e w' => e = .returned (.int .i64 (ordI a b)) ∧ w' = w := by
  have HA := Lib.hid (isNaNI_any w a); have HB := Lib.hid (isNaNI_any w b); obtain ⟨r, hr⟩ : ∃ r, r = ordI a b := ⟨_, rfl⟩; rw [← hr]; unfold ordI at hr
  by_cases h1 : a < b
  · obtain rfl : r = -1 := by rw [hr, if_pos h1]
    clear hr
    go_enter Tryz.func91, Tryz.ntmps91
    go_wp2_with (fail); refine HA.out.mono ?_; rintro e w1 ⟨rfl, hw⟩; subst w1; dsimp only; go_wp2_with (fail); refine HB.out.mono ?_; rintro e w1 ⟨rfl, hw⟩; subst w1; dsimp only; go_wp2_with (fail); go_ret; exact ⟨rfl, rfl⟩
  rw [if_neg h1] at hr
  by_cases h2 : b < a
  · obtain rfl : r = 1 := by rw [hr, if_pos h2]
    clear hr
    go_enter Tryz.func91, Tryz.ntmps91
    go_wp2_with (fail); refine HA.out.mono ?_; rintro e w1 ⟨rfl, hw⟩; subst w1; dsimp only; go_wp2_with (fail); refine HB.out.mono ?_; rintro e w1 ⟨rfl, hw⟩; subst w1; dsimp only; go_wp2_with (fail); go_ret; exact ⟨rfl, rfl⟩
  · obtain rfl : r = 0 := by rw [hr, if_neg h2]
    clear hr
    go_enter Tryz.func91, Tryz.ntmps91
    go_wp2_with (fail); refine HA.out.mono ?_; rintro e w1 ⟨rfl, hw⟩; subst w1; dsimp only; go_wp2_with (fail); refine HB.out.mono ?_; rintro e w1 ⟨rfl, hw⟩; subst w1; dsimp only; go_wp2_with (fail); go_ret; exact ⟨rfl, rfl⟩
set_option maxRecDepth 100000 in
theorem cmpS_any (w : World) (a b : List (BitVec 8)) : Calls Tryz.prog 90 #[Sv a, Sv b] w fun e w' => e = .returned (.int .i64 (ordS a b)) ∧ w' = w := by
  have HA := Lib.hid (isNaNS_any w a); have HB := Lib.hid (isNaNS_any w b); have l1 : ∀ w, (binOp .lss 9 (Sv a) (Sv b)).run Tryz.prog w = .ok (.bool (ltS a b)) w := fun w => run_lss_Sv w _ a b; have l2 : ∀ w, (binOp .gtr 9 (Sv a) (Sv b)).run Tryz.prog w = .ok (.bool (ltS b a)) w := fun w => run_gtr_Sv w _ a b; obtain ⟨r, hr⟩ : ∃ r, r = ordS a b := ⟨_, rfl⟩; rw [← hr]; unfold ordS at hr; obtain ⟨p, hp⟩ : ∃ p, p = ltS a b := ⟨_, rfl⟩; obtain ⟨q, hq⟩ : ∃ q, q = ltS b a := ⟨_, rfl⟩; rw [← hp] at l1 hr; rw [← hq] at l2 hr; clear hp hq
  cases p with
  | true =>
    obtain rfl : r = -1 := hr
    go_enter Tryz.func90, Tryz.ntmps90
    go_wp2_with (fail); refine HA.out.mono ?_; rintro e w1 ⟨rfl, hw⟩; subst w1; dsimp only; go_wp2_with (fail); refine HB.out.mono ?_; rintro e w1 ⟨rfl, hw⟩; subst w1; dsimp only; go_wp2_with (fail); go_ret; exact ⟨rfl, rfl⟩
  | false =>
    cases q with
    | true =>
      obtain rfl : r = 1 := hr
      go_enter Tryz.func90, Tryz.ntmps90
      go_wp2_with (fail); refine HA.out.mono ?_; rintro e w1 ⟨rfl, hw⟩; subst w1; dsimp only; go_wp2_with (fail); refine HB.out.mono ?_; rintro e w1 ⟨rfl, hw⟩; subst w1; dsimp only; go_wp2_with (fail); go_ret; exact ⟨rfl, rfl⟩
    | false =>
      obtain rfl : r = 0 := hr
      go_enter Tryz.func90, Tryz.ntmps90
      go_wp2_with (fail); refine HA.out.mono ?_; rintro e w1 ⟨rfl, hw⟩; subst w1; dsimp only; go_wp2_with (fail); refine HB.out.mono ?_; rintro e w1 ⟨rfl, hw⟩; subst w1; dsimp only; go_wp2_with (fail); go_ret; exact ⟨rfl, rfl⟩
def OrRel (w0 : World) (ns : List Int) (v : Value) (wr : World) : Prop := ∃ j : Nat, j ≤ 3 ∧ v = .int .i64 (j : Int) ∧ (∀ i < j, ns.getD i 0 = 0) ∧ wr = w0
theorem firstI_of (a b c : Int) : (∀ j < 3, (∀ i < j, ([a, b, c] : List Int).getD i 0 = 0) → ([a, b, c] : List Int).getD j 0 ≠ 0 → firstI a b c = ([a, b, c] : List Int).getD j 0) ∧ ((∀ i < 3, ([a, b, c] : List Int).getD i 0 = 0) → firstI a b c = 0) := by
  constructor
  · intro j hj hz hn
    obtain rfl | rfl | rfl : j = 0 ∨ j = 1 ∨ j = 2 := by omega
    · exact if_pos hn
    · have h0 : a = 0 := hz 0 (by omega)
      unfold firstI
      rw [if_neg (by simpa using h0)]
      exact if_pos hn
    · have h0 : a = 0 := hz 0 (by omega)
      have h1 : b = 0 := hz 1 (by omega)
      unfold firstI
      rw [if_neg (by simpa using h0), if_neg (by simpa using h1)]
      rfl
  · intro hz
    have h0 : a = 0 := hz 0 (by omega)
    have h1 : b = 0 := hz 1 (by omega)
    have h2 : c = 0 := hz 2 (by omega)
    unfold firstI
    rw [if_neg (by simpa using h0), if_neg (by simpa using h1), h2]
set_option maxRecDepth 100000 in
theorem or3_any (w : World) (g : Nat) (a b c : Int) (hg : w.heap[g]? = some (.cells #[.int .i64 a, .int .i64 b, .int .i64 c] 3 (0, 0))) :
    Calls Tryz.prog 89 #[.slice (some ⟨g, 0, none⟩) 3 3] w fun e w' => e = .returned (.int .i64 (firstI a b c)) ∧ w' = w := by
  obtain ⟨r, hr⟩ : ∃ r, r = firstI a b c := ⟨_, rfl⟩; rw [← hr]; obtain ⟨ns, hns⟩ : ∃ l, l = ([a, b, c] : List Int) := ⟨_, rfl⟩
  have HW : Hid (∀ j < 3, w.cell? ⟨g, j, none⟩ = some (.int .i64 (ns.getD j 0))) := by
    rw [hns]; refine Lib.hid (fun j hj => ?_); rw [cell_of_row _ _ _ _ _ _ hg]
    obtain rfl | rfl | rfl : j = 0 ∨ j = 1 ∨ j = 2 := by omega
    all_goals rfl
  have HR2 : Hid ((∀ j < 3, (∀ i < j, ns.getD i 0 = 0) → ns.getD j 0 ≠ 0 → r = ns.getD j 0) ∧ ((∀ i < 3, ns.getD i 0 = 0) → r = 0)) := by
    rw [hr, hns]; exact Lib.hid (firstI_of a b c)
  clear hns hr hg
  go_enter Tryz.func89, Tryz.ntmps89
  go_wp2_with (fail)
  go_loopw [8] (OrRel w ns) (fun v _ => 3 - (intOf v).toNat)
  case atStart => exact ⟨0, by omega, rfl, fun i hi => by omega, rfl⟩
  case round =>
    obtain ⟨j, hj, rfl, hz, hwr⟩ := hrel; subst wr; have HZj := Lib.hid hz; clear hz
    by_cases hlt : j < 3
    · have hc := HW.out j hlt; obtain ⟨n, hn⟩ : ∃ n, n = ns.getD j 0 := ⟨_, rfl⟩; rw [← hn] at hc; have HN := Lib.hid hn; clear hn
      by_cases hn0 : n = 0
      · have e0 : (n != 0) = false := by rw [hn0]; rfl
        have HN0 := Lib.hid hn0; clear hn0; go_wp2_with (fail); go_roundw
        case rel =>
          refine ⟨j + 1, hlt, by go_num, fun i hi => ?_, rfl⟩
          by_cases hij : i < j
          · exact HZj.out i hij
          · obtain rfl : i = j := by omega
            rw [← HN.out]; exact HN0.out
        case measure => simp [intOf]; omega
      · have e0 : (n != 0) = true := by simpa using hn0
        obtain rfl : r = n := by rw [HN.out]; exact HR2.out.1 j hlt HZj.out (by rw [← HN.out]; exact hn0)
        clear hn0; go_wp2_with (fail); go_ret; exact ⟨rfl, rfl⟩
    · obtain rfl : j = 3 := by omega
      obtain rfl : r = 0 := HR2.out.2 HZj.out; clear hlt hj; go_wp2_with (fail); go_ret; exact ⟨rfl, rfl⟩
end Go.Proofs.YtjeeghafachebaaGreat
namespace Go.Proofs.YtjeeghafachebaaGreat
open Go Go.RowKit
theorem winAt_good {q : QueryL} (h : q.rightB = true) {key : List (BitVec 8)} (hk : nameB key = true) {t k : Int} (h0 : 0 ≤ t) (h1 : t ≤ 1099511627776) (hk0 : loK q t ≤ k) (hk1 : k ≤ t / stepQ q) :
    (winAt q key k).rightB = true ∧ (winAt q key k).lo ≤ t ∧ t < (winAt q key k).hi ∧ (winAt q key k).hi ≤ 1100585369600 := by
  obtain ⟨s1, s2, s3, s4, s5⟩ := stepQ_pos h; obtain ⟨b1, b2, b3⟩ := loK_bd h h0
  have hp0 : 0 ≤ k * stepQ q := Int.mul_nonneg (by omega) (by omega)
  have hp1 : k * stepQ q ≤ t / stepQ q * stepQ q := Int.mul_le_mul_of_nonneg_right hk1 (by omega)
  have hp2 : t / stepQ q * stepQ q ≤ t := Int.ediv_mul_le _ (by omega)
  have hin := (loK_spec h (t := t) k (by omega)).2 hk0
  refine ⟨?_, ?_, hin, ?_⟩
  · unfold WindowL.rightB winAt; simp only [hk, Bool.true_and, decide_eq_true_eq]; omega
  · show k * stepQ q ≤ t
    omega
  · show k * stepQ q + q.size ≤ 1100585369600
    omega
theorem ofW_good {q : QueryL} {key : List (BitVec 8)} {t : Int} {x : WindowL} (hx : x ∈ ofW q key t) : q.rightB = true ∧ x.rightB = true ∧ x.lo ≤ t ∧ t < x.hi ∧ x.hi ≤ 1100585369600 ∧ x.key = key := by
  unfold ofW at hx
  split at hx
  · rename_i hok
    simp only [okAsk, Bool.and_eq_true, decide_eq_true_eq] at hok; obtain ⟨⟨hr, hn⟩, h0, h1⟩ := hok; obtain ⟨s1, s2, s3, s4, s5⟩ := stepQ_pos hr
    split at hx
    · rw [List.mem_singleton.1 hx]; refine ⟨hr, ?_, Int.le_refl _, ?_, ?_, rfl⟩
      · unfold WindowL.rightB; simp only [hn, Bool.true_and, decide_eq_true_eq]; omega
      · show t < t + q.size
        omega
      · show t + q.size ≤ 1100585369600
        omega
    · obtain ⟨i, hi, rfl⟩ := List.mem_map.1 hx; have hi' := List.mem_range.1 hi; obtain ⟨b1, b2, b3⟩ := loK_bd hr h0
      obtain ⟨g1, g2, g3, g4⟩ := winAt_good hr hn h0 h1 (k := loK q t + (i : Int)) (by omega) (by omega)
      exact ⟨hr, g1, g2, g3, g4, rfl⟩
  · simp at hx
end Go.Proofs.YtjeeghafachebaaGreat
namespace Go.Proofs.YtjeeghafachebaaGreat
open Go Go.RowKit
theorem bytesLess_trans : ∀ x y z : List UInt8, Op.bytesLess x y = true → Op.bytesLess y z = true → Op.bytesLess x z = true
  | [], [], _, h, _ => by simp [Op.bytesLess] at h
  | [], _ :: _, [], _, h => by simp [Op.bytesLess] at h
  | [], _ :: _, _ :: _, _, _ => rfl
  | _ :: _, [], _, h, _ => by simp [Op.bytesLess] at h
  | _ :: _, _ :: _, [], _, h => by simp [Op.bytesLess] at h
  | a :: x, b :: y, c :: z, h1, h2 => by
    have ih := bytesLess_trans x y z; simp only [Op.bytesLess, Bool.or_eq_true, decide_eq_true_eq, Bool.and_eq_true, beq_iff_eq] at h1 h2 ⊢
    rcases h1 with h1 | ⟨rfl, h1⟩ <;> rcases h2 with h2 | ⟨rfl, h2⟩
    · left
      exact UInt8.lt_trans h1 h2
    · exact .inl h1
    · exact .inl h2
    · exact .inr ⟨rfl, ih h1 h2⟩
theorem strOf_inj {a b : List (BitVec 8)} (h : (strOf a).toList = (strOf b).toList) : a = b := by
  have e := str_eq a b; rw [h, beq_self_eq_true] at e; exact of_decide_eq_true e.symm
theorem ltS_total (a b : List (BitVec 8)) : ltS a b = true ∨ a = b ∨ ltS b a = true := by
  have h := bytesLess_total (strOf a).toList (strOf b).toList; unfold ltS
  cases h1 : Op.bytesLess (strOf a).toList (strOf b).toList with
  | true => exact .inl rfl
  | false =>
    rw [h1] at h
    by_cases e : a = b
    · exact .inr (.inl e)
    · right; right
      have : ((strOf a).toList == (strOf b).toList) = false := by
        rw [beq_eq_false_iff_ne]; exact fun h' => e (strOf_inj h')
      rw [this] at h; exact h.symm
theorem ltS_trans {a b c : List (BitVec 8)} (h1 : ltS a b = true) (h2 : ltS b c = true) : ltS a c = true := bytesLess_trans _ _ _ h1 h2
theorem ltS_irrefl (a : List (BitVec 8)) : ltS a a = false := by
  have h := bytesLess_total (strOf a).toList (strOf a).toList; rw [beq_self_eq_true, Bool.not_true, Bool.and_false] at h; exact h.symm
theorem ltS_asymm {a b : List (BitVec 8)} (h : ltS a b = true) : ltS b a = false := by
  cases h2 : ltS b a with
  | false => rfl
  | true =>
    have := ltS_trans h h2; rw [ltS_irrefl] at this
    cases this
def aheadP (a b : WindowL) : Prop := ltS a.key b.key = true ∨ a.key = b.key ∧ (a.lo < b.lo ∨ a.lo = b.lo ∧ a.hi < b.hi)
theorem ordI_cases (a b : Int) : a < b ∧ ordI a b = -1 ∨ a = b ∧ ordI a b = 0 ∨ b < a ∧ ordI a b = 1 := by
  unfold ordI
  split
  · exact .inl ⟨by assumption, rfl⟩
  · split
    · exact .inr (.inr ⟨by assumption, rfl⟩)
    · exact .inr (.inl ⟨by omega, rfl⟩)
theorem ordS_cases (a b : List (BitVec 8)) : ltS a b = true ∧ ordS a b = -1 ∨ a = b ∧ ordS a b = 0 ∨ ltS b a = true ∧ ordS a b = 1 := by
  rcases ltS_total a b with h | rfl | h
  · exact .inl ⟨h, by rw [ordS, if_pos h]⟩
  · exact .inr (.inl ⟨rfl, ordS_self a⟩)
  · exact .inr (.inr ⟨h, by rw [ordS, ltS_asymm h, if_neg (by decide), if_pos h]⟩)
theorem placeW_cases (a b : WindowL) : placeW a b = -1 ∧ aheadP a b ∨ placeW a b = 0 ∧ a = b ∨ placeW a b = 1 ∧ aheadP b a := by
  obtain ⟨k, l, h⟩ := a; obtain ⟨k', l', h'⟩ := b; unfold placeW aheadP; simp only
  rcases ordS_cases k k' with ⟨c, e⟩ | ⟨rfl, e⟩ | ⟨c, e⟩
  · left; exact ⟨by rw [e]; rfl, .inl c⟩
  · rcases ordI_cases l l' with ⟨c, e2⟩ | ⟨rfl, e2⟩ | ⟨c, e2⟩
    · left; exact ⟨by rw [e, e2]; rfl, .inr ⟨rfl, .inl c⟩⟩
    · rcases ordI_cases h h' with ⟨c, e3⟩ | ⟨rfl, e3⟩ | ⟨c, e3⟩
      · left; exact ⟨by rw [e, e2, e3]; rfl, .inr ⟨rfl, .inr ⟨rfl, c⟩⟩⟩
      · right; left; exact ⟨by rw [e, e2, e3]; rfl, rfl⟩
      · right; right; exact ⟨by rw [e, e2, e3]; rfl, .inr ⟨rfl, .inr ⟨rfl, c⟩⟩⟩
    · right; right; exact ⟨by rw [e, e2]; rfl, .inr ⟨rfl, .inl c⟩⟩
  · right; right; exact ⟨by rw [e]; rfl, .inl c⟩
theorem aheadP.trans {a b c : WindowL} (h1 : aheadP a b) (h2 : aheadP b c) : aheadP a c := by
  unfold aheadP at *
  rcases h1 with h1 | ⟨e1, h1⟩
  · rcases h2 with h2 | ⟨e2, h2⟩
    · exact .inl (ltS_trans h1 h2)
    · exact .inl (e2 ▸ h1)
  · rcases h2 with h2 | ⟨e2, h2⟩
    · exact .inl (e1 ▸ h2)
    · exact .inr ⟨e1.trans e2, by omega⟩
theorem aheadP.irrefl {a : WindowL} (h : aheadP a a) : False := by
  rcases h with h | ⟨_, h⟩
  · rw [ltS_irrefl] at h
    cases h
  · omega
theorem aheadP.asymm {a b : WindowL} (h1 : aheadP a b) (h2 : aheadP b a) : False := (h1.trans h2).irrefl
theorem placeW_neg (a b : WindowL) : placeW a b < 0 ↔ aheadP a b := by
  rcases placeW_cases a b with ⟨e, h⟩ | ⟨e, rfl⟩ | ⟨e, h⟩
  · exact ⟨fun _ => h, fun _ => by omega⟩
  · exact ⟨fun h => by omega, fun h => h.irrefl.elim⟩
  · exact ⟨fun h => by omega, fun h' => (h.asymm h').elim⟩
theorem aheadP_total {a b : WindowL} (h : a ≠ b) : aheadP a b ∨ aheadP b a := by
  rcases placeW_cases a b with ⟨_, h'⟩ | ⟨_, rfl⟩ | ⟨_, h'⟩
  · exact .inl h'
  · exact (h rfl).elim
  · exact .inr h'
instance (a b : WindowL) : Decidable (aheadP a b) := decidable_of_iff (placeW a b < 0) (placeW_neg a b)
def joinsB (a b : WindowL) : Bool := a.rightB && b.rightB && decide (a.key = b.key ∧ a.lo ≤ b.hi ∧ b.lo ≤ a.hi)
theorem joinsB_iff (a b : WindowL) : joinsB a b = true ↔ a.rightB = true ∧ b.rightB = true ∧ a.key = b.key ∧ a.lo ≤ b.hi ∧ b.lo ≤ a.hi := by
  simp only [joinsB, Bool.and_eq_true, decide_eq_true_eq, and_assoc]
theorem joinsB_symm (a b : WindowL) : joinsB a b = joinsB b a := by
  have h : joinsB a b = true ↔ joinsB b a = true := by
    rw [joinsB_iff, joinsB_iff]; exact ⟨fun ⟨h1, h2, h3, h4, h5⟩ => ⟨h2, h1, h3.symm, h5, h4⟩, fun ⟨h1, h2, h3, h4, h5⟩ => ⟨h2, h1, h3.symm, h5, h4⟩⟩
  cases h1 : joinsB a b <;> cases h2 : joinsB b a <;> simp_all
def Settled (l : List WindowL) : Prop := (∀ x ∈ l, x.rightB = true) ∧ l.Pairwise (fun a b => aheadP a b ∧ joinsB a b = false)
instance (l : List WindowL) : Decidable (Settled l) := by unfold Settled; infer_instance
def Cov (l : List WindowL) (k : List (BitVec 8)) (p : Int) : Prop := ∃ x ∈ l, x.key = k ∧ 2 * x.lo ≤ p ∧ p ≤ 2 * x.hi
theorem Cov_append (l m : List WindowL) (k : List (BitVec 8)) (p : Int) : Cov (l ++ m) k p ↔ Cov l k p ∨ Cov m k p := by
  simp only [Cov, List.mem_append]
  constructor
  · rintro ⟨x, h | h, h'⟩
    · exact .inl ⟨x, h, h'⟩
    · exact .inr ⟨x, h, h'⟩
  · rintro (⟨x, h, h'⟩ | ⟨x, h, h'⟩)
    · exact ⟨x, .inl h, h'⟩
    · exact ⟨x, .inr h, h'⟩
theorem Cov_one (x : WindowL) (k : List (BitVec 8)) (p : Int) : Cov [x] k p ↔ x.key = k ∧ 2 * x.lo ≤ p ∧ p ≤ 2 * x.hi := by simp [Cov]
theorem Cov_mem {l m : List WindowL} (h : ∀ x, x ∈ l ↔ x ∈ m) (k : List (BitVec 8)) (p : Int) : Cov l k p ↔ Cov m k p := by
  simp only [Cov, h]
theorem Settled.apart {l : List WindowL} (h : Settled l) {x y : WindowL} (hx : x ∈ l) (hy : y ∈ l) (hne : x ≠ y) : joinsB x y = false := by
  obtain ⟨i, hi, rfl⟩ := List.getElem_of_mem hx; obtain ⟨j, hj, rfl⟩ := List.getElem_of_mem hy
  rcases Nat.lt_trichotomy i j with hij | rfl | hij
  · exact (List.pairwise_iff_getElem.1 h.2 i j hi hj hij).2
  · exact (hne rfl).elim
  · rw [joinsB_symm]; exact (List.pairwise_iff_getElem.1 h.2 j i hj hi hij).2
theorem Settled.within {l m : List WindowL} (hl : Settled l) (hm : ∀ x ∈ m, x.rightB = true) (hc : ∀ k p, Cov m k p → Cov l k p) {x y : WindowL} (hx : x ∈ l) (hy : y ∈ m) (hk : y.key = x.key) (h1 : y.lo ≤ x.hi) (h2 : x.lo ≤ y.hi) : x.lo ≤ y.lo ∧ y.hi ≤ x.hi := by
  have rx := rightW_cases (hl.1 x hx); have ry := rightW_cases (hm y hy)
  constructor
  · refine Int.not_lt.1 fun hlt => ?_
    obtain ⟨v, hv, hvk, hv1, hv2⟩ := hc x.key (2 * x.lo - 1) ⟨y, hy, hk, by omega, by omega⟩
    have rv := rightW_cases (hl.1 v hv)
    have hne : v ≠ x := fun e => by rw [e] at hv1; omega
    have := hl.apart hv hx hne; rw [Bool.eq_false_iff] at this
    exact this ((joinsB_iff _ _).2 ⟨hl.1 v hv, hl.1 x hx, hvk, by omega, by omega⟩)
  · refine Int.not_lt.1 fun hlt => ?_
    obtain ⟨v, hv, hvk, hv1, hv2⟩ := hc x.key (2 * x.hi + 1) ⟨y, hy, hk, by omega, by omega⟩
    have rv := rightW_cases (hl.1 v hv)
    have hne : v ≠ x := fun e => by rw [e] at hv2; omega
    have := hl.apart hv hx hne; rw [Bool.eq_false_iff] at this
    exact this ((joinsB_iff _ _).2 ⟨hl.1 v hv, hl.1 x hx, hvk, by omega, by omega⟩)
theorem Settled.mem {l m : List WindowL} (hl : Settled l) (hm : Settled m) (hc : ∀ k p, Cov l k p ↔ Cov m k p) {x : WindowL} (hx : x ∈ l) : x ∈ m := by
  have rx := rightW_cases (hl.1 x hx)
  obtain ⟨y, hy, hyk, hy1, hy2⟩ := (hc x.key (2 * x.lo)).1 ⟨x, hx, rfl, by omega, by omega⟩
  have ry := rightW_cases (hm.1 y hy)
  obtain ⟨a1, a2⟩ := hl.within hm.1 (fun k p => (hc k p).2) hx hy hyk (by omega) (by omega)
  obtain ⟨b1, b2⟩ := hm.within hl.1 (fun k p => (hc k p).1) hy hx hyk.symm (by omega) (by omega)
  have e : x = y := by
    obtain ⟨k, lo, hi⟩ := x; obtain ⟨k', lo', hi'⟩ := y; simp only at hyk a1 a2 b1 b2; simp only [WindowL.mk.injEq]
    exact ⟨hyk.symm, by omega, by omega⟩
  rwa [e]
theorem sorted_ext {l m : List WindowL} : l.Pairwise aheadP → m.Pairwise aheadP → (∀ x, x ∈ l ↔ x ∈ m) → l = m := by
  induction l generalizing m with
  | nil =>
    intro _ _ h
    cases m with
    | nil => rfl
    | cons y m => exact absurd ((h y).2 (by simp)) (by simp)
  | cons x l ih =>
    intro hl hm h
    cases m with
    | nil => exact absurd ((h x).1 (by simp)) (by simp)
    | cons y m =>
      rw [List.pairwise_cons] at hl hm
      have e : x = y := by
        rcases List.mem_cons.1 ((h x).1 (by simp)) with e | hx
        · exact e
        · rcases List.mem_cons.1 ((h y).2 (by simp)) with e | hy
          · exact e.symm
          · exact ((hm.1 x hx).asymm (hl.1 y hy)).elim
      subst e
      congr 1
      refine ih hl.2 hm.2 fun z => ?_; have hz := h z; simp only [List.mem_cons] at hz
      constructor
      · intro h1
        rcases hz.1 (.inr h1) with rfl | h2
        · exact ((hl.1 z h1).irrefl).elim
        · exact h2
      · intro h1
        rcases hz.2 (.inr h1) with rfl | h2
        · exact ((hm.1 z h1).irrefl).elim
        · exact h2
theorem Settled.ext {l m : List WindowL} (hl : Settled l) (hm : Settled m) (hc : ∀ k p, Cov l k p ↔ Cov m k p) : l = m :=
  sorted_ext (hl.2.imp (fun h => h.1)) (hm.2.imp (fun h => h.1)) fun _ => ⟨fun h => hl.mem hm hc h, fun h => hm.mem hl (fun k p => (hc k p).symm) h⟩
def hullW (w : WindowL) (x o : WindowL) : WindowL := if joinsB o w = true then ⟨x.key, min x.lo o.lo, max x.hi o.hi⟩ else x
def became (l : List WindowL) (w : WindowL) : WindowL := l.foldl (hullW w) w
def restW (l : List WindowL) (w : WindowL) : List WindowL := l.filter fun o => !joinsB o w
def gaveW (l : List WindowL) (w : WindowL) : List Nat := (List.range l.length).filter fun i => joinsB (l.getD i zeroW) w
theorem hull_spec (w : WindowL) : ∀ (l : List WindowL) (x : WindowL),
    let y := l.foldl (hullW w) x
    y.key = x.key ∧ y.lo ≤ x.lo ∧ x.hi ≤ y.hi ∧ (∀ o ∈ l, joinsB o w = true → y.lo ≤ o.lo ∧ o.hi ≤ y.hi) ∧
    (y.lo = x.lo ∨ ∃ o ∈ l, joinsB o w = true ∧ y.lo = o.lo) ∧ (y.hi = x.hi ∨ ∃ o ∈ l, joinsB o w = true ∧ y.hi = o.hi)
  | [], x => ⟨rfl, Int.le_refl _, Int.le_refl _, fun _ h => by simp at h, .inl rfl, .inl rfl⟩
  | o :: l, x => by
    have ih := hull_spec w l (hullW w x o); obtain ⟨h1, h2, h3, h4, h5, h6⟩ := ih; have hs : ∀ z, List.foldl (hullW w) x (o :: l) = z ↔ List.foldl (hullW w) (hullW w x o) l = z := fun z => Iff.rfl; simp only; rw [show List.foldl (hullW w) x (o :: l) = List.foldl (hullW w) (hullW w x o) l from rfl]
    generalize List.foldl (hullW w) (hullW w x o) l = y at h1 h2 h3 h4 h5 h6
    by_cases hj : joinsB o w = true
    · have e : hullW w x o = ⟨x.key, min x.lo o.lo, max x.hi o.hi⟩ := by rw [hullW, if_pos hj]
      rw [e] at h1 h2 h3 h5 h6; simp only at h1 h2 h3 h5 h6
      refine ⟨h1, by clear h4 h5 h6; omega, by clear h4 h5 h6; omega, ?_, ?_, ?_⟩
      · intro p hp hpj
        rcases List.mem_cons.1 hp with rfl | hp
        · clear h4 h5 h6; omega
        · exact h4 p hp hpj
      · clear h4 h6
        rcases h5 with h5 | ⟨p, hp, hpj, h5⟩
        · by_cases hm : x.lo ≤ o.lo
          · exact .inl (by omega)
          · exact .inr ⟨o, by simp, hj, by omega⟩
        · exact .inr ⟨p, by simp [hp], hpj, h5⟩
      · clear h4 h5
        rcases h6 with h6 | ⟨p, hp, hpj, h6⟩
        · by_cases hm : o.hi ≤ x.hi
          · exact .inl (by omega)
          · exact .inr ⟨o, by simp, hj, by omega⟩
        · exact .inr ⟨p, by simp [hp], hpj, h6⟩
    · have e : hullW w x o = x := by rw [hullW, if_neg hj]
      rw [e] at h1 h2 h3 h5 h6; refine ⟨h1, h2, h3, ?_, ?_, ?_⟩
      · intro p hp hpj
        rcases List.mem_cons.1 hp with rfl | hp
        · exact (hj hpj).elim
        · exact h4 p hp hpj
      · rcases h5 with h5 | ⟨p, hp, hpj, h5⟩
        · exact .inl h5
        · exact .inr ⟨p, by simp [hp], hpj, h5⟩
      · rcases h6 with h6 | ⟨p, hp, hpj, h6⟩
        · exact .inl h6
        · exact .inr ⟨p, by simp [hp], hpj, h6⟩
theorem became_spec {l : List WindowL} {w : WindowL} (hw : w.rightB = true) :
    (became l w).rightB = true ∧ (became l w).key = w.key ∧ (became l w).lo ≤ w.lo ∧ w.hi ≤ (became l w).hi ∧ (∀ o ∈ l, joinsB o w = true → (became l w).lo ≤ o.lo ∧ o.hi ≤ (became l w).hi) ∧
    ((became l w).lo = w.lo ∨ ∃ o ∈ l, joinsB o w = true ∧ (became l w).lo = o.lo) ∧ ((became l w).hi = w.hi ∨ ∃ o ∈ l, joinsB o w = true ∧ (became l w).hi = o.hi) := by
  obtain ⟨h1, h2, h3, h4, h5, h6⟩ := hull_spec w l w; obtain ⟨r1, r2, r3, r4, r5, r6, r7⟩ := rightW_cases hw; refine ⟨?_, h1, h2, h3, h4, h5, h6⟩
  have hlo : 0 ≤ (became l w).lo := by
    rcases h5 with h5 | ⟨o, _, ho, h5⟩
    · show 0 ≤ (List.foldl (hullW w) w l).lo
      omega
    · have := rightW_cases ((joinsB_iff _ _).1 ho).1
      show 0 ≤ (List.foldl (hullW w) w l).lo
      omega
  have hhi : (became l w).hi ≤ 4398046511104 := by
    rcases h6 with h6 | ⟨o, _, ho, h6⟩
    · show (List.foldl (hullW w) w l).hi ≤ _
      omega
    · have := rightW_cases ((joinsB_iff _ _).1 ho).1
      show (List.foldl (hullW w) w l).hi ≤ _
      omega
  have hk : (became l w).key = w.key := h1; have h2' : (became l w).lo ≤ w.lo := h2; have h3' : w.hi ≤ (became l w).hi := h3; rw [WindowL.rightB, hk, r1, Bool.true_and, decide_eq_true_eq]; omega
theorem restW_mem {l : List WindowL} {w x : WindowL} : x ∈ restW l w ↔ x ∈ l ∧ joinsB x w = false := by
  rw [restW, List.mem_filter, Bool.not_eq_true']
theorem rest_apart {l : List WindowL} {w x : WindowL} (hl : Settled l) (hw : w.rightB = true) (hx : x ∈ restW l w) : joinsB x (became l w) = false := by
  obtain ⟨b0, b1, b2, b3, b4, b5, b6⟩ := became_spec (l := l) hw; obtain ⟨hxl, hxj⟩ := restW_mem.1 hx; rw [Bool.eq_false_iff] at hxj ⊢; intro hj; obtain ⟨j1, j2, j3, j4, j5⟩ := (joinsB_iff _ _).1 hj; have rx := rightW_cases j1; have rw' := rightW_cases hw; have hkw : x.key = w.key := j3.trans b1; have hno : ¬ (x.lo ≤ w.hi ∧ w.lo ≤ x.hi) := fun h => hxj ((joinsB_iff _ _).2 ⟨j1, hw, hkw, h.1, h.2⟩)
  have hap : ∀ o ∈ l, joinsB o w = true → x.hi < o.lo ∨ o.hi < x.lo := by
    intro o ho hoj; have hne : x ≠ o := fun e => hxj (e ▸ hoj); have h := hl.apart hxl ho hne; rw [Bool.eq_false_iff] at h; obtain ⟨o1, _, o3, _, _⟩ := (joinsB_iff _ _).1 hoj
    by_cases h1 : x.hi < o.lo
    · exact .inl h1
    · right
      refine Int.not_le.1 fun h2 => h ((joinsB_iff _ _).2 ⟨j1, o1, hkw.trans o3.symm, h2, by omega⟩)
  by_cases hc : x.hi < w.lo
  · rcases b5 with e | ⟨o, ho, hoj, e⟩
    · omega
    · have h1 := hap o ho hoj; have h2 := (joinsB_iff _ _).1 hoj; omega
  · have hc2 : w.hi < x.lo := by omega
    rcases b6 with e | ⟨o, ho, hoj, e⟩
    · omega
    · have h1 := hap o ho hoj; have h2 := (joinsB_iff _ _).1 hoj; omega
theorem cov_take {l : List WindowL} {w : WindowL} (hw : w.rightB = true) (k : List (BitVec 8)) (p : Int) : Cov (restW l w ++ [became l w]) k p ↔ Cov (l ++ [w]) k p := by
  obtain ⟨b0, b1, b2, b3, b4, b5, b6⟩ := became_spec (l := l) hw; have rb := rightW_cases b0; have rw' := rightW_cases hw; rw [Cov_append, Cov_append, Cov_one, Cov_one]
  constructor
  · rintro (⟨x, hx, h⟩ | ⟨hk, h1, h2⟩)
    · exact .inl ⟨x, (restW_mem.1 hx).1, h⟩
    · by_cases hc : 2 * w.lo ≤ p
      · by_cases hc2 : p ≤ 2 * w.hi
        · exact .inr ⟨b1.symm.trans hk, hc, hc2⟩
        · rcases b6 with e | ⟨o, ho, hoj, e⟩
          · omega
          · have h' := (joinsB_iff _ _).1 hoj
            exact .inl ⟨o, ho, by rw [h'.2.2.1, ← b1]; exact hk, by omega, by omega⟩
      · rcases b5 with e | ⟨o, ho, hoj, e⟩
        · omega
        · have h' := (joinsB_iff _ _).1 hoj
          exact .inl ⟨o, ho, by rw [h'.2.2.1, ← b1]; exact hk, by omega, by omega⟩
  · rintro (⟨x, hx, hk, h1, h2⟩ | ⟨hk, h1, h2⟩)
    · cases hj : joinsB x w with
      | false => exact .inl ⟨x, restW_mem.2 ⟨hx, hj⟩, hk, h1, h2⟩
      | true =>
        have h' := b4 x hx hj; have h2' := (joinsB_iff _ _).1 hj
        exact .inr ⟨by rw [b1, ← h2'.2.2.1]; exact hk, by omega, by omega⟩
    · exact .inr ⟨b1.trans hk, by omega, by omega⟩
def posW (w : WindowL) (out : List WindowL) : Nat → Nat
  | 0 => 0
  | n + 1 => if placeW w (out.getD n zeroW) < 0 then posW w out n else n + 1
def insW (out : List WindowL) (w : WindowL) : List WindowL := out.take (posW w out out.length) ++ [w] ++ out.drop (posW w out out.length)
def sortedW (l : List WindowL) : List WindowL := l.foldl insW []
theorem posW_le (w : WindowL) (out : List WindowL) : ∀ n, posW w out n ≤ n
  | 0 => Nat.le_refl _
  | n + 1 => by
    rw [posW]
    split
    · have := posW_le w out n; omega
    · exact Nat.le_refl _
theorem posW_spec (w : WindowL) (out : List WindowL) : ∀ n, (∀ i, posW w out n ≤ i → i < n → aheadP w (out.getD i zeroW)) ∧ (∀ i, posW w out n = i + 1 → ¬ aheadP w (out.getD i zeroW))
  | 0 => ⟨fun i _ h => absurd h (Nat.not_lt_zero _), fun i h => by simp [posW] at h⟩
  | n + 1 => by
    obtain ⟨h1, h2⟩ := posW_spec w out n; rw [posW]
    by_cases h : placeW w (out.getD n zeroW) < 0
    · rw [if_pos h]; refine ⟨fun i hi hn => ?_, h2⟩
      by_cases e : i = n
      · subst e; exact (placeW_neg _ _).1 h
      · exact h1 i hi (by omega)
    · rw [if_neg h]
      refine ⟨fun i hi hn => by omega, fun i hi => ?_⟩
      obtain rfl : i = n := by omega
      exact fun h' => h ((placeW_neg _ _).2 h')
theorem insW_perm (out : List WindowL) (w : WindowL) : (insW out w).Perm (w :: out) := by
  rw [insW, List.append_assoc]; refine List.perm_middle.trans ?_
  show (w :: (List.take (posW w out out.length) out ++ List.drop (posW w out out.length) out)).Perm _
  rw [List.take_append_drop]
theorem insW_sorted {out : List WindowL} {w : WindowL} (hs : out.Pairwise aheadP) (hw : w ∉ out) : (insW out w).Pairwise aheadP := by
  unfold insW; have hp := posW_le w out out.length; obtain ⟨h1, h2⟩ := posW_spec w out out.length
  generalize posW w out out.length = p at hp h1 h2
  have hsp := List.pairwise_iff_getElem.1 hs
  have hg : ∀ i (h : i < out.length), out.getD i zeroW = out[i] := fun i h => by simp [h]
  have hlow : ∀ i (h : i < out.length), i < p → aheadP out[i] w := by
    intro i hi hip; have hm : out[i] ≠ w := fun e => hw (e ▸ List.getElem_mem hi)
    have hlast : aheadP out[p - 1] w := by
      have := h2 (p - 1) (by omega)
      rw [hg _ (by omega)] at this
      have hm2 : out[p - 1] ≠ w := fun e => hw (e ▸ List.getElem_mem (by omega))
      exact (aheadP_total hm2).resolve_right this
    by_cases e : i = p - 1
    · subst e; exact hlast
    · exact (hsp i (p - 1) hi (by omega) (by omega)).trans hlast
  have hup : ∀ i (h : i < out.length), p ≤ i → aheadP w out[i] := by
    intro i hi hip; have := h1 i hip hi
    rwa [hg _ hi] at this
  rw [List.pairwise_append, List.pairwise_append]
  have ht : ∀ x ∈ out.take p, ∃ i, ∃ h : i < out.length, i < p ∧ out[i] = x := by
    intro x hx; obtain ⟨i, hi, e⟩ := List.getElem_of_mem hx; rw [List.length_take] at hi
    exact ⟨i, by omega, by omega, by rw [← e, List.getElem_take]⟩
  have hd : ∀ x ∈ out.drop p, ∃ i, ∃ h : i < out.length, p ≤ i ∧ out[i] = x := by
    intro x hx; obtain ⟨i, hi, e⟩ := List.getElem_of_mem hx; rw [List.length_drop] at hi
    exact ⟨p + i, by omega, by omega, by rw [← e, List.getElem_drop]⟩
  refine ⟨⟨hs.sublist (List.take_sublist _ _), by simp, ?_⟩, hs.sublist (List.drop_sublist _ _), ?_⟩
  · intro x hx y hy; obtain ⟨i, hi, hip, rfl⟩ := ht x hx; rw [List.mem_singleton.1 hy]; exact hlow i hi hip
  · intro x hx y hy; obtain ⟨j, hj, hjp, rfl⟩ := hd y hy
    rcases List.mem_append.1 hx with hx | hx
    · obtain ⟨i, hi, hip, rfl⟩ := ht x hx
      exact hsp i j hi hj (by omega)
    · rw [List.mem_singleton.1 hx]; exact hup j hj hjp
theorem sortedW_from : ∀ (l out : List WindowL), out.Pairwise aheadP → (out ++ l).Nodup → (l.foldl insW out).Pairwise aheadP ∧ (l.foldl insW out).Perm (out ++ l)
  | [], out, h, _ => ⟨h, by simp⟩
  | w :: l, out, h, hn => by
    have hw : w ∉ out := fun hw => by
      rw [List.nodup_append] at hn
      exact hn.2.2 w hw w (by simp) rfl
    have hp := insW_perm out w
    have hperm : (insW out w ++ l).Perm (out ++ w :: l) := by
      refine (List.Perm.append_right l hp).trans ?_; exact List.perm_middle.symm
    obtain ⟨h1, h2⟩ := sortedW_from l (insW out w) (insW_sorted h hw) (hperm.nodup_iff.2 hn); exact ⟨h1, h2.trans hperm⟩
theorem sortedW_spec {l : List WindowL} (hn : l.Nodup) : (sortedW l).Pairwise aheadP ∧ (sortedW l).Perm l := by
  have := sortedW_from l [] List.Pairwise.nil (by simpa using hn)
  exact ⟨this.1, this.2⟩
theorem sortedW_settled {l : List WindowL} (hr : ∀ x ∈ l, x.rightB = true) (hj : l.Pairwise (fun a b => joinsB a b = false)) : Settled (sortedW l) ∧ ∀ k p, Cov (sortedW l) k p ↔ Cov l k p := by
  have hself : ∀ x ∈ l, joinsB x x = true := fun x hx => by
    have r := rightW_cases (hr x hx)
    exact (joinsB_iff _ _).2 ⟨hr x hx, hr x hx, rfl, by omega, by omega⟩
  have hn : l.Nodup := by
    rw [List.nodup_iff_pairwise_ne]; refine (List.Pairwise.imp_of_mem ?_ hj); intro a b ha hb h e; rw [e, hself b hb] at h
    cases h
  obtain ⟨h1, h2⟩ := sortedW_spec hn
  have hj2 : (sortedW l).Pairwise (fun a b => joinsB a b = false) := h2.symm.pairwise hj (fun {x y} h => by rw [joinsB_symm]; exact h)
  refine ⟨⟨fun x hx => hr x (h2.mem_iff.1 hx), ?_⟩, Cov_mem (fun x => h2.mem_iff)⟩; exact h1.and hj2
def takeS (l : List WindowL) (w : WindowL) : List WindowL := sortedW (restW l w ++ [became l w])
theorem takeS_spec {l : List WindowL} {w : WindowL} (hl : Settled l) (hw : w.rightB = true) : Settled (takeS l w) ∧ ∀ k p, Cov (takeS l w) k p ↔ Cov (l ++ [w]) k p := by
  have h1 : ∀ x ∈ restW l w ++ [became l w], x.rightB = true := by
    intro x hx
    rcases List.mem_append.1 hx with hx | hx
    · exact hl.1 x (restW_mem.1 hx).1
    · rw [List.mem_singleton.1 hx]; exact (became_spec hw).1
  have h2 : (restW l w ++ [became l w]).Pairwise (fun a b => joinsB a b = false) := by
    rw [List.pairwise_append]
    refine ⟨(hl.2.imp (fun h => h.2)).sublist (List.filter_sublist), by simp, ?_⟩
    intro x hx y hy; rw [List.mem_singleton.1 hy]; exact rest_apart hl hw hx
  obtain ⟨h3, h4⟩ := sortedW_settled h1 h2; exact ⟨h3, fun k p => (h4 k p).trans (cov_take hw k p)⟩
def takeL (l : List WindowL) (w : WindowL) : List WindowL × WindowL × List Nat :=
  if Settled l ∧ w.rightB = true then (takeS l w, became l w, gaveW l w) else (l, zeroW, [])
theorem Settled.nil : Settled [] := ⟨by simp, List.Pairwise.nil⟩
end Go.Proofs.YtjeeghafachebaaGreat
