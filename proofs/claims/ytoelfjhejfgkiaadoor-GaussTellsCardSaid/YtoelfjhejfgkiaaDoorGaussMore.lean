/-
  The contracts of package gauss' Norm, Side, Put, Get, Text; and what is answered of those that aren't whole.
-/
import Derived.Test.YtoelfjhejfgkiaaDoorGaussNum
import Derived.Test.YtoelfjhejfgkiaaDoorGaussText
import Derived.Test.YtoelfjhejfgkiaaDoorPenPen
import Derived.Test.YtoelfjhejfgkiaaDoorReadMore
namespace Go.Proofs.YtoelfjhejfgkiaaDoor
open Go Go.RowKit Ieee

/-- What a sum or a product answers where one isn't whole. -/
def OpArg (w : World) : Ending → World → Prop := Below0 w (.tuple #[zeroZ, .int .i64 2])
theorem whole_or (p q : Nat) : (∃ u v, WholeZ (.complex .f64 p q) u v) ∨ ¬ (WholeF p ∧ WholeF q) := by
  by_cases h : WholeF p ∧ WholeF q
  · exact .inl (WholeZ.of_whole h.1 h.2)
  · exact .inr h
set_option maxRecDepth 100000 in
theorem add_no (w : World) (p q r s : Nat) (h : ¬ (WholeF p ∧ WholeF q) ∨ ¬ (WholeF r ∧ WholeF s)) : Calls Tryd.prog 13 #[.complex .f64 p q, .complex .f64 r s] w (OpArg w) := by
  rcases whole_or p q with ⟨u, v, hz⟩ | hn
  · have hn : ¬ (WholeF r ∧ WholeF s) := by
      rcases h with h | h
      · obtain ⟨_, _, he, h1, h2⟩ := hz.parts
        cases he
        exact absurd ⟨h1, h2⟩ h
      · exact h
    have H1 := Lib.hid (right_yes w _ u v hz)
    have H2 := Lib.hid (fun w => right_no w r s hn)
    clear h hz hn
    unfold OpArg zeroZ
    go_enter Tryd.func13, Tryd.ntmps13
    go_wp2_with (fail)
    refine H1.out.mono ?_
    rintro e w1 ⟨rfl, rfl⟩
    dsimp only
    go_wp2_with (fail)
    refine (H2.out _).mono ?_
    rintro e w1 ⟨rfl, hB⟩
    have HB := Lib.hid hB
    clear hB
    dsimp only
    go_wp2_with (fail)
    refine bodyPost_ret (results_tmp2 rfl _ _ _) rfl ?_
    exact ⟨rfl, HB.out⟩
  · have H1 := Lib.hid (right_no w p q hn)
    clear h hn
    unfold OpArg zeroZ
    go_enter Tryd.func13, Tryd.ntmps13
    go_wp2_with (fail)
    refine H1.out.mono ?_
    rintro e w1 ⟨rfl, hB⟩
    have HB := Lib.hid hB
    clear hB
    dsimp only
    go_wp2_with (fail)
    refine bodyPost_ret (results_tmp2 rfl _ _ _) rfl ?_
    exact ⟨rfl, HB.out⟩
set_option maxRecDepth 100000 in
theorem times_no (w : World) (p q r s : Nat) (h : ¬ (WholeF p ∧ WholeF q) ∨ ¬ (WholeF r ∧ WholeF s)) : Calls Tryd.prog 14 #[.complex .f64 p q, .complex .f64 r s] w (OpArg w) := by
  rcases whole_or p q with ⟨u, v, hz⟩ | hn
  · have hn : ¬ (WholeF r ∧ WholeF s) := by
      rcases h with h | h
      · obtain ⟨_, _, he, h1, h2⟩ := hz.parts
        cases he
        exact absurd ⟨h1, h2⟩ h
      · exact h
    have H1 := Lib.hid (right_yes w _ u v hz)
    have H2 := Lib.hid (fun w => right_no w r s hn)
    clear h hz hn
    unfold OpArg zeroZ
    go_enter Tryd.func14, Tryd.ntmps14
    go_wp2_with (fail)
    refine H1.out.mono ?_
    rintro e w1 ⟨rfl, rfl⟩
    dsimp only
    go_wp2_with (fail)
    refine (H2.out _).mono ?_
    rintro e w1 ⟨rfl, hB⟩
    have HB := Lib.hid hB
    clear hB
    dsimp only
    go_wp2_with (fail)
    refine bodyPost_ret (results_tmp2 rfl _ _ _) rfl ?_
    exact ⟨rfl, HB.out⟩
  · have H1 := Lib.hid (right_no w p q hn)
    clear h hn
    unfold OpArg zeroZ
    go_enter Tryd.func14, Tryd.ntmps14
    go_wp2_with (fail)
    refine H1.out.mono ?_
    rintro e w1 ⟨rfl, hB⟩
    have HB := Lib.hid hB
    clear hB
    dsimp only
    go_wp2_with (fail)
    refine bodyPost_ret (results_tmp2 rfl _ _ _) rfl ?_
    exact ⟨rfl, HB.out⟩
theorem norm_yes (w : World) (z : Value) (u v : Int) (h : WholeZ z u v) : Calls Tryd.prog 15 #[z] w fun e w' => e = .returned (.int .i64 (u * u + v * v)) ∧ w' = w := by
  have HP := Lib.hid (parts_yes w z u v h)
  obtain ⟨_, h3⟩ := h
  unfold InP at h3
  have b1 := prod_bd (a := u) (b := u) (A := 1073741824) (B := 1073741824) (by omega) (by omega)
  have b2 := prod_bd (a := v) (b := v) (A := 1073741824) (B := 1073741824) (by omega) (by omega)
  obtain ⟨p1, e1⟩ : ∃ p, p = u * u := ⟨_, rfl⟩
  obtain ⟨p2, e2⟩ : ∃ p, p = v * v := ⟨_, rfl⟩
  rw [← e1] at b1
  rw [← e2] at b2
  obtain ⟨s, f1⟩ : ∃ s, s = p1 + p2 := ⟨_, rfl⟩
  have g1 : IntKind.i64.wrap p1 = p1 := IntWalk.i64_in _ (by omega)
  have g2 : IntKind.i64.wrap p2 = p2 := IntWalk.i64_in _ (by omega)
  have g3 : IntKind.i64.wrap s = s := IntWalk.i64_in _ (by omega)
  rw [← e1, ← e2, ← f1]
  replace e1 := e1.symm
  replace e2 := e2.symm
  replace f1 := f1.symm
  clear h3 b1 b2
  go_enter Tryd.func15, Tryd.ntmps15
  go_wp2_with (fail)
  refine HP.out.mono ?_
  rintro e w1 ⟨rfl, rfl⟩
  dsimp only
  go_wp2_with (fail)
  go_ret
  exact ⟨rfl, rfl⟩
theorem norm_no (w : World) (z : Value) (h : NotZ z) : Calls Tryd.prog 15 #[z] w (Below0 w (.int .i64 0)) := by
  have HP := Lib.hid (parts_no w z h)
  clear h
  go_enter Tryd.func15, Tryd.ntmps15
  go_wp2_with (fail)
  refine HP.out.mono ?_
  rintro e w1 ⟨rfl, hB⟩
  have HB := Lib.hid hB
  clear hB
  dsimp only
  go_wp2_with (fail)
  go_ret
  exact ⟨rfl, HB.out⟩
/-- The tests of Side, over two numbers. -/
def SideEnd (P : Ending → World → Prop) (w1 : World) (u v : Int) : Prop := P (.returned (.int .i64 (sideP u v))) w1
set_option maxRecDepth 100000 in
set_option maxHeartbeats 2000000 in
theorem side_walk (w : World) (z : Value) (u v : Int) (P : Ending → World → Prop) (hin : InP u v) (hc : Calls Tryd.prog 19 #[z] w fun e w' => e = .returned (.tuple #[.int .i64 u, .int .i64 v]) ∧ Below w.heap.size w w')
    (hP : ∀ w', Below w.heap.size w w' → P (.returned (.int .i64 (sideP u v))) w') : Calls Tryd.prog 16 #[z] w P := by
  have HP := Lib.hid hP
  have HC := Lib.hid hc
  obtain ⟨r, hr⟩ : ∃ r, r = sideP u v := ⟨_, rfl⟩
  rw [← hr] at HP
  unfold sideP at hr
  unfold InP at hin
  have hw1 : IntKind.i64.wrap (-u) = -u := IntWalk.i64_in _ (by omega)
  have hw2 : IntKind.i64.wrap (-v) = -v := IntWalk.i64_in _ (by omega)
  obtain ⟨a, ha⟩ : ∃ a, a = -u := ⟨_, rfl⟩
  obtain ⟨b, hb⟩ : ∃ b, b = -v := ⟨_, rfl⟩
  rw [← ha] at hw1 hr
  rw [← hb] at hw2 hr
  have hcase : ((u == 0) = true ∧ (v == 0) = true ∧ r = -1) ∨
      (((u == 0) = false ∨ ((u == 0) = true ∧ (v == 0) = false)) ∧
        ((0 < u ∧ a ≤ v ∧ v < u ∧ r = 0) ∨
         ((¬ 0 < u ∨ (0 < u ∧ ¬ a ≤ v) ∨ (0 < u ∧ a ≤ v ∧ ¬ v < u)) ∧
          ((0 < v ∧ b < u ∧ u ≤ v ∧ r = 1) ∨
           ((¬ 0 < v ∨ (0 < v ∧ ¬ b < u) ∨ (0 < v ∧ b < u ∧ ¬ u ≤ v)) ∧
            ((u < 0 ∧ u < v ∧ v ≤ a ∧ r = 2) ∨
             ((¬ u < 0 ∨ (u < 0 ∧ ¬ u < v) ∨ (u < 0 ∧ u < v ∧ ¬ v ≤ a)) ∧ r = 3))))))) := by
    by_cases h0 : u = 0 ∧ v = 0
    · left
      rw [if_pos h0] at hr
      exact ⟨by rw [h0.1]; rfl, by rw [h0.2]; rfl, hr⟩
    · right
      rw [if_neg h0] at hr
      refine ⟨?_, ?_⟩
      · by_cases h1 : u = 0
        · right
          exact ⟨by rw [h1]; rfl, by simpa using fun h2 => h0 ⟨h1, h2⟩⟩
        · left
          simpa using h1
      · by_cases h1 : 0 < u ∧ a ≤ v ∧ v < u
        · left
          rw [if_pos h1] at hr
          exact ⟨h1.1, h1.2.1, h1.2.2, hr⟩
        · right
          rw [if_neg h1] at hr
          refine ⟨by omega, ?_⟩
          by_cases h2 : 0 < v ∧ b < u ∧ u ≤ v
          · left
            rw [if_pos h2] at hr
            exact ⟨h2.1, h2.2.1, h2.2.2, hr⟩
          · right
            rw [if_neg h2] at hr
            refine ⟨by omega, ?_⟩
            by_cases h3 : u < 0 ∧ u < v ∧ v ≤ a
            · left
              rw [if_pos h3] at hr
              exact ⟨h3.1, h3.2.1, h3.2.2, hr⟩
            · right
              rw [if_neg h3] at hr
              exact ⟨by omega, hr⟩
  replace ha := ha.symm
  replace hb := hb.symm
  clear hr hP hc hin
  rcases hcase with ⟨g1, g2, rfl⟩ | ⟨g0, hcase⟩
  · clear ha hb hw1 hw2
    go_enter Tryd.func16, Tryd.ntmps16
    go_wp2_with (fail)
    refine HC.out.mono ?_
    rintro e w1 ⟨rfl, hB⟩
    have HB := Lib.hid hB
    clear hB
    dsimp only
    go_wp2_with (fail)
    first | done | exact HP.out _ HB.out | (go_ret; exact HP.out _ HB.out)
  · rcases g0 with g0 | ⟨g0, g0'⟩
    all_goals
      rcases hcase with ⟨k1, k2, k3, rfl⟩ | ⟨hk, hcase⟩
      · first
        | (exfalso; omega)
        | (exfalso; simp only [beq_iff_eq, beq_eq_false_iff_ne, ne_eq] at g0; omega)
        | (exfalso; simp only [beq_iff_eq, beq_eq_false_iff_ne, ne_eq] at g0 g0'; omega)
        | (go_enter Tryd.func16, Tryd.ntmps16
           go_wp2_with (fail)
           refine HC.out.mono ?_
           rintro e w1 ⟨rfl, hB⟩
           have HB := Lib.hid hB
           clear hB
           dsimp only
           go_wp2_with (fail)
           first | done | exact HP.out _ HB.out | (go_ret; exact HP.out _ HB.out))
      · rcases hk with k1 | ⟨k1, k2⟩ | ⟨k1, k2, k3⟩
        all_goals
          rcases hcase with ⟨l1, l2, l3, rfl⟩ | ⟨hl, hcase⟩
          · first
            | (exfalso; omega)
            | (exfalso; simp only [beq_iff_eq, beq_eq_false_iff_ne, ne_eq] at g0; omega)
            | (exfalso; simp only [beq_iff_eq, beq_eq_false_iff_ne, ne_eq] at g0 g0'; omega)
            | (go_enter Tryd.func16, Tryd.ntmps16
               go_wp2_with (fail)
               refine HC.out.mono ?_
               rintro e w1 ⟨rfl, hB⟩
               have HB := Lib.hid hB
               clear hB
               dsimp only
               go_wp2_with (fail)
               first | done | exact HP.out _ HB.out | (go_ret; exact HP.out _ HB.out))
          · rcases hl with l1 | ⟨l1, l2⟩ | ⟨l1, l2, l3⟩
            all_goals
              rcases hcase with ⟨m1, m2, m3, rfl⟩ | ⟨hm, rfl⟩
              · first
                | (exfalso; omega)
                | (exfalso; simp only [beq_iff_eq, beq_eq_false_iff_ne, ne_eq] at g0; omega)
                | (exfalso; simp only [beq_iff_eq, beq_eq_false_iff_ne, ne_eq] at g0 g0'; omega)
                | (go_enter Tryd.func16, Tryd.ntmps16
                   go_wp2_with (fail)
                   refine HC.out.mono ?_
                   rintro e w1 ⟨rfl, hB⟩
                   have HB := Lib.hid hB
                   clear hB
                   dsimp only
                   go_wp2_with (fail)
                   first | done | exact HP.out _ HB.out | (go_ret; exact HP.out _ HB.out))
              · rcases hm with m1 | ⟨m1, m2⟩ | ⟨m1, m2, m3⟩
                all_goals
                  first
                  | (exfalso; omega)
                  | (exfalso; simp only [beq_iff_eq, beq_eq_false_iff_ne, ne_eq] at g0; omega)
                  | (exfalso; simp only [beq_iff_eq, beq_eq_false_iff_ne, ne_eq] at g0 g0'; omega)
                  | (go_enter Tryd.func16, Tryd.ntmps16
                     go_wp2_with (fail)
                     refine HC.out.mono ?_
                     rintro e w1 ⟨rfl, hB⟩
                     have HB := Lib.hid hB
                     clear hB
                     dsimp only
                     go_wp2_with (fail)
                     first | done | exact HP.out _ HB.out | (go_ret; exact HP.out _ HB.out))
end Go.Proofs.YtoelfjhejfgkiaaDoor
