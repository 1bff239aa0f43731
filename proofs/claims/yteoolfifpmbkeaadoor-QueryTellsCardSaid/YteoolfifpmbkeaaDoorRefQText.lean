/-
  The contract of the reference's Text: a right query's.
-/
import Derived.Test.YteoolfifpmbkeaaDoorQueryText
namespace Go.Proofs.YteoolfifpmbkeaaDoor
open Go Go.RowKit

def bTumbling : List (BitVec 8) := [116, 117, 109, 98, 108, 105, 110, 103, 32]
def bSliding : List (BitVec 8) := [115, 108, 105, 100, 105, 110, 103, 32]
def bSession : List (BitVec 8) := [115, 101, 115, 115, 105, 111, 110, 32]
theorem words7_at (w : World) (j : Nat) (hj : j < 7) : (w.alloc (Obj.cells #[.string ⟨#[99, 111, 117, 110, 116]⟩, .string ⟨#[115, 117, 109]⟩, .string ⟨#[109, 105, 110]⟩, .string ⟨#[109, 97, 120]⟩, .string ⟨#[109, 101, 97, 110]⟩, .string ⟨#[116, 111, 112]⟩, .string ⟨#[115, 119, 105, 110, 103]⟩] 9)).cell? ⟨w.heap.size, j, none⟩ = some (Sv (aggsL.getD (j + 1) [])) := by
  rw [cell_of_row _ _ _ _ _ _ (heap_alloc_new w _)]
  obtain rfl | rfl | rfl | rfl | rfl | rfl | rfl : j = 0 ∨ j = 1 ∨ j = 2 ∨ j = 3 ∨ j = 4 ∨ j = 5 ∨ j = 6 := by omega
  all_goals rfl
def AggRel (an : Nat) (S1 S2 : List (BitVec 8)) (i s : Value) : Prop := ∃ j : Nat, j ≤ 7 ∧ i = .int .i64 (j : Int) ∧ s = Sv (if an ≤ j then S2 else S1)
set_option maxRecDepth 100000 in
set_option maxHeartbeats 4000000 in
theorem rqText_yes (w : World) (q : QueryL) (hr : q.rightB = true) (hTp : PowTab w) :
    Calls Tryd.prog 7 #[.agg q.cells] w (Below0 w (Sv q.text)) := by
  obtain ⟨b1, b2, b3, b4, b5, b6, b7, b8, b9, b10, b11, b12⟩ := rightQ_bd hr
  obtain ⟨_, _, h3, _, _, h6, _, _⟩ := rightQ_cases hr
  obtain ⟨w1, hw1⟩ : ∃ W, W = w.alloc (.cells q.cells 23) := ⟨_, rfl⟩
  have HB : Hid (Below w.heap.size w w1) := by rw [hw1]; exact (Below.refl _ w).alloc (Nat.le_refl _) _
  have HC : Hid (∀ w', Below w1.heap.size w1 w' → ∀ i v, q.cells[i]? = some v → w'.cell? ⟨w.heap.size, i, none⟩ = some v) := by rw [hw1]; exact Lib.hid (box_cells w q)
  clear hr
  obtain ⟨kind, size, slide, late, agg, k⟩ := q
  simp only at b1 b2 b3 b4 b5 b6 b7 b8 b9 b10 b11 b12 h3 h6
  obtain ⟨an, rfl⟩ : ∃ n : Nat, agg = (n : Int) := ⟨agg.toNat, by omega⟩
  have l1 := itoaL_length size (by omega)
  have l2 := itoaL_length slide (by omega)
  have l3 := itoaL_length late (by omega)
  have l4 := itoaL_length k (by omega)
  have l5 := aggW_len an
  have HAn : Hid (1 ≤ an ∧ an ≤ 7) := Lib.hid (by omega)
  obtain ⟨aw, haw⟩ : ∃ a, a = aggW (an : Int) := ⟨_, rfl⟩
  have HAw : Hid (aggsL.getD an [] = aw) := by rw [haw]; exact Lib.hid (aggW_at an (by omega))
  obtain ⟨a1, ha1⟩ : ∃ a, a = itoaL size := ⟨_, rfl⟩
  obtain ⟨a2, ha2⟩ : ∃ a, a = itoaL slide := ⟨_, rfl⟩
  obtain ⟨a3, ha3⟩ : ∃ a, a = itoaL late := ⟨_, rfl⟩
  obtain ⟨a4, ha4⟩ : ∃ a, a = itoaL k := ⟨_, rfl⟩
  have HCL : Hid ((∀ w', Below w.heap.size w w' → Calls Tryd.prog 21 #[.int .i64 size] w' (Below0 w' (Sv a1))) ∧ (∀ w', Below w.heap.size w w' → Calls Tryd.prog 21 #[.int .i64 slide] w' (Below0 w' (Sv a2))) ∧
      (∀ w', Below w.heap.size w w' → Calls Tryd.prog 21 #[.int .i64 late] w' (Below0 w' (Sv a3))) ∧ (∀ w', Below w.heap.size w w' → Calls Tryd.prog 21 #[.int .i64 k] w' (Below0 w' (Sv a4)))) := by
    rw [ha1, ha2, ha3, ha4]
    exact ⟨fun w' h => itoa_any w' size (by omega) (by omega) (hTp.below h), fun w' h => itoa_any w' slide (by omega) (by omega) (hTp.below h), fun w' h => itoa_any w' late (by omega) (by omega) (hTp.below h), fun w' h => itoa_any w' k (by omega) (by omega) (hTp.below h)⟩
  rw [← ha1] at l1
  rw [← ha2] at l2
  rw [← ha3] at l3
  rw [← ha4] at l4
  rw [← haw] at l5
  have e1 : bBlank.length = 1 := rfl
  have e2 : bLate.length = 6 := rfl
  unfold QueryL.cells at hw1 HC ⊢
  clear b9 h6
  rcases h3 with rfl | rfl | rfl
  · have m1 : bTumbling.length ≤ 9 := by decide
    obtain ⟨s2, hs2⟩ : ∃ a, a = bTumbling ++ a1 := ⟨_, rfl⟩
    have ms2 : s2.length = bTumbling.length + a1.length := by rw [hs2, List.length_append]
    obtain ⟨s3, hs3⟩ : ∃ a, a = bBlank ++ a2 := ⟨_, rfl⟩
    have ms3 : s3.length = bBlank.length + a2.length := by rw [hs3, List.length_append]
    obtain ⟨s4, hs4⟩ : ∃ a, a = s2 ++ s3 := ⟨_, rfl⟩
    have ms4 : s4.length = s2.length + s3.length := by rw [hs4, List.length_append]
    obtain ⟨t1, ht1⟩ : ∃ a, a = bLate ++ a3 := ⟨_, rfl⟩
    have mt1 : t1.length = bLate.length + a3.length := by rw [ht1, List.length_append]
    obtain ⟨S1, hS1⟩ : ∃ a, a = s2 ++ t1 := ⟨_, rfl⟩
    have mS1 : S1.length = s2.length + t1.length := by rw [hS1, List.length_append]
    obtain ⟨v1, hv1⟩ : ∃ a, a = bBlank ++ aw := ⟨_, rfl⟩
    have mv1 : v1.length = bBlank.length + aw.length := by rw [hv1, List.length_append]
    obtain ⟨S2, hS2⟩ : ∃ a, a = S1 ++ v1 := ⟨_, rfl⟩
    have mS2 : S2.length = S1.length + v1.length := by rw [hS2, List.length_append]
    obtain ⟨u1, hu1⟩ : ∃ a, a = bBlank ++ a4 := ⟨_, rfl⟩
    have mu1 : u1.length = bBlank.length + a4.length := by rw [hu1, List.length_append]
    obtain ⟨u2, hu2⟩ : ∃ a, a = S2 ++ u1 := ⟨_, rfl⟩
    have mu2 : u2.length = S2.length + u1.length := by rw [hu2, List.length_append]
    have HADD : Hid ((∀ w, (binOp .add 9 (.string ⟨#[116, 117, 109, 98, 108, 105, 110, 103, 32]⟩) (Sv a1)).run Tryd.prog w = .ok (Sv s2) w) ∧
    (∀ w, (binOp .add 9 (.string ⟨#[32]⟩) (Sv a2)).run Tryd.prog w = .ok (Sv s3) w) ∧
    (∀ w, (binOp .add 9 (Sv s2) (Sv s3)).run Tryd.prog w = .ok (Sv s4) w) ∧
    (∀ w, (binOp .add 9 (.string ⟨#[32, 108, 97, 116, 101, 32]⟩) (Sv a3)).run Tryd.prog w = .ok (Sv t1) w) ∧
    (∀ w, (binOp .add 9 (Sv s2) (Sv t1)).run Tryd.prog w = .ok (Sv S1) w) ∧
    (∀ w, (binOp .add 9 (.string ⟨#[32]⟩) (Sv aw)).run Tryd.prog w = .ok (Sv v1) w) ∧
    (∀ w, (binOp .add 9 (Sv S1) (Sv v1)).run Tryd.prog w = .ok (Sv S2) w) ∧
    (∀ w, (binOp .add 9 (.string ⟨#[32]⟩) (Sv a4)).run Tryd.prog w = .ok (Sv u1) w) ∧
    (∀ w, (binOp .add 9 (Sv S2) (Sv u1)).run Tryd.prog w = .ok (Sv u2) w)) :=
      Lib.hid ⟨fun w => by rw [hs2]; exact run_add_Sv w bTumbling a1 (by omega), fun w => by rw [hs3]; exact run_add_Sv w bBlank a2 (by omega), fun w => by rw [hs4]; exact run_add_Sv w s2 s3 (by omega), fun w => by rw [ht1]; exact run_add_Sv w bLate a3 (by omega), fun w => by rw [hS1]; exact run_add_Sv w s2 t1 (by omega), fun w => by rw [hv1]; exact run_add_Sv w bBlank aw (by omega), fun w => by rw [hS2]; exact run_add_Sv w S1 v1 (by omega), fun w => by rw [hu1]; exact run_add_Sv w bBlank a4 (by omega), fun w => by rw [hu2]; exact run_add_Sv w S2 u1 (by omega)⟩
    obtain ⟨T, hT⟩ : ∃ T, T = (QueryL.mk 1 size slide late (an : Int) k).text := ⟨_, rfl⟩
    rw [← hT]
    have HTx : Hid (T = if an = 6 then u2 else S2) := by
      have e2 : ((an : Int) = 6) ↔ an = 6 := by omega
      rw [hT, hu2, hu1, hS2, hv1, hS1, ht1, hs2, ha1, ha3, ha4, haw]
      refine Lib.hid ?_
      simp only [QueryL.text, e2]
      by_cases h2 : an = 6 <;> simp [h2, kindW, bLate, bBlank, wLate, bTumbling, wTumbling, List.append_assoc]
    clear hT hTp b1 b2 b3 b4 b5 b6 b7 b8 b10 b11 b12 l1 l2 l3 l4 l5 m1 hs2 hs3 hs4 ht1 hS1 hv1 hS2 hu1 hu2 ms2 ms3 ms4 mt1 mS1 mv1 mS2 mu1 mu2 ha1 ha2 ha3 ha4 haw e1 e2
    go_enter Tryd.func7, Tryd.ntmps7
    go_upto_region 1 with (fail)
    rw [← hw1]
    clear hw1
    have H1 : Hid (Below w1.heap.size w1 w1) := Lib.hid (Below.refl _ _)
    have c0 := HC.out w1 H1.out 0 _ rfl
    have c1 := HC.out w1 H1.out 1 _ rfl
    go_wp2_with (fail)
    refine (HCL.out.1 w1 (HB.out.trans (H1.out.mono HB.out.size))).mono ?_
    rintro e w2 ⟨rfl, hB⟩
    have H2 := Lib.hid (H1.out.trans (hB.mono H1.out.size))
    clear hB c0 c1
    have c0 := HC.out w2 H2.out 0 _ rfl
    have c2 := HC.out w2 H2.out 2 _ rfl
    have h1 := HADD.out.1
    dsimp only
    have c3 := HC.out w2 H2.out 3 _ rfl
    go_wp2_with (fail)
    refine (HCL.out.2.2.1 w2 (HB.out.trans (H2.out.mono HB.out.size))).mono ?_
    rintro e w3 ⟨rfl, hB⟩
    have H3 := Lib.hid (H2.out.trans (hB.mono H2.out.size))
    clear hB c0 c2 c3 h1
    have h1 := HADD.out.2.2.2.1
    have h2 := HADD.out.2.2.2.2.1
    dsimp only
    go_wp2_with (fail)
    obtain ⟨g, hg⟩ : ∃ g, g = w3.heap.size := ⟨_, rfl⟩
    obtain ⟨wl, hwl⟩ : ∃ W, W = w3.alloc (Obj.cells #[.string ⟨#[99, 111, 117, 110, 116]⟩, .string ⟨#[115, 117, 109]⟩, .string ⟨#[109, 105, 110]⟩, .string ⟨#[109, 97, 120]⟩, .string ⟨#[109, 101, 97, 110]⟩, .string ⟨#[116, 111, 112]⟩, .string ⟨#[115, 119, 105, 110, 103]⟩] 9) := ⟨_, rfl⟩
    have HW : Hid (Below w1.heap.size w1 wl ∧ ∀ j < 7, wl.cell? ⟨g, j, none⟩ = some (Sv (aggsL.getD (j + 1) []))) := by
      rw [hwl, hg]
      exact Lib.hid ⟨H3.out.alloc H3.out.size _, fun j hj => words7_at _ j hj⟩
    rw [← hwl, ← hg]
    have c4 := HC.out wl HW.out.1 4 _ rfl
    clear hwl hg h1 h2
    go_loop [34, 3] (fun i s => AggRel an S1 S2 i s) (fun i _ => 7 - (intOf i).toNat)
    case atStart => exact ⟨0, by omega, rfl, by rw [if_neg (by have := HAn.out; omega)]⟩
    case round =>
      obtain ⟨j, hj, rfl, rfl⟩ := hrel
      by_cases hlt : j < 7
      · have hc := HW.out.2 j hlt
        by_cases hw : an = j + 1
        · have e1 : ((an : Int) == (j : Int) + 1) = true := by simp; omega
          have HE : Hid (aggsL.getD (j + 1) [] = aw) := by rw [← hw]; exact HAw.out
          rw [HE.out] at hc
          rw [if_neg (by omega)]
          have h1 := HADD.out.2.2.2.2.2.1
          have h2 := HADD.out.2.2.2.2.2.2.1
          have HN : Hid (an = j + 1) := Lib.hid hw
          clear hw
          go_wp2_with (fail)
          go_round
          case rel => exact ⟨j + 1, hlt, by go_num, by rw [if_pos (by have := HN.out; omega)]⟩
          case measure => simp [intOf]; omega
        · have e1 : ((an : Int) == (j : Int) + 1) = false := by simp; omega
          obtain ⟨S, hS⟩ : ∃ S, S = (if an ≤ j then S2 else S1) := ⟨_, rfl⟩
          rw [← hS]
          have HS : Hid (S = if an ≤ j + 1 then S2 else S1) := by
            rw [hS]
            by_cases h : an ≤ j
            · rw [if_pos h, if_pos (by omega)]; exact Lib.hid rfl
            · rw [if_neg h, if_neg (by omega)]; exact Lib.hid rfl
          clear hw hS
          go_wp2_with (fail)
          go_round
          case rel => exact ⟨j + 1, hlt, by go_num, by rw [HS.out]⟩
          case measure => simp [intOf]; omega
      · obtain rfl : j = 7 := by omega
        rw [if_pos (by have := HAn.out; omega)]
        clear hlt hj
        by_cases a6 : an = 6
        · have e6 : ((an : Int) == 6) = true := by rw [a6]; rfl
          have HT : Hid (T = u2) := by rw [HTx.out, if_pos a6]; exact Lib.hid rfl
          have c5 := HC.out wl HW.out.1 5 _ rfl
          clear a6
          go_wp2_with (fail)
          refine (HCL.out.2.2.2 wl (HB.out.trans (HW.out.1.mono HB.out.size))).mono ?_
          rintro e w8 ⟨rfl, hB⟩
          have H8 := Lib.hid (HW.out.1.trans (hB.mono HW.out.1.size))
          clear hB c4 c5
          have h1 := HADD.out.2.2.2.2.2.2.2.1
          have h2 := HADD.out.2.2.2.2.2.2.2.2
          dsimp only
          go_wp2_with (fail)
          go_ret
          exact ⟨by rw [HT.out]; rfl, HB.out.trans (H8.out.mono HB.out.size)⟩
        · have e6 : ((an : Int) == 6) = false := by simp; omega
          have HT : Hid (T = S2) := by rw [HTx.out, if_neg a6]; exact Lib.hid rfl
          clear a6
          go_wp2_with (fail)
          go_ret
          exact ⟨by rw [HT.out]; rfl, HB.out.trans (HW.out.1.mono HB.out.size)⟩
  · have m1 : bSliding.length ≤ 9 := by decide
    obtain ⟨s2, hs2⟩ : ∃ a, a = bSliding ++ a1 := ⟨_, rfl⟩
    have ms2 : s2.length = bSliding.length + a1.length := by rw [hs2, List.length_append]
    obtain ⟨s3, hs3⟩ : ∃ a, a = bBlank ++ a2 := ⟨_, rfl⟩
    have ms3 : s3.length = bBlank.length + a2.length := by rw [hs3, List.length_append]
    obtain ⟨s4, hs4⟩ : ∃ a, a = s2 ++ s3 := ⟨_, rfl⟩
    have ms4 : s4.length = s2.length + s3.length := by rw [hs4, List.length_append]
    obtain ⟨t1, ht1⟩ : ∃ a, a = bLate ++ a3 := ⟨_, rfl⟩
    have mt1 : t1.length = bLate.length + a3.length := by rw [ht1, List.length_append]
    obtain ⟨S1, hS1⟩ : ∃ a, a = s4 ++ t1 := ⟨_, rfl⟩
    have mS1 : S1.length = s4.length + t1.length := by rw [hS1, List.length_append]
    obtain ⟨v1, hv1⟩ : ∃ a, a = bBlank ++ aw := ⟨_, rfl⟩
    have mv1 : v1.length = bBlank.length + aw.length := by rw [hv1, List.length_append]
    obtain ⟨S2, hS2⟩ : ∃ a, a = S1 ++ v1 := ⟨_, rfl⟩
    have mS2 : S2.length = S1.length + v1.length := by rw [hS2, List.length_append]
    obtain ⟨u1, hu1⟩ : ∃ a, a = bBlank ++ a4 := ⟨_, rfl⟩
    have mu1 : u1.length = bBlank.length + a4.length := by rw [hu1, List.length_append]
    obtain ⟨u2, hu2⟩ : ∃ a, a = S2 ++ u1 := ⟨_, rfl⟩
    have mu2 : u2.length = S2.length + u1.length := by rw [hu2, List.length_append]
    have HADD : Hid ((∀ w, (binOp .add 9 (.string ⟨#[115, 108, 105, 100, 105, 110, 103, 32]⟩) (Sv a1)).run Tryd.prog w = .ok (Sv s2) w) ∧
    (∀ w, (binOp .add 9 (.string ⟨#[32]⟩) (Sv a2)).run Tryd.prog w = .ok (Sv s3) w) ∧
    (∀ w, (binOp .add 9 (Sv s2) (Sv s3)).run Tryd.prog w = .ok (Sv s4) w) ∧
    (∀ w, (binOp .add 9 (.string ⟨#[32, 108, 97, 116, 101, 32]⟩) (Sv a3)).run Tryd.prog w = .ok (Sv t1) w) ∧
    (∀ w, (binOp .add 9 (Sv s4) (Sv t1)).run Tryd.prog w = .ok (Sv S1) w) ∧
    (∀ w, (binOp .add 9 (.string ⟨#[32]⟩) (Sv aw)).run Tryd.prog w = .ok (Sv v1) w) ∧
    (∀ w, (binOp .add 9 (Sv S1) (Sv v1)).run Tryd.prog w = .ok (Sv S2) w) ∧
    (∀ w, (binOp .add 9 (.string ⟨#[32]⟩) (Sv a4)).run Tryd.prog w = .ok (Sv u1) w) ∧
    (∀ w, (binOp .add 9 (Sv S2) (Sv u1)).run Tryd.prog w = .ok (Sv u2) w)) :=
      Lib.hid ⟨fun w => by rw [hs2]; exact run_add_Sv w bSliding a1 (by omega), fun w => by rw [hs3]; exact run_add_Sv w bBlank a2 (by omega), fun w => by rw [hs4]; exact run_add_Sv w s2 s3 (by omega), fun w => by rw [ht1]; exact run_add_Sv w bLate a3 (by omega), fun w => by rw [hS1]; exact run_add_Sv w s4 t1 (by omega), fun w => by rw [hv1]; exact run_add_Sv w bBlank aw (by omega), fun w => by rw [hS2]; exact run_add_Sv w S1 v1 (by omega), fun w => by rw [hu1]; exact run_add_Sv w bBlank a4 (by omega), fun w => by rw [hu2]; exact run_add_Sv w S2 u1 (by omega)⟩
    obtain ⟨T, hT⟩ : ∃ T, T = (QueryL.mk 2 size slide late (an : Int) k).text := ⟨_, rfl⟩
    rw [← hT]
    have HTx : Hid (T = if an = 6 then u2 else S2) := by
      have e2 : ((an : Int) = 6) ↔ an = 6 := by omega
      rw [hT, hu2, hu1, hS2, hv1, hS1, ht1, hs4, hs3, hs2, ha1, ha2, ha3, ha4, haw]
      refine Lib.hid ?_
      simp only [QueryL.text, e2]
      by_cases h2 : an = 6 <;> simp [h2, kindW, bLate, bBlank, wLate, bSliding, wSliding, List.append_assoc]
    clear hT hTp b1 b2 b3 b4 b5 b6 b7 b8 b10 b11 b12 l1 l2 l3 l4 l5 m1 hs2 hs3 hs4 ht1 hS1 hv1 hS2 hu1 hu2 ms2 ms3 ms4 mt1 mS1 mv1 mS2 mu1 mu2 ha1 ha2 ha3 ha4 haw e1 e2
    go_enter Tryd.func7, Tryd.ntmps7
    go_upto_region 1 with (fail)
    rw [← hw1]
    clear hw1
    have H1 : Hid (Below w1.heap.size w1 w1) := Lib.hid (Below.refl _ _)
    have c0 := HC.out w1 H1.out 0 _ rfl
    have c1 := HC.out w1 H1.out 1 _ rfl
    go_wp2_with (fail)
    refine (HCL.out.1 w1 (HB.out.trans (H1.out.mono HB.out.size))).mono ?_
    rintro e w2 ⟨rfl, hB⟩
    have H2 := Lib.hid (H1.out.trans (hB.mono H1.out.size))
    clear hB c0 c1
    have c0 := HC.out w2 H2.out 0 _ rfl
    have c2 := HC.out w2 H2.out 2 _ rfl
    have h1 := HADD.out.1
    dsimp only
    go_wp2_with (fail)
    refine (HCL.out.2.1 w2 (HB.out.trans (H2.out.mono HB.out.size))).mono ?_
    rintro e w3 ⟨rfl, hB⟩
    have H3 := Lib.hid (H2.out.trans (hB.mono H2.out.size))
    clear hB c0 c2 h1
    have c0 := HC.out w3 H3.out 0 _ rfl
    have c3 := HC.out w3 H3.out 3 _ rfl
    have h1 := HADD.out.2.1
    have h2 := HADD.out.2.2.1
    dsimp only
    go_wp2_with (fail)
    refine (HCL.out.2.2.1 w3 (HB.out.trans (H3.out.mono HB.out.size))).mono ?_
    rintro e w4 ⟨rfl, hB⟩
    have H4 := Lib.hid (H3.out.trans (hB.mono H3.out.size))
    clear hB c0 c3 h1 h2
    have h1 := HADD.out.2.2.2.1
    have h2 := HADD.out.2.2.2.2.1
    dsimp only
    go_wp2_with (fail)
    obtain ⟨g, hg⟩ : ∃ g, g = w4.heap.size := ⟨_, rfl⟩
    obtain ⟨wl, hwl⟩ : ∃ W, W = w4.alloc (Obj.cells #[.string ⟨#[99, 111, 117, 110, 116]⟩, .string ⟨#[115, 117, 109]⟩, .string ⟨#[109, 105, 110]⟩, .string ⟨#[109, 97, 120]⟩, .string ⟨#[109, 101, 97, 110]⟩, .string ⟨#[116, 111, 112]⟩, .string ⟨#[115, 119, 105, 110, 103]⟩] 9) := ⟨_, rfl⟩
    have HW : Hid (Below w1.heap.size w1 wl ∧ ∀ j < 7, wl.cell? ⟨g, j, none⟩ = some (Sv (aggsL.getD (j + 1) []))) := by
      rw [hwl, hg]
      exact Lib.hid ⟨H4.out.alloc H4.out.size _, fun j hj => words7_at _ j hj⟩
    rw [← hwl, ← hg]
    have c4 := HC.out wl HW.out.1 4 _ rfl
    clear hwl hg h1 h2
    go_loop [34, 3] (fun i s => AggRel an S1 S2 i s) (fun i _ => 7 - (intOf i).toNat)
    case atStart => exact ⟨0, by omega, rfl, by rw [if_neg (by have := HAn.out; omega)]⟩
    case round =>
      obtain ⟨j, hj, rfl, rfl⟩ := hrel
      by_cases hlt : j < 7
      · have hc := HW.out.2 j hlt
        by_cases hw : an = j + 1
        · have e1 : ((an : Int) == (j : Int) + 1) = true := by simp; omega
          have HE : Hid (aggsL.getD (j + 1) [] = aw) := by rw [← hw]; exact HAw.out
          rw [HE.out] at hc
          rw [if_neg (by omega)]
          have h1 := HADD.out.2.2.2.2.2.1
          have h2 := HADD.out.2.2.2.2.2.2.1
          have HN : Hid (an = j + 1) := Lib.hid hw
          clear hw
          go_wp2_with (fail)
          go_round
          case rel => exact ⟨j + 1, hlt, by go_num, by rw [if_pos (by have := HN.out; omega)]⟩
          case measure => simp [intOf]; omega
        · have e1 : ((an : Int) == (j : Int) + 1) = false := by simp; omega
          obtain ⟨S, hS⟩ : ∃ S, S = (if an ≤ j then S2 else S1) := ⟨_, rfl⟩
          rw [← hS]
          have HS : Hid (S = if an ≤ j + 1 then S2 else S1) := by
            rw [hS]
            by_cases h : an ≤ j
            · rw [if_pos h, if_pos (by omega)]; exact Lib.hid rfl
            · rw [if_neg h, if_neg (by omega)]; exact Lib.hid rfl
          clear hw hS
          go_wp2_with (fail)
          go_round
          case rel => exact ⟨j + 1, hlt, by go_num, by rw [HS.out]⟩
          case measure => simp [intOf]; omega
      · obtain rfl : j = 7 := by omega
        rw [if_pos (by have := HAn.out; omega)]
        clear hlt hj
        by_cases a6 : an = 6
        · have e6 : ((an : Int) == 6) = true := by rw [a6]; rfl
          have HT : Hid (T = u2) := by rw [HTx.out, if_pos a6]; exact Lib.hid rfl
          have c5 := HC.out wl HW.out.1 5 _ rfl
          clear a6
          go_wp2_with (fail)
          refine (HCL.out.2.2.2 wl (HB.out.trans (HW.out.1.mono HB.out.size))).mono ?_
          rintro e w8 ⟨rfl, hB⟩
          have H8 := Lib.hid (HW.out.1.trans (hB.mono HW.out.1.size))
          clear hB c4 c5
          have h1 := HADD.out.2.2.2.2.2.2.2.1
          have h2 := HADD.out.2.2.2.2.2.2.2.2
          dsimp only
          go_wp2_with (fail)
          go_ret
          exact ⟨by rw [HT.out]; rfl, HB.out.trans (H8.out.mono HB.out.size)⟩
        · have e6 : ((an : Int) == 6) = false := by simp; omega
          have HT : Hid (T = S2) := by rw [HTx.out, if_neg a6]; exact Lib.hid rfl
          clear a6
          go_wp2_with (fail)
          go_ret
          exact ⟨by rw [HT.out]; rfl, HB.out.trans (HW.out.1.mono HB.out.size)⟩
  · have m1 : bSession.length ≤ 9 := by decide
    obtain ⟨s2, hs2⟩ : ∃ a, a = bSession ++ a1 := ⟨_, rfl⟩
    have ms2 : s2.length = bSession.length + a1.length := by rw [hs2, List.length_append]
    obtain ⟨s3, hs3⟩ : ∃ a, a = bBlank ++ a2 := ⟨_, rfl⟩
    have ms3 : s3.length = bBlank.length + a2.length := by rw [hs3, List.length_append]
    obtain ⟨s4, hs4⟩ : ∃ a, a = s2 ++ s3 := ⟨_, rfl⟩
    have ms4 : s4.length = s2.length + s3.length := by rw [hs4, List.length_append]
    obtain ⟨t1, ht1⟩ : ∃ a, a = bLate ++ a3 := ⟨_, rfl⟩
    have mt1 : t1.length = bLate.length + a3.length := by rw [ht1, List.length_append]
    obtain ⟨S1, hS1⟩ : ∃ a, a = s2 ++ t1 := ⟨_, rfl⟩
    have mS1 : S1.length = s2.length + t1.length := by rw [hS1, List.length_append]
    obtain ⟨v1, hv1⟩ : ∃ a, a = bBlank ++ aw := ⟨_, rfl⟩
    have mv1 : v1.length = bBlank.length + aw.length := by rw [hv1, List.length_append]
    obtain ⟨S2, hS2⟩ : ∃ a, a = S1 ++ v1 := ⟨_, rfl⟩
    have mS2 : S2.length = S1.length + v1.length := by rw [hS2, List.length_append]
    obtain ⟨u1, hu1⟩ : ∃ a, a = bBlank ++ a4 := ⟨_, rfl⟩
    have mu1 : u1.length = bBlank.length + a4.length := by rw [hu1, List.length_append]
    obtain ⟨u2, hu2⟩ : ∃ a, a = S2 ++ u1 := ⟨_, rfl⟩
    have mu2 : u2.length = S2.length + u1.length := by rw [hu2, List.length_append]
    have HADD : Hid ((∀ w, (binOp .add 9 (.string ⟨#[115, 101, 115, 115, 105, 111, 110, 32]⟩) (Sv a1)).run Tryd.prog w = .ok (Sv s2) w) ∧
    (∀ w, (binOp .add 9 (.string ⟨#[32]⟩) (Sv a2)).run Tryd.prog w = .ok (Sv s3) w) ∧
    (∀ w, (binOp .add 9 (Sv s2) (Sv s3)).run Tryd.prog w = .ok (Sv s4) w) ∧
    (∀ w, (binOp .add 9 (.string ⟨#[32, 108, 97, 116, 101, 32]⟩) (Sv a3)).run Tryd.prog w = .ok (Sv t1) w) ∧
    (∀ w, (binOp .add 9 (Sv s2) (Sv t1)).run Tryd.prog w = .ok (Sv S1) w) ∧
    (∀ w, (binOp .add 9 (.string ⟨#[32]⟩) (Sv aw)).run Tryd.prog w = .ok (Sv v1) w) ∧
    (∀ w, (binOp .add 9 (Sv S1) (Sv v1)).run Tryd.prog w = .ok (Sv S2) w) ∧
    (∀ w, (binOp .add 9 (.string ⟨#[32]⟩) (Sv a4)).run Tryd.prog w = .ok (Sv u1) w) ∧
    (∀ w, (binOp .add 9 (Sv S2) (Sv u1)).run Tryd.prog w = .ok (Sv u2) w)) :=
      Lib.hid ⟨fun w => by rw [hs2]; exact run_add_Sv w bSession a1 (by omega), fun w => by rw [hs3]; exact run_add_Sv w bBlank a2 (by omega), fun w => by rw [hs4]; exact run_add_Sv w s2 s3 (by omega), fun w => by rw [ht1]; exact run_add_Sv w bLate a3 (by omega), fun w => by rw [hS1]; exact run_add_Sv w s2 t1 (by omega), fun w => by rw [hv1]; exact run_add_Sv w bBlank aw (by omega), fun w => by rw [hS2]; exact run_add_Sv w S1 v1 (by omega), fun w => by rw [hu1]; exact run_add_Sv w bBlank a4 (by omega), fun w => by rw [hu2]; exact run_add_Sv w S2 u1 (by omega)⟩
    obtain ⟨T, hT⟩ : ∃ T, T = (QueryL.mk 3 size slide late (an : Int) k).text := ⟨_, rfl⟩
    rw [← hT]
    have HTx : Hid (T = if an = 6 then u2 else S2) := by
      have e2 : ((an : Int) = 6) ↔ an = 6 := by omega
      rw [hT, hu2, hu1, hS2, hv1, hS1, ht1, hs2, ha1, ha3, ha4, haw]
      refine Lib.hid ?_
      simp only [QueryL.text, e2]
      by_cases h2 : an = 6 <;> simp [h2, kindW, bLate, bBlank, wLate, bSession, wSession, List.append_assoc]
    clear hT hTp b1 b2 b3 b4 b5 b6 b7 b8 b10 b11 b12 l1 l2 l3 l4 l5 m1 hs2 hs3 hs4 ht1 hS1 hv1 hS2 hu1 hu2 ms2 ms3 ms4 mt1 mS1 mv1 mS2 mu1 mu2 ha1 ha2 ha3 ha4 haw e1 e2
    go_enter Tryd.func7, Tryd.ntmps7
    go_upto_region 1 with (fail)
    rw [← hw1]
    clear hw1
    have H1 : Hid (Below w1.heap.size w1 w1) := Lib.hid (Below.refl _ _)
    have c0 := HC.out w1 H1.out 0 _ rfl
    have c1 := HC.out w1 H1.out 1 _ rfl
    go_wp2_with (fail)
    refine (HCL.out.1 w1 (HB.out.trans (H1.out.mono HB.out.size))).mono ?_
    rintro e w2 ⟨rfl, hB⟩
    have H2 := Lib.hid (H1.out.trans (hB.mono H1.out.size))
    clear hB c0 c1
    have c0 := HC.out w2 H2.out 0 _ rfl
    have c2 := HC.out w2 H2.out 2 _ rfl
    have h1 := HADD.out.1
    dsimp only
    have c3 := HC.out w2 H2.out 3 _ rfl
    go_wp2_with (fail)
    refine (HCL.out.2.2.1 w2 (HB.out.trans (H2.out.mono HB.out.size))).mono ?_
    rintro e w3 ⟨rfl, hB⟩
    have H3 := Lib.hid (H2.out.trans (hB.mono H2.out.size))
    clear hB c0 c2 c3 h1
    have h1 := HADD.out.2.2.2.1
    have h2 := HADD.out.2.2.2.2.1
    dsimp only
    go_wp2_with (fail)
    obtain ⟨g, hg⟩ : ∃ g, g = w3.heap.size := ⟨_, rfl⟩
    obtain ⟨wl, hwl⟩ : ∃ W, W = w3.alloc (Obj.cells #[.string ⟨#[99, 111, 117, 110, 116]⟩, .string ⟨#[115, 117, 109]⟩, .string ⟨#[109, 105, 110]⟩, .string ⟨#[109, 97, 120]⟩, .string ⟨#[109, 101, 97, 110]⟩, .string ⟨#[116, 111, 112]⟩, .string ⟨#[115, 119, 105, 110, 103]⟩] 9) := ⟨_, rfl⟩
    have HW : Hid (Below w1.heap.size w1 wl ∧ ∀ j < 7, wl.cell? ⟨g, j, none⟩ = some (Sv (aggsL.getD (j + 1) []))) := by
      rw [hwl, hg]
      exact Lib.hid ⟨H3.out.alloc H3.out.size _, fun j hj => words7_at _ j hj⟩
    rw [← hwl, ← hg]
    have c4 := HC.out wl HW.out.1 4 _ rfl
    clear hwl hg h1 h2
    go_loop [34, 3] (fun i s => AggRel an S1 S2 i s) (fun i _ => 7 - (intOf i).toNat)
    case atStart => exact ⟨0, by omega, rfl, by rw [if_neg (by have := HAn.out; omega)]⟩
    case round =>
      obtain ⟨j, hj, rfl, rfl⟩ := hrel
      by_cases hlt : j < 7
      · have hc := HW.out.2 j hlt
        by_cases hw : an = j + 1
        · have e1 : ((an : Int) == (j : Int) + 1) = true := by simp; omega
          have HE : Hid (aggsL.getD (j + 1) [] = aw) := by rw [← hw]; exact HAw.out
          rw [HE.out] at hc
          rw [if_neg (by omega)]
          have h1 := HADD.out.2.2.2.2.2.1
          have h2 := HADD.out.2.2.2.2.2.2.1
          have HN : Hid (an = j + 1) := Lib.hid hw
          clear hw
          go_wp2_with (fail)
          go_round
          case rel => exact ⟨j + 1, hlt, by go_num, by rw [if_pos (by have := HN.out; omega)]⟩
          case measure => simp [intOf]; omega
        · have e1 : ((an : Int) == (j : Int) + 1) = false := by simp; omega
          obtain ⟨S, hS⟩ : ∃ S, S = (if an ≤ j then S2 else S1) := ⟨_, rfl⟩
          rw [← hS]
          have HS : Hid (S = if an ≤ j + 1 then S2 else S1) := by
            rw [hS]
            by_cases h : an ≤ j
            · rw [if_pos h, if_pos (by omega)]; exact Lib.hid rfl
            · rw [if_neg h, if_neg (by omega)]; exact Lib.hid rfl
          clear hw hS
          go_wp2_with (fail)
          go_round
          case rel => exact ⟨j + 1, hlt, by go_num, by rw [HS.out]⟩
          case measure => simp [intOf]; omega
      · obtain rfl : j = 7 := by omega
        rw [if_pos (by have := HAn.out; omega)]
        clear hlt hj
        by_cases a6 : an = 6
        · have e6 : ((an : Int) == 6) = true := by rw [a6]; rfl
          have HT : Hid (T = u2) := by rw [HTx.out, if_pos a6]; exact Lib.hid rfl
          have c5 := HC.out wl HW.out.1 5 _ rfl
          clear a6
          go_wp2_with (fail)
          refine (HCL.out.2.2.2 wl (HB.out.trans (HW.out.1.mono HB.out.size))).mono ?_
          rintro e w8 ⟨rfl, hB⟩
          have H8 := Lib.hid (HW.out.1.trans (hB.mono HW.out.1.size))
          clear hB c4 c5
          have h1 := HADD.out.2.2.2.2.2.2.2.1
          have h2 := HADD.out.2.2.2.2.2.2.2.2
          dsimp only
          go_wp2_with (fail)
          go_ret
          exact ⟨by rw [HT.out]; rfl, HB.out.trans (H8.out.mono HB.out.size)⟩
        · have e6 : ((an : Int) == 6) = false := by simp; omega
          have HT : Hid (T = S2) := by rw [HTx.out, if_neg a6]; exact Lib.hid rfl
          clear a6
          go_wp2_with (fail)
          go_ret
          exact ⟨by rw [HT.out]; rfl, HB.out.trans (HW.out.1.mono HB.out.size)⟩
end Go.Proofs.YteoolfifpmbkeaaDoor
