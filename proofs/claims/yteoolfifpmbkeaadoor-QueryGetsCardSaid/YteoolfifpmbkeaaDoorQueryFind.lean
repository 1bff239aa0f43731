/-
  The contracts of package query's kind, agg and number: what a word tells.
-/
import Derived.Test.YteoolfifpmbkeaaDoorQueryText
import Derived.Test.YteoolfifpmbkeaaDoorQueryWord
namespace Go.Proofs.YteoolfifpmbkeaaDoor
open Go Go.RowKit

/-- The place of the first word that is w; 0: none. -/
def findL : List (List (BitVec 8)) → Nat → List (BitVec 8) → Nat
  | [], _, _ => 0
  | a :: r, n, w => if a = w then n else findL r (n + 1) w
theorem find_hit : ∀ (l : List (List (BitVec 8))) (n k : Nat) (w : List (BitVec 8)), k < l.length → (∀ j < k, l.getD j [] ≠ w) → l.getD k [] = w → findL l n w = n + k
  | [], _, _, _, h, _, _ => by simp at h
  | a :: r, n, 0, w, _, _, h => by
    have : a = w := by simpa using h
    rw [findL, if_pos this]
    rfl
  | a :: r, n, k + 1, w, hk, hn, h => by
    have h0 : a ≠ w := by simpa using hn 0 (by omega)
    rw [findL, if_neg h0, find_hit r (n + 1) k w (by simpa using hk) (fun j hj => by simpa using hn (j + 1) (by omega)) (by simpa using h)]
    omega
theorem find_none : ∀ (l : List (List (BitVec 8))) (n : Nat) (w : List (BitVec 8)), (∀ j < l.length, l.getD j [] ≠ w) → findL l n w = 0
  | [], _, _, _ => rfl
  | a :: r, n, w, hn => by
    have h0 : a ≠ w := by simpa using hn 0 (by simp)
    rw [findL, if_neg h0, find_none r (n + 1) w fun j hj => by simpa using hn (j + 1) (by simpa using hj)]
theorem kindOf_find (w : List (BitVec 8)) : kindOf w = (findL kindsL 0 w : Int) := by
  by_cases h : w = []
  · subst h; decide
  · unfold kindOf kindsL
    simp only [findL, eq_comm (b := w)]
    rw [if_neg h]
    by_cases h1 : w = wTumbling
    · rw [if_pos h1, if_pos h1]; rfl
    rw [if_neg h1, if_neg h1]
    by_cases h2 : w = wSliding
    · rw [if_pos h2, if_pos h2]; rfl
    rw [if_neg h2, if_neg h2]
    by_cases h3 : w = wSession
    · rw [if_pos h3, if_pos h3]; rfl
    rw [if_neg h3, if_neg h3]
    rfl
theorem aggOf_find (w : List (BitVec 8)) : aggOf w = (findL aggsL 0 w : Int) := by
  by_cases h : w = []
  · subst h; decide
  · unfold aggOf aggsL
    simp only [findL, eq_comm (b := w)]
    rw [if_neg h]
    by_cases h1 : w = wCount
    · rw [if_pos h1, if_pos h1]; rfl
    rw [if_neg h1, if_neg h1]
    by_cases h2 : w = wSum
    · rw [if_pos h2, if_pos h2]; rfl
    rw [if_neg h2, if_neg h2]
    by_cases h3 : w = wMin
    · rw [if_pos h3, if_pos h3]; rfl
    rw [if_neg h3, if_neg h3]
    by_cases h4 : w = wMax
    · rw [if_pos h4, if_pos h4]; rfl
    rw [if_neg h4, if_neg h4]
    by_cases h5 : w = wMean
    · rw [if_pos h5, if_pos h5]; rfl
    rw [if_neg h5, if_neg h5]
    by_cases h6 : w = wTop
    · rw [if_pos h6, if_pos h6]; rfl
    rw [if_neg h6, if_neg h6]
    by_cases h7 : w = wSwing
    · rw [if_pos h7, if_pos h7]; rfl
    rw [if_neg h7, if_neg h7]
    rfl
def FindRel (l : List (List (BitVec 8))) (word : List (BitVec 8)) (i : Value) : Prop := ∃ k : Nat, k ≤ l.length ∧ i = .int .i64 (k : Int) ∧ ∀ j < k, l.getD j [] ≠ word
theorem isAggStr (w : World) : (isAgg 9).run Tryd.prog w = .ok false w := run_isAgg_plain Tryd.underlying9 rfl w
theorem kinds_index (k : Nat) (hk : k < 4) (w : World) : (Instr.index 55 (.agg #[Sv [], Sv wTumbling, Sv wSliding, Sv wSession]) (.int .i64 (k : Int))).run Tryd.prog w = .ok (Sv (kindsL.getD k [])) w := by
  refine run_index_arr 55 9 4 Tryd.underlying55 sizeStr isAggStr _ k hk _ ?_ w
  obtain rfl | rfl | rfl | rfl : k = 0 ∨ k = 1 ∨ k = 2 ∨ k = 3 := by omega
  all_goals rfl
set_option maxRecDepth 100000 in
theorem qkind_any (w : World) (word : List (BitVec 8)) (hQ : WordTabs w) :
    Calls Tryd.prog 39 #[Sv word] w fun e w' => e = .returned (.int .i64 (kindOf word)) ∧ w' = w := by
  obtain ⟨P, hP⟩ : ∃ P : Ending → World → Prop, P = fun e w' => e = .returned (.int .i64 (kindOf word)) ∧ w' = w := ⟨_, rfl⟩
  rw [← hP]
  have HP := Lib.hid hP
  have c0 : w.cell? ⟨0, 0, none⟩ = some (Sv []) := hQ.1 0 (by decide)
  have c1 : w.cell? ⟨0, 1, none⟩ = some (Sv wTumbling) := hQ.1 1 (by decide)
  have c2 : w.cell? ⟨0, 2, none⟩ = some (Sv wSliding) := hQ.1 2 (by decide)
  have c3 : w.cell? ⟨0, 3, none⟩ = some (Sv wSession) := hQ.1 3 (by decide)
  clear hP hQ
  go_enter Tryd.func39, Tryd.ntmps39
  go_wp2_with (fail)
  go_loop [6] (fun i => FindRel kindsL word i) (fun i => 4 - (intOf i).toNat)
  case atStart => exact ⟨0, by decide, rfl, fun j hj => by omega⟩
  case round =>
    obtain ⟨k, hk, rfl, hn⟩ := hrel
    have hk4 : k ≤ 4 := hk
    clear hk c0 c1 c2 c3
    have HN := Lib.hid hn
    clear hn
    by_cases hlt : k < 4
    · have hix := kinds_index k hlt
      obtain ⟨x, hx⟩ : ∃ x, x = kindsL.getD k [] := ⟨_, rfl⟩
      rw [← hx] at hix
      have HX := Lib.hid hx
      clear hx
      by_cases hw : x = word
      · have hd : decide (x = word) = true := decide_eq_true hw
        have HF : Hid (kindOf word = (k : Int)) := by
          rw [kindOf_find, find_hit kindsL 0 k word hlt HN.out (HX.out.symm.trans hw), Nat.zero_add]
          exact Lib.hid rfl
        clear hw
        go_wp2_with (fail)
        rw [HP.out]
        exact ⟨by rw [HF.out], rfl⟩
      · have hd : decide (x = word) = false := decide_eq_false hw
        have HW := Lib.hid hw
        clear hw
        go_wp2_with (fail)
        go_round
        case rel => exact ⟨k + 1, hlt, by go_num, fun j hj => by
          rcases Nat.lt_or_ge j k with h | h
          · exact HN.out j h
          · obtain rfl : j = k := by omega
            rw [← HX.out]
            exact HW.out⟩
        case measure => simp [intOf]; omega
    · obtain rfl : k = 4 := by omega
      have HF : Hid (kindOf word = 0) := by
        rw [kindOf_find, find_none kindsL 0 word HN.out]
        exact Lib.hid rfl
      clear hlt hk4
      go_wp2_with (fail)
      rw [HP.out]
      exact ⟨by rw [HF.out], rfl⟩
theorem aggs_index (k : Nat) (hk : k < 8) (w : World) : (Instr.index 56 (.agg #[Sv [], Sv wCount, Sv wSum, Sv wMin, Sv wMax, Sv wMean, Sv wTop, Sv wSwing]) (.int .i64 (k : Int))).run Tryd.prog w = .ok (Sv (aggsL.getD k [])) w := by
  refine run_index_arr 56 9 8 Tryd.underlying56 sizeStr isAggStr _ k hk _ ?_ w
  obtain rfl | rfl | rfl | rfl | rfl | rfl | rfl | rfl : k = 0 ∨ k = 1 ∨ k = 2 ∨ k = 3 ∨ k = 4 ∨ k = 5 ∨ k = 6 ∨ k = 7 := by omega
  all_goals rfl
set_option maxRecDepth 100000 in
theorem qagg_any (w : World) (word : List (BitVec 8)) (hQ : WordTabs w) :
    Calls Tryd.prog 41 #[Sv word] w fun e w' => e = .returned (.int .i64 (aggOf word)) ∧ w' = w := by
  obtain ⟨P, hP⟩ : ∃ P : Ending → World → Prop, P = fun e w' => e = .returned (.int .i64 (aggOf word)) ∧ w' = w := ⟨_, rfl⟩
  rw [← hP]
  have HP := Lib.hid hP
  have c0 : w.cell? ⟨1, 0, none⟩ = some (Sv []) := hQ.2 0 (by decide)
  have c1 : w.cell? ⟨1, 1, none⟩ = some (Sv wCount) := hQ.2 1 (by decide)
  have c2 : w.cell? ⟨1, 2, none⟩ = some (Sv wSum) := hQ.2 2 (by decide)
  have c3 : w.cell? ⟨1, 3, none⟩ = some (Sv wMin) := hQ.2 3 (by decide)
  have c4 : w.cell? ⟨1, 4, none⟩ = some (Sv wMax) := hQ.2 4 (by decide)
  have c5 : w.cell? ⟨1, 5, none⟩ = some (Sv wMean) := hQ.2 5 (by decide)
  have c6 : w.cell? ⟨1, 6, none⟩ = some (Sv wTop) := hQ.2 6 (by decide)
  have c7 : w.cell? ⟨1, 7, none⟩ = some (Sv wSwing) := hQ.2 7 (by decide)
  clear hP hQ
  go_enter Tryd.func41, Tryd.ntmps41
  go_wp2_with (fail)
  go_loop [6] (fun i => FindRel aggsL word i) (fun i => 8 - (intOf i).toNat)
  case atStart => exact ⟨0, by decide, rfl, fun j hj => by omega⟩
  case round =>
    obtain ⟨k, hk, rfl, hn⟩ := hrel
    have hk8 : k ≤ 8 := hk
    clear hk c0 c1 c2 c3 c4 c5 c6 c7
    have HN := Lib.hid hn
    clear hn
    by_cases hlt : k < 8
    · have hix := aggs_index k hlt
      obtain ⟨x, hx⟩ : ∃ x, x = aggsL.getD k [] := ⟨_, rfl⟩
      rw [← hx] at hix
      have HX := Lib.hid hx
      clear hx
      by_cases hw : x = word
      · have hd : decide (x = word) = true := decide_eq_true hw
        have HF : Hid (aggOf word = (k : Int)) := by
          rw [aggOf_find, find_hit aggsL 0 k word hlt HN.out (HX.out.symm.trans hw), Nat.zero_add]
          exact Lib.hid rfl
        clear hw
        go_wp2_with (fail)
        rw [HP.out]
        exact ⟨by rw [HF.out], rfl⟩
      · have hd : decide (x = word) = false := decide_eq_false hw
        have HW := Lib.hid hw
        clear hw
        go_wp2_with (fail)
        go_round
        case rel => exact ⟨k + 1, hlt, by go_num, fun j hj => by
          rcases Nat.lt_or_ge j k with h | h
          · exact HN.out j h
          · obtain rfl : j = k := by omega
            rw [← HX.out]
            exact HW.out⟩
        case measure => simp [intOf]; omega
    · obtain rfl : k = 8 := by omega
      have HF : Hid (aggOf word = 0) := by
        rw [aggOf_find, find_none aggsL 0 word HN.out]
        exact Lib.hid rfl
      clear hlt hk8
      go_wp2_with (fail)
      rw [HP.out]
      exact ⟨by rw [HF.out], rfl⟩
set_option maxRecDepth 100000 in
theorem qnumber_any (w : World) (l : List (BitVec 8)) (hl : l.length ≤ 1000000) (hE : ErrsIn w) : Calls Tryd.prog 40 #[Sv l] w (Below0 w (.int .i64 (numL l))) := by
  have hsz : (⟨(lvB l).toArray⟩ : ByteArray).size ≤ 1000000 := by simpa [ByteArray.size, lvB] using hl
  have hnum : numL l = match Lib.atoiAll (lvB l) with | .ok v => v | _ => 0 := rfl
  cases h : Lib.atoiAll (lvB l) with
  | ok v =>
    have HA := Lib.hid (Tryd.strconv_Atoi_ok ⟨(lvB l).toArray⟩ (by omega) v h w)
    rw [← Sv_lv] at HA
    rw [hnum, h]
    clear h hnum hsz hl
    go_enter Tryd.func40, Tryd.ntmps40
    go_wp2_with (fail)
    refine HA.out.mono ?_
    rintro e w1 ⟨rfl, hw⟩
    have HB : Hid (Below w.heap.size w w1) := by
      rcases hw with rfl | ⟨t, rfl⟩
      · exact Below.refl _ _
      · exact Lib.bytesWorld_below w _ t
    clear hw
    dsimp only
    go_wp2_with (fail)
    go_ret
    exact ⟨rfl, HB.out⟩
  | «syntax» =>
    obtain ⟨ev, h1, h2⟩ := hE 4 (.inl rfl)
    have HA := Lib.hid (Tryd.strconv_Atoi_syntax ⟨(lvB l).toArray⟩ (by omega) h ev w h1 h2)
    rw [← Sv_lv] at HA
    rw [hnum, h]
    clear h hnum hsz hl h1 h2 hE
    go_enter Tryd.func40, Tryd.ntmps40
    go_wp2_with (fail)
    refine HA.out.mono ?_
    rintro e w1 ⟨N, rfl, hN, hrow, hB⟩
    have HB := Lib.hid hB
    clear hN hrow hB
    dsimp only
    go_wp2_with (fail)
    go_ret
    exact ⟨rfl, HB.out⟩
  | range =>
    obtain ⟨ev, h1, h2⟩ := hE 5 (.inr rfl)
    have HA := Lib.hid (Tryd.strconv_Atoi_range ⟨(lvB l).toArray⟩ (by omega) h ev w h1 h2)
    rw [← Sv_lv] at HA
    rw [hnum, h]
    clear h hnum hsz hl h1 h2 hE
    go_enter Tryd.func40, Tryd.ntmps40
    go_wp2_with (fail)
    refine HA.out.mono ?_
    rintro e w1 ⟨N, rfl, hN, hrow, hB⟩
    have HB := Lib.hid hB
    clear hN hrow hB
    dsimp only
    go_wp2_with (fail)
    go_ret
    exact ⟨rfl, HB.out⟩
end Go.Proofs.YteoolfifpmbkeaaDoor
