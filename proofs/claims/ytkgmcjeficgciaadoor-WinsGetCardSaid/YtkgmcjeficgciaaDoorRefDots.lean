/-
  The contract of the reference's Split at two full stops.
-/
import Derived.Test.YtkgmcjeficgciaaDoorWinsPure
import Derived.Test.YtkgmcjeficgciaaDoorRefTexts
namespace Go.Proofs.YtkgmcjeficgciaaDoor
open Go Go.RowKit

theorem run_two_Sv (w : World) (m : List (BitVec 8)) (k : Nat) (h : k + 1 < m.length) : (Instr.slice 9 (Sv m) (some (.int .i64 (k : Int))) (some (.int .i64 ((k : Int) + 2))) none).run Tryd.prog w = .ok (Sv [gl m k, gl m (k + 1)]) w := by
  have e := run_mid_Sv w m k (k + 2) (by omega) (by omega)
  rw [show k + 2 - k = 2 by omega] at e
  have e2 : (m.drop k).take 2 = [gl m k, gl m (k + 1)] := by
    rw [List.drop_eq_getElem_cons (by omega), List.drop_eq_getElem_cons (show k + 1 < m.length by omega)]
    simp only [gl, List.getD_eq_getElem?_getD, List.getElem?_eq_getElem h, List.getElem?_eq_getElem (show k < m.length by omega)]
    rfl
  rw [e2] at e
  exact e
theorem splitDF_one (a : BitVec 8) (r : List (BitVec 8)) (o : List (List (BitVec 8))) (w : List (BitVec 8)) (h : ¬ (a = 46 ∧ r.head? = some 46)) : splitDF (a :: r) (o, w) = splitDF r (o, w ++ [a]) := by
  cases r with
  | nil => rfl
  | cons b r =>
    rw [splitDF, if_neg]
    rintro ⟨h1, h2⟩
    exact h ⟨h1, by rw [h2]; rfl⟩
theorem drop_gl (s : List (BitVec 8)) (t : Nat) (h : t < s.length) : s.drop t = gl s t :: s.drop (t + 1) := by
  rw [List.drop_eq_getElem_cons h]
  simp [gl, h]
def RDo (w : World) (s : List (BitVec 8)) (out wd i : Value) (wr : World) : Prop :=
  ∃ (t : Nat) (o : List (List (BitVec 8))) (acc : List (BitVec 8)), t ≤ s.length ∧ i = .int .i64 (t : Int) ∧ wd = Sv acc ∧ Own wr w.heap.size 9 out (o.map Sv) ∧ Below w.heap.size w wr ∧ splitDF (s.drop t) (o, acc) = splitD s ∧ o.length + acc.length ≤ t
set_option maxRecDepth 100000 in
set_option maxHeartbeats 2000000 in
theorem erDots_cap (w : World) (s : List (BitVec 8)) (hl : s.length ≤ 900) :
    Calls Tryd.prog 53 #[Sv s, .string ⟨#[46, 46]⟩] w fun e w' => ∃ g c, e = .returned (.slice (some ⟨g, 0, none⟩) (splitD s).length c) ∧ w.heap.size ≤ g ∧ WordsAt w' g (splitD s) ∧ Below w.heap.size w w' ∧ (splitD s).length ≤ c := by
  obtain ⟨L, hL⟩ : ∃ L, L = s.length := ⟨_, rfl⟩
  have HP := Lib.hid (And.intro hL hl)
  have hL6 : L ≤ 900 := by omega
  have hlen : ∀ w ty, (Builtin.len_ #[9] ty #[Sv s]).run Tryd.prog w = .ok (.int .i64 (L : Int)) w := by
    rw [hL]
    exact fun w ty => run_len_Sv w ty s
  clear hL hl
  go_enter Tryd.func53, Tryd.ntmps53
  go_wp2_with (fail)
  rw [Sv_nil]
  go_loopw [5, 6, 7] (RDo w s) (fun _ _ i _ => L - (intOf i).toNat)
  case atStart => exact ⟨0, [], [], Nat.zero_le _, rfl, rfl, Own.nil _ _ _, Below.refl _ _, rfl, Nat.le_refl _⟩
  case round =>
    obtain ⟨t, o, acc, ht, rfl, rfl, hO, hB, hS, hlo⟩ := hrel
    rw [← HP.out.1] at ht
    by_cases hlt : t < L
    · have hi0 : (0 : Int) ≤ (t : Int) ∧ (t : Int) < (L : Int) := by omega
      have hd := drop_gl s t (by rw [← HP.out.1]; exact hlt)
      obtain ⟨c, hc⟩ : ∃ c, c = gl s t := ⟨_, rfl⟩
      rw [← hc] at hd
      have hmid : ∀ w, (Instr.slice 9 (Sv s) (some (.int .i64 (t : Int))) (some (.int .i64 ((t : Int) + 1))) none).run Tryd.prog w = .ok (Sv [c]) w := by
        rw [hc]
        exact fun w => run_one_Sv w s t (by have := HP.out.1; omega)
      have hadd : ∀ w, (binOp .add 9 (Sv acc) (Sv [c])).run Tryd.prog w = .ok (Sv (acc ++ [c])) w := fun w => run_add_Sv w _ _ (by simp; omega)
      obtain ⟨acc2, hacc2⟩ : ∃ a, a = acc ++ [c] := ⟨_, rfl⟩
      have hac2l : acc2.length = acc.length + 1 := by rw [hacc2]; simp
      rw [← hacc2] at hadd
      by_cases h2 : t + 1 < L
      · have h2' : (t : Int) + 2 ≤ (L : Int) := by omega
        have hd2 := drop_gl s (t + 1) (by rw [← HP.out.1]; exact h2)
        obtain ⟨c2, hc2⟩ : ∃ c, c = gl s (t + 1) := ⟨_, rfl⟩
        rw [← hc2] at hd2
        have htwo : ∀ w, (Instr.slice 9 (Sv s) (some (.int .i64 (t : Int))) (some (.int .i64 ((t : Int) + 2))) none).run Tryd.prog w = .ok (Sv [c, c2]) w := by
          rw [hc, hc2]
          exact fun w => run_two_Sv w s t (by have := HP.out.1; omega)
        by_cases h46 : c = 46 ∧ c2 = 46
        · have hev : ∀ w, (binOp .eql 9 (Sv [c, c2]) (.string ⟨#[46, 46]⟩)).run Tryd.prog w = .ok (.bool true) w := fun w => by
            rw [h46.1, h46.2]
            exact run_eql_Sv w [46, 46] [46, 46]
          have hS2 : splitDF (s.drop (t + 2)) (o ++ [acc], []) = splitD s := by
            rw [← hS, hd, hd2, splitDF, if_pos h46]
          have HR := Lib.hid (And.intro hO (And.intro hB (And.intro hS2 (And.intro (show o.length + acc.length ≤ 900 by omega) (And.intro h2 hlo)))))
          clear hO hB hS hS2 hlo h46 hc hc2 hacc2 hac2l hadd hmid hd hd2 ht h2
          go_upto_region 6 with (fail)
          refine wp_region_lit ?_
          iterate 6 go_step
          refine wpList_slice1_S rfl (.tmp 31) rfl acc rfl ?_
          refine wpList_push Tryd.underlying80 infoStr rfl rfl (.tmp 30) (.tmp 32) rfl w.heap.size _ (o.map Sv) rfl (HR.out.1.alloc _) (Sv acc) wr.heap.size rfl (by rw [cell_of_row _ _ _ _ _ _ (heap_alloc_new wr _)]; rfl) rfl (by have := HR.out.2.2.2.1; simp; omega) (by have := HR.out.2.1.size; simp; omega) (by omega) ?_
          intro v' w3 g1 g2 g3
          have HR3 : Hid (RDo w s v' (Sv []) (.int .i64 ((t : Int) + 2)) w3) := by
            obtain ⟨k1, k2, k3, k4, k5, k6⟩ := HR.out
            have hB1 := k2.alloc k2.size (.cells #[Sv acc] 9)
            refine Lib.hid ⟨t + 2, o ++ [acc], [], by have := HP.out.1; omega, by go_num, rfl, ?_, hB1.trans (below_grown (k1.alloc _) g2 hB1.size), k3, by simp; omega⟩
            rw [List.map_append]
            exact g1
          clear g1 g2 g3
          go_wp2_with (fail)
          refine ⟨HR3.out, ?_⟩
          have := HR.out.2.2.2.2.1
          simp [intOf]
          omega
        · have hev : ∀ w, (binOp .eql 9 (Sv [c, c2]) (.string ⟨#[46, 46]⟩)).run Tryd.prog w = .ok (.bool false) w := fun w => by
            have h := run_eql_Sv w [c, c2] [46, 46]
            rwa [decide_eq_false (by simpa using h46)] at h
          have hS2 : splitDF (s.drop (t + 1)) (o, acc2) = splitD s := by
            rw [← hS, hd, hacc2, splitDF_one]
            rintro ⟨e1, e2⟩
            rw [hd2] at e2
            exact h46 ⟨e1, by simpa using e2⟩
          have HR := Lib.hid (And.intro hO (And.intro hB (And.intro hS2 (And.intro hlt (show o.length + acc2.length ≤ t + 1 by omega)))))
          clear hO hB hS hS2 hlo h46 hc hc2 hacc2 hac2l hd hd2 ht h2
          go_wp2_with (fail)
          have HR3 : Hid (RDo w s u5 (Sv acc2) (.int .i64 ((t : Int) + 1)) wr) := by
            obtain ⟨k1, k2, k3, k4, k5⟩ := HR.out
            exact Lib.hid ⟨t + 1, o, acc2, by have := HP.out.1; omega, by go_num, rfl, k1, k2, k3, k5⟩
          refine ⟨HR3.out, ?_⟩
          have := HR.out.2.2.2.1
          simp [intOf]
          omega
      · have h2' : ¬ (t : Int) + 2 ≤ (L : Int) := by omega
        have hS2 : splitDF (s.drop (t + 1)) (o, acc2) = splitD s := by
          rw [← hS, hd, hacc2, splitDF_one]
          rintro ⟨e1, e2⟩
          rw [List.drop_eq_nil_of_le (by have := HP.out.1; omega)] at e2
          cases e2
        have HR := Lib.hid (And.intro hO (And.intro hB (And.intro hS2 (And.intro hlt (show o.length + acc2.length ≤ t + 1 by omega)))))
        clear hO hB hS hS2 hlo hc hacc2 hac2l hd ht h2
        go_wp2_with (fail)
        have HR3 : Hid (RDo w s u5 (Sv acc2) (.int .i64 ((t : Int) + 1)) wr) := by
          obtain ⟨k1, k2, k3, k4, k5⟩ := HR.out
          exact Lib.hid ⟨t + 1, o, acc2, by have := HP.out.1; omega, by go_num, rfl, k1, k2, k3, k5⟩
        refine ⟨HR3.out, ?_⟩
        have := HR.out.2.2.2.1
        simp [intOf]
        omega
    · obtain rfl : t = L := by omega
      have hts : s.drop t = [] := by rw [HP.out.1, List.drop_length]
      have HR : Hid (Own wr w.heap.size 9 u5 (o.map Sv) ∧ Below w.heap.size w wr ∧ splitD s = o ++ [acc] ∧ o.length ≤ 900) := by
        refine Lib.hid ⟨hO, hB, ?_, by have := HP.out; omega⟩
        rw [← hS, hts]
        rfl
      clear hO hB hlo hS ht hts hlt
      go_upto_region 11 with (fail)
      refine wp_region_lit ?_
      iterate 6 go_step
      refine wpList_slice1_S rfl (.tmp 48) rfl acc rfl ?_
      refine wpList_push Tryd.underlying80 infoStr rfl rfl (.tmp 47) (.tmp 49) rfl w.heap.size _ (o.map Sv) rfl (HR.out.1.alloc _) (Sv acc) wr.heap.size rfl (by rw [cell_of_row _ _ _ _ _ _ (heap_alloc_new wr _)]; rfl) rfl (by have := HR.out.2.2.2; simp; omega) (by have := HR.out.2.1.size; simp; omega) (by omega) ?_
      intro v' w3 g1 g2 g3
      have hB3 : Below w.heap.size w w3 := by
        obtain ⟨h1, h2, h3, h4⟩ := HR.out
        have hB1 := h2.alloc h2.size (.cells #[Sv acc] 9)
        exact hB1.trans (below_grown (h1.alloc _) g2 hB1.size)
      have g1' : Own w3 w.heap.size 9 v' ((splitD s).map Sv) := by
        rw [HR.out.2.2.1, List.map_append]
        exact g1
      have hpos : 0 < ((splitD s).map Sv).length := by
        rw [HR.out.2.2.1]
        simp
      obtain ⟨g, c, rfl, hg1, hg2⟩ := g1'.form1 hpos
      have hcap : (splitD s).length ≤ c := by
        rcases g1'.2 with ⟨hv, _⟩ | ⟨g', cap', cur, hv, _, _, hle, _, _, _⟩
        · cases hv
        · cases hv
          simpa using hle
      have HZ : Hid (w.heap.size ≤ g ∧ WordsAt w3 g (splitD s) ∧ Below w.heap.size w w3 ∧ (splitD s).length ≤ c) := by
        refine Lib.hid ⟨hg1, fun j x hj => ?_, hB3, hcap⟩
        have hjl := (List.getElem?_eq_some_iff.1 hj).1
        rw [g1'.cellAt j (by simpa using hjl), List.getElem?_map, hj]
        rfl
      rw [List.length_map]
      clear g1 g2 g3 hB3 g1' hpos hg1 hg2 hcap
      go_wp2_with (fail)
      go_ret
      exact ⟨g, c, rfl, HZ.out⟩
end Go.Proofs.YtkgmcjeficgciaaDoor
