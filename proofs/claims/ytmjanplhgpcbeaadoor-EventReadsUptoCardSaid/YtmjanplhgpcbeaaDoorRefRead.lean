/-
  The contract of the reference's Read: what any bytes tell.
-/
import Derived.Test.YtmjanplhgpcbeaaDoorRefGet
import Derived.Test.YtmjanplhgpcbeaaDoorEventRead
namespace Go.Proofs.YtmjanplhgpcbeaaDoor
open Go Go.RowKit

theorem number_stay {t : TapeL} (h : t.e ≠ 0) (most : Int) : t.number most = (0, t) := by
  have hw : t.word = (0, t) := if_pos h
  rw [TapeL.number, hw]
  simp only
  rw [if_neg (by omega), if_neg (fun h' => h h'.1)]
  rfl
theorem item_stay {t : TapeL} (h : t.e ≠ 0) : t.item.2 = t := by
  have h0 : t.item0 = (⟨0, [], 0, 0⟩, t) := by
    rw [TapeL.item0, number_stay h]
    simp only
    rw [if_neg (by decide), if_neg (by decide)]
  rw [TapeL.item, h0]
  simp only [TapeL.last]
  split
  · rfl
  · exact fail_err h 11
theorem itemsN_stay (t : TapeL) (k : Nat) (h : (itemsN k t).2.e ≠ 0) : ∀ j, (itemsN (k + j) t).2 = (itemsN k t).2
  | 0 => rfl
  | j + 1 => by
    have ih := itemsN_stay t k h j
    rw [show k + (j + 1) = (k + j) + 1 by omega, itemsN, ih]
    exact item_stay h
theorem done_err {t : TapeL} (h : t.e ≠ 0) : t.done = t.e := by
  rw [TapeL.done, if_neg (fun h' => h h'.1)]
def RR (w : World) (base b : Nat) (N : Nat) (t1 : TapeL) (v i : Value) (wr : World) : Prop :=
  ∃ k : Nat, k ≤ N ∧ i = .int .i64 (k : Int) ∧ OwnI wr base v (itemsN k t1).1 ∧ TapeAt wr b (itemsN k t1).2 ∧ Below w.heap.size w wr ∧ base ≤ wr.heap.size
set_option maxRecDepth 100000 in
set_option maxHeartbeats 2000000 in
theorem erRead_any (w : World) (m : List (BitVec 8)) :
    Calls Tryd.prog 20 #[Sv m] w (ReadEnd w m) := by
  obtain ⟨P, hP⟩ : ∃ P, P = ReadEnd w m := ⟨_, rfl⟩
  rw [← hP]
  have HP := Lib.hid hP
  clear hP
  obtain ⟨w1, hw1⟩ : ∃ W, W = w.alloc (.cells #[Sv m, .int .i64 0] 48) := ⟨_, rfl⟩
  obtain ⟨b, hb⟩ : ∃ b, b = w.heap.size := ⟨_, rfl⟩
  have H1 : Hid (TapeAt w1 b ⟨m, 0⟩ ∧ w.heap.size ≤ b ∧ Below w.heap.size w w1 ∧ b < w1.heap.size) := by
    rw [hw1, hb]
    exact Lib.hid ⟨heap_alloc_new w _, Nat.le_refl _, (Below.refl _ w).alloc (Nat.le_refl _) _, by simp⟩
  go_enter Tryd.func20, Tryd.ntmps20
  go_upto_region 1 with (fail)
  refine wp_region_lit ?_
  first
  | (iterate 1 go_step
     refine wpList_build rfl 48 _ rfl (by kernel_rfl) ?_)
  | (iterate 2 go_step
     refine wpList_build rfl 48 _ rfl (by kernel_rfl) ?_)
  | (iterate 3 go_step
     refine wpList_build rfl 48 _ rfl (by kernel_rfl) ?_)
  have hbuilt : Tryd.prog.built 48 [(0, Sv m)] = some #[Sv m, .int .i64 0] := by kernel_rfl
  dsimp only [List.map_toArray, List.map_cons, List.map_nil]

  go_upto_region 2 with (fail)
  rw [← hw1, ← hb]
  clear hw1 hb
  go_wp2_with (fail)
  refine (rtNumber_any w1 b ⟨m, 0⟩ 1024 H1.out.1).mono ?_
  rintro e w2 ⟨rfl, h1, h2⟩
  obtain ⟨q, hq⟩ : ∃ q, q = (TapeL.number ⟨m, 0⟩ 1024).1 := ⟨_, rfl⟩
  obtain ⟨t1, ht1⟩ : ∃ q, q = (TapeL.number ⟨m, 0⟩ 1024).2 := ⟨_, rfl⟩
  rw [← ht1] at h1
  rw [← hq]
  obtain ⟨N, hN⟩ : ∃ N : Nat, q = (N : Int) := ⟨q.toNat, by have := number_range ⟨m, 0⟩ 1024 (by decide); rw [← hq] at this; omega⟩
  have hNl : N ≤ 1024 := by have := number_range ⟨m, 0⟩ 1024 (by decide); rw [← hq] at this; omega
  have HT : Hid (readT m = if (itemsN N t1).2.done = 0 then ((itemsN N t1).1, 0) else ([], (itemsN N t1).2.done)) := by
    rw [readT, ← ht1, ← hq, hN]
    exact Lib.hid rfl
  subst hN
  obtain ⟨base, hbase⟩ : ∃ x, x = w2.heap.size := ⟨_, rfl⟩
  have H2 : Hid (TapeAt w2 b t1 ∧ Below w.heap.size w w2 ∧ base ≤ w2.heap.size ∧ b < base ∧ w.heap.size ≤ base) := by
    have h3 := H1.out
    have hs := h2.size
    have hs1 := h3.2.2.1.size
    exact Lib.hid ⟨h1, h3.2.2.1.trans ⟨h2.os, h2.tape, h2.output, h2.size, fun k hk => h2.block k (by omega) (by simp; omega)⟩, by omega, by omega, by omega⟩
  clear h1 h2 hq ht1 hbase
  dsimp only
  go_wp2_with (fail)
  go_loopw [6, 7] (RR w base b N t1) (fun _ i _ => N - (intOf i).toNat)
  case atStart => exact ⟨0, Nat.zero_le _, rfl, OwnI.nil _ _, H2.out.1, H2.out.2.1, H2.out.2.2.1⟩
  case round =>
    obtain ⟨k, hk, rfl, ho, hr, hB, hbs⟩ := hrel
    have HR := Lib.hid (And.intro ho (And.intro hr (And.intro hB hbs)))
    obtain ⟨c0, c1, f0, f1⟩ := hr.cells
    clear ho hr hB hbs c0 f0 f1
    obtain ⟨te, hte⟩ : ∃ x, x = (itemsN k t1).2.e := ⟨_, rfl⟩
    rw [← hte] at c1
    have hend : (N ≤ k ∨ te ≠ 0) → Hid ((itemsN N t1).2.done = (itemsN k t1).2.done ∧ ((itemsN k t1).2.done = 0 → k = N)) := fun h => by
      rcases h with h | h
      · obtain rfl : k = N := by omega
        exact Lib.hid ⟨rfl, fun _ => rfl⟩
      · have hne : (itemsN k t1).2.e ≠ 0 := by rw [← hte]; exact h
        have hs := itemsN_stay t1 k hne (N - k)
        rw [show k + (N - k) = N by omega] at hs
        refine Lib.hid ⟨by rw [hs], fun h0 => ?_⟩
        rw [done_err hne] at h0
        exact absurd h0 hne
    have HE := Lib.hid (rtEnd_any wr b _ HR.out.2.1)
    obtain ⟨q, hq⟩ : ∃ q, q = (itemsN k t1).2.done := ⟨_, rfl⟩
    rw [← hq] at HE hend
    by_cases hgo : k < N ∧ te = 0
    · obtain ⟨hlt, rfl⟩ := hgo
      have hlt' : (k : Int) < (N : Int) := by omega
      obtain ⟨x, hx⟩ : ∃ x, x = (itemsN k t1).2.item.1 := ⟨_, rfl⟩
      have HG := Lib.hid (erGet_any wr b _ HR.out.2.1)
      rw [← hx] at HG
      have HX := Lib.hid (And.intro hx (And.intro hlt hNl))
      clear hx hlt hend hq hte HE
      obtain ⟨kind, key, time, value⟩ := x
      unfold ItemL.cells at HG
      go_wp2_with (fail)
      refine HG.out.mono ?_
      rintro e w3 ⟨rfl, h1, h2⟩
      have h0 := HR.out.2.2.1
      have hbw := H2.out
      have hbw1 := H1.out
      have HO3 : Hid (OwnI w3 base u6 (itemsN k t1).1 ∧ TapeAt w3 b (itemsN (k + 1) t1).2 ∧ Below w.heap.size w w3 ∧ base ≤ w3.heap.size) := by
        refine Lib.hid ⟨HR.out.1.kept h2 ?_, h1, h0.trans ⟨h2.os, h2.tape, h2.output, h2.size, fun i hi => h2.block i (by have := h0.size; omega) (by simp; omega)⟩, by have := h2.size; have := HR.out.2.2.2; omega⟩
        by_cases hv : u6.ownBlock = none
        · exact .inl hv
        · refine .inr fun e => ?_
          have := (HR.out.1.lt e).1
          omega
      clear h1 h2 h0 hbw hbw1 c1
      obtain ⟨w4, hw4⟩ : ∃ W, W = w3.alloc (.cells #[.int .i64 kind, Sv key, .int .i64 time, .int .i64 value] 23) := ⟨_, rfl⟩
      have hB4 : Below w3.heap.size w3 w4 := by rw [hw4]; exact (Below.refl _ w3).alloc (Nat.le_refl _) _
      have HO4 : Hid (OwnI w4 base u6 (itemsN k t1).1 ∧ TapeAt w4 b (itemsN (k + 1) t1).2 ∧ Below w.heap.size w w4 ∧ base ≤ w4.heap.size) := by
        obtain ⟨k1, k2, k3, k4⟩ := HO3.out
        exact Lib.hid ⟨k1.far hB4, k2.far hB4, k3.trans (hB4.mono k3.size), by have := hB4.size; omega⟩
      have HU : Hid (∀ j z, (ItemL.mk kind key time value).cells[j]? = some z → w4.cell? ⟨w3.heap.size, j, none⟩ = some z) := by
        refine Lib.hid (fun j z hj => ?_)
        rw [hw4, cell_of_row _ _ j _ _ _ (heap_alloc_new w3 _)]
        exact hj
      clear hB4
      dsimp only
      iterate 4 go_step
      rw [← hw4]
      refine wpList_pushI rfl _ _ rfl base u6 (itemsN k t1).1 rfl HO4.out.1 ⟨kind, key, time, value⟩ w3.heap.size rfl HU.out (by rw [itemsN_length]; have := HX.out.2; omega) HO4.out.2.2.2 ?_
      intro v' w5 k1 k2 _
      have HZ : Hid (RR w base b N t1 v' (.int .i64 ((k : Int) + 1)) w5) := by
        obtain ⟨q1, q2, q3, q4⟩ := HO4.out
        have hbb := H2.out.2.2.2
        refine Lib.hid ⟨k + 1, by have := HX.out.2; omega, by go_num, ?_, (k2.block _ q2.lt fun e => ?_).trans q2, q3.trans ⟨k2.os, k2.tape, k2.output, k2.size, fun i hi => k2.block i (by have := q3.size; omega) fun e => ?_⟩, by have := k2.size; omega⟩
        · show OwnI w5 base v' ((itemsN k t1).1 ++ [(itemsN k t1).2.item.1])
          rw [← HX.out.1]
          exact k1
        · have := (q1.lt e.symm).1
          omega
        · have := (q1.lt e.symm).1
          omega
      have HL := Lib.hid HX.out.2
      clear k1 k2 hw4
      go_wp2_with (fail)
      have := HL.out
      exact ⟨HZ.out, by simp [intOf]; omega⟩
    · have HD := hend (by omega)
      clear hend
      have hcase : (N ≤ k) ∨ (k < N ∧ te ≠ 0) := by omega
      by_cases hq0 : q = 0
      · have HF : Hid (P (.returned (.tuple #[u6, .int .i64 0])) wr) := by
          obtain ⟨e1, e2⟩ := HD.out
          have hkn := e2 hq0
          rw [HP.out]
          refine Lib.hid ⟨u6, ?_, ?_, HR.out.2.2.1⟩
          · rw [HT.out, e1, hq0, if_pos rfl]
          · rw [HT.out, e1, hq0, if_pos rfl, ← hkn]
            refine ⟨HR.out.1.1, ?_⟩
            rcases HR.out.1.2 with h | ⟨g, cap, cur, g1, g2, g3⟩
            · exact .inl h
            · exact .inr ⟨g, cap, cur, g1, by have := H2.out.2.2.2.2; omega, g3⟩
        subst hq0
        rcases hcase with hc | ⟨hc, hc2⟩
        · have hc' : ¬ (k : Int) < (N : Int) := by omega
          clear hq hgo hk hte hc
          go_wp2_with (fail)
          refine HE.out.mono ?_
          rintro e we ⟨rfl, hwe⟩
          subst we
          dsimp only
          go_wp2_with (fail)
          exact HF.out
        · have hc' : (k : Int) < (N : Int) := by omega
          have e1 : (te == 0) = false := by simpa using hc2
          clear hq hgo hk hte hc hc2
          go_wp2_with (fail)
          refine HE.out.mono ?_
          rintro e we ⟨rfl, hwe⟩
          subst we
          dsimp only
          go_wp2_with (fail)
          exact HF.out
      · have e2 : (q != 0) = true := by simpa using hq0
        have HF : Hid (P (.returned (.tuple #[.slice none 0 0, .int .i64 q])) wr) := by
          obtain ⟨e1, _⟩ := HD.out
          rw [HP.out]
          refine Lib.hid ⟨.slice none 0 0, ?_, ?_, HR.out.2.2.1⟩
          · rw [HT.out, e1, if_neg hq0]
          · rw [HT.out, e1, if_neg hq0]
            exact OwnI.nil _ _
        rcases hcase with hc | ⟨hc, hc2⟩
        · have hc' : ¬ (k : Int) < (N : Int) := by omega
          clear hq hgo hk hte hc hq0
          go_wp2_with (fail)
          refine HE.out.mono ?_
          rintro e we ⟨rfl, hwe⟩
          subst we
          dsimp only
          go_wp2_with (fail)
          exact HF.out
        · have hc' : (k : Int) < (N : Int) := by omega
          have e1 : (te == 0) = false := by simpa using hc2
          clear hq hgo hk hte hc hc2 hq0
          go_wp2_with (fail)
          refine HE.out.mono ?_
          rintro e we ⟨rfl, hwe⟩
          subst we
          dsimp only
          go_wp2_with (fail)
          exact HF.out
end Go.Proofs.YtmjanplhgpcbeaaDoor
