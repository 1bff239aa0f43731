/-
  The contract of the reference's Sum.
-/
import Derived.Test.YtmdacfbhfacniaaDoorRefMix
import Derived.Test.YtmdacfbhfacniaaDoorShaBits
namespace Go.Proofs.YtmdacfbhfacniaaDoor
open Go.RowKit

theorem kL_at (i : Nat) (h : i < 64) : (kL 64)[i]? = some (W (kAt i)) := by
  have hl : kTable.length = 64 := rfl
  rw [kL_all, List.getElem?_map, List.getElem?_eq_getElem (by rw [hl]; exact h)]
  simp [kAt, List.getD_eq_getElem?_getD, List.getElem?_eq_getElem (show i < kTable.length by rw [hl]; exact h)]
/-- The tables of the reference, as Mixed takes them. -/
def RefTabs (w : World) (k s : Value) : Prop := ∃ gk ck gs cs, k = .slice (some ⟨gk, 0, none⟩) 64 ck ∧ s = .slice (some ⟨gs, 0, none⟩) 8 cs ∧ Row8 w gk 64 kAt ∧ Row8 w gs 8 firstSt.at
theorem RefTabs.below {w w' : World} {k s : Value} (h : RefTabs w k s) (hB : Below w.heap.size w w') : RefTabs w' k s := by
  obtain ⟨gk, ck, gs, cs, rfl, rfl, h1, h2⟩ := h
  exact ⟨gk, ck, gs, cs, rfl, rfl, h1.below hB (h1.lt (by omega)), h2.below hB (h2.lt (by omega))⟩
theorem refTabs_of {w : World} {base : Nat} {k s : Value} (h1 : Own w base 54 k (kL 64)) (h2 : Own w base 54 s (sL 64)) : RefTabs w k s := by
  have l1 : (kL 64).length = 64 := kL_len (by omega)
  have l2 : (sL 64).length = 8 := by rw [sL_all]; rfl
  obtain ⟨gk, ck, rfl, _, _⟩ := h1.form1 (by rw [l1]; omega)
  obtain ⟨gs, cs, rfl, _, _⟩ := h2.form1 (by rw [l2]; omega)
  refine ⟨gk, ck, gs, cs, by rw [l1], by rw [l2], fun i hi => ?_, fun i hi => ?_⟩
  · rw [h1.cellAt i (by rw [l1]; exact hi), kL_at i hi]
  · rw [h2.cellAt i (by rw [l2]; exact hi), sL_all]
    exact ws8_at firstSt i hi
theorem refMixed_any (w : World) (m : List (BitVec 8)) (hm : m.length ≤ 100000) (k s : Value) (h : RefTabs w k s) :
    Calls Tryd.prog 22 #[Sv m, k, s] w (Below0 w (.agg (ShaA m))) := by
  obtain ⟨gk, ck, gs, cs, rfl, rfl, h1, h2⟩ := h
  exact mixed_any w m hm gk ck gs cs h1 h2

set_option maxRecDepth 100000 in
set_option maxHeartbeats 1000000 in
theorem refSum_any (w : World) (m : List (BitVec 8)) (hm : m.length ≤ 100000) :
    Calls Tryd.prog 14 #[Sv m] w (Below0 w (.agg (ShaA m))) := by
  obtain ⟨Z, hZ⟩ : ∃ Z : Array Value, Z = Array.replicate 32 (.int .u8 0) := ⟨_, rfl⟩
  have hz2 : ∀ w, (zeroValue 25).run Tryd.prog w = .ok (.agg Z) w := by rw [hZ]; exact (zero_of_info (n := 32) (by kernel_rfl)).1
  have HZ := Lib.hid hZ
  clear hZ
  go_enter Tryd.func14, Tryd.ntmps14
  go_wp2_with (fail)
  refine (table_any _).mono ?_
  rintro e w1 ⟨k, s, rfl, hk, hs, hB⟩
  have hR := refTabs_of hk hs
  have hr1 : w1.heap[w.heap.size]? = some (.cells Z 25 (0, 0)) := by rw [hB.block _ (by simp)]; exact heap_alloc_new w _
  have hB1 : Below w.heap.size w w1 := ((Below.refl _ w).alloc (Nat.le_refl _) (.cells Z 25)).trans (hB.mono (by simp))
  have HR := Lib.hid (And.intro hR (And.intro hr1 hB1))
  clear hk hs hB hR hr1 hB1
  dsimp only
  go_wp2_with (fail)
  refine (refMixed_any w1 m hm k s HR.out.1).mono ?_
  rintro e w2 ⟨rfl, hB2⟩
  have hr2 : w2.heap[w.heap.size]? = some (.cells Z 25 (0, 0)) := by rw [hB2.block _ (Array.getElem?_eq_some_iff.1 HR.out.2.1).1]; exact HR.out.2.1
  have hB3 : Below w.heap.size w w2 := HR.out.2.2.trans (hB2.mono HR.out.2.2.size)
  have hi : (Tryd.prog.info? 25).map (·.size) = some (ShaA m).size := by rw [show (ShaA m).size = 32 by simp [ShaA, Spell]]; kernel_rfl
  have HW := Lib.hid (And.intro hr2 (And.intro hB3 hi))
  clear hr2 hB3 hi hB2
  dsimp only
  go_step
  refine wpList_store_row rfl _ _ _ rfl w.heap.size (ShaA m) rfl rfl 25 Z HW.out.1 HW.out.2.2 (by rw [HZ.out]; simp [ShaA, Spell]) (Spell_one _) ?_
  go_wp2_with (fail)
  obtain ⟨hr2, hB3, hi⟩ := HW.out
  refine bodyPost_ret (v := .agg (ShaA m)) (results_cell_row rfl _ _ w.heap.size 25 (ShaA m) (0, 0) _ rfl (setRow_heap _ _ Z _ _ _ hr2) Tryd.underlying25 rfl hi) rfl ⟨rfl, ?_⟩
  exact hB3.trans ⟨rfl, rfl, rfl, by simp, fun k hk => setRow_other _ _ _ _ (by omega)⟩
end Go.Proofs.YtmdacfbhfacniaaDoor
