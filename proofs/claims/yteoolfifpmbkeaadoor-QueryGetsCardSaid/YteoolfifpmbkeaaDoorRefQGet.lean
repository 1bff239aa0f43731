/-
  The contract of the reference's Get: a query off a tape.
-/
import Derived.Test.YteoolfifpmbkeaaDoorQueryGet
import Derived.Test.YteoolfifpmbkeaaDoorRefQRight
import Derived.Test.YteoolfifpmbkeaaDoorRefTapes
namespace Go.Proofs.YteoolfifpmbkeaaDoor
open Go Go.RowKit

theorem TapeAt.lt {w : World} {b : Nat} {t : TapeL} (h : TapeAt w b t) : b < w.heap.size := (Array.getElem?_eq_some_iff.1 h).1
theorem TapeAt.far {w w' : World} {b : Nat} {t : TapeL} (h : TapeAt w b t) (hB : Below w.heap.size w w') : TapeAt w' b t := (hB.block _ h.lt).trans h
theorem sizeInt (w : World) : (sizeOf 3).run Tryd.prog w = .ok 1 w := by
  have h : (Tryd.prog.info? 3).map (·.size) = some 1 := by kernel_rfl
  cases hq : Tryd.prog.info? 3 with
  | none => simp [hq] at h
  | some i => simp [hq] at h; simp [sizeOf, typeInfo, hq, h]
def tapeN (t : TapeL) : Nat → TapeL
  | 0 => t
  | j + 1 => ((tapeN t j).number 9223372036854775807).2
def numN (t : TapeL) (j : Nat) : Int := ((tapeN t j).number 9223372036854775807).1
/-- The numbers read by now. -/
def slotN (t : TapeL) (j i : Nat) : Value := if i < j then .int .i64 (numN t i) else .int .i64 0
def arrN (t : TapeL) (j : Nat) : Array Value := #[slotN t j 0, slotN t j 1, slotN t j 2, slotN t j 3, slotN t j 4, slotN t j 5]
theorem arrN_next (t : TapeL) (j : Nat) (h : j < 6) : arrN t (j + 1) = (arrN t j).setIfInBounds j (.int .i64 (numN t j)) := by
  obtain rfl | rfl | rfl | rfl | rfl | rfl : j = 0 ∨ j = 1 ∨ j = 2 ∨ j = 3 ∨ j = 4 ∨ j = 5 := by omega
  all_goals rfl
theorem arrN_cell (t : TapeL) (j : Nat) (h : j < 6) : (arrN t j)[j]? = some (.int .i64 0) := by
  obtain rfl | rfl | rfl | rfl | rfl | rfl : j = 0 ∨ j = 1 ∨ j = 2 ∨ j = 3 ∨ j = 4 ∨ j = 5 := by omega
  all_goals rfl
def GtA (w : World) (b ab : Nat) (t : TapeL) (row : Array Value) (w' : World) : Prop :=
  TapeAt w' b t ∧ w.grownBy w' (some b) ∧ w'.heap[w.heap.size]? = some (.cells zeroQ.cells 23 (0, 0)) ∧ w'.heap[ab]? = some (.cells row 63 (0, 0)) ∧ w.heap.size < ab ∧ b < w.heap.size
theorem GtA.rd {w w' w2 : World} {b ab : Nat} {t t2 : TapeL} {row : Array Value} (h : GtA w b ab t row w') (hr : TapeAt w2 b t2) (hg : w'.grownBy w2 (some b)) : GtA w b ab t2 row w2 := by
  obtain ⟨h1, h2, h3, h4, h5, h6⟩ := h
  exact ⟨hr, grown_trans h2 hg, (hg.block _ (Array.getElem?_eq_some_iff.1 h3).1 (by simp; omega)).trans h3, (hg.block _ (Array.getElem?_eq_some_iff.1 h4).1 (by simp; omega)).trans h4, h5, h6⟩
theorem GtA.set {w w' : World} {b ab : Nat} {t : TapeL} {row : Array Value} (h : GtA w b ab t row w') (i : Nat) (v : Value) : GtA w b ab t (row.setIfInBounds i v) (w'.setCell ⟨ab, i, none⟩ v) := by
  obtain ⟨h1, h2, h3, h4, h5, h6⟩ := h
  refine ⟨(heap_setCell_other _ _ _ _ (by show b ≠ ab; omega)).trans h1, ⟨h2.os, h2.tape, h2.output, by simpa [World.setCell] using h2.size, fun k hk hne => (heap_setCell_other _ _ _ _ (by show k ≠ ab; omega)).trans (h2.block k hk hne)⟩,
    (heap_setCell_other _ _ _ _ (by show w.heap.size ≠ ab; omega)).trans h3, heap_setCell_same _ _ _ _ _ _ h4, h5, h6⟩
def GtQ (b xb : Nat) (w w' : World) (t : TapeL) (x : QueryL) : Prop :=
  TapeAt w' b t ∧ w.grownBy w' (some b) ∧ w'.heap[w.heap.size]? = some (.cells zeroQ.cells 23 (0, 0)) ∧ w'.heap[xb]? = some (.cells x.cells 23 (0, 0)) ∧ w.heap.size < xb ∧ b < w.heap.size
theorem GtQ.cell {b xb : Nat} {w w' : World} {t : TapeL} {x : QueryL} (h : GtQ b xb w w' t x) (i : Nat) {v : Value} (hi : x.cells[i]? = some v) : w'.cell? ⟨xb, i, none⟩ = some v := by
  rw [cell_of_row _ _ _ _ _ _ h.2.2.2.1]
  exact hi
theorem GtQ.rd {b xb : Nat} {w w' w2 : World} {t t2 : TapeL} {x : QueryL} (h : GtQ b xb w w' t x) (hr : TapeAt w2 b t2) (hg : w'.grownBy w2 (some b)) : GtQ b xb w w2 t2 x := by
  obtain ⟨h1, h2, h3, h4, h5, h6⟩ := h
  exact ⟨hr, grown_trans h2 hg, (hg.block _ (Array.getElem?_eq_some_iff.1 h3).1 (by simp; omega)).trans h3, (hg.block _ (Array.getElem?_eq_some_iff.1 h4).1 (by simp; omega)).trans h4, h5, h6⟩
theorem GtQ.below {b xb : Nat} {w w' w2 : World} {t : TapeL} {x : QueryL} (h : GtQ b xb w w' t x) (hB : Below w'.heap.size w' w2) : GtQ b xb w w2 t x := h.rd (h.1.far hB) (below_gb hB)
theorem GtQ.fin {b xb : Nat} {w w' : World} {t : TapeL} {x : QueryL} (h : GtQ b xb w w' t x) (cs : Array Value) :
    (w'.setRow w.heap.size cs).heap[w.heap.size]? = some (.cells cs 23 (0, 0)) ∧ TapeAt (w'.setRow w.heap.size cs) b t ∧ w.grownBy (w'.setRow w.heap.size cs) (some b) := by
  obtain ⟨h1, h2, h3, h4, h5, h6⟩ := h
  exact ⟨setRow_heap _ _ _ _ _ _ h3, (setRow_other _ _ _ _ (by omega)).trans h1, ⟨h2.os, h2.tape, h2.output, by simpa [World.setRow] using h2.size, fun k hk hne => (setRow_other _ _ _ _ (by omega)).trans (h2.block k hk hne)⟩⟩
def RQRel (w : World) (b ab : Nat) (t : TapeL) (i : Value) (wr : World) : Prop := ∃ j : Nat, j ≤ 6 ∧ i = .int .i64 (j : Int) ∧ GtA w b ab (tapeN t j) (arrN t j) wr
set_option maxRecDepth 100000 in
set_option maxHeartbeats 4000000 in
theorem rqGet_any (w : World) (b : Nat) (t0 : TapeL) (h : TapeAt w b t0) :
    Calls Tryd.prog 18 #[.pointer (some ⟨b, 0, none⟩)] w (TapeEnd w b t0.query.2 (.agg t0.query.1.cells)) := by
  have hbl := h.lt
  obtain ⟨w0, hw0⟩ : ∃ W, W = (w.alloc (.cells #[.int .i64 0, .int .i64 0, .int .i64 0, .int .i64 0, .int .i64 0, .int .i64 0] 23)).alloc (.cells #[.int .i64 0, .int .i64 0, .int .i64 0, .int .i64 0, .int .i64 0, .int .i64 0] 63) := ⟨_, rfl⟩
  have hs : (w.alloc (.cells #[.int .i64 0, .int .i64 0, .int .i64 0, .int .i64 0, .int .i64 0, .int .i64 0] 23)).heap.size = w.heap.size + 1 := by simp
  obtain ⟨ab, hab⟩ : ∃ x, x = w.heap.size + 1 := ⟨_, rfl⟩
  have S0 : Hid (GtA w b ab t0 (arrN t0 0) w0) := by
    have h1 : Below w.heap.size w (w.alloc (.cells #[.int .i64 0, .int .i64 0, .int .i64 0, .int .i64 0, .int .i64 0, .int .i64 0] 23)) := (Below.refl _ w).alloc (Nat.le_refl _) _
    have h2 : Below (w.alloc (.cells #[.int .i64 0, .int .i64 0, .int .i64 0, .int .i64 0, .int .i64 0, .int .i64 0] 23)).heap.size (w.alloc (.cells #[.int .i64 0, .int .i64 0, .int .i64 0, .int .i64 0, .int .i64 0, .int .i64 0] 23)) w0 := by rw [hw0]; exact (Below.refl _ _).alloc (Nat.le_refl _) _
    have h3 := h1.trans (h2.mono h1.size)
    refine Lib.hid ⟨h.far h3, below_gb h3, (h2.block _ (by omega)).trans (heap_alloc_new w _), ?_, by omega, hbl⟩
    rw [hw0, hab, ← hs]
    exact heap_alloc_new _ _
  obtain ⟨P, hP⟩ : ∃ P, P = TapeEnd w b t0.query.2 (.agg t0.query.1.cells) := ⟨_, rfl⟩
  rw [← hP]
  have HP := Lib.hid hP
  have HNm : Hid (∀ w' t, TapeAt w' b t → Calls Tryd.prog 33 #[.pointer (some ⟨b, 0, none⟩), .int .i64 9223372036854775807] w' (TapeEnd w' b (t.number 9223372036854775807).2 (.int .i64 (t.number 9223372036854775807).1))) := Lib.hid (fun w' t h => rtNumber_any w' b t 9223372036854775807 h)
  clear hbl h hP hs
  go_enter Tryd.func18, Tryd.ntmps18
  go_upto_region 2 with (fail)
  rw [← hw0, ← hab]
  clear hw0 hab
  go_wp2_with (fail)
  go_loopw [6] (RQRel w b ab t0) (fun i _ => 6 - (intOf i).toNat)
  case atStart => exact ⟨0, by omega, rfl, S0.out⟩
  case round =>
    obtain ⟨j, hj, rfl, hA⟩ := hrel
    have HA := Lib.hid hA
    clear hA
    by_cases hlt : j < 6
    · obtain ⟨n, hn⟩ : ∃ n, n = numN t0 j := ⟨_, rfl⟩
      have hcell0 := arrN_cell t0 j hlt
      have hnx := arrN_next t0 j hlt
      rw [← hn] at hnx
      have HNx := Lib.hid hnx
      have HC0 := Lib.hid hcell0
      have HNn := Lib.hid hn
      clear hcell0 hnx hn
      have hia : ∀ w, (Instr.indexAt 63 (.pointer (some ⟨ab, 0, none⟩)) (.int .i64 (j : Int))).run Tryd.prog w = .ok (.pointer (some ⟨ab, j, none⟩)) w := fun w => run_indexAt_arr 63 3 6 Tryd.underlying63 sizeInt _ j hlt w
      go_wp2_with (fail)
      refine (HNm.out _ _ HA.out.1).mono ?_
      rintro e w3 ⟨rfl, h1, h2⟩
      have H3 := Lib.hid (HA.out.rd h1 h2)
      have hv : ((tapeN t0 j).number 9223372036854775807).1 = n := HNn.out.symm
      rw [hv]
      have g : w3.cell? ⟨ab, j, none⟩ = some (.int .i64 0) := by rw [cell_of_row _ _ _ _ _ _ H3.out.2.2.2.1]; exact HC0.out
      have f : w3.frozen? ⟨ab, j, none⟩ = false := frozen_of_row _ _ _ _ _ H3.out.2.2.2.1
      clear h1 h2 hv
      dsimp only
      go_wp2_with (fail)
      go_roundw
      case rel => exact ⟨j + 1, hlt, by go_num, by rw [HNx.out]; exact H3.out.set j _⟩
      case measure => simp [intOf]; omega
    · obtain rfl : j = 6 := by omega
      clear hlt hj
      obtain ⟨n0, hn0⟩ : ∃ n, n = numN t0 0 := ⟨_, rfl⟩
      obtain ⟨n1, hn1⟩ : ∃ n, n = numN t0 1 := ⟨_, rfl⟩
      obtain ⟨n2, hn2⟩ : ∃ n, n = numN t0 2 := ⟨_, rfl⟩
      obtain ⟨n3, hn3⟩ : ∃ n, n = numN t0 3 := ⟨_, rfl⟩
      obtain ⟨n4, hn4⟩ : ∃ n, n = numN t0 4 := ⟨_, rfl⟩
      obtain ⟨n5, hn5⟩ : ∃ n, n = numN t0 5 := ⟨_, rfl⟩
      obtain ⟨t6, ht6⟩ : ∃ t, t = tapeN t0 6 := ⟨_, rfl⟩
      have HA2 : Hid (GtA w b ab t6 #[.int .i64 n0, .int .i64 n1, .int .i64 n2, .int .i64 n3, .int .i64 n4, .int .i64 n5] wr) := by
        rw [ht6, hn0, hn1, hn2, hn3, hn4, hn5]
        exact HA.out
      have HQ : Hid (∀ tz, tz = TapeL.lastQ (QueryL.mk n0 n1 n2 n3 n4 n5) t6 → t0.query = (if tz.e = 0 then (QueryL.mk n0 n1 n2 n3 n4 n5) else zeroQ, tz)) := by
        refine Lib.hid ?_
        rintro tz rfl
        have e : t0.query0 = ((QueryL.mk n0 n1 n2 n3 n4 n5), t6) := by
          rw [ht6, hn0, hn1, hn2, hn3, hn4, hn5]
          rfl
        rw [TapeL.query, e]
      clear hn0 hn1 hn2 hn3 hn4 hn5 ht6 HA
      have a0 : wr.cell? ⟨ab, 0, none⟩ = some (.int .i64 n0) := by rw [cell_of_row _ _ _ _ _ _ HA2.out.2.2.2.1]; rfl
      have a1 : wr.cell? ⟨ab, 1, none⟩ = some (.int .i64 n1) := by rw [cell_of_row _ _ _ _ _ _ HA2.out.2.2.2.1]; rfl
      have a2 : wr.cell? ⟨ab, 2, none⟩ = some (.int .i64 n2) := by rw [cell_of_row _ _ _ _ _ _ HA2.out.2.2.2.1]; rfl
      have a3 : wr.cell? ⟨ab, 3, none⟩ = some (.int .i64 n3) := by rw [cell_of_row _ _ _ _ _ _ HA2.out.2.2.2.1]; rfl
      have a4 : wr.cell? ⟨ab, 4, none⟩ = some (.int .i64 n4) := by rw [cell_of_row _ _ _ _ _ _ HA2.out.2.2.2.1]; rfl
      have a5 : wr.cell? ⟨ab, 5, none⟩ = some (.int .i64 n5) := by rw [cell_of_row _ _ _ _ _ _ HA2.out.2.2.2.1]; rfl
      have hbuilt : Tryd.prog.built 23 [(0, .int .i64 n0), (1, .int .i64 n1), (2, .int .i64 n2), (3, .int .i64 n3), (4, .int .i64 n4), (5, .int .i64 n5)] = some #[.int .i64 n0, .int .i64 n1, .int .i64 n2, .int .i64 n3, .int .i64 n4, .int .i64 n5] := by kernel_rfl
      go_upto_region 7 with (fail)
      refine wp_region_lit ?_
      first
        | (iterate 36 go_step
           refine wpList_store_row rfl _ _ _ rfl wr.heap.size (QueryL.mk n0 n1 n2 n3 n4 n5).cells rfl rfl 23 zeroQ.cells (heap_alloc_new wr _) query_size rfl (query_one _) ?_)
        | (iterate 37 go_step
           refine wpList_store_row rfl _ _ _ rfl wr.heap.size (QueryL.mk n0 n1 n2 n3 n4 n5).cells rfl rfl 23 zeroQ.cells (heap_alloc_new wr _) query_size rfl (query_one _) ?_)
        | (iterate 38 go_step
           refine wpList_store_row rfl _ _ _ rfl wr.heap.size (QueryL.mk n0 n1 n2 n3 n4 n5).cells rfl rfl 23 zeroQ.cells (heap_alloc_new wr _) query_size rfl (query_one _) ?_)
        | (iterate 39 go_step
           refine wpList_store_row rfl _ _ _ rfl wr.heap.size (QueryL.mk n0 n1 n2 n3 n4 n5).cells rfl rfl 23 zeroQ.cells (heap_alloc_new wr _) query_size rfl (query_one _) ?_)
        | (iterate 40 go_step
           refine wpList_store_row rfl _ _ _ rfl wr.heap.size (QueryL.mk n0 n1 n2 n3 n4 n5).cells rfl rfl 23 zeroQ.cells (heap_alloc_new wr _) query_size rfl (query_one _) ?_)
        | (iterate 41 go_step
           refine wpList_store_row rfl _ _ _ rfl wr.heap.size (QueryL.mk n0 n1 n2 n3 n4 n5).cells rfl rfl 23 zeroQ.cells (heap_alloc_new wr _) query_size rfl (query_one _) ?_)
        | (iterate 42 go_step
           refine wpList_store_row rfl _ _ _ rfl wr.heap.size (QueryL.mk n0 n1 n2 n3 n4 n5).cells rfl rfl 23 zeroQ.cells (heap_alloc_new wr _) query_size rfl (query_one _) ?_)
        | (iterate 43 go_step
           refine wpList_store_row rfl _ _ _ rfl wr.heap.size (QueryL.mk n0 n1 n2 n3 n4 n5).cells rfl rfl 23 zeroQ.cells (heap_alloc_new wr _) query_size rfl (query_one _) ?_)
        | (iterate 44 go_step
           refine wpList_store_row rfl _ _ _ rfl wr.heap.size (QueryL.mk n0 n1 n2 n3 n4 n5).cells rfl rfl 23 zeroQ.cells (heap_alloc_new wr _) query_size rfl (query_one _) ?_)
        | (iterate 45 go_step
           refine wpList_store_row rfl _ _ _ rfl wr.heap.size (QueryL.mk n0 n1 n2 n3 n4 n5).cells rfl rfl 23 zeroQ.cells (heap_alloc_new wr _) query_size rfl (query_one _) ?_)
        | (iterate 46 go_step
           refine wpList_store_row rfl _ _ _ rfl wr.heap.size (QueryL.mk n0 n1 n2 n3 n4 n5).cells rfl rfl 23 zeroQ.cells (heap_alloc_new wr _) query_size rfl (query_one _) ?_)
        | (iterate 47 go_step
           refine wpList_store_row rfl _ _ _ rfl wr.heap.size (QueryL.mk n0 n1 n2 n3 n4 n5).cells rfl rfl 23 zeroQ.cells (heap_alloc_new wr _) query_size rfl (query_one _) ?_)
      obtain ⟨xb, hxb⟩ : ∃ x, x = wr.heap.size := ⟨_, rfl⟩
      obtain ⟨w4, hw4⟩ : ∃ W, W = (wr.alloc (Obj.cells #[.int .i64 0, .int .i64 0, .int .i64 0, .int .i64 0, .int .i64 0, .int .i64 0] 23)).setRow wr.heap.size (QueryL.mk n0 n1 n2 n3 n4 n5).cells := ⟨_, rfl⟩
      rw [← hw4, ← hxb]
      have S4 : Hid (GtQ b xb w w4 t6 (QueryL.mk n0 n1 n2 n3 n4 n5)) := by
        have ha : Below wr.heap.size wr (wr.alloc (Obj.cells #[.int .i64 0, .int .i64 0, .int .i64 0, .int .i64 0, .int .i64 0, .int .i64 0] 23)) := (Below.refl _ wr).alloc (Nat.le_refl _) _
        have hb2 : Below wr.heap.size wr w4 := by
          rw [hw4]
          exact ha.trans ⟨rfl, rfl, rfl, by simp [World.setRow], fun i hi => setRow_other _ _ _ _ (by omega)⟩
        obtain ⟨k1, k2, k3, k4, k5, k6⟩ := HA2.out
        have k7 := (Array.getElem?_eq_some_iff.1 k4).1
        refine Lib.hid ⟨k1.far hb2, grown_trans k2 (below_gb hb2), (hb2.block _ (by omega)).trans k3, ?_, by omega, k6⟩
        rw [hw4, hxb]
        exact setRow_heap _ _ _ _ _ _ (heap_alloc_new wr _)
      clear hw4 hxb hbuilt a0 a1 a2 a3 a4 a5
      obtain ⟨c0, c1, f0, f1⟩ := S4.out.1.cells
      clear c0 f0 f1
      obtain ⟨q, hq⟩ : ∃ q, q = t6.e := ⟨_, rfl⟩
      rw [← hq] at c1
      obtain ⟨r, hr⟩ : ∃ r, r = (QueryL.mk n0 n1 n2 n3 n4 n5).rightB := ⟨_, rfl⟩
      have HRt : Hid (Calls Tryd.prog 6 #[.agg (QueryL.mk n0 n1 n2 n3 n4 n5).cells] w4 (Below0 w4 (.bool r))) := by
        rw [hr]
        exact Lib.hid (rqRight_any w4 _)
      unfold QueryL.cells at HRt
      have Hr := Lib.hid hr
      have Hq := Lib.hid hq
      clear hr hq
      by_cases hq0 : q = 0
      · subst hq0
        cases r with
        | true =>
          have HF : Hid (∀ wz, TapeAt wz b t6 → w.grownBy wz (some b) → P (.returned (.agg (QueryL.mk n0 n1 n2 n3 n4 n5).cells)) wz) := by
            refine Lib.hid (fun wz k1 k2 => ?_)
            rw [HP.out, HQ.out t6 (by rw [TapeL.lastQ, ← Hr.out]; rfl), if_pos Hq.out.symm]
            exact ⟨rfl, k1, k2⟩
          have d0 : w4.cell? ⟨xb, 0, none⟩ = _ := S4.out.cell 0 rfl
          have d1 : w4.cell? ⟨xb, 1, none⟩ = _ := S4.out.cell 1 rfl
          have d2 : w4.cell? ⟨xb, 2, none⟩ = _ := S4.out.cell 2 rfl
          have d3 : w4.cell? ⟨xb, 3, none⟩ = _ := S4.out.cell 3 rfl
          have d4 : w4.cell? ⟨xb, 4, none⟩ = _ := S4.out.cell 4 rfl
          have d5 : w4.cell? ⟨xb, 5, none⟩ = _ := S4.out.cell 5 rfl
          go_wp2_with (fail)
          refine HRt.out.mono ?_
          rintro e w5 ⟨rfl, hB⟩
          have S5 := Lib.hid (S4.out.below hB)
          clear hB c1 d0 d1 d2 d3 d4 d5
          obtain ⟨c0, c1, f0, f1⟩ := S5.out.1.cells
          rw [← Hq.out] at c1
          clear c0 f0 f1
          have d0 : w5.cell? ⟨xb, 0, none⟩ = _ := S5.out.cell 0 rfl
          have d1 : w5.cell? ⟨xb, 1, none⟩ = _ := S5.out.cell 1 rfl
          have d2 : w5.cell? ⟨xb, 2, none⟩ = _ := S5.out.cell 2 rfl
          have d3 : w5.cell? ⟨xb, 3, none⟩ = _ := S5.out.cell 3 rfl
          have d4 : w5.cell? ⟨xb, 4, none⟩ = _ := S5.out.cell 4 rfl
          have d5 : w5.cell? ⟨xb, 5, none⟩ = _ := S5.out.cell 5 rfl
          dsimp only
          go_upto_region 12 with (fail)
          refine wp_region_lit ?_
          first
            | (refine wpList_store_row rfl _ _ _ rfl w.heap.size (QueryL.mk n0 n1 n2 n3 n4 n5).cells rfl rfl 23 zeroQ.cells S5.out.2.2.1 query_size rfl (query_one _) ?_)
            | (iterate 1 go_step
               refine wpList_store_row rfl _ _ _ rfl w.heap.size (QueryL.mk n0 n1 n2 n3 n4 n5).cells rfl rfl 23 zeroQ.cells S5.out.2.2.1 query_size rfl (query_one _) ?_)
            | (iterate 2 go_step
               refine wpList_store_row rfl _ _ _ rfl w.heap.size (QueryL.mk n0 n1 n2 n3 n4 n5).cells rfl rfl 23 zeroQ.cells S5.out.2.2.1 query_size rfl (query_one _) ?_)
            | (iterate 3 go_step
               refine wpList_store_row rfl _ _ _ rfl w.heap.size (QueryL.mk n0 n1 n2 n3 n4 n5).cells rfl rfl 23 zeroQ.cells S5.out.2.2.1 query_size rfl (query_one _) ?_)
            | (iterate 4 go_step
               refine wpList_store_row rfl _ _ _ rfl w.heap.size (QueryL.mk n0 n1 n2 n3 n4 n5).cells rfl rfl 23 zeroQ.cells S5.out.2.2.1 query_size rfl (query_one _) ?_)
            | (iterate 5 go_step
               refine wpList_store_row rfl _ _ _ rfl w.heap.size (QueryL.mk n0 n1 n2 n3 n4 n5).cells rfl rfl 23 zeroQ.cells S5.out.2.2.1 query_size rfl (query_one _) ?_)
            | (iterate 6 go_step
               refine wpList_store_row rfl _ _ _ rfl w.heap.size (QueryL.mk n0 n1 n2 n3 n4 n5).cells rfl rfl 23 zeroQ.cells S5.out.2.2.1 query_size rfl (query_one _) ?_)
            | (iterate 7 go_step
               refine wpList_store_row rfl _ _ _ rfl w.heap.size (QueryL.mk n0 n1 n2 n3 n4 n5).cells rfl rfl 23 zeroQ.cells S5.out.2.2.1 query_size rfl (query_one _) ?_)
            | (iterate 8 go_step
               refine wpList_store_row rfl _ _ _ rfl w.heap.size (QueryL.mk n0 n1 n2 n3 n4 n5).cells rfl rfl 23 zeroQ.cells S5.out.2.2.1 query_size rfl (query_one _) ?_)
            | (iterate 9 go_step
               refine wpList_store_row rfl _ _ _ rfl w.heap.size (QueryL.mk n0 n1 n2 n3 n4 n5).cells rfl rfl 23 zeroQ.cells S5.out.2.2.1 query_size rfl (query_one _) ?_)
          have HZ := Lib.hid (S5.out.fin (QueryL.mk n0 n1 n2 n3 n4 n5).cells)
          obtain ⟨wz, hwz⟩ : ∃ W, W = w5.setRow w.heap.size (QueryL.mk n0 n1 n2 n3 n4 n5).cells := ⟨_, rfl⟩
          rw [← hwz] at HZ ⊢
          clear hwz
          go_wp2_with (fail)
          exact bodyPost_ret (v := .agg (QueryL.mk n0 n1 n2 n3 n4 n5).cells) (results_cell_row (p := 2) (ty := 23) rfl _ _ w.heap.size 23 (QueryL.mk n0 n1 n2 n3 n4 n5).cells (0, 0) _ rfl HZ.out.1 Tryd.underlying23 rfl query_size) rfl (HF.out _ HZ.out.2.1 HZ.out.2.2)
        | false =>
          have HF : Hid (∀ wz, TapeAt wz b (t6.fail 11) → w.grownBy wz (some b) → P (.returned (.agg zeroQ.cells)) wz) := by
            refine Lib.hid (fun wz k1 k2 => ?_)
            rw [HP.out, HQ.out (t6.fail 11) (by rw [TapeL.lastQ, ← Hr.out]; rfl), if_neg (by unfold TapeL.fail; rw [if_pos ⟨Hq.out.symm, by decide⟩]; exact (by decide : ¬ (11 : Int) = 0))]
            exact ⟨rfl, k1, k2⟩
          have d0 : w4.cell? ⟨xb, 0, none⟩ = _ := S4.out.cell 0 rfl
          have d1 : w4.cell? ⟨xb, 1, none⟩ = _ := S4.out.cell 1 rfl
          have d2 : w4.cell? ⟨xb, 2, none⟩ = _ := S4.out.cell 2 rfl
          have d3 : w4.cell? ⟨xb, 3, none⟩ = _ := S4.out.cell 3 rfl
          have d4 : w4.cell? ⟨xb, 4, none⟩ = _ := S4.out.cell 4 rfl
          have d5 : w4.cell? ⟨xb, 5, none⟩ = _ := S4.out.cell 5 rfl
          go_wp2_with (fail)
          refine HRt.out.mono ?_
          rintro e w5 ⟨rfl, hB⟩
          have S5 := Lib.hid (S4.out.below hB)
          clear hB c1 d0 d1 d2 d3 d4 d5
          dsimp only
          go_wp2_with (fail)
          refine (rtFail_any w5 b t6 11 S5.out.1).mono ?_
          rintro e w6 ⟨rfl, h1, h2⟩
          have S6 := Lib.hid (S5.out.rd h1 h2)
          clear h1 h2
          obtain ⟨c0, c1, f0, f1⟩ := S6.out.1.cells
          rw [show (t6.fail 11).e = 11 by unfold TapeL.fail; rw [if_pos ⟨Hq.out.symm, by decide⟩]] at c1
          clear c0 f0 f1
          dsimp only
          go_upto_region 11 with (fail)
          refine wp_region_lit ?_
          first
            | (refine wpList_store_row rfl _ _ _ rfl w.heap.size zeroQ.cells rfl rfl 23 zeroQ.cells S6.out.2.2.1 query_size rfl (query_one _) ?_)
            | (iterate 1 go_step
               refine wpList_store_row rfl _ _ _ rfl w.heap.size zeroQ.cells rfl rfl 23 zeroQ.cells S6.out.2.2.1 query_size rfl (query_one _) ?_)
            | (iterate 2 go_step
               refine wpList_store_row rfl _ _ _ rfl w.heap.size zeroQ.cells rfl rfl 23 zeroQ.cells S6.out.2.2.1 query_size rfl (query_one _) ?_)
            | (iterate 3 go_step
               refine wpList_store_row rfl _ _ _ rfl w.heap.size zeroQ.cells rfl rfl 23 zeroQ.cells S6.out.2.2.1 query_size rfl (query_one _) ?_)
            | (iterate 4 go_step
               refine wpList_store_row rfl _ _ _ rfl w.heap.size zeroQ.cells rfl rfl 23 zeroQ.cells S6.out.2.2.1 query_size rfl (query_one _) ?_)
            | (iterate 5 go_step
               refine wpList_store_row rfl _ _ _ rfl w.heap.size zeroQ.cells rfl rfl 23 zeroQ.cells S6.out.2.2.1 query_size rfl (query_one _) ?_)
            | (iterate 6 go_step
               refine wpList_store_row rfl _ _ _ rfl w.heap.size zeroQ.cells rfl rfl 23 zeroQ.cells S6.out.2.2.1 query_size rfl (query_one _) ?_)
            | (iterate 7 go_step
               refine wpList_store_row rfl _ _ _ rfl w.heap.size zeroQ.cells rfl rfl 23 zeroQ.cells S6.out.2.2.1 query_size rfl (query_one _) ?_)
            | (iterate 8 go_step
               refine wpList_store_row rfl _ _ _ rfl w.heap.size zeroQ.cells rfl rfl 23 zeroQ.cells S6.out.2.2.1 query_size rfl (query_one _) ?_)
            | (iterate 9 go_step
               refine wpList_store_row rfl _ _ _ rfl w.heap.size zeroQ.cells rfl rfl 23 zeroQ.cells S6.out.2.2.1 query_size rfl (query_one _) ?_)
          have HZ := Lib.hid (S6.out.fin zeroQ.cells)
          obtain ⟨wz, hwz⟩ : ∃ W, W = w6.setRow w.heap.size zeroQ.cells := ⟨_, rfl⟩
          rw [← hwz] at HZ ⊢
          clear hwz
          go_wp2_with (fail)
          exact bodyPost_ret (v := .agg zeroQ.cells) (results_cell_row (p := 2) (ty := 23) rfl _ _ w.heap.size 23 zeroQ.cells (0, 0) _ rfl HZ.out.1 Tryd.underlying23 rfl query_size) rfl (HF.out _ HZ.out.2.1 HZ.out.2.2)
      · have e1 : (q == 0) = false := by simpa using hq0
        have e2 : (q != 0) = true := by simpa using hq0
        have HF : Hid (∀ wz, TapeAt wz b t6 → w.grownBy wz (some b) → P (.returned (.agg zeroQ.cells)) wz) := by
          refine Lib.hid (fun wz k1 k2 => ?_)
          rw [HP.out, HQ.out t6 (by unfold TapeL.lastQ; rw [fail_err (by rw [← Hq.out]; exact hq0)]; split <;> rfl), if_neg (by rw [← Hq.out]; exact hq0)]
          exact ⟨rfl, k1, k2⟩
        clear hq0
        go_upto_region 11 with (fail)
        refine wp_region_lit ?_
        first
          | (refine wpList_store_row rfl _ _ _ rfl w.heap.size zeroQ.cells rfl rfl 23 zeroQ.cells S4.out.2.2.1 query_size rfl (query_one _) ?_)
          | (iterate 1 go_step
             refine wpList_store_row rfl _ _ _ rfl w.heap.size zeroQ.cells rfl rfl 23 zeroQ.cells S4.out.2.2.1 query_size rfl (query_one _) ?_)
          | (iterate 2 go_step
             refine wpList_store_row rfl _ _ _ rfl w.heap.size zeroQ.cells rfl rfl 23 zeroQ.cells S4.out.2.2.1 query_size rfl (query_one _) ?_)
          | (iterate 3 go_step
             refine wpList_store_row rfl _ _ _ rfl w.heap.size zeroQ.cells rfl rfl 23 zeroQ.cells S4.out.2.2.1 query_size rfl (query_one _) ?_)
          | (iterate 4 go_step
             refine wpList_store_row rfl _ _ _ rfl w.heap.size zeroQ.cells rfl rfl 23 zeroQ.cells S4.out.2.2.1 query_size rfl (query_one _) ?_)
          | (iterate 5 go_step
             refine wpList_store_row rfl _ _ _ rfl w.heap.size zeroQ.cells rfl rfl 23 zeroQ.cells S4.out.2.2.1 query_size rfl (query_one _) ?_)
          | (iterate 6 go_step
             refine wpList_store_row rfl _ _ _ rfl w.heap.size zeroQ.cells rfl rfl 23 zeroQ.cells S4.out.2.2.1 query_size rfl (query_one _) ?_)
          | (iterate 7 go_step
             refine wpList_store_row rfl _ _ _ rfl w.heap.size zeroQ.cells rfl rfl 23 zeroQ.cells S4.out.2.2.1 query_size rfl (query_one _) ?_)
          | (iterate 8 go_step
             refine wpList_store_row rfl _ _ _ rfl w.heap.size zeroQ.cells rfl rfl 23 zeroQ.cells S4.out.2.2.1 query_size rfl (query_one _) ?_)
          | (iterate 9 go_step
             refine wpList_store_row rfl _ _ _ rfl w.heap.size zeroQ.cells rfl rfl 23 zeroQ.cells S4.out.2.2.1 query_size rfl (query_one _) ?_)
        have HZ := Lib.hid (S4.out.fin zeroQ.cells)
        obtain ⟨wz, hwz⟩ : ∃ W, W = w4.setRow w.heap.size zeroQ.cells := ⟨_, rfl⟩
        rw [← hwz] at HZ ⊢
        clear hwz
        go_wp2_with (fail)
        exact bodyPost_ret (v := .agg zeroQ.cells) (results_cell_row (p := 2) (ty := 23) rfl _ _ w.heap.size 23 zeroQ.cells (0, 0) _ rfl HZ.out.1 Tryd.underlying23 rfl query_size) rfl (HF.out _ HZ.out.2.1 HZ.out.2.2)
end Go.Proofs.YteoolfifpmbkeaaDoor
