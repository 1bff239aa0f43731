/-
  Part 30 of 42 of what the proof leans on.
-/
import Derived.Test.YtdmnhgbdeifpbaaDoorO22
import Derived.Test.YtdmnhgbdeifpbaaDoorO21
import Derived.Test.YtdmnhgbdeifpbaaDoorO29
namespace Go.Proofs.YtdmnhgbdeifpbaaDoor
open Go Go.RowKit
set_option maxRecDepth 100000 in
set_option maxHeartbeats 4000000 in
theorem rrright_any (w : World) (x : RecL) (ia : Option Addr) (ic : Nat) (hI : ItemsAt w ia x.items) (hk : ∀ y ∈ x.items, y.key.length ≤ 1000000) (hl : x.items.length ≤ 1000000) (hr : x.root.length = 32) :
    Calls Tryd.prog 8 #[.agg (recC x.kind x.seq (.slice ia x.items.length ic) x.area x.root)] w (Below0 w (.bool x.rightB)) := by
  obtain ⟨R, hR⟩ : ∃ R, R = x.rightB := ⟨_, rfl⟩; have HR := Lib.hid hR; have HI := Lib.hid (And.intro hI (And.intro hk hl)); obtain ⟨L, hL⟩ : ∃ L, L = x.items.length := ⟨_, rfl⟩; obtain ⟨RT, hRT⟩ : ∃ z, z = byA x.root := ⟨_, rfl⟩; obtain ⟨ZT, hZT⟩ : ∃ z, z = byA zeroH := ⟨_, rfl⟩; obtain ⟨C, hC⟩ : ∃ z, z = recC x.kind x.seq (.slice ia x.items.length ic) x.area x.root := ⟨_, rfl⟩; obtain ⟨w1, hw1⟩ : ∃ W, W = w.alloc (.cells C 25) := ⟨_, rfl⟩; obtain ⟨b, hb⟩ : ∃ b, b = w.heap.size := ⟨_, rfl⟩
  have hB1 : Below w.heap.size w w1 := by rw [hw1]; exact (Below.refl _ w).alloc (Nat.le_refl _) _
  have hrow : RowR w1 b x.kind x.seq (.slice ia x.items.length ic) x.area x.root := ⟨hr, by rw [hw1, hb, hC]; exact heap_alloc_new w _⟩
  obtain ⟨c0, c1, c2, c3, c4, -⟩ := hrow.d5
  have hq : ∀ w, (binOp .eql 23 (.agg RT) (.agg ZT)).run Tryd.prog w = .ok (.bool (decide (x.root = zeroH))) w := fun w => by rw [hRT, hZT]; exact run_eql_root w _ _ hr (by simp [zeroH])
  have hg : ∀ (op : BinOp) (o1 o2 : Operand) (w : World), (eqGuard op 23 o1 o2 (.agg RT) (.agg ZT)).run Tryd.prog w = .ok () w := fun op o1 o2 w => by rw [hRT, hZT]; exact run_guard_root w op o1 o2 _ _
  have hz := zero_root.1; have hzb := zero_root.2; rw [← hZT] at hz hzb; have HB := Lib.hid hB1; have hLI : Hid (L = x.items.length) := Lib.hid hL
  have hL6 : L ≤ 1000000 := by omega
  rw [← hR, ← hC]; rw [← hL] at c2; rw [← hRT] at c4; obtain ⟨rz, hrz⟩ : ∃ r, r = decide (x.root = zeroH) := ⟨_, rfl⟩
  obtain ⟨al, hal⟩ : ∃ r, r = x.items.all (·.rightB) := ⟨_, rfl⟩
  have HF : Hid (R = (decide (1 ≤ x.seq ∧ x.seq ≤ 1099511627776) && if x.kind = 1 then decide (x.area = 0) && (rz && (decide (L ≤ 64) && al)) else decide (x.kind = 2) && (decide (0 ≤ x.area ∧ x.area ≤ 1) && decide (L = 0)))) := by
    rw [hR, hrz, hal, hL]; exact Lib.hid rfl
  rw [← hrz] at hq; obtain ⟨k, hkk⟩ : ∃ k, k = x.kind := ⟨_, rfl⟩; obtain ⟨s, hss⟩ : ∃ k, k = x.seq := ⟨_, rfl⟩; obtain ⟨a, haa⟩ : ∃ k, k = x.area := ⟨_, rfl⟩; rw [← hkk, ← hss, ← haa] at HF; rw [← hkk] at c0; rw [← hss] at c1; rw [← haa] at c3; have HAL := Lib.hid hal
  have HC4 : Hid (∀ w', Below w1.heap.size w1 w' → (loadVar 23 ⟨b, 4, none⟩).run Tryd.prog w' = .ok (.agg RT) w') := by
    rw [hRT]; exact Lib.hid fun w' h => (hrow.below h).d5.2.2.2.2.1
  clear hal hI hk hl hr hrow hR hL hRT hZT hC hB1 hrz hkk hss haa
  go_enter Tryd.func8, Tryd.ntmps8
  go_upto_region 1 with (fail)
  rw [← hw1, ← hb]; clear hw1 hb; have HZ := Lib.hid HB.out
  by_cases q1 : s < 1
  · obtain rfl : R = false := by rw [HF.out]; simp [show ¬ (1 ≤ s ∧ s ≤ 1099511627776) by omega]
    go_wp2_with (fail); go_ret; exact ⟨rfl, HZ.out⟩
  by_cases q2 : 1099511627776 < s
  · obtain rfl : R = false := by rw [HF.out]; simp [show ¬ (1 ≤ s ∧ s ≤ 1099511627776) by omega]
    go_wp2_with (fail); go_ret; exact ⟨rfl, HZ.out⟩
  by_cases q64 : 64 < (L : Int)
  · obtain rfl : R = false := by rw [HF.out]; simp [show ¬ L ≤ 64 by omega, show ¬ L = 0 by omega]
    go_wp2_with (fail); go_ret; exact ⟨rfl, HZ.out⟩
  have hs1 : 1 ≤ s ∧ s ≤ 1099511627776 := by omega
  clear HZ; go_wp2_with (fail)
  go_loopw [22] (fun v wr => ∃ t : Nat, t ≤ L ∧ v = .int .i64 (t : Int) ∧ (x.items.take t).all (·.rightB) = true ∧ Below w1.heap.size w1 wr) (fun v _ => L - (intOf v).toNat)
  case atStart => exact ⟨0, Nat.zero_le _, rfl, by simp, Below.refl _ _⟩
  case round =>
    obtain ⟨t, ht, rfl, hall, hBr⟩ := hrel
    by_cases hlt : t < L
    · have hi0 : (0 : Int) ≤ (t : Int) ∧ (t : Int) < (L : Int) := by omega
      obtain ⟨y, pb, po, hx, rfl, e0, e1, e2, e3⟩ := ((HI.out.1.below HB.out).below hBr).get (t := t) (by rw [← hLI.out]; exact hlt)
      obtain ⟨wo, hwo⟩ : ∃ wo, wo = wr.alloc (.cells y.cells 53) := ⟨_, rfl⟩
      have hBo : Below wr.heap.size wr wo := by rw [hwo]; exact (Below.refl _ wr).alloc (Nat.le_refl _) _
      have hrow : wo.heap[wr.heap.size]? = some (.cells y.cells 53 (0, 0)) := by rw [hwo]; exact heap_alloc_new wr _
      have hym := List.mem_of_getElem? hx; obtain ⟨yr, hyr⟩ : ∃ r, r = y.rightB := ⟨_, rfl⟩
      have HRi : Hid (Calls Tryd.prog 24 #[.agg y.cells] wo (Below0 wo (.bool yr))) := by rw [hyr]; exact Lib.hid (erRight_any wo y (HI.out.2.1 y hym))
      have HY : Hid (Below w1.heap.size w1 wo ∧ (x.items.take t).all (·.rightB) = true ∧ x.items[t]? = some y ∧ yr = y.rightB ∧ t < L) := Lib.hid ⟨hBr.trans (hBo.mono hBr.size), hall, hx, hyr, hlt⟩
      have k0 : wo.cell? ⟨wr.heap.size, 0, none⟩ = some (.int .i64 y.kind) := by rw [cell_of_row _ _ 0 _ _ _ hrow]; rfl
      have k1 : wo.cell? ⟨wr.heap.size, 1, none⟩ = some (Sv y.key) := by rw [cell_of_row _ _ 1 _ _ _ hrow]; rfl
      have k2 : wo.cell? ⟨wr.heap.size, 2, none⟩ = some (.int .i64 y.time) := by rw [cell_of_row _ _ 2 _ _ _ hrow]; rfl
      have k3 : wo.cell? ⟨wr.heap.size, 3, none⟩ = some (.int .i64 y.value) := by rw [cell_of_row _ _ 3 _ _ _ hrow]; rfl
      unfold ItemL.cells at hwo HRi; obtain ⟨kind, key, time, value⟩ := y; simp only at e0 e1 e2 e3 k0 k1 k2 k3 hwo HRi; clear hall hBr hx hBo hrow hym hyr hlt
      go_upto_region 6 with (fail)
      rw [← hwo]; clear hwo e0 e1 e2 e3; go_wp2_with (fail); refine HRi.out.mono ?_; clear k0 k1 k2 k3; rintro e w5 ⟨rfl, hB5⟩; have H5 := Lib.hid (HY.out.1.trans (hB5.mono HY.out.1.size)); clear hB5; dsimp only
      cases yr with
      | true =>
        go_wp2_with (fail)
        refine ⟨⟨t + 1, by have := HY.out.2.2.2.2; omega, by go_num, ?_, H5.out⟩, by have := HY.out.2.2.2.2; simp [intOf]; omega⟩
        rw [List.take_add_one, HY.out.2.2.1, List.all_append, HY.out.2.1]; simp [← HY.out.2.2.2.1]
      | false =>
        have hfa : al = false := by
          rw [HAL.out, List.all_eq_false]
          exact ⟨_, List.mem_of_getElem? HY.out.2.2.1, by rw [← HY.out.2.2.2.1]; decide⟩
        have hLn : ¬ L = 0 := by have := HY.out.2.2.2.2; omega
        have HZ := Lib.hid (HB.out.trans (H5.out.mono HB.out.size))
        obtain rfl : R = false := by rw [HF.out, hfa]; simp [hLn]
        clear hfa hLn; go_wp2_with (fail); go_ret; exact ⟨rfl, HZ.out⟩
    · obtain rfl : t = L := by omega
      have hta : al = true := by
        rw [HAL.out]; rw [hLI.out, List.take_length] at hall; exact hall
      have HZ := Lib.hid (HB.out.trans (hBr.mono HB.out.size)); have c4r := HC4.out wr hBr; have c0r := (hBr.cell (p := ⟨b, 0, none⟩) (block_lt_of_cell c0)).trans c0; have c2r := (hBr.cell (p := ⟨b, 2, none⟩) (block_lt_of_cell c2)).trans c2; have c3r := (hBr.cell (p := ⟨b, 3, none⟩) (block_lt_of_cell c3)).trans c3
      have h64 : t ≤ 64 := by omega
      clear hall hBr hlt c0 c1 c2 c3 c4
      by_cases q3 : k = 1
      · subst q3
        by_cases q4 : a = 0
        · subst q4
          go_upto_region 10 with (fail)
          refine wp_region_lit ?_
          iterate 14 go_step
          refine wpList_load_at rfl 23 _ rfl ⟨b, 4, none⟩ rfl (.agg RT) c4r ?_
          refine wpList_built_at rfl 23 _ rfl (by simpa using hzb) ?_
          obtain rfl : R = rz := by rw [HF.out, hta]; simp [hs1, h64]
          go_wp2_with (fail); go_ret; exact ⟨rfl, HZ.out⟩
        · have e4 : (a == 0) = false := by simpa using q4
          obtain rfl : R = false := by rw [HF.out]; simp [q4]
          go_wp2_with (fail); go_ret; exact ⟨rfl, HZ.out⟩
      · have e3 : (k == 1) = false := by simpa using q3
        by_cases q7 : k = 2
        · subst q7
          by_cases q10 : t = 0
          · subst q10
            by_cases q8 : 0 ≤ a
            · obtain rfl : R = decide (a ≤ 1) := by rw [HF.out]; simp [hs1, q8]
              go_wp2_with (fail); go_ret; exact ⟨rfl, HZ.out⟩
            · obtain rfl : R = false := by rw [HF.out]; simp [show ¬ (0 ≤ a ∧ a ≤ 1) by omega]
              go_wp2_with (fail); go_ret; exact ⟨rfl, HZ.out⟩
          · have e10 : ((t : Int) == 0) = false := by simpa using (show ¬ (t : Int) = 0 by omega)
            obtain rfl : R = false := by rw [HF.out]; simp [q10]
            go_wp2_with (fail); go_ret; exact ⟨rfl, HZ.out⟩
        · have e7 : (k == 2) = false := by simpa using q7
          obtain rfl : R = false := by rw [HF.out]; simp [q3, q7]
          go_wp2_with (fail); go_ret; exact ⟨rfl, HZ.out⟩
end Go.Proofs.YtdmnhgbdeifpbaaDoor
