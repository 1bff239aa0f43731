/-
  The contract of the document's store's Sync; a store amid a loop.
-/
import Derived.Test.YtggecfecodoigaaRefStRead
namespace Go.Proofs.Ytggecfecodoigaa
open Go Go.RowKit

/-- The document's store amid a loop: its blocks are L'. -/
structure RMid (w : World) (base : Nat) (f : RfF) (s : StS) (L' : List (List (BitVec 8))) (wr : World) : Prop where
  obj : wr.heap[f.b]? = some (.cells #[f.lv, f.wv, .int .i64 (clip s.C), f.cv] 51 (0, 0))
  last : Own wr base 9 f.lv (L'.map Sv)
  len : L'.length = s.L.length
  waits : wr.ownsRow base 53 2 f.wv s.W.length (rwaitsC s.W)
  count : Own wr base 3 f.cv (countC s.R)
  moved : Moved f.has w wr
section
variable {w : World} {base : Nat} {f : RfF} {s : StS} {L' : List (List (BitVec 8))} {wr : World}
theorem RMid.start (h : RAt w base f s) : RMid w base f s s.L w := ⟨h.obj, h.last, rfl, h.waits, h.count, Moved.refl _ w⟩
theorem RMid.lt (h : RMid w base f s L' wr) {k : Nat} (hk : f.has k) : k < wr.heap.size := by
  rcases hk with rfl | e | e | e
  · exact (Array.getElem?_eq_some_iff.1 h.obj).1
  · exact (h.last.lt e).2
  · exact (World.ownsRow.lt h.waits k e).2
  · exact (h.count.lt e).2
theorem RMid.far (h : RMid w base f s L' wr) {w' : World} (hB : Below wr.heap.size wr w') : RMid w base f s L' w' := by
  have hb : ∀ k, f.has k → w'.heap[k]? = wr.heap[k]? := fun k hk => hB.block k (h.lt hk)
  exact ⟨(hb _ (.inl rfl)).trans h.obj, own_move h.last fun g hg => hb g (.inr (.inl hg)), h.len, own_move h.waits fun g hg => hb g (.inr (.inr (.inl hg))), own_move h.count fun g hg => hb g (.inr (.inr (.inr hg))), h.moved.then_ (Moved.of_below hB)⟩
/-- One block is laid. -/
theorem RMid.set (h : RMid w base f s L' wr) {g : Nat} (hg : f.lv.ownBlock = some g) {k : Nat} {b : List (BitVec 8)} (ho : Own (wr.setCell ⟨g, k, none⟩ (Sv b)) base 9 f.lv ((L'.map Sv).set k (Sv b))) :
    RMid w base f s (L'.set k b) (wr.setCell ⟨g, k, none⟩ (Sv b)) := by
  have e : ∀ j, j ≠ g → (wr.setCell ⟨g, k, none⟩ (Sv b)).heap[j]? = wr.heap[j]? := fun j hj => heap_setCell_other _ _ _ _ hj
  refine ⟨(e _ fun e' => own_ty h.last h.obj (by decide) (by rw [e']; exact hg)).trans h.obj, by rw [List.map_set]; exact ho, by rw [List.length_set]; exact h.len,
    own_move h.waits fun j hj => e j fun e' => own_two h.waits h.last (by decide) hj (e' ▸ hg), own_move h.count fun j hj => e j fun e' => own_two h.count h.last (by decide) hj (e' ▸ hg), h.moved.then_ (Moved.cell (.inr (.inl hg)) _ _)⟩
theorem RMid.drop (h : RMid w base f s L' wr) (h0 : RAt w base f s) {s' : StS} (hok : s'.Ok) (hL : s'.L = L') (hW : s'.W = []) (hC : s'.C = s.C) (hR : s'.R = s.R) : REnd w base f s' (wr.setCell ⟨f.b, 1, none⟩ (.slice none 0 0)) := by
  refine ⟨{ f with wv := .slice none 0 0 }, ⟨hok, ?_, by rw [hL]; exact own_obj h.last h.obj (by decide) _ _, by rw [hW]; exact World.ownsRow_nil _ _ _ 2, by rw [hR]; exact own_obj h.count h.obj (by decide) _ _, h0.low⟩, rfl, fun j hj => ?_,
    h.moved.then_ (Moved.cell (.inl rfl) _ _)⟩
  · rw [(obj_step h.obj 1 _).1, hC]
    rfl
  · rcases hj with e | e | e | e
    · exact .inl (.inl e)
    · exact .inl (.inr (.inl e))
    · cases e
    · exact .inl (.inr (.inr (.inr e)))
theorem RMid.slices (h : RMid w base f s L' wr) (h0 : s.Ok) : ∃ g c, f.lv = .slice (some ⟨g, 0, none⟩) s.L.length c ∧ f.lv.ownBlock = some g ∧ (∀ j, j < s.L.length → wr.cell? ⟨g, j, none⟩ = some (Sv (L'.getD j []))) ∧ (∀ j, wr.frozen? ⟨g, j, none⟩ = false) ∧
    (∀ j b, RMid w base f s (L'.set j b) (wr.setCell ⟨g, j, none⟩ (Sv b))) := by
  obtain ⟨g, c, h1, h2, h3, h4, h5⟩ := own_cells h.last (n := s.L.length) (by rw [List.length_map]; exact h.len) (by have := h0.some; omega)
  refine ⟨g, c, h1, h5, fun j hj => ?_, h3, fun j b => h.set h5 (h4 j (Sv b))⟩
  rw [h2 j hj]
  have := h.len
  simp [List.getD_eq_getElem?_getD, List.getElem?_eq_getElem (show j < L'.length by omega)]
set_option maxRecDepth 100000 in
set_option maxHeartbeats 1000000 in
theorem rsync_any (h : RAt w base f s) (h0 : s.C ≠ 0) (hW : s.W.length < 1000) : Calls Try.prog 43 #[.pointer (some ⟨f.b, 0, none⟩)] w fun e w' => e = .returned (.int .i64 0) ∧ REnd w base f s.synced w' := by
  have HS := Lib.hid h
  have H0 := Lib.hid h0
  clear h h0
  go_enter Try.func43, Try.ntmps43
  go_wp2_with (fail)
  refine (rspend_yes HS.out H0.out).mono ?_
  rintro e w1 ⟨rfl, hA, hM⟩
  obtain ⟨_, ⟨wa, wc, hwv⟩, _⟩ := hA.slice
  have d1 := hA.cell1
  rw [hwv] at d1
  have d1' : w1.cell? ⟨f.b, 1, none⟩ = some (.slice wa s.W.length wc) := d1
  have HA := Lib.hid (And.intro hA (And.intro hM hwv))
  clear hA hM hwv d1
  dsimp only
  go_wp2_with (fail)
  go_loopw [15] (fun u wr => ∃ i : Nat, i ≤ s.W.length ∧ u = .int .i64 (i : Int) ∧ RMid w1 base f s.spent (newest s.L (s.W.take i)) wr) (fun u _ => s.W.length - (intOf u).toNat)
  case atStart => exact ⟨0, Nat.zero_le _, rfl, RMid.start HA.out.1⟩
  case round =>
    obtain ⟨i, hi, rfl, hR⟩ := hrel
    clear d1'
    by_cases hlt : i < s.W.length
    · have hi0 : (0 : Int) ≤ (i : Int) ∧ (i : Int) < s.W.length := by omega
      obtain ⟨x, hx⟩ : ∃ x, s.W[i]? = some x := ⟨_, List.getElem?_eq_getElem hlt⟩
      obtain ⟨q, rfl, x0, x1⟩ := rwait_cells hR.waits HA.out.2.2 hx
      have hin := HS.out.ok.waits x (List.mem_of_getElem? hx)
      have hnx : newest s.L (s.W.take (i + 1)) = (newest s.L (s.W.take i)).set x.1 x.2 := by rw [take_snoc s.W i x hx, newest_snoc]
      obtain ⟨xk, xb⟩ := x
      dsimp only at x0 x1 hin hnx
      obtain ⟨u, hu⟩ : ∃ u, Sv xb = .string u := ⟨_, rfl⟩
      rw [hu] at x1
      have HX := Lib.hid (And.intro hR (And.intro hin (And.intro hnx hu)))
      clear hR hin hnx hx hlt hu
      go_upto_region 6 with (fail)
      obtain ⟨w5, hw5⟩ : ∃ W, W = wr.alloc (.cells #[.int .i64 (xk : Int), .string u] 53) := ⟨_, rfl⟩
      obtain ⟨vb, hvb⟩ : ∃ b, b = wr.heap.size := ⟨_, rfl⟩
      rw [← hw5, ← hvb]
      have hR5 := HX.out.1.far (w' := w5) (by rw [hw5]; exact (Below.refl _ wr).alloc (Nat.le_refl _) _)
      have hrow : w5.heap[vb]? = some (.cells #[.int .i64 (xk : Int), .string u] 53 (0, 0)) := by rw [hw5, hvb, heap_alloc_new]
      have v0 : w5.cell? ⟨vb, 0, none⟩ = some (.int .i64 (xk : Int)) := by rw [cell_of_row _ _ _ _ _ _ hrow]; rfl
      have v1 : w5.cell? ⟨vb, 1, none⟩ = some (.string u) := by rw [cell_of_row _ _ _ _ _ _ hrow]; rfl
      obtain ⟨g, c, hlv, _, hcell, hfro, hset⟩ := hR5.slices HS.out.ok.spent
      have e0 : w5.cell? ⟨f.b, 0, none⟩ = some (.slice (some ⟨g, 0, none⟩) s.L.length c) := by rw [cell_of_row _ _ _ _ _ _ hR5.obj, hlv]; rfl
      have ec := hcell xk HX.out.2.1.1
      have ef := hfro xk
      have hk0 : (0 : Int) ≤ (xk : Int) ∧ (xk : Int) < s.L.length := by have := HX.out.2.1.1; omega
      have hE := hset xk xb
      rw [HX.out.2.2.2, ← HX.out.2.2.1] at hE
      obtain ⟨ov, hov⟩ : ∃ ov, Sv ((newest s.L (s.W.take i)).getD xk []) = .string ov := ⟨_, rfl⟩
      rw [hov] at ec
      have HE := Lib.hid hE
      clear hw5 hvb hR5 hrow hlv hcell hfro hset hE hov x0 x1
      go_region
      go_wp2_with (fail)
      exact ⟨⟨i + 1, by omega, by go_num, HE.out.far ⟨rfl, rfl, rfl, Nat.le_refl _, fun _ _ => rfl⟩⟩, by simp [intOf]; omega⟩
    · obtain rfl : i = s.W.length := by omega
      have c1 : wr.cell? ⟨f.b, 1, none⟩ = some f.wv := by rw [cell_of_row _ _ _ _ _ _ hR.obj]; rfl
      have f1 := frozen_of_row wr f.b 1 _ _ hR.obj
      rw [List.take_length] at hR
      have hE := hR.drop HA.out.1 (s' := s.synced) HS.out.ok.synced rfl rfl rfl rfl
      obtain ⟨f', h1, h2, h3, h4⟩ := hE
      have HE : Hid (REnd w base f s.synced (wr.setCell ⟨f.b, 1, none⟩ (.slice none 0 0))) := REnd.trans (fun _ h => .inl h) rfl HA.out.2.1 ⟨f', h1, h2, h3, h4⟩
      clear hR h1 h2 h3 h4 hlt
      go_wp2_with (fail)
      go_ret
      exact ⟨rfl, HE.out⟩
end
end Go.Proofs.Ytggecfecodoigaa
