/-
  The contract of a store's Waits.
-/
import Derived.Test.YtdmnhgbdeifpbaaStoreCrash
namespace Go.Proofs.Ytdmnhgbdeifpbaa
open Go Go.RowKit

def atsOf (W : List (Nat × List (BitVec 8))) : List Value := W.map fun x => .int .i64 (x.1 : Int)
set_option maxRecDepth 100000 in
set_option maxHeartbeats 1000000 in
theorem swaits_any {w : World} {base : Nat} {f : StF} {s : StS} (h : StAt w base f s) (hl : s.W.length < 1000) :
    Calls Try.prog 12 #[.pointer (some ⟨f.b, 0, none⟩)] w fun e w' => ∃ v, e = .returned v ∧ Own w' w.heap.size 3 v (atsOf s.W) ∧ Below w.heap.size w w' := by
  have HS := Lib.hid h
  have HL := Lib.hid hl
  have d2 := h.cell2
  obtain ⟨wa, wc, hwv⟩ : ∃ wa wc, f.wv = .slice wa s.W.length wc := by
    rcases h.waits.2 with ⟨hv, hn⟩ | ⟨g, cap, cur, hv, _, _, h1, h2, _⟩
    · exact ⟨none, 0, by rw [hv, hn]⟩
    · exact ⟨_, _, hv⟩
  rw [hwv] at d2
  have HWV := Lib.hid hwv
  clear h hl hwv
  go_enter Try.func12, Try.ntmps12
  go_wp2_with (fail)
  go_loopw [3, 13] (fun v u wr => ∃ i : Nat, i ≤ s.W.length ∧ u = .int .i64 (i : Int) ∧ Own wr w.heap.size 3 v (atsOf (s.W.take i)) ∧ Below w.heap.size w wr) (fun _ u _ => s.W.length - (intOf u).toNat)
  case atStart => exact ⟨0, Nat.zero_le _, rfl, Own.nil _ _ _, Below.refl _ _⟩
  case round =>
    obtain ⟨i, hi, rfl, hO, hB⟩ := hrel
    obtain ⟨va, vc, hvf⟩ := hO.form
    have HR := Lib.hid (And.intro hO (And.intro hB hvf))
    clear hO hB hvf d2
    by_cases hlt : i < s.W.length
    · have hi0 : (0 : Int) ≤ (i : Int) ∧ (i : Int) < s.W.length := by omega
      have hlw := HL.out
      obtain ⟨x, hx⟩ : ∃ x, s.W[i]? = some x := ⟨_, List.getElem?_eq_getElem hlt⟩
      have hin := HS.out.ok.waits x (List.mem_of_getElem? hx)
      have hwr : wr.ownsRow base 68 129 (.slice wa s.W.length wc) s.W.length (waitsC s.W) := by
        rw [← HWV.out]
        exact own_move HS.out.waits fun g hg => HR.out.2.1.block g (HS.out.lt (.inr (.inr (.inr (.inr hg)))))
      obtain ⟨q, rfl, hq⟩ := wait_range hwr HS.out.ok.waits hx
      obtain ⟨cz, hz, hcz⟩ := zero_write
      obtain ⟨cx, hcx⟩ : ∃ cx, cx = waitC x := ⟨_, rfl⟩
      have hcl : cx.length = 129 := by rw [hcx]; exact waitC_length hin.2
      rw [← hcx] at hq
      have HX := Lib.hid (And.intro hx (And.intro hin (And.intro hcx (And.intro hcl (And.intro hq hcz)))))
      clear hx hin hwr hq hcx hcl hcz hlt
      go_upto_region 6 with (fail)
      refine wp_region_lit ?_
      iterate 3 go_step
      refine wpList_load_mid rfl _ _ rfl q (i * 129) rfl cx _ HX.out.2.2.2.2.1 Try.underlying68 rfl (by rw [info_wr, HX.out.2.2.2.1]) ?_
      iterate 3 go_step
      refine wpList_store_row rfl _ _ _ rfl wr.heap.size cx.toArray rfl rfl 68 cz (heap_alloc_new wr _) (by rw [info_wr]; simp [HX.out.2.2.2.1]) (by rw [HX.out.2.2.2.2.2]; simp [HX.out.2.2.2.1])
        (by rw [HX.out.2.2.1]; exact all_oneCell_toArray (waitC_one x)) ?_
      obtain ⟨w1, hw1⟩ : ∃ W, W = (wr.alloc (.cells cz 68)).setRow wr.heap.size cx.toArray := ⟨_, rfl⟩
      obtain ⟨wb, hwb⟩ : ∃ b, b = wr.heap.size := ⟨_, rfl⟩
      have hB1 : Below wr.heap.size wr w1 := by
        rw [hw1]
        exact below_setRow ((Below.refl _ wr).alloc (Nat.le_refl _) _) (Nat.le_refl _) _
      have hrow : w1.heap[wb]? = some (.cells cx.toArray 68 (0, 0)) := by
        rw [hw1, hwb]
        exact setRow_heap _ _ _ _ _ _ (heap_alloc_new wr _)
      rw [← hw1, ← hwb]
      have b0 : w1.cell? ⟨wb, 0, none⟩ = some (.int .i64 (x.1 : Int)) := by
        rw [cell_of_row _ _ _ _ _ _ hrow, HX.out.2.2.1]
        rfl
      have hO1 := HR.out.1.far hB1
      have hs1 : w.heap.size ≤ w1.heap.size := Nat.le_trans HR.out.2.1.size hB1.size
      have HO := Lib.hid (And.intro hO1 (And.intro (HR.out.2.1.trans (hB1.mono HR.out.2.1.size)) hs1))
      clear hw1 hwb hB1 hrow hO1 hs1 hz
      go_upto_region 7 with (fail)
      refine wp_region_lit ?_
      iterate 12 go_step
      refine wpList_push Try.underlying36 info_int0 rfl rfl (.tmp 17) (.tmp 20) rfl w.heap.size u3 (atsOf (s.W.take i)) rfl (HO.out.1.far ((Below.refl _ w1).alloc (Nat.le_refl _) _)) (.int .i64 (x.1 : Int)) w1.heap.size rfl
        (by rw [cell_of_row _ _ _ _ _ _ (heap_alloc_new w1 _)]; rfl) rfl (by simp only [atsOf, List.length_map, List.length_take]; omega) (by have := HO.out.2.2; simp; omega) (by omega) ?_
      intro v2 w2 hO2 hg2 hv2
      have hE : Own w2 w.heap.size 3 v2 (atsOf (s.W.take (i + 1))) ∧ Below w.heap.size w w2 := by
        refine ⟨?_, ?_⟩
        · rw [take_snoc s.W i x HX.out.1]
          simpa [atsOf] using hO2
        · have hB2 : Below w.heap.size w (w1.alloc (.cells #[.int .i64 (x.1 : Int)] 3)) := HO.out.2.1.trans (((Below.refl _ w1).alloc (Nat.le_refl _) _).mono HO.out.2.2)
          exact hB2.trans (below_grown (HO.out.1.far ((Below.refl _ w1).alloc (Nat.le_refl _) _)) hg2 hB2.size)
      have HE := Lib.hid hE
      clear hE hO2 hg2 hv2 b0
      dsimp only
      go_wp2_with (fail)
      exact ⟨⟨i + 1, by omega, by go_num, HE.out⟩, by simp [intOf]; omega⟩
    · obtain rfl : i = s.W.length := by omega
      go_wp2_with (fail)
      go_ret
      obtain ⟨h1, h2, _⟩ := HR.out
      rw [List.take_length] at h1
      exact ⟨_, rfl, h1, h2⟩
end Go.Proofs.Ytdmnhgbdeifpbaa
