/-
  The contract of a store's Image.
-/
import Derived.Test.YtggecfecodoigaaStoreWaits
namespace Go.Proofs.Ytggecfecodoigaa
open Go Go.RowKit

theorem zero_block : ∃ cz : Array Value, (∀ w, (zeroValue 74).run Try.prog w = .ok (.agg cz) w) ∧ cz.size = 128 := by
  have h := zero_of_info (P := Try.prog) (t := 74) (v := .agg (List.replicate 128 (Value.int .u8 0)).toArray) (n := 128) (by kernel_rfl)
  exact ⟨_, h.1, by simp⟩
set_option maxRecDepth 100000 in
set_option maxHeartbeats 1000000 in
theorem simage_any {w : World} {base : Nat} {f : StF} {s : StS} (h : StAt w base f s) :
    Calls Try.prog 16 #[.pointer (some ⟨f.b, 0, none⟩)] w fun e w' => ∃ a c, e = .returned (.slice a (128 * s.L.length) c) ∧ SrcN w.heap.size w' a (flatB s.L) ∧ Below w.heap.size w w' := by
  have HS := Lib.hid h
  have d0 := h.cell0
  have hn := h.ok.most
  have hlen := flatB_length h.ok.blocks
  obtain ⟨ti, hti, htz, hts, htb⟩ := info_u8
  obtain ⟨w1, hmk, hown, hgr⟩ := run_make_own (P := Try.prog) w w.heap.size 28 5 ti _ 1 Try.underlying28 hti htz hts .i64 .i64 (128 * s.L.length) (by rw [htb]; omega) (by unfold maxLen; omega) (Nat.le_refl _)
  rw [Int.natCast_mul] at hmk
  have hmk' : (Instr.makeSlice 28 (.int .i64 0) (.int .i64 (128 * (s.L.length : Int)))).run Try.prog w = .ok (.slice (some ⟨w.heap.size, 0, none⟩) 0 (128 * s.L.length)) w1 := hmk
  have hB1 : Below w.heap.size w w1 := ⟨hgr.os, hgr.tape, hgr.output, hgr.size, fun k hk => hgr.block k hk (by simp)⟩
  have e0 : w1.cell? ⟨f.b, 0, none⟩ = some (.slice (some ⟨f.l, 0, none⟩) s.L.length s.L.length) := (h.far hB1).cell0
  have HO := Lib.hid (And.intro hown hB1)
  have HL := Lib.hid hlen
  clear h hown hgr hB1 hmk hti htz hts htb hlen
  go_enter Try.func16, Try.ntmps16
  go_wp2_with (fail)
  refine (slen_any HS.out).mono ?_
  rintro e w9 ⟨rfl, rfl⟩
  dsimp only
  go_wp2_with (fail)
  go_loopw [3, 17] (fun v u wr => ∃ i : Nat, i ≤ s.L.length ∧ u = .int .i64 (i : Int) ∧ Own wr w9.heap.size 5 v ((flatB (s.L.take i)).map B) ∧ Below w9.heap.size w9 wr) (fun _ u _ => s.L.length - (intOf u).toNat)
  case atStart => exact ⟨0, Nat.zero_le _, rfl, HO.out.1, HO.out.2⟩
  case round =>
    obtain ⟨i, hi, rfl, hO, hB⟩ := hrel
    obtain ⟨va, vc, hvf⟩ := hO.form
    have HR := Lib.hid (And.intro hO (And.intro hB hvf))
    clear hO hB hvf d0 hmk' HO e0
    by_cases hlt : i < s.L.length
    · have hi0 : (0 : Int) ≤ (i : Int) ∧ (i : Int) < s.L.length := by omega
      obtain ⟨b, hb⟩ : ∃ b, b = s.L.getD i [] := ⟨_, rfl⟩
      have hb8 : b.length = 128 := by rw [hb]; exact HS.out.ok.blocks.at hlt
      have hq : wr.rangeAt f.l (i * 128) (b.map B) := by
        rw [hb, Nat.mul_comm]
        exact row_range (HR.out.2.1.block f.l (HS.out.lt (.inr (.inl rfl))) |>.trans HS.out.last) HS.out.ok.blocks hlt
      have htk : flatB (s.L.take (i + 1)) = flatB (s.L.take i) ++ b := by
        rw [take_snoc s.L i b (by rw [hb, List.getD_eq_getElem?_getD, List.getElem?_eq_getElem hlt]; rfl), flatB_append]
        simp [flatB]
      have hfl : (flatB (s.L.take i)).length ≤ 524288 := by
        rw [flatB_length fun x hx => HS.out.ok.blocks x (List.mem_of_mem_take hx), List.length_take]
        omega
      obtain ⟨cz, hz, hcz⟩ := zero_block
      obtain ⟨cx, hcx⟩ : ∃ cx, cx = b.map B := ⟨_, rfl⟩
      have hcl : cx.length = 128 := by rw [hcx]; simp [hb8]
      rw [← hcx] at hq
      have HX := Lib.hid (And.intro hcx (And.intro hcl (And.intro hq (And.intro hcz (And.intro htk (And.intro hfl hb8))))))
      clear hb hb8 hq htk hfl hcx hcl hcz hlt
      go_upto_region 6 with (fail)
      refine wp_region_lit ?_
      iterate 3 go_step
      refine wpList_load_mid rfl _ _ rfl f.l (i * 128) rfl cx _ HX.out.2.2.1 Try.underlying74 rfl (by rw [info_blk, HX.out.2.1]) ?_
      iterate 3 go_step
      refine wpList_store_row rfl _ _ _ rfl wr.heap.size cx.toArray rfl rfl 74 cz (heap_alloc_new wr _) (by rw [info_blk]; simp [HX.out.2.1]) (by rw [HX.out.2.2.2.1]; simp [HX.out.2.1])
        (by rw [HX.out.1]; exact all_oneCell_toArray (bytes_oneCell b)) ?_
      obtain ⟨w1, hw1⟩ : ∃ W, W = (wr.alloc (.cells cz 74)).setRow wr.heap.size cx.toArray := ⟨_, rfl⟩
      obtain ⟨wb, hwb⟩ : ∃ b, b = wr.heap.size := ⟨_, rfl⟩
      have hB1 : Below wr.heap.size wr w1 := by
        rw [hw1]
        exact below_setRow ((Below.refl _ wr).alloc (Nat.le_refl _) _) (Nat.le_refl _) _
      have hrow : w1.heap[wb]? = some (.cells ((b.map B).toArray) 74 (0, 0)) := by
        rw [hw1, hwb, ← HX.out.1]
        exact setRow_heap _ _ _ _ _ _ (heap_alloc_new wr _)
      rw [← hw1, ← hwb]
      have hs1 : w9.heap.size ≤ w1.heap.size := Nat.le_trans HR.out.2.1.size hB1.size
      have HO := Lib.hid (And.intro (HR.out.1.far hB1) (And.intro (HR.out.2.1.trans (hB1.mono HR.out.2.1.size)) (And.intro hs1 (src_row hrow))))
      have hsl : ∀ w', (Instr.sliceAt 74 (.pointer (some ⟨wb, 0, none⟩)) none none none).run Try.prog w' = .ok (.slice (some ⟨wb, 0, none⟩) 128 128) w' := fun w' => by
        simp [Instr.sliceAt, run_underlying Try.underlying74, Instr.sureAddr, Instr.sliceBounds, Try.sizeOf5, addr_add]
      clear hw1 hwb hB1 hrow hs1 hz
      go_upto_region 7 with (fail)
      refine wp_region_lit ?_
      iterate 6 go_step
      refine wpList_append_own2 rfl (.tmp 21) (.tmp 22) rfl w9.heap.size u3 _ rfl HO.out.1 (some ⟨wb, 0, none⟩) 128 b 128 HX.out.2.2.2.2.2.2.symm rfl HO.out.2.2.2 (by rw [List.length_map]; have h1 := HX.out.2.2.2.2.2.1; have h2 := HX.out.2.2.2.2.2.2; omega) HO.out.2.2.1 ?_
      intro v2 w2 hO2 hg2 hv2
      have hE : Own w2 w9.heap.size 5 v2 ((flatB (s.L.take (i + 1))).map B) ∧ Below w9.heap.size w9 w2 := by
        refine ⟨?_, HO.out.2.1.trans (below_grown HO.out.1 hg2 HO.out.2.2.1)⟩
        rw [HX.out.2.2.2.2.1, List.map_append]
        exact hO2
      have HE := Lib.hid hE
      clear hE hO2 hg2 hv2 hsl
      dsimp only
      go_wp2_with (fail)
      exact ⟨⟨i + 1, by omega, by go_num, HE.out⟩, by simp [intOf]; omega⟩
    · obtain rfl : i = s.L.length := by omega
      go_wp2_with (fail)
      go_ret
      obtain ⟨h1, h2, _⟩ := HR.out
      rw [List.take_length] at h1
      obtain ⟨a, c, rfl, _, _, _, h5⟩ := own_src h1
      refine ⟨a, c, ?_, h5, h2⟩
      show Ending.returned (Value.slice a (flatB s.L).length c) = _
      rw [HL.out]
end Go.Proofs.Ytggecfecodoigaa
