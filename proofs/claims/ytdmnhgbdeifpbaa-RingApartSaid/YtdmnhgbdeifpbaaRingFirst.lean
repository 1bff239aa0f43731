/-
  What must be answered ahead of everything else: the contract of layer 15's first.
-/
import Derived.Test.YtdmnhgbdeifpbaaRingRead
namespace Go.Proofs.Ytdmnhgbdeifpbaa
open Go Go.RowKit

def runM : List (BitVec 8) := ((List.replicate 256 (0 : BitVec 8)).set 0 5).set 255 6
theorem runM_length : runM.length = 256 := by rw [runM, List.length_set, List.length_set, List.length_replicate]
def rs0 : StS := StS.new 10
def rs1 : StS := runW rs0 2 runM 2
def rs2 : StS := runT rs1 2 2
theorem rs_read : runB rs1 2 2 = runM := by decide +kernel
theorem rs_last : gl (rs2.new'.getD 2 []) 0 = 5 ∧ (rs2.new'.getD 2 []).length = 128 := by decide +kernel
theorem rs_begins : rgBegins 2 8 10 8 2 := by decide
theorem rs_block : rgBlock 2 8 8 = 2 := by decide
theorem rs_ok : rs0.L.length = 10 ∧ rs0.C = -1 ∧ rs0.W.length = 0 := by decide +kernel
theorem rs_ok1 : rs1.L.length = 10 ∧ rs1.C = -1 := by decide +kernel
theorem rs_ok2 : rs2.L.length = 10 ∧ rs2.C = -1 := by decide +kernel
theorem mk_256 (w : World) : (Instr.makeSlice 25 (.int .i64 256) (.int .i64 256)).run Try.prog w =
    .ok (.slice (some ⟨w.heap.size, 0, none⟩) 256 256) (w.alloc (.cells (((List.replicate 256 (0 : BitVec 8)).map B).toArray) 5)) := by
  obtain ⟨i, hi, hz, hs, hb⟩ := info_u8
  have hr := run_make (P := Try.prog) w 25 5 i _ Try.underlying25 hi hz .i64 .i64 256 256 (by omega) (Int.le_refl _) (by rw [hb]; omega) (by omega)
  simp only [show (256 : Int).toNat = 256 from rfl] at hr
  rw [hr, hs]
  show Result.ok _ (w.alloc (.cells (madeCells #[Value.int .u8 0] (256 * 1)) _)) = _
  have h := made_same 1 (256 * 1) (.int .u8 0) (by omega)
  have h' : madeCells #[Value.int .u8 0] (256 * 1) = ((List.replicate 256 (0 : BitVec 8)).map B).toArray := by
    refine Eq.trans h ?_
    rw [List.map_replicate]
    rfl
  rw [h']
theorem rgwrite_nil (w : World) (f l v : Int) (x : Value) : Calls Try.prog 10 #[.pointer none, rgC f l, .int .i64 v, x] w (Below0 w (.int .i64 1)) := by
  have HB : Hid (Below w.heap.size w (w.alloc (.cells #[.int .i64 f, .int .i64 l] 23))) := (rg_new w f l).2
  unfold rgC
  go_enter Try.func10, Try.ntmps10
  go_wp2_with (fail)
  go_ret
  exact ⟨rfl, HB.out⟩
set_option maxRecDepth 100000 in
set_option maxHeartbeats 2000000 in
theorem rgfirst_any (w : World) : Calls Try.prog 6 #[] w (Below0 w (.bool true)) := by
  obtain ⟨P, hP⟩ : ∃ P : Ending → World → Prop, P = Below0 w (.bool true) := ⟨_, rfl⟩
  rw [← hP]
  have HP := Lib.hid hP
  obtain ⟨zb, hzb⟩ : ∃ z : List (BitVec 8), z = List.replicate 256 0 := ⟨_, rfl⟩
  have mk := mk_256
  rw [← hzb] at mk
  have HZ := Lib.hid hzb
  clear hzb hP
  go_enter Try.func6, Try.ntmps6
  go_upto_region 2 with (fail)
  obtain ⟨wr, hwr⟩ : ∃ W, W = w.alloc (.cells #[.int .i64 2, .int .i64 8] 23) := ⟨_, rfl⟩
  obtain ⟨rb, hrb⟩ : ∃ b, b = w.heap.size := ⟨_, rfl⟩
  have hn := rg_new w 2 8
  rw [← hwr, ← hrb] at hn
  rw [← hwr, ← hrb]
  have HR : Hid (RgAt wr rb 2 8 ∧ Below w.heap.size w wr ∧ w.heap.size ≤ wr.heap.size) := by rw [← hrb]; exact ⟨hn.1, hrb ▸ hn.2, hrb ▸ hn.2.size⟩
  clear hwr hrb hn
  go_wp2_with (fail)
  refine (snew_any wr 10 (by omega) (by omega)).mono ?_
  rintro e w1 ⟨f0, rfl, hA0, hB0⟩
  have H0 := Lib.hid (And.intro hA0 hB0)
  obtain ⟨pb, hpb⟩ : ∃ b, b = f0.b := ⟨_, rfl⟩
  rw [← hpb]
  have HPb := Lib.hid hpb
  clear hpb hA0 hB0
  dsimp only
  go_upto_region 4 with (fail)
  obtain ⟨w2, hw2⟩ : ∃ W, W = w1.alloc (.cells ((zb.map B).toArray) 5) := ⟨_, rfl⟩
  obtain ⟨g, hg⟩ : ∃ b, b = w1.heap.size := ⟨_, rfl⟩
  rw [← hw2, ← hg]
  have hrow : w2.heap[g]? = some (.cells ((zb.map B).toArray) 5 (0, 0)) := by rw [hw2, hg, heap_alloc_new]
  have hB2 : Below w1.heap.size w1 w2 := by rw [hw2]; exact (Below.refl _ w1).alloc (Nat.le_refl _) _
  have hzl : zb.length = 256 := by rw [HZ.out]; simp
  have c0 : w2.cell? ⟨g, 0, none⟩ = some (B (gl zb 0)) := by rw [cell_of_row _ _ _ _ _ _ hrow]; exact list_map_at zb 0 (by omega)
  have c1 : w2.cell? ⟨g, 255, none⟩ = some (B (gl zb 255)) := by rw [cell_of_row _ _ _ _ _ _ hrow]; exact list_map_at zb 255 (by omega)
  have f0' := frozen_of_row w2 g 0 _ _ hrow
  have f1' := frozen_of_row w2 g 255 _ _ hrow
  obtain ⟨w3, hw3⟩ : ∃ W, W = (w2.setCell ⟨g, 0, none⟩ (.int .u8 5)).setCell ⟨g, 255, none⟩ (.int .u8 6) := ⟨_, rfl⟩
  have hr3 : w3.heap[g]? = some (.cells ((runM.map B).toArray) 5 (0, 0)) := by
    rw [hw3, heap_setCell_same _ g 255 _ _ _ (heap_setCell_same w2 g 0 _ _ _ hrow), HZ.out]
    unfold runM
    rw [List.map_set, List.map_set]
    rfl
  have hB3 : Below w1.heap.size w1 w3 := by
    rw [hw3]
    refine hB2.trans ⟨rfl, rfl, rfl, by simp [World.setCell], fun k hk => ?_⟩
    rw [heap_setCell_other _ _ _ _ (by show k ≠ g; omega), heap_setCell_other _ _ _ _ (by show k ≠ g; omega)]
  obtain ⟨base, hbase⟩ : ∃ b, b = wr.heap.size := ⟨_, rfl⟩
  have hI3 : StAt w3 base f0 rs0 ∧ f0.b = pb ∧ SrcA f0 w3 (some ⟨g, 0, none⟩) runM ∧ Below base wr w3 := by
    obtain ⟨h1, h2⟩ := H0.out
    rw [hbase]
    refine ⟨h1.far hB3, HPb.out.symm, .inr ⟨g, 0, rfl, ⟨(Array.getElem?_eq_some_iff.1 hr3).1, fun hf => by have := h1.lt hf; omega⟩, fun i hi => ?_⟩, h2.trans (hB3.mono h2.size)⟩
    rw [cell_of_row _ _ _ _ _ _ hr3, Nat.zero_add]
    exact list_map_at runM i hi
  have HBs : Hid (∀ w', Below base wr w' → RgAt w' rb 2 8 ∧ Below w.heap.size w w' ∧ base ≤ w'.heap.size) := by
    rw [hbase]
    exact Lib.hid fun w' h => ⟨HR.out.1.below h, HR.out.2.1.trans (h.mono HR.out.2.2), h.size⟩
  have HW3 := Lib.hid hw3
  have I3 := Lib.hid hI3
  clear hw2 hg hrow hB2 hzl hw3 hr3 hB3 hI3 mk hbase
  go_upto_region 5 with (fail)
  rw [← HW3.out]
  clear c0 c1 f0' f1'
  have d0 := (HBs.out _ I3.out.2.2.2).1.c0
  have d1 := (HBs.out _ I3.out.2.2.2).1.c1
  have hc := rgwrite_any I3.out.1 (HBs.out _ I3.out.2.2.2).2.2 (f := 2) (l := 8) (v := 8) (n := 2) (by rw [rs_ok.1]; exact rs_begins) rs_ok.2.1 rs_ok.2.2 (some ⟨g, 0, none⟩) 256 runM runM_length (by omega) I3.out.2.2.1
  rw [I3.out.2.1, rs_block] at hc
  unfold rgC at hc
  go_wp2_with (fail)
  refine hc.mono ?_
  clear hc d0 d1
  rintro e w4 ⟨rfl, f1, hn⟩
  have I4 : Hid (StAt w4 base f1 rs1 ∧ f1.b = pb ∧ SrcA f1 w4 (some ⟨g, 0, none⟩) runM ∧ Below base wr w4) :=
    ⟨hn.2.1, hn.1.trans I3.out.2.1, SrcA.next I3.out.2.2.1 hn, I3.out.2.2.2.trans hn.2.2.1⟩
  clear hn
  dsimp only
  have d0 := (HBs.out _ I4.out.2.2.2).1.c0
  have d1 := (HBs.out _ I4.out.2.2.2).1.c1
  have hc := rgread_any I4.out.1 (HBs.out _ I4.out.2.2.2).2.2 (f := 2) (l := 8) (v := 8) (n := 2) (by rw [rs_ok1.1]; exact rs_begins) rs_ok1.2
  rw [I4.out.2.1, rs_block] at hc
  unfold rgC at hc
  go_wp2_with (fail)
  refine hc.mono ?_
  clear hc d0 d1
  rintro e w5 ⟨ca, cc, rfl, hsr, hn⟩
  have I5 : Hid (StAt w5 base f1 rs2 ∧ f1.b = pb ∧ SrcA f1 w5 (some ⟨g, 0, none⟩) runM ∧ Below base wr w5) :=
    ⟨hn.2.1, hn.1.trans I4.out.2.1, SrcA.next I4.out.2.2.1 hn, I4.out.2.2.2.trans hn.2.2.1⟩
  have C5 : Hid (SrcA f1 w5 ca runM) := by
    have h := SrcA.of_new I4.out.1 hsr hn.2.1
    exact Lib.hid (rs_read ▸ h)
  clear hsr hn
  dsimp only
  have hc := sread_any I5.out.1 (k := 2) (by rw [rs_ok2.1]; decide) (by rw [rs_ok2.2]; decide)
  rw [I5.out.2.1] at hc
  go_wp2_with (fail)
  refine hc.mono ?_
  clear hc
  rintro e w6 ⟨xa, xc, rfl, hsr, hst, hk⟩
  have hn := Next.kept I5.out.1 (HBs.out _ I5.out.2.2.2).2.2 hst hk
  have X6 := SrcA.of_new I5.out.1 hsr hst
  have I6 : Hid (SrcA f1 w6 (some ⟨g, 0, none⟩) runM ∧ SrcA f1 w6 ca runM ∧ Below base wr w6) := ⟨SrcA.next I5.out.2.2.1 hn, SrcA.next C5.out hn, I5.out.2.2.2.trans hn.2.2.1⟩
  obtain ⟨xb, xo, rfl, x0⟩ : ∃ xb xo, xa = some ⟨xb, xo, none⟩ ∧ w6.cell? ⟨xb, xo, none⟩ = some (.int .u8 5) := by
    obtain ⟨e0, e2⟩ := rs_last
    rcases X6 with h | ⟨xb, xo, h1, _, h3⟩
    · omega
    · have k0 := h3 0 (by omega)
      rw [e0] at k0
      exact ⟨xb, xo, h1, k0⟩
  have HG : Hid (∀ w', Below w6.heap.size w6 w' → w'.cell? ⟨rb, 0, none⟩ = some (.int .i64 2) ∧ w'.cell? ⟨rb, 1, none⟩ = some (.int .i64 8) ∧ w'.cell? ⟨xb, xo, none⟩ = some (.int .u8 5) ∧
      (convert 25 9 (.slice ca 256 cc)).run Try.prog w' = .ok (.string (strOf runM)) w' ∧ (convert 25 9 (.slice (some ⟨g, 0, none⟩) 256 256)).run Try.prog w' = .ok (.string (strOf runM)) w') := by
    refine Lib.hid fun w' h => ?_
    have hr := (HBs.out w6 I6.out.2.2).1.below h
    refine ⟨hr.c0, hr.c1, (h.cell (p := ⟨xb, xo, none⟩) (block_lt_of_cell x0)).trans x0, ?_, ?_⟩
    · have := run_conv_str w' ca cc runM ((SrcA.src I6.out.2.1).below h)
      rw [runM_length] at this
      exact this
    · have := run_conv_str w' (some ⟨g, 0, none⟩) 256 runM ((SrcA.src I6.out.1).below h)
      rw [runM_length] at this
      exact this
  have H6 : Hid (Below w.heap.size w w6) := (HBs.out w6 I6.out.2.2).2.1
  clear hsr hst hk hn X6 x0
  obtain ⟨d0, d1, x0, k0, k1⟩ := HG.out w6 (Below.refl _ _)
  dsimp only
  go_wp2_with (fail)
  refine (rgstart_any w6 2 8 6 3).mono ?_
  clear d0 d1 x0 k0 k1
  rintro e w7 ⟨rfl, hB⟩
  rw [show rgStart 2 8 6 3 = 8 by decide]
  have H7 : Hid (Below w6.heap.size w6 w7) := hB
  clear hB
  obtain ⟨d0, d1, x0, k0, k1⟩ := HG.out w7 H7.out
  dsimp only
  go_wp2_with (fail)
  refine (rgblock_any w7 2 8 9).mono ?_
  clear d0 d1 x0 k0 k1
  rintro e w8 ⟨rfl, hB⟩
  rw [show rgBlock 2 8 9 = 3 by decide]
  have H8 : Hid (Below w6.heap.size w6 w8) := H7.out.trans (hB.mono H7.out.size)
  clear hB
  obtain ⟨d0, d1, x0, k0, k1⟩ := HG.out w8 H8.out
  dsimp only
  go_wp2_with (fail)
  refine (rgroom_any w8 2 8 0 5 3).mono ?_
  clear d0 d1 x0 k0 k1
  rintro e w9 ⟨rfl, hB⟩
  rw [show decide (rgRoom 2 8 0 5 3) = true by decide]
  have H9 : Hid (Below w6.heap.size w6 w9) := H8.out.trans (hB.mono H8.out.size)
  clear hB
  obtain ⟨d0, d1, x0, k0, k1⟩ := HG.out w9 H9.out
  dsimp only
  go_wp2_with (fail)
  refine (rgroom_any w9 2 8 0 6 3).mono ?_
  clear d0 d1 x0 k0 k1
  rintro e w10 ⟨rfl, hB⟩
  rw [show decide (rgRoom 2 8 0 6 3) = false by decide]
  have H10 : Hid (Below w6.heap.size w6 w10) := H9.out.trans (hB.mono H9.out.size)
  clear hB
  obtain ⟨d0, d1, x0, k0, k1⟩ := HG.out w10 H10.out
  dsimp only
  go_wp2_with (fail)
  refine (rgright_any w10 2 8 10).mono ?_
  clear d0 d1 x0 k0 k1
  rintro e w11 ⟨rfl, hB⟩
  rw [show decide (rgRight 2 8 10) = true by decide]
  have H11 : Hid (Below w6.heap.size w6 w11) := H10.out.trans (hB.mono H10.out.size)
  clear hB
  obtain ⟨d0, d1, x0, k0, k1⟩ := HG.out w11 H11.out
  dsimp only
  go_wp2_with (fail)
  refine (rgright_any w11 2 8 9).mono ?_
  clear d0 d1 x0 k0 k1
  rintro e w12 ⟨rfl, hB⟩
  rw [show decide (rgRight 2 8 9) = false by decide]
  have H12 : Hid (Below w6.heap.size w6 w12) := H11.out.trans (hB.mono H11.out.size)
  clear hB
  obtain ⟨d0, d1, x0, k0, k1⟩ := HG.out w12 H12.out
  dsimp only
  go_wp2_with (fail)
  refine (rgwrite_nil w12 2 8 0 _).mono ?_
  clear d0 d1 x0 k0 k1
  rintro e w13 ⟨rfl, hB⟩
  have HQ : Hid (P (.returned (.bool true)) w13) := by
    rw [HP.out]
    exact ⟨rfl, H6.out.trans ((H12.out.trans (hB.mono H12.out.size)).mono H6.out.size)⟩
  clear hB
  dsimp only
  go_wp2_with (fail)
  exact HQ.out
end Go.Proofs.Ytdmnhgbdeifpbaa
