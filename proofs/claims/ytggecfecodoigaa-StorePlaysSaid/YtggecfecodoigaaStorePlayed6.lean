/-
  One act, played at the two stores: Load.
-/
import Derived.Test.YtggecfecodoigaaStorePairL
namespace Go.Proofs.Ytggecfecodoigaa
open Go Go.RowKit

set_option maxRecDepth 100000 in
set_option maxHeartbeats 1000000 in
theorem played6 {w w0 : World} {base : Nat} {f : StF} {rf : RfF} {s : StS} (h : Both w base f rf s) (o : OpL) (hg : o.Good w0) (h0 : w0.heap.size ≤ base) (hbase : base ≤ w.heap.size) (hB : Below w0.heap.size w0 w) (hW : s.W.length < 1000) (g ic : Nat) (ims : List (List (List (BitVec 8)))) (hi0 : 0 < ims.length) (hi1 : ims.length ≤ 1000) (hi2 : ∀ j < ims.length, w.cell? ⟨g, j, none⟩ = some (Sv (flatB (ims.getD j [])))) (hi3 : ∀ l ∈ ims, Blocks l ∧ l.length = s.L.length) (h9 : ninth o.kind = 6) :
    Calls Try.prog 23 #[.pointer (some ⟨f.b, 0, none⟩), .pointer (some ⟨rf.b, 0, none⟩), .agg #[.int .i64 o.kind, .int .i64 o.at_, .int .i64 o.n, .slice o.ba o.bs.length o.bc, .slice o.ka o.keep.length o.kc], .slice (some ⟨g, 0, none⟩) ims.length ic] w (PEnd w base f rf s) := by
  have HS := Lib.hid (And.intro h (And.intro hg (And.intro h0 (And.intro hB (And.intro hW hbase)))))
  obtain ⟨N, hN⟩ : ∃ N, N = o.bs.length := ⟨_, rfl⟩
  obtain ⟨M, hM⟩ : ∃ M, M = o.keep.length := ⟨_, rfl⟩
  rw [← hN, ← hM]
  obtain ⟨w1, hw1⟩ : ∃ W, W = w.alloc (.cells #[.int .i64 o.kind, .int .i64 o.at_, .int .i64 o.n, .slice o.ba N o.bc, .slice o.ka M o.kc] 47) := ⟨_, rfl⟩
  obtain ⟨ib, hib⟩ : ∃ b, b = w.heap.size := ⟨_, rfl⟩
  have hrow : w1.heap[ib]? = some (.cells #[.int .i64 o.kind, .int .i64 o.at_, .int .i64 o.n, .slice o.ba N o.bc, .slice o.ka M o.kc] 47 (0, 0)) := by
    rw [hw1, hib]
    exact heap_alloc_new w _
  have hB1 : Below w.heap.size w w1 := by rw [hw1]; exact (Below.refl _ w).alloc (Nat.le_refl _) _
  have e0 : w1.cell? ⟨ib, 0, none⟩ = some (.int .i64 o.kind) := by rw [cell_of_row _ _ _ _ _ _ hrow]; rfl
  have e1 : w1.cell? ⟨ib, 1, none⟩ = some (.int .i64 o.at_) := by rw [cell_of_row _ _ _ _ _ _ hrow]; rfl
  have e2 : w1.cell? ⟨ib, 2, none⟩ = some (.int .i64 o.n) := by rw [cell_of_row _ _ _ _ _ _ hrow]; rfl
  have e3 : w1.cell? ⟨ib, 3, none⟩ = some (.slice o.ba N o.bc) := by rw [cell_of_row _ _ _ _ _ _ hrow]; rfl
  have e4 : w1.cell? ⟨ib, 4, none⟩ = some (.slice o.ka M o.kc) := by rw [cell_of_row _ _ _ _ _ _ hrow]; rfl
  have H1 := Lib.hid (And.intro hw1 (And.intro hib (And.intro hrow (And.intro hB1 (And.intro hN hM)))))
  have H9 := Lib.hid h9
  have HI := Lib.hid (And.intro hi0 (And.intro hi1 (And.intro hi2 hi3)))
  clear hi0 hi1 hi2 hi3 h hg h0 hbase hB hW hw1 hib hrow hB1 hN hM h9
  go_enter Try.func23, Try.ntmps23
  go_upto_region 1 with (fail)
  rw [← H1.out.1, ← H1.out.2.1]
  go_wp2_with (fail)
  rw [H1.out.2.2.2.2.1]
  have hB01 : Below w0.heap.size w0 w1 := HS.out.2.2.2.1.trans (H1.out.2.2.2.1.mono HS.out.2.2.2.1.size)
  have HB01 := Lib.hid hB01
  clear hB01
  refine (whole_any w1 o.kind o.at_ o.n o.ba o.bc o.bs _ (HS.out.2.1.bytes.from (Nat.le_refl _) HB01.out) HS.out.2.1.few).mono ?_
  rintro e w2 ⟨a, mc, rfl, hsr, hB2, ha⟩
  obtain ⟨m, hm⟩ : ∃ m, m = wholeB o.bs := ⟨_, rfl⟩
  rw [← hm] at hsr ⊢
  have hrow2 : w2.heap[ib]? = some (.cells #[.int .i64 o.kind, .int .i64 o.at_, .int .i64 o.n, .slice o.ba N o.bc, .slice o.ka M o.kc] 47 (0, 0)) := (hB2.block _ (Array.getElem?_eq_some_iff.1 H1.out.2.2.1).1).trans H1.out.2.2.1
  have hBw : Below w.heap.size w w2 := H1.out.2.2.2.1.trans (hB2.mono H1.out.2.2.2.1.size)
  have hb2 := HS.out.1.far hBw
  have hsA := whole_aside (HS.out.1.far H1.out.2.2.2.1).prog HS.out.2.2.1 HS.out.2.1.bytes hsr ha
  have HRF := Lib.hid (whole_asideR (HS.out.1.far H1.out.2.2.2.1).ref HS.out.2.2.1 HS.out.2.1.bytes ha)
  have H2 := Lib.hid (And.intro hb2 (And.intro hBw (And.intro hsA (And.intro hrow2 (And.intro hB2 (Nat.le_trans HS.out.2.2.2.2.2 hBw.size))))))
  have q0 : w2.cell? ⟨ib, 0, none⟩ = some (.int .i64 o.kind) := by rw [cell_of_row _ _ _ _ _ _ hrow2]; rfl
  obtain ⟨L, hL⟩ : ∃ L, L = m.length := ⟨_, rfl⟩
  have HL := Lib.hid hL
  rw [← hL]
  clear e0 e1 e2 e3 e4 hsr hB2 ha hm hrow2 hBw hb2 hsA hL
  dsimp only
  go_upto_region 3 with (fail)
  rw [show (IntKind.u64.wrap o.kind).tmod 9 = 6 from H9.out]
  have q1 : w2.cell? ⟨ib, 1, none⟩ = some (.int .i64 o.at_) := by rw [cell_of_row _ _ _ _ _ _ H2.out.2.2.2.1]; rfl
  have q2 : w2.cell? ⟨ib, 2, none⟩ = some (.int .i64 o.n) := by rw [cell_of_row _ _ _ _ _ _ H2.out.2.2.2.1]; rfl
  have q4 : w2.cell? ⟨ib, 4, none⟩ = some (.slice o.ka M o.kc) := by rw [cell_of_row _ _ _ _ _ _ H2.out.2.2.2.1]; rfl
  obtain ⟨r, hr0, hr⟩ : ∃ r : Nat, r < ims.length ∧ (IntKind.u64.wrap o.n).tmod (ims.length : Int) = (r : Int) := by
    have h1 : 0 ≤ IntKind.u64.wrap o.n := by rw [IntKind.wrap_u64]; omega
    have h2 : 0 < (ims.length : Int) := by have := HI.out.1; omega
    have h3 := Int.emod_nonneg (IntKind.u64.wrap o.n) (show (ims.length : Int) ≠ 0 by omega)
    have h4 := Int.emod_lt_of_pos (IntKind.u64.wrap o.n) h2
    refine ⟨((IntKind.u64.wrap o.n) % (ims.length : Int)).toNat, by omega, ?_⟩
    rw [Int.tmod_eq_emod_of_nonneg h1]
    omega
  have hwl : IntKind.u64.wrap (ims.length : Int) = (ims.length : Int) := by rw [IntKind.wrap_u64]; have := HI.out.2.1; omega
  have hwr : IntKind.i64.wrap (r : Int) = (r : Int) := IntWalk.i64_in _ (by have := HI.out.2.1; omega)
  have hri : (0 : Int) ≤ (r : Int) ∧ (r : Int) < (ims.length : Int) := by omega
  have hne : ¬ (ims.length : Int) = 0 := by have := HI.out.1; omega
  have hgc : w2.cell? ⟨g, r, none⟩ = some (Sv (flatB (ims.getD r []))) := by
    have h1 := HI.out.2.2.1 r hr0
    rw [World.cell?_of_block (w := w) (H2.out.2.1.block g (block_lt_of_cell h1))]
    exact h1
  obtain ⟨L0, hL0⟩ : ∃ l, l = ims.getD r [] := ⟨_, rfl⟩
  rw [← hL0] at hgc
  have hLm : Blocks L0 ∧ L0.length = s.L.length := by
    refine HI.out.2.2.2 L0 ?_
    rw [hL0, List.getD_eq_getElem?_getD, List.getElem?_eq_getElem hr0]
    exact List.getElem_mem hr0
  obtain ⟨im, him⟩ : ∃ l, l = flatB L0 := ⟨_, rfl⟩
  have himl : im.length = 128 * s.L.length := by rw [him, flatB_length hLm.1, hLm.2]
  obtain ⟨u, hu⟩ : ∃ u, u = strOf im := ⟨_, rfl⟩
  rw [← him, show Sv im = .string u from by rw [hu]; rfl] at hgc
  obtain ⟨cc, w3, hcc, hcv, hB3, hc3, -⟩ := conv_bytes2 w2 im
  rw [show Sv im = .string u from by rw [hu]; rfl, himl] at hcv
  have hb3 := H2.out.1.far hB3
  have hsA : SrcA f w3 (some ⟨w2.heap.size, 0, none⟩) (flatB L0) := by
    rw [← him]
    by_cases h0 : im.length = 0
    · exact .inl h0
    · refine .inr ⟨_, 0, rfl, ⟨block_lt_of_cell (hc3 0 (by omega)), fun hf => by have := H2.out.1.prog.lt hf; omega⟩, fun i hi => by rw [Nat.zero_add]; exact hc3 i hi⟩
  have hp := sload_any hb3.prog (some ⟨w2.heap.size, 0, none⟩) cc L0 hLm.1 hLm.2 hsA (by rw [← himl]; exact hcc)
  have hr := fun f1 w4 (hM : Mid w3 base f rf s (s.loaded L0) f1 w4) => rload_any hM.ref L0 hLm.1 hLm.2
  have HP := Lib.hid (And.intro hp (And.intro hr (And.intro hb3 (And.intro hB3 (And.intro himl (And.intro hu (And.intro him hLm)))))))
  have himl5 : im.length ≤ 1000000 := by have := H2.out.1.prog.ok.most; omega
  have HM5 := Lib.hid himl5
  clear hp hr hb3 hsA hB3 hc3 hcc hLm hL0 him himl hu q0 q1 q4 himl5
  go_wp2_with (fail)
  refine HP.out.1.mono ?_
  rintro e w4 ⟨rfl, hE⟩
  obtain ⟨f1, hM⟩ := HP.out.2.2.1.step hE
  have H4 := Lib.hid hM
  have hr := HP.out.2.1 _ _ hM
  rw [← HP.out.2.2.2.2.2.2.1, show Sv im = .string u from by rw [HP.out.2.2.2.2.2.1]; rfl] at hr
  have HR := Lib.hid hr
  clear hE hM hr hcv hwl hwr hri hne hgc q2
  dsimp only
  go_wp2_with (fail)
  refine HR.out.mono ?_
  rintro e w5 ⟨rfl, hE⟩
  have hBE := BothEnd.from HP.out.2.2.2.1 (H4.out.done hE)
  have H5 := Lib.hid hBE
  obtain ⟨c6, w6, hcc6, hcv6, hB6, hc6, hsp6⟩ := conv_bytes2 w5 im
  rw [show Sv im = .string u from by rw [HP.out.2.2.2.2.2.1]; rfl] at hcv6
  have H6 := Lib.hid (And.intro hB6 (And.intro hc6 hsp6))
  clear hE hBE hcc6 hB6 hc6 hsp6
  dsimp only
  iterate 13 go_step
  refine BigFrame.wpList_want rfl fun K hK => ?_
  refine wp_slice_zero _ rfl rfl ?_
  refine hK _ _ ?_
  obtain ⟨w7, hw7⟩ : ∃ W, W = w6.alloc (.cells #[.int .u8 0] 5) := ⟨_, rfl⟩
  have hB67 : Below w6.heap.size w6 w7 := by rw [hw7]; exact (Below.refl _ w6).alloc (Nat.le_refl _) _
  have hz7 : w7.cell? ⟨w6.heap.size, 0, none⟩ = some (.int .u8 0) := by
    rw [hw7, cell_of_row _ _ _ _ _ _ (heap_alloc_new w6 _)]
    rfl
  rw [← hw7]
  clear hw7 hcv6
  have hlt6 : ∀ j < c6, w5.heap.size < w6.heap.size := fun j hj => by
    have h1 := (H6.out.2.2 j hj).1
    obtain ⟨v, hv⟩ := Option.isSome_iff_exists.1 h1
    exact block_lt_of_cell hv
  simp only [Act.put, List.setIfInBounds_toArray, List.set_cons_zero, List.set_cons_succ]
  refine BigFrame.wpList_want rfl fun K hK => ?_
  refine wp_append_zero (B0 := w5.heap.size) (m := im) _ _ rfl rfl HM5.out rfl rfl (fun i hi => ?_) (fun j hj => ?_) hz7 (Nat.le_refl _) (Nat.le_trans H6.out.1.size hB67.size) ?_
  · have h1 := H6.out.2.1 i hi
    rw [World.cell?_of_block (w := w6) (hB67.block _ (block_lt_of_cell h1))]
    exact h1
  · have h1 := hlt6 j hj
    have hb := hB67.block _ h1
    refine ⟨by rw [World.cell?_of_block (w := w6) hb]; exact (H6.out.2.2 j hj).1, ?_⟩
    have h2 := (H6.out.2.2 j hj).2
    unfold World.frozen? at h2 ⊢
    rw [hb]
    exact h2
  · intro a8 c8 w8 hB8
    have hB58 : Below w5.heap.size w5 w8 := (H6.out.1.trans (hB67.mono H6.out.1.size)).trans hB8
    obtain ⟨f9, rf9, hb9, hbb, -⟩ := H5.out.far hB58
    have hno := sload_no hb9.prog a8 (im.length + 1) c8 (by rw [show (s.loaded L0).L.length = s.L.length from HP.out.2.2.2.2.2.2.2.2, HP.out.2.2.2.2.1]; omega)
    rw [hbb] at hno
    have H9 := Lib.hid (And.intro hno (H5.out.far hB58))
    clear hB58 hb9 hno hlt6 hB67 hz7 hB8
    refine hK _ _ ?_
    clear hK
    dsimp only
    simp only [Act.put, List.setIfInBounds_toArray, List.set_cons_zero, List.set_cons_succ]
    go_wp2_with (fail)
    refine H9.out.1.mono ?_
    rintro e w9 ⟨rfl, rfl⟩
    dsimp only
    go_wp2_with (fail)
    go_ret
    exact PEnd.of (fits_loaded s L0 HP.out.2.2.2.2.2.2.2.2).1 (fits_loaded s L0 HP.out.2.2.2.2.2.2.2.2).2 (BothEnd.from H2.out.2.1 H9.out.2)
end Go.Proofs.Ytggecfecodoigaa
