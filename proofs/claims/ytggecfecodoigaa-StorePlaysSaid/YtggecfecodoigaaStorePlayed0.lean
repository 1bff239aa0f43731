/-
  One act, played at the two stores: Write.
-/
import Derived.Test.YtggecfecodoigaaStorePairs
namespace Go.Proofs.Ytggecfecodoigaa
open Go Go.RowKit

set_option maxRecDepth 100000 in
set_option maxHeartbeats 1000000 in
theorem played0 {w w0 : World} {base : Nat} {f : StF} {rf : RfF} {s : StS} (h : Both w base f rf s) (o : OpL) (hg : o.Good w0) (h0 : w0.heap.size ≤ base) (hbase : base ≤ w.heap.size) (hB : Below w0.heap.size w0 w) (hW : s.W.length < 1000) (iv : Value) (h9 : ninth o.kind = 0) :
    Calls Try.prog 23 #[.pointer (some ⟨f.b, 0, none⟩), .pointer (some ⟨rf.b, 0, none⟩), .agg #[.int .i64 o.kind, .int .i64 o.at_, .int .i64 o.n, .slice o.ba o.bs.length o.bc, .slice o.ka o.keep.length o.kc], iv] w (PEnd w base f rf s) := by
  have HS := Lib.hid (And.intro h (And.intro hg (And.intro h0 (And.intro hB (And.intro hW hbase)))))
  obtain ⟨N, hN⟩ : ∃ N, N = o.bs.length := ⟨_, rfl⟩
  obtain ⟨M, hM⟩ : ∃ M, M = o.keep.length := ⟨_, rfl⟩
  rw [← hN, ← hM]
  obtain ⟨w1, hw1⟩ : ∃ W, W = w.alloc (.cells #[.int .i64 o.kind, .int .i64 o.at_, .int .i64 o.n, .slice o.ba N o.bc, .slice o.ka M o.kc] 47) := ⟨_, rfl⟩
  obtain ⟨ib, hib⟩ : ∃ b, b = w.heap.size := ⟨_, rfl⟩
  have hrow : w1.heap[ib]? = some (.cells #[.int .i64 o.kind, .int .i64 o.at_, .int .i64 o.n, .slice o.ba N o.bc, .slice o.ka M o.kc] 47 (0, 0)) := by
    rw [hw1, hib]
    exact heap_alloc_new w _
  have hB1 : Below w.heap.size w w1 := by rw [hw1]; exact (Below.refl _ w).alloc (Nat.le_refl _) _
  have e0 : w1.cell? ⟨ib, 0, none⟩ = some (.int .i64 o.kind) := by rw [cell_of_row _ _ _ _ _ _ hrow]; rfl
  have e1 : w1.cell? ⟨ib, 1, none⟩ = some (.int .i64 o.at_) := by rw [cell_of_row _ _ _ _ _ _ hrow]; rfl
  have e2 : w1.cell? ⟨ib, 2, none⟩ = some (.int .i64 o.n) := by rw [cell_of_row _ _ _ _ _ _ hrow]; rfl
  have e3 : w1.cell? ⟨ib, 3, none⟩ = some (.slice o.ba N o.bc) := by rw [cell_of_row _ _ _ _ _ _ hrow]; rfl
  have e4 : w1.cell? ⟨ib, 4, none⟩ = some (.slice o.ka M o.kc) := by rw [cell_of_row _ _ _ _ _ _ hrow]; rfl
  have H1 := Lib.hid (And.intro hw1 (And.intro hib (And.intro hrow (And.intro hB1 (And.intro hN hM)))))
  have H9 := Lib.hid h9
  clear h hg h0 hbase hB hW hw1 hib hrow hB1 hN hM h9
  go_enter Try.func23, Try.ntmps23
  go_upto_region 1 with (fail)
  rw [← H1.out.1, ← H1.out.2.1]
  go_wp2_with (fail)
  rw [H1.out.2.2.2.2.1]
  have hB01 : Below w0.heap.size w0 w1 := HS.out.2.2.2.1.trans (H1.out.2.2.2.1.mono HS.out.2.2.2.1.size)
  have HB01 := Lib.hid hB01
  clear hB01
  refine (whole_any w1 o.kind o.at_ o.n o.ba o.bc o.bs _ (HS.out.2.1.bytes.from (Nat.le_refl _) HB01.out) HS.out.2.1.few).mono ?_
  rintro e w2 ⟨a, mc, rfl, hsr, hB2, ha⟩
  obtain ⟨m, hm⟩ : ∃ m, m = wholeB o.bs := ⟨_, rfl⟩
  rw [← hm] at hsr ⊢
  have hrow2 : w2.heap[ib]? = some (.cells #[.int .i64 o.kind, .int .i64 o.at_, .int .i64 o.n, .slice o.ba N o.bc, .slice o.ka M o.kc] 47 (0, 0)) := (hB2.block _ (Array.getElem?_eq_some_iff.1 H1.out.2.2.1).1).trans H1.out.2.2.1
  have hBw : Below w.heap.size w w2 := H1.out.2.2.2.1.trans (hB2.mono H1.out.2.2.2.1.size)
  have hb2 := HS.out.1.far hBw
  have hsA := whole_aside (HS.out.1.far H1.out.2.2.2.1).prog HS.out.2.2.1 HS.out.2.1.bytes hsr ha
  have HRF := Lib.hid (whole_asideR (HS.out.1.far H1.out.2.2.2.1).ref HS.out.2.2.1 HS.out.2.1.bytes ha)
  have H2 := Lib.hid (And.intro hb2 (And.intro hBw (And.intro hsA (And.intro hrow2 (And.intro hB2 (Nat.le_trans HS.out.2.2.2.2.2 hBw.size))))))
  have q0 : w2.cell? ⟨ib, 0, none⟩ = some (.int .i64 o.kind) := by rw [cell_of_row _ _ _ _ _ _ hrow2]; rfl
  obtain ⟨L, hL⟩ : ∃ L, L = m.length := ⟨_, rfl⟩
  have HL := Lib.hid hL
  rw [← hL]
  clear e0 e1 e2 e3 e4 hsr hB2 ha hm hrow2 hBw hb2 hsA hL
  dsimp only
  go_upto_region 3 with (fail)
  rw [show (IntKind.u64.wrap o.kind).tmod 9 = 0 from H9.out]
  have q1 : w2.cell? ⟨ib, 1, none⟩ = some (.int .i64 o.at_) := by rw [cell_of_row _ _ _ _ _ _ H2.out.2.2.2.1]; rfl
  have q2 : w2.cell? ⟨ib, 2, none⟩ = some (.int .i64 o.n) := by rw [cell_of_row _ _ _ _ _ _ H2.out.2.2.2.1]; rfl
  have q4 : w2.cell? ⟨ib, 4, none⟩ = some (.slice o.ka M o.kc) := by rw [cell_of_row _ _ _ _ _ _ H2.out.2.2.2.1]; rfl
  have hdr : Below w2.heap.size w2 w2.drew := ⟨rfl, rfl, rfl, Nat.le_refl _, fun _ _ => rfl⟩
  obtain ⟨v, s1, hf, hp, hr⟩ := pair_write (H2.out.1.far hdr) o.at_ a mc m H2.out.2.2.1 H2.out.2.2.2.2.2 HS.out.2.2.2.2.1
  have hcv : ∀ w', SrcP w' a m.length m → (convert 28 9 (.slice a m.length mc)).run Try.prog w' = .ok (Sv m) w' := fun w' h => run_conv_str w' a mc m h
  obtain ⟨u, hu⟩ : ∃ u, u = strOf m := ⟨_, rfl⟩
  rw [show Sv m = .string u from by rw [hu]; rfl] at hr
  rw [show Sv m = .string u from by rw [hu]; rfl] at hcv
  rw [← HL.out] at hp hcv
  have HP := Lib.hid (And.intro hf (And.intro hp hr))
  have hsP : SrcP w2 a m.length m := H2.out.2.2.1.src
  rw [← HL.out] at hsP
  have K0 : Hid (w2.drew.cell? ⟨ib, 1, none⟩ = some (.int .i64 o.at_) ∧ SrcP w2.drew a L m) := ⟨q1, hsP⟩
  clear hdr hf hp hr hu hsP q0 q1 q2 q4
  go_wp2_with (fail)
  refine wp_region_held_drew (S := fun w' => w'.cell? ⟨ib, 1, none⟩ = some (.int .i64 o.at_) ∧ SrcP w' a L m) (by kernel_rfl) K0.out (fun hHeld => ?_)
  refine takeL (i := 0) rfl (by kernel_rfl) (by kernel_rfl) (by kernel_rfl) (fun _ _ _ h => h) (.inl ⟨by rfl, fun w hSw => by go_simp; rfl⟩) hHeld ?_
  simp only [Act.put, List.setIfInBounds_toArray, List.set_cons_zero, List.set_cons_succ]
  refine takeL (i := 1) rfl (by kernel_rfl) (by kernel_rfl) (by kernel_rfl) (fun _ _ _ h => h) (.inl ⟨by rfl, fun w hSw => by go_simp; rfl⟩) hHeld ?_
  simp only [Act.put, List.setIfInBounds_toArray, List.set_cons_zero, List.set_cons_succ]
  refine takeL (i := 2) rfl (by kernel_rfl) (by kernel_rfl) (by kernel_rfl) (fun _ _ _ h => h) (.inl ⟨by rfl, fun w hSw => by (have hS1 := hSw.1); go_simp; rfl⟩) hHeld ?_
  simp only [Act.put, List.setIfInBounds_toArray, List.set_cons_zero, List.set_cons_succ]
  refine takeL (i := 3) rfl (by kernel_rfl) (by kernel_rfl) (by kernel_rfl) (fun _ _ _ h => h) (.inl ⟨by rfl, fun w hSw => by go_simp; rfl⟩) hHeld ?_
  simp only [Act.put, List.setIfInBounds_toArray, List.set_cons_zero, List.set_cons_succ]
  refine takeL (i := 5) rfl (by kernel_rfl) (by kernel_rfl) (by kernel_rfl) (fun _ _ _ h => h) (.inl ⟨by rfl, fun w hSw => by go_simp; rfl⟩) hHeld ?_
  simp only [Act.put, List.setIfInBounds_toArray, List.set_cons_zero, List.set_cons_succ]
  refine takeL (i := 6) rfl (by kernel_rfl) (by kernel_rfl) (by kernel_rfl) (fun _ _ _ h => h) (.inl ⟨by rfl, fun w hSw => by go_simp; rfl⟩) hHeld ?_
  simp only [Act.put, List.setIfInBounds_toArray, List.set_cons_zero, List.set_cons_succ]
  refine takeL (i := 7) rfl (by kernel_rfl) (by kernel_rfl) (by kernel_rfl) (fun _ _ _ h => h) (.inl ⟨by rfl, fun w hSw => by (have hS1 := hSw.1); go_simp; rfl⟩) hHeld ?_
  simp only [Act.put, List.setIfInBounds_toArray, List.set_cons_zero, List.set_cons_succ]
  refine takeL (i := 8) rfl (by kernel_rfl) (by kernel_rfl) (by kernel_rfl) (fun _ _ _ h => h) (.inl ⟨by rfl, fun w hSw => by go_simp; rfl⟩) hHeld ?_
  simp only [Act.put, List.setIfInBounds_toArray, List.set_cons_zero, List.set_cons_succ]
  refine takeL (i := 9) rfl (by kernel_rfl) (by kernel_rfl) (by kernel_rfl) (fun _ _ _ h => h) (.inl ⟨by rfl, fun w hSw => by (have hS1 := hcv w hSw.2); go_simp; rfl⟩) hHeld ?_
  simp only [Act.put, List.setIfInBounds_toArray, List.set_cons_zero, List.set_cons_succ]
  refine oneL 4 rfl (by kernel_rfl) rfl (fun K hK => ?_)
  go_simp
  refine HP.out.2.1.mono ?_
  rintro e w3 ⟨rfl, hE⟩
  obtain ⟨f1, hM⟩ := (H2.out.1.far (w1 := w2.drew) ⟨rfl, rfl, rfl, Nat.le_refl _, fun _ _ => rfl⟩).step hE
  have hbx : w3.heap[ib]? = w2.heap[ib]? := hM.moved.block ib (Array.getElem?_eq_some_iff.1 H2.out.2.2.2.1).1 fun hf => by
    have := HS.out.1.prog.lt hf
    have := H1.out.2.1
    omega
  have hS3 : w3.cell? ⟨ib, 1, none⟩ = some (.int .i64 o.at_) ∧ SrcP w3 a L m := by
    refine ⟨by rw [World.cell?_of_block (w := w2) hbx]; exact K0.out.1, ?_⟩
    rcases H2.out.2.2.1 with h | ⟨ab, off, h1, h2, h3⟩
    · exact .inl (by rw [HL.out]; exact h)
    · refine .inr ⟨ab, off, h1, fun i hi => ?_⟩
      rw [World.cell?_of_block (w := w2) (hM.moved.block ab h2.1 h2.2)]
      exact h3 i (by rw [← HL.out]; exact hi)
  have H3 := Lib.hid (And.intro hM hS3)
  clear hM hE hbx
  refine hK _ _ hS3 ?_
  clear hHeld hS3
  have hHeld := H3.out.2
  refine oneL 10 rfl (by kernel_rfl) rfl (fun K hK => ?_)
  go_simp
  refine (HP.out.2.2 _ _ H3.out.1).mono ?_
  rintro e w4 ⟨rfl, hE⟩
  have hS4 : w4.cell? ⟨ib, 1, none⟩ = some (.int .i64 o.at_) ∧ SrcP w4 a L m := by
    obtain ⟨rf', hR, hb, hf, hk⟩ := hE
    refine ⟨?_, ?_⟩
    · have hib : ib < w3.heap.size := block_lt_of_cell H3.out.2.1
      rw [World.cell?_of_block (w := w3) (hk.block ib hib fun hf => by have := HS.out.1.ref.lt hf; have := H1.out.2.1; omega)]
      exact H3.out.2.1
    · rcases H3.out.2.2 with h | ⟨ab, off, h1, h3⟩
      · exact .inl h
      · refine .inr ⟨ab, off, h1, fun i hi => ?_⟩
        rw [World.cell?_of_block (w := w3) (hk.block ab (block_lt_of_cell (h3 i hi)) (HRF.out ab (by rw [h1]; rfl)))]
        exact h3 i hi
  have HE := Lib.hid (And.intro (H3.out.1.done hE) hS4)
  clear hE
  refine hK _ _ hS4 ?_
  clear hHeld hS4
  have hHeld := HE.out.2
  refine takeL (i := 11) rfl (by kernel_rfl) (by kernel_rfl) (by kernel_rfl) (fun _ _ _ h => h) (.inl ⟨by rfl, fun w hSw => by go_simp; rfl⟩) hHeld ?_
  simp only [Act.put, List.setIfInBounds_toArray, List.set_cons_zero, List.set_cons_succ]
  refine takeL (i := 12) rfl (by kernel_rfl) (by kernel_rfl) (by kernel_rfl) (fun _ _ _ h => h) (.inl ⟨by rfl, fun w hSw => by go_simp; rfl⟩) hHeld ?_
  simp only [Act.put, List.setIfInBounds_toArray, List.set_cons_zero, List.set_cons_succ]
  refine wpAnyH_done (by kernel_rfl) ?_ _
  clear hHeld hcv
  go_wp2_with (fail)
  go_ret
  exact PEnd.of HP.out.1.1 HP.out.1.2 (BothEnd.from H2.out.2.1 (BothEnd.from (w1 := w2.drew) ⟨rfl, rfl, rfl, Nat.le_refl _, fun _ _ => rfl⟩ HE.out.1))
end Go.Proofs.Ytggecfecodoigaa
