/-
  One act, played at the two stores: Crash.
-/
import Derived.Test.YtggecfecodoigaaStorePairs
namespace Go.Proofs.Ytggecfecodoigaa
open Go Go.RowKit

set_option maxRecDepth 100000 in
set_option maxHeartbeats 1000000 in
theorem played3 {w w0 : World} {base : Nat} {f : StF} {rf : RfF} {s : StS} (h : Both w base f rf s) (o : OpL) (hg : o.Good w0) (h0 : w0.heap.size ≤ base) (hbase : base ≤ w.heap.size) (hB : Below w0.heap.size w0 w) (hW : s.W.length < 1000) (iv : Value) (h9 : ninth o.kind = 3) :
    Calls Try.prog 23 #[.pointer (some ⟨f.b, 0, none⟩), .pointer (some ⟨rf.b, 0, none⟩), .agg #[.int .i64 o.kind, .int .i64 o.at_, .int .i64 o.n, .slice o.ba o.bs.length o.bc, .slice o.ka o.keep.length o.kc], iv] w (PEnd w base f rf s) := by
  have HS := Lib.hid (And.intro h (And.intro hg (And.intro h0 (And.intro hB (And.intro hW hbase)))))
  obtain ⟨N, hN⟩ : ∃ N, N = o.bs.length := ⟨_, rfl⟩
  obtain ⟨M, hM⟩ : ∃ M, M = o.keep.length := ⟨_, rfl⟩
  rw [← hN, ← hM]
  obtain ⟨w1, hw1⟩ : ∃ W, W = w.alloc (.cells #[.int .i64 o.kind, .int .i64 o.at_, .int .i64 o.n, .slice o.ba N o.bc, .slice o.ka M o.kc] 47) := ⟨_, rfl⟩
  obtain ⟨ib, hib⟩ : ∃ b, b = w.heap.size := ⟨_, rfl⟩
  have hrow : w1.heap[ib]? = some (.cells #[.int .i64 o.kind, .int .i64 o.at_, .int .i64 o.n, .slice o.ba N o.bc, .slice o.ka M o.kc] 47 (0, 0)) := by
    rw [hw1, hib]
    exact heap_alloc_new w _
  have hB1 : Below w.heap.size w w1 := by rw [hw1]; exact (Below.refl _ w).alloc (Nat.le_refl _) _
  have e0 : w1.cell? ⟨ib, 0, none⟩ = some (.int .i64 o.kind) := by rw [cell_of_row _ _ _ _ _ _ hrow]; rfl
  have e1 : w1.cell? ⟨ib, 1, none⟩ = some (.int .i64 o.at_) := by rw [cell_of_row _ _ _ _ _ _ hrow]; rfl
  have e2 : w1.cell? ⟨ib, 2, none⟩ = some (.int .i64 o.n) := by rw [cell_of_row _ _ _ _ _ _ hrow]; rfl
  have e3 : w1.cell? ⟨ib, 3, none⟩ = some (.slice o.ba N o.bc) := by rw [cell_of_row _ _ _ _ _ _ hrow]; rfl
  have e4 : w1.cell? ⟨ib, 4, none⟩ = some (.slice o.ka M o.kc) := by rw [cell_of_row _ _ _ _ _ _ hrow]; rfl
  have H1 := Lib.hid (And.intro hw1 (And.intro hib (And.intro hrow (And.intro hB1 (And.intro hN hM)))))
  have H9 := Lib.hid h9
  clear h hg h0 hbase hB hW hw1 hib hrow hB1 hN hM h9
  go_enter Try.func23, Try.ntmps23
  go_upto_region 1 with (fail)
  rw [← H1.out.1, ← H1.out.2.1]
  go_wp2_with (fail)
  rw [H1.out.2.2.2.2.1]
  have hB01 : Below w0.heap.size w0 w1 := HS.out.2.2.2.1.trans (H1.out.2.2.2.1.mono HS.out.2.2.2.1.size)
  have HB01 := Lib.hid hB01
  clear hB01
  refine (whole_any w1 o.kind o.at_ o.n o.ba o.bc o.bs _ (HS.out.2.1.bytes.from (Nat.le_refl _) HB01.out) HS.out.2.1.few).mono ?_
  rintro e w2 ⟨a, mc, rfl, hsr, hB2, ha⟩
  obtain ⟨m, hm⟩ : ∃ m, m = wholeB o.bs := ⟨_, rfl⟩
  rw [← hm] at hsr ⊢
  have hrow2 : w2.heap[ib]? = some (.cells #[.int .i64 o.kind, .int .i64 o.at_, .int .i64 o.n, .slice o.ba N o.bc, .slice o.ka M o.kc] 47 (0, 0)) := (hB2.block _ (Array.getElem?_eq_some_iff.1 H1.out.2.2.1).1).trans H1.out.2.2.1
  have hBw : Below w.heap.size w w2 := H1.out.2.2.2.1.trans (hB2.mono H1.out.2.2.2.1.size)
  have hb2 := HS.out.1.far hBw
  have hsA := whole_aside (HS.out.1.far H1.out.2.2.2.1).prog HS.out.2.2.1 HS.out.2.1.bytes hsr ha
  have H2 := Lib.hid (And.intro hb2 (And.intro hBw (And.intro hsA (And.intro hrow2 (And.intro hB2 (Nat.le_trans HS.out.2.2.2.2.2 hBw.size))))))
  have q0 : w2.cell? ⟨ib, 0, none⟩ = some (.int .i64 o.kind) := by rw [cell_of_row _ _ _ _ _ _ hrow2]; rfl
  obtain ⟨L, hL⟩ : ∃ L, L = m.length := ⟨_, rfl⟩
  have HL := Lib.hid hL
  rw [← hL]
  clear e0 e1 e2 e3 e4 hsr hB2 ha hm hrow2 hBw hb2 hsA hL
  dsimp only
  go_upto_region 3 with (fail)
  rw [show (IntKind.u64.wrap o.kind).tmod 9 = 3 from H9.out]
  have q1 : w2.cell? ⟨ib, 1, none⟩ = some (.int .i64 o.at_) := by rw [cell_of_row _ _ _ _ _ _ H2.out.2.2.2.1]; rfl
  have q2 : w2.cell? ⟨ib, 2, none⟩ = some (.int .i64 o.n) := by rw [cell_of_row _ _ _ _ _ _ H2.out.2.2.2.1]; rfl
  have q4 : w2.cell? ⟨ib, 4, none⟩ = some (.slice o.ka M o.kc) := by rw [cell_of_row _ _ _ _ _ _ H2.out.2.2.2.1]; rfl
  have hbk : ∀ ab, o.keep.length ≠ 0 → o.ka.map (·.block) = some ab → ab < w0.heap.size := fun ab h1 h2 => by
    rcases HS.out.2.1.keeps with h | ⟨b, off, h3, h4⟩
    · exact absurd h h1
    · rw [h3] at h2
      obtain rfl : b = ab := by injection h2
      exact block_lt_of_cell (h4 0 (by omega))
  have hB02 : Below w0.heap.size w0 w2 := HB01.out.trans (H2.out.2.2.2.2.1.mono HB01.out.size)
  have hk2 : KeepAt w2 o.ka o.keep := by
    rcases HS.out.2.1.keeps with h | ⟨b, off, h3, h4⟩
    · exact .inl h
    · refine .inr ⟨b, off, h3, fun j hj => ?_⟩
      rw [World.cell?_of_block (w := w0) (hB02.block b (block_lt_of_cell (h4 j hj)))]
      exact h4 j hj
  obtain ⟨hp, hr⟩ := pair_crash H2.out.1 o.ka o.kc o.keep o.at_ o.n hk2 (fun ab h1 h2 hf => by have := hbk ab h1 h2; have := HS.out.1.prog.ge hf; have := HS.out.2.2.1; omega)
    (fun ab h1 h2 hf => by have := hbk ab h1 h2; have := HS.out.1.ref.ge hf; have := HS.out.2.2.1; omega) HS.out.2.2.2.2.1
  have HP := Lib.hid (And.intro (fits_crashed s o.keep o.at_ o.n) (And.intro hp hr))
  clear hbk hB02 hk2 hp hr
  go_wp2_with (fail)
  rw [H1.out.2.2.2.2.2]
  refine HP.out.2.1.mono ?_
  rintro e w3 ⟨rfl, hE⟩
  obtain ⟨f1, hM⟩ := H2.out.1.step hE
  have hbx : w3.heap[ib]? = w2.heap[ib]? := hM.moved.block ib (Array.getElem?_eq_some_iff.1 H2.out.2.2.2.1).1 fun hf => by
    have := HS.out.1.prog.lt hf
    have := H1.out.2.1
    omega
  have r1 : w3.cell? ⟨ib, 1, none⟩ = some (.int .i64 o.at_) := by rw [World.cell?_of_block (w := w2) hbx]; exact q1
  have r2 : w3.cell? ⟨ib, 2, none⟩ = some (.int .i64 o.n) := by rw [World.cell?_of_block (w := w2) hbx]; exact q2
  have r4 : w3.cell? ⟨ib, 4, none⟩ = some (.slice o.ka M o.kc) := by rw [World.cell?_of_block (w := w2) hbx]; exact q4
  have H3 := Lib.hid hM
  clear hE hM hbx q0 q1 q2 q4
  dsimp only
  go_wp2_with (fail)
  rw [H1.out.2.2.2.2.2]
  refine (HP.out.2.2 _ _ H3.out).mono ?_
  rintro e w4 ⟨rfl, hE⟩
  clear r1 r2 r4
  have HE := Lib.hid (H3.out.done hE)
  clear hE
  dsimp only
  go_wp2_with (fail)
  go_ret
  exact PEnd.of HP.out.1.1 HP.out.1.2 (BothEnd.from H2.out.2.1 HE.out)
end Go.Proofs.Ytggecfecodoigaa
