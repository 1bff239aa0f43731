/-
  The contract of a store's Lay.
-/
import Derived.Test.YtggecfecodoigaaStoreDelete
namespace Go.Proofs.Ytggecfecodoigaa
open Go Go.RowKit

section
variable {w : World} {base : Nat} {f : StF} {s : StS}
theorem layd_end (h0 : StAt w base f s) {k : Nat} (hk : k < s.L.length) {b : List (BitVec 8)} (hb : b.length = 128) {w4 w5 : World} (hM : MidI w base f s (s.L.set k b) (s.new'.set k b) w4) (hg : w4.grownBy w5 f.wv.ownBlock) {v' : Value}
    (ho : w5.ownsRow base 78 129 v' (leftB s.W k).length (waitsC (leftB s.W k))) (hv : v'.ownBlock = f.wv.ownBlock) : SEnd w base f (s.layd k b) (w5.setCell ⟨f.b, 2, none⟩ v') := by
  have hlt : ∀ {j : Nat} {o : Obj}, w4.heap[j]? = some o → j < w4.heap.size := fun h => (Array.getElem?_eq_some_iff.1 h).1
  have hob : w5.heap[f.b]? = some (.cells (objC f s.L.length s.C) 70 (0, 0)) := (hg.block _ (hlt hM.obj) fun e => own_ty hM.waits hM.obj (by decide) e.symm).trans hM.obj
  have hl : w5.heap[f.l]? = some (.cells (rowB (s.L.set k b)) 74 (0, 0)) := (hg.block _ (hlt hM.last) fun e => own_ty hM.waits hM.last (by decide) e.symm).trans hM.last
  have hn : w5.heap[f.n]? = some (.cells (rowB (s.new'.set k b)) 74 (0, 0)) := (hg.block _ (hlt hM.new) fun e => own_ty hM.waits hM.new (by decide) e.symm).trans hM.new
  have hr : w5.heap[f.r]? = some (.cells (rowR s.R) 3 (0, 0)) := (hg.block _ (hlt hM.reads) fun e => own_ty hM.waits hM.reads (by decide) e.symm).trans hM.reads
  have hset : ∀ j, j ≠ f.b → (w5.setCell ⟨f.b, 2, none⟩ v').heap[j]? = w5.heap[j]? := fun j hj => heap_setCell_other _ _ _ _ hj
  refine ⟨{ f with wv := v' }, ⟨h0.ok.layd hb, ?_, (hset _ (row_ty hl hob (by decide))).trans hl, ?_, own_obj ho hob (by decide) _ _, (hset _ (row_ty hr hob (by decide))).trans hr, h0.low, h0.ln⟩, rfl, fun j hj => ?_,
    (hM.kept.trans (fun _ h => .inl h) (SKept.grown hg fun j hj => .inr (.inr (.inr (.inr hj))))).trans (fun _ h => .inl h) (SKept.cell (.inl rfl) _ _)⟩
  · rw [heap_setCell_same w5 f.b 2 _ _ _ hob]
    show some (Obj.cells _ _ _) = some (Obj.cells (objC _ (s.L.set k b).length _) _ _)
    rw [List.length_set]
    rfl
  · rw [new'_layd k b hk]
    exact (hset _ (row_ty hn hob (by decide))).trans hn
  · rcases hj with e | e | e | e | e
    · exact .inl (.inl e)
    · exact .inl (.inr (.inl e))
    · exact .inl (.inr (.inr (.inl e)))
    · exact .inl (.inr (.inr (.inr (.inl e))))
    · exact .inl (.inr (.inr (.inr (.inr (hv ▸ e)))))
/-- What the drawn region of Lay may count on. -/
def LayS (f : StF) (n k bx ab off : Nat) (mb : List Value) (w' : World) : Prop :=
  w'.cell? ⟨f.b, 0, none⟩ = some (.slice (some ⟨f.l, 0, none⟩) n n) ∧ w'.cell? ⟨f.b, 1, none⟩ = some (.slice (some ⟨f.n, 0, none⟩) n n) ∧ w'.cell? ⟨bx, 0, none⟩ = some (.int .i64 (k : Int)) ∧
    w'.rangeAt ab off mb ∧ w'.there f.l (k * 128) mb.length ∧ w'.there f.n (k * 128) mb.length
theorem slay_range (h : StAt w base f s) {k : Int} (hk : k < 0 ∨ (s.L.length : Int) ≤ k) (v : Value) :
    Calls Try.prog 19 #[.pointer (some ⟨f.b, 0, none⟩), .int .i64 k, v] w fun e w' => e = .returned (.bool false) ∧ Below w.heap.size w w' := by
  obtain ⟨w1, hw1⟩ : ∃ W, W = w.alloc (.cells #[.int .i64 k] 3) := ⟨_, rfl⟩
  have hB : Below w.heap.size w w1 := by rw [hw1]; exact (Below.refl _ w).alloc (Nat.le_refl _) _
  have b0 : w1.cell? ⟨w.heap.size, 0, none⟩ = some (.int .i64 k) := by
    rw [hw1, cell_of_row _ _ _ _ _ _ (heap_alloc_new w _)]
    rfl
  have HS := Lib.hid (And.intro (h.far hB) (And.intro hB (And.intro hw1 hk)))
  clear h hk hB hw1
  go_enter Try.func19, Try.ntmps19
  go_upto_region 1 with (fail)
  rw [← HS.out.2.2.1]
  go_wp2_with (fail)
  refine (shas_any HS.out.1 k).mono ?_
  rintro e w9 ⟨rfl, rfl⟩
  rw [decide_eq_false (by have := HS.out.2.2.2; omega)]
  dsimp only
  go_wp2_with (fail)
  go_ret
  exact ⟨rfl, HS.out.2.1⟩
theorem slay_arg (h : StAt w base f s) {k : Nat} (hk : k < s.L.length) (a : Option Addr) (m c : Nat) (hm : m ≠ 128) :
    Calls Try.prog 19 #[.pointer (some ⟨f.b, 0, none⟩), .int .i64 (k : Int), .slice a m c] w fun e w' => e = .returned (.bool false) ∧ Below w.heap.size w w' := by
  obtain ⟨w1, hw1⟩ : ∃ W, W = w.alloc (.cells #[.int .i64 (k : Int)] 3) := ⟨_, rfl⟩
  have hB : Below w.heap.size w w1 := by rw [hw1]; exact (Below.refl _ w).alloc (Nat.le_refl _) _
  have b0 : w1.cell? ⟨w.heap.size, 0, none⟩ = some (.int .i64 (k : Int)) := by
    rw [hw1, cell_of_row _ _ _ _ _ _ (heap_alloc_new w _)]
    rfl
  have HS := Lib.hid (And.intro (h.far hB) (And.intro hB (And.intro hw1 hk)))
  have hm' : ((m : Int) != 128) = true := by
    have : ¬ (m : Int) = 128 := by omega
    simpa using this
  clear h hk hB hw1
  go_enter Try.func19, Try.ntmps19
  go_upto_region 1 with (fail)
  rw [← HS.out.2.2.1]
  go_wp2_with (fail)
  refine (shas_any HS.out.1 k).mono ?_
  rintro e w9 ⟨rfl, rfl⟩
  rw [decide_eq_true (by have := HS.out.2.2.2; omega)]
  dsimp only
  go_wp2_with (fail)
  go_ret
  exact ⟨rfl, HS.out.2.1⟩
set_option maxRecDepth 100000 in
set_option maxHeartbeats 1000000 in
theorem slay_any (h : StAt w base f s) {k : Nat} (hk : k < s.L.length) (a : Option Addr) (c : Nat) (m : List (BitVec 8)) (hm : m.length = 128) (hs : SrcA f w a m) (hl : s.W.length < 1000000) :
    Calls Try.prog 19 #[.pointer (some ⟨f.b, 0, none⟩), .int .i64 (k : Int), .slice a 128 c] w fun e w' => e = .returned (.bool true) ∧ SEnd w base f (s.layd k m) w' := by
  obtain ⟨ab, off, rfl, has, hc⟩ : ∃ ab off, a = some ⟨ab, off, none⟩ ∧ Aside f w ab ∧ ∀ i < m.length, w.cell? ⟨ab, off + i, none⟩ = some (B (gl m i)) := by
    rcases hs with h | h
    · omega
    · exact h
  obtain ⟨w1, hw1⟩ : ∃ W, W = w.alloc (.cells #[.int .i64 (k : Int)] 3) := ⟨_, rfl⟩
  obtain ⟨bx, hbx⟩ : ∃ b, b = w.heap.size := ⟨_, rfl⟩
  have hB : Below w.heap.size w w1 := by rw [hw1]; exact (Below.refl _ w).alloc (Nat.le_refl _) _
  have hbc : w1.heap[bx]? = some (.cells #[.int .i64 (k : Int)] 3 (0, 0)) := by rw [hw1, hbx]; exact heap_alloc_new w _
  have b0 : w1.cell? ⟨bx, 0, none⟩ = some (.int .i64 (k : Int)) := by
    rw [cell_of_row _ _ _ _ _ _ hbc]
    rfl
  have hxf : ∀ j, f.has j → bx ≠ j := fun j hj => by have := h.lt hj; omega
  have hA := h.far hB
  have hc1 : ∀ i < m.length, w1.cell? ⟨ab, off + i, none⟩ = some (B (gl m i)) := fun i hi => by
    rw [World.cell?_of_block (w := w) (hB.block ab has.1)]
    exact hc i hi
  have d0 := hA.cell0
  have d1 := hA.cell1
  have HS := Lib.hid (And.intro hA (And.intro hB (And.intro hw1 (And.intro hk (And.intro hm (And.intro has (And.intro hc1 (And.intro hl (And.intro hxf (And.intro hbx hbc))))))))))
  have hat : ∀ w, (Instr.arrayAt 74 (.slice (some ⟨ab, off, none⟩) 128 c)).run Try.prog w = .ok (.pointer (some ⟨ab, off, none⟩)) w := fun w => run_arrayAt w _ _ 128 _ 128 c Try.underlying74 (by omega)
  have hu := Try.underlying74
  obtain ⟨mb, hmb⟩ : ∃ mb, mb = m.map B := ⟨_, rfl⟩
  have hml : mb.length = 128 := by rw [hmb]; simp [hm]
  have hi : (Try.prog.info? 74).map (·.size) = some mb.length := by rw [info_blk, hml]
  have h1 : ∀ v ∈ mb, v.oneCell' = true := by rw [hmb]; exact bytes_oneCell m
  have hn1 : (0 : Int) ≤ (k : Int) ∧ (k : Int) < s.L.length := by omega
  have gl0 : w1.there f.l (k * 128) mb.length := by rw [Nat.mul_comm, hml]; exact row_there hA.last hA.ok.blocks hk
  have gn0 : w1.there f.n (k * 128) mb.length := by rw [Nat.mul_comm, hml]; exact row_there hA.new hA.ok.new' (by rw [new'_length]; exact hk)
  have gr0 : w1.rangeAt ab off mb := by rw [hmb]; exact range_of hc1
  obtain ⟨w3, hw3⟩ : ∃ W, W = w1.drew.setCells f.l (k * 128) mb := ⟨_, rfl⟩
  obtain ⟨w4, hw4⟩ : ∃ W, W = w3.setCells f.n (k * 128) mb := ⟨_, rfl⟩
  have hI0 := (MidI.start hA).same (w' := w1.drew) rfl (SKept.of_below ⟨rfl, rfl, rfl, Nat.le_refl _, fun _ _ => rfl⟩)
  have hs3 : w3 = w1.drew.setRow f.l (rowB (s.L.set k m)) := by
    rw [hw3, hmb, Nat.mul_comm]
    exact setCells_row (w := w1.drew) (L := s.L) hI0.last hA.ok.blocks hk m hm
  have hI3 : MidI w1 base f s (s.L.set k m) s.new' w3 := by rw [hs3]; exact hI0.setLast hA.ln _
  have hs4 : w4 = w3.setRow f.n (rowB (s.new'.set k m)) := by
    rw [hw4, hmb, Nat.mul_comm]
    exact setCells_row (L := s.new') hI3.new hA.ok.new' (by rw [new'_length]; exact hk) m hm
  have hI4 : MidI w1 base f s (s.L.set k m) (s.new'.set k m) w4 := by rw [hs4]; exact hI3.setNew hA.ln _
  have hbc3 : w3.heap[bx]? = some (.cells #[.int .i64 (k : Int)] 3 (0, 0)) := by rw [hs3, setRow_other _ _ _ _ (hxf _ (.inr (.inl rfl)))]; exact hbc
  have hbc4 : w4.heap[bx]? = some (.cells #[.int .i64 (k : Int)] 3 (0, 0)) := by rw [hs4, setRow_other _ _ _ _ (hxf _ (.inr (.inr (.inl rfl))))]; exact hbc3
  have K0 : Hid (w1.drew.cell? ⟨f.b, 0, none⟩ = some (.slice (some ⟨f.l, 0, none⟩) s.L.length s.L.length) ∧ w1.drew.cell? ⟨f.b, 1, none⟩ = some (.slice (some ⟨f.n, 0, none⟩) s.L.length s.L.length) ∧ w1.drew.cell? ⟨bx, 0, none⟩ = some (.int .i64 (k : Int)) ∧
      w1.drew.rangeAt ab off mb ∧ w1.drew.there f.l (k * 128) mb.length ∧ w1.drew.there f.n (k * 128) mb.length) := ⟨d0, d1, b0, gr0, gl0, gn0⟩
  have K3 : Hid (w3.cell? ⟨f.b, 0, none⟩ = some (.slice (some ⟨f.l, 0, none⟩) s.L.length s.L.length) ∧ w3.cell? ⟨f.b, 1, none⟩ = some (.slice (some ⟨f.n, 0, none⟩) s.L.length s.L.length) ∧ w3.cell? ⟨bx, 0, none⟩ = some (.int .i64 (k : Int)) ∧
      w3.rangeAt ab off mb ∧ w3.there f.l (k * 128) mb.length ∧ w3.there f.n (k * 128) mb.length) := by
    refine ⟨by rw [cell_of_row _ _ _ _ _ _ hI3.obj]; rfl, by rw [cell_of_row _ _ _ _ _ _ hI3.obj]; rfl, by rw [cell_of_row _ _ _ _ _ _ hbc3]; rfl, ?_, ?_, ?_⟩
    · rw [hw3]
      exact World.rangeAt_setCells_apart K0.out.2.2.2.1 _ _ _ (.inl fun e => has.2 (.inr (.inl e)))
    · rw [hw3]
      exact World.there_setCells K0.out.2.2.2.2.1 _ _ _
    · rw [hw3]
      exact World.there_setCells K0.out.2.2.2.2.2 _ _ _
  have K4 : Hid (w4.cell? ⟨f.b, 0, none⟩ = some (.slice (some ⟨f.l, 0, none⟩) s.L.length s.L.length) ∧ w4.cell? ⟨f.b, 1, none⟩ = some (.slice (some ⟨f.n, 0, none⟩) s.L.length s.L.length) ∧ w4.cell? ⟨bx, 0, none⟩ = some (.int .i64 (k : Int)) ∧
      w4.rangeAt ab off mb ∧ w4.there f.l (k * 128) mb.length ∧ w4.there f.n (k * 128) mb.length) := by
    refine ⟨by rw [cell_of_row _ _ _ _ _ _ hI4.obj]; rfl, by rw [cell_of_row _ _ _ _ _ _ hI4.obj]; rfl, by rw [cell_of_row _ _ _ _ _ _ hbc4]; rfl, ?_, ?_, ?_⟩
    · rw [hw4]
      exact World.rangeAt_setCells_apart K3.out.2.2.2.1 _ _ _ (.inl fun e => has.2 (.inr (.inr (.inl e))))
    · rw [hw4]
      exact World.there_setCells K3.out.2.2.2.2.1 _ _ _
    · rw [hw4]
      exact World.there_setCells K3.out.2.2.2.2.2 _ _ _
  have b4 := K4.out.2.2.1
  have c2 : w4.cell? ⟨f.b, 2, none⟩ = some f.wv := by rw [cell_of_row _ _ _ _ _ _ hI4.obj]; rfl
  have HM := Lib.hid (And.intro hw3 (And.intro hw4 (And.intro hI4 (And.intro c2 b4))))
  clear h hk hm hs hl hc has hB hw1 hbx hbc hxf hA hc1 hmb hml gl0 gn0 gr0 hI0 hs3 hI3 hs4 hI4 hbc3 hbc4 hw3 hw4 c2 b4
  go_enter Try.func19, Try.ntmps19
  go_upto_region 1 with (fail)
  rw [← HS.out.2.2.1, ← HS.out.2.2.2.2.2.2.2.2.2.1]
  go_wp2_with (fail)
  refine (shas_any HS.out.1 k).mono ?_
  rintro e w9 ⟨rfl, rfl⟩
  rw [decide_eq_true (by have := HS.out.2.2.2.1; omega)]
  dsimp only
  go_wp2_with (fail)
  refine wp_region_held_drew (S := LayS f s.L.length k bx ab off mb) (by kernel_rfl) K0.out (fun hHeld => ?_)
  refine takeL (i := 0) rfl (by kernel_rfl) (by kernel_rfl) (by kernel_rfl) (fun _ _ _ h => h) (.inl ⟨by rfl, fun w hSw => by go_simp; rfl⟩) hHeld ?_
  simp only [Act.put, List.setIfInBounds_toArray, List.set_cons_zero, List.set_cons_succ]
  refine takeL (i := 1) rfl (by kernel_rfl) (by kernel_rfl) (by kernel_rfl) (fun _ _ _ h => h) (.inl ⟨by rfl, fun w hSw => by go_simp; rfl⟩) hHeld ?_
  simp only [Act.put, List.setIfInBounds_toArray, List.set_cons_zero, List.set_cons_succ]
  refine takeL (i := 2) rfl (by kernel_rfl) (by kernel_rfl) (by kernel_rfl) (fun _ _ _ h => h) (.inl ⟨by rfl, fun w hSw => by go_simp; rfl⟩) hHeld ?_
  simp only [Act.put, List.setIfInBounds_toArray, List.set_cons_zero, List.set_cons_succ]
  refine takeL (i := 3) rfl (by kernel_rfl) (by kernel_rfl) (by kernel_rfl) (fun _ _ _ h => h) (.inl ⟨by rfl, fun w hSw => by (obtain ⟨a1, a2, a3, -, -, -⟩ := hSw); go_simp; rfl⟩) hHeld ?_
  simp only [Act.put, List.setIfInBounds_toArray, List.set_cons_zero, List.set_cons_succ]
  refine takeL (i := 4) rfl (by kernel_rfl) (by kernel_rfl) (by kernel_rfl) (fun _ _ _ h => h) (.inl ⟨by rfl, fun w hSw => by (obtain ⟨a1, a2, a3, -, -, -⟩ := hSw); go_simp; rfl⟩) hHeld ?_
  simp only [Act.put, List.setIfInBounds_toArray, List.set_cons_zero, List.set_cons_succ]
  refine takeL (i := 5) rfl (by kernel_rfl) (by kernel_rfl) (by kernel_rfl) (fun _ _ _ h => h) (.inl ⟨by rfl, fun w hSw => by go_simp; rfl⟩) hHeld ?_
  simp only [Act.put, List.setIfInBounds_toArray, List.set_cons_zero, List.set_cons_succ]
  refine takeL (i := 6) rfl (by kernel_rfl) (by kernel_rfl) (by kernel_rfl) (fun _ _ _ h => h) (.inl ⟨by rfl, fun w hSw => by go_simp; rfl⟩) hHeld ?_
  simp only [Act.put, List.setIfInBounds_toArray, List.set_cons_zero, List.set_cons_succ]
  refine takeL (i := 7) rfl (by kernel_rfl) (by kernel_rfl) (by kernel_rfl) (fun _ _ _ h => h) (.inl ⟨by rfl, fun w hSw => by go_simp; rfl⟩) hHeld ?_
  simp only [Act.put, List.setIfInBounds_toArray, List.set_cons_zero, List.set_cons_succ]
  refine takeL (i := 8) rfl (by kernel_rfl) (by kernel_rfl) (by kernel_rfl) (fun _ _ _ h => h) (.inl ⟨by rfl, fun w hSw => by (obtain ⟨a1, a2, a3, -, -, -⟩ := hSw); go_simp; rfl⟩) hHeld ?_
  simp only [Act.put, List.setIfInBounds_toArray, List.set_cons_zero, List.set_cons_succ]
  refine takeL (i := 9) rfl (by kernel_rfl) (by kernel_rfl) (by kernel_rfl) (fun _ _ _ h => h) (.inl ⟨by rfl, fun w hSw => by (obtain ⟨a1, a2, a3, -, -, -⟩ := hSw); go_simp; rfl⟩) hHeld ?_
  simp only [Act.put, List.setIfInBounds_toArray, List.set_cons_zero, List.set_cons_succ]
  refine takeL (i := 10) rfl (by kernel_rfl) (by kernel_rfl) (by kernel_rfl) (fun _ _ _ h => h) (.inl ⟨by rfl, fun w hSw => by go_simp; rfl⟩) hHeld ?_
  simp only [Act.put, List.setIfInBounds_toArray, List.set_cons_zero, List.set_cons_succ]
  refine takeL (i := 11) rfl (by kernel_rfl) (by kernel_rfl) (by kernel_rfl) (fun _ _ _ h => h) (.inl ⟨by rfl, fun w hSw => by go_simp; rfl⟩) hHeld ?_
  simp only [Act.put, List.setIfInBounds_toArray, List.set_cons_zero, List.set_cons_succ]
  refine takeL (i := 12) rfl (by kernel_rfl) (by kernel_rfl) (by kernel_rfl) (fun _ _ _ h => h) (yieldsIf_load_mid rfl _ _ rfl _ _ rfl mb _ (fun _ h => h.2.2.2.1) hu rfl hi) hHeld ?_
  simp only [Act.put, List.setIfInBounds_toArray, List.set_cons_zero, List.set_cons_succ]
  refine takeL (i := 13) rfl (by kernel_rfl) (by kernel_rfl) (by kernel_rfl) (fun _ _ _ h => h) (.inl ⟨by rfl, fun w hSw => by go_simp; rfl⟩) hHeld ?_
  simp only [Act.put, List.setIfInBounds_toArray, List.set_cons_zero, List.set_cons_succ]
  refine takeL (i := 14) rfl (by kernel_rfl) (by kernel_rfl) (by kernel_rfl) (fun _ _ _ h => h) (.inl ⟨by rfl, fun w hSw => by go_simp; rfl⟩) hHeld ?_
  simp only [Act.put, List.setIfInBounds_toArray, List.set_cons_zero, List.set_cons_succ]
  refine takeL (i := 15) rfl (by kernel_rfl) (by kernel_rfl) (by kernel_rfl) (fun _ _ _ h => h) (yieldsIf_load_mid rfl _ _ rfl _ _ rfl mb _ (fun _ h => h.2.2.2.1) hu rfl hi) hHeld ?_
  simp only [Act.put, List.setIfInBounds_toArray, List.set_cons_zero, List.set_cons_succ]
  refine takeL (i := 16) rfl (by kernel_rfl) (by kernel_rfl) (by kernel_rfl) (fun _ _ _ h => h) (.inl ⟨by rfl, fun w hSw => by go_simp; rfl⟩) hHeld ?_
  simp only [Act.put, List.setIfInBounds_toArray, List.set_cons_zero, List.set_cons_succ]
  refine oneL 17 rfl (by kernel_rfl) rfl (fun K hK => ?_)
  refine wp_store_mid 74 _ _ rfl f.l (k * 128) mb.toArray rfl rfl (by rw [List.size_toArray]; exact hHeld.2.2.2.2.1) (by rw [List.size_toArray]; exact hi) (all_oneCell_toArray h1) ?_
  rw [show mb.toArray.toList = mb from rfl, ← HM.out.1]
  refine hK _ _ K3.out ?_
  clear hHeld
  have hHeld := K3.out
  simp only [Act.put]
  refine takeL (i := 18) rfl (by kernel_rfl) (by kernel_rfl) (by kernel_rfl) (fun _ _ _ h => h) (.inl ⟨by rfl, fun w hSw => by go_simp; rfl⟩) hHeld ?_
  simp only [Act.put, List.setIfInBounds_toArray, List.set_cons_zero, List.set_cons_succ]
  refine oneL 19 rfl (by kernel_rfl) rfl (fun K hK => ?_)
  refine wp_store_mid 74 _ _ rfl f.n (k * 128) mb.toArray rfl rfl (by rw [List.size_toArray]; exact hHeld.2.2.2.2.2) (by rw [List.size_toArray]; exact hi) (all_oneCell_toArray h1) ?_
  rw [show mb.toArray.toList = mb from rfl, ← HM.out.2.1]
  refine hK _ _ K4.out ?_
  clear hHeld
  simp only [Act.put]
  refine wpAnyH_done (by kernel_rfl) ?_ _
  clear d0 d1 b0 K0 K3 K4 hat hu hi h1 hn1
  have c2 := HM.out.2.2.2.1
  go_wp2_with (fail)
  obtain ⟨hA, hB, hw1, hk, hm, has, hc1, hl, hxf, hbx, hbc⟩ := HS.out
  refine (deleteW_any HM.out.2.2.1.waits hA.ok.waits (by omega) HM.out.2.2.2.2 (fun e => hxf bx (.inr (.inr (.inr (.inr e)))) rfl)).mono ?_
  rintro e w5 ⟨v', rfl, ho, hv, hg⟩
  have hE := layd_end hA hk hm HM.out.2.2.1 hg ho hv
  have hob : w5.heap[f.b]? = some (.cells (objC f s.L.length s.C) 70 (0, 0)) := (hg.block _ (Array.getElem?_eq_some_iff.1 HM.out.2.2.1.obj).1 fun e => own_ty HM.out.2.2.1.waits HM.out.2.2.1.obj (by decide) e.symm).trans HM.out.2.2.1.obj
  have c5 : w5.cell? ⟨f.b, 2, none⟩ = some f.wv := by rw [cell_of_row _ _ _ _ _ _ hob]; rfl
  have f5 := frozen_of_row w5 f.b 2 _ _ hob
  obtain ⟨va, vn, vc, rfl⟩ : ∃ a n c, v' = .slice a n c := by
    rcases ho.2 with ⟨hv, _⟩ | ⟨_, _, _, hv, _⟩
    · exact ⟨_, _, _, hv⟩
    · exact ⟨_, _, _, hv⟩
  have HE := Lib.hid (SEnd.trans (f1 := f) (fun _ h => .inl h) rfl (SKept.of_below hB) hE)
  clear hA hB hw1 hk hm has hc1 hl hxf hbx hbc ho hv hg hE hob c2
  dsimp only
  go_wp2_with (fail)
  go_ret
  exact ⟨rfl, HE.out⟩
end
end Go.Proofs.Ytggecfecodoigaa
