/-
  The contract of a store's Write.
-/
import Derived.Test.YtdmnhgbdeifpbaaStoreWait
namespace Go.Proofs.Ytdmnhgbdeifpbaa
open Go Go.RowKit

section
variable {w : World} {base : Nat} {f : StF} {s : StS}
theorem swrite_range (h : StAt w base f s) {k : Int} (hk : k < 0 ∨ (s.L.length : Int) ≤ k) (v : Value) :
    Calls Try.prog 22 #[.pointer (some ⟨f.b, 0, none⟩), .int .i64 k, v] w fun e w' => e = .returned (.int .i64 32) ∧ w' = w := by
  have HS := Lib.hid h
  have HK := Lib.hid hk
  clear h hk
  go_enter Try.func22, Try.ntmps22
  go_wp2_with (fail)
  refine (shas_any HS.out k).mono ?_
  rintro e w1 ⟨rfl, rfl⟩
  rw [decide_eq_false (by have := HK.out; omega)]
  dsimp only
  go_wp2_with (fail)
  go_ret
  exact ⟨rfl, rfl⟩
theorem swrite_arg (h : StAt w base f s) {k : Int} (hk : 0 ≤ k ∧ k < (s.L.length : Int)) (a : Option Addr) (m c : Nat) (hm : m ≠ 128) :
    Calls Try.prog 22 #[.pointer (some ⟨f.b, 0, none⟩), .int .i64 k, .slice a m c] w fun e w' => e = .returned (.int .i64 2) ∧ w' = w := by
  have HS := Lib.hid h
  have HK := Lib.hid hk
  have hm' : ¬ (m : Int) = 128 := by omega
  clear h hk hm
  go_enter Try.func22, Try.ntmps22
  go_wp2_with (fail)
  refine (shas_any HS.out k).mono ?_
  rintro e w1 ⟨rfl, rfl⟩
  rw [decide_eq_true HK.out]
  dsimp only
  go_wp2_with (fail)
  go_ret
  exact ⟨rfl, rfl⟩
theorem swrite_off (h : StAt w base f s) {k : Int} (hk : 0 ≤ k ∧ k < (s.L.length : Int)) (a : Option Addr) (c : Nat) (h0 : s.C = 0) :
    Calls Try.prog 22 #[.pointer (some ⟨f.b, 0, none⟩), .int .i64 k, .slice a 128 c] w fun e w' => e = .returned (.int .i64 31) ∧ w' = w := by
  have HS := Lib.hid h
  have HK := Lib.hid hk
  have H0 := Lib.hid h0
  clear h hk h0
  go_enter Try.func22, Try.ntmps22
  go_wp2_with (fail)
  refine (shas_any HS.out k).mono ?_
  rintro e w1 ⟨rfl, rfl⟩
  rw [decide_eq_true HK.out]
  dsimp only
  go_wp2_with (fail)
  refine (sspend_no HS.out H0.out).mono ?_
  rintro e w1 ⟨rfl, rfl⟩
  dsimp only
  go_wp2_with (fail)
  go_ret
  exact ⟨rfl, rfl⟩
set_option maxRecDepth 100000 in
set_option maxHeartbeats 2000000 in
theorem swrite_any (h : StAt w base f s) {k : Nat} (hk : k < s.L.length) (a : Option Addr) (c : Nat) (m : List (BitVec 8)) (hm : m.length = 128) (hs : SrcP w a m.length m) (h0 : s.C ≠ 0)
    (hX : ∀ ab, a.map (·.block) = some ab → ¬ f.has ab) (hb : base ≤ w.heap.size) (hl : s.W.length < 1000000) :
    Calls Try.prog 22 #[.pointer (some ⟨f.b, 0, none⟩), .int .i64 k, .slice a 128 c] w fun e w' => e = .returned (.int .i64 0) ∧ SEnd w base f (s.wrote k m) w' := by
  have HS := Lib.hid h
  have HK := Lib.hid hk
  have H0 := Lib.hid h0
  have HM := Lib.hid (And.intro hm (And.intro hs (And.intro hX (And.intro hb hl))))
  obtain ⟨ab, off, rfl, hc⟩ : ∃ ab off, a = some ⟨ab, off, none⟩ ∧ ∀ i < m.length, w.cell? ⟨ab, off + i, none⟩ = some (B (gl m i)) := by
    rcases hs with h | ⟨ab, off, ha, hc⟩
    · omega
    · exact ⟨ab, off, ha, hc⟩
  have HC := Lib.hid hc
  clear h hk h0 hm hs hX hb hl hc
  go_enter Try.func22, Try.ntmps22
  go_wp2_with (fail)
  refine (shas_any HS.out k).mono ?_
  rintro e w1 ⟨rfl, rfl⟩
  rw [decide_eq_true ⟨by omega, by have := HK.out; omega⟩]
  dsimp only
  go_wp2_with (fail)
  refine (sspend_yes HS.out H0.out).mono ?_
  rintro e w2 ⟨rfl, hA, hkp⟩
  obtain ⟨hm, hs, hX, hb, hl⟩ := HM.out
  have hX' := hX ab rfl
  have hbl : ab < w1.heap.size := block_lt_of_cell (HC.out 0 (by omega))
  have hc2 : ∀ i < m.length, w2.cell? ⟨ab, off + i, none⟩ = some (B (gl m i)) := fun i hi => by
    rw [World.cell?_of_block (w := w1) (hkp.block ab hbl hX')]
    exact HC.out i hi
  have hat : ∀ w, (Instr.arrayAt 66 (.slice (some ⟨ab, off, none⟩) 128 c)).run Try.prog w = .ok (.pointer (some ⟨ab, off, none⟩)) w := fun w => run_arrayAt w _ _ 128 _ 128 c Try.underlying66 (by omega)
  have hu := Try.underlying66
  obtain ⟨mb, hmb⟩ : ∃ mb, mb = m.map B := ⟨_, rfl⟩
  have hml : mb.length = 128 := by rw [hmb]; simp [hm]
  have hi : (Try.prog.info? 66).map (·.size) = some mb.length := by rw [info_blk, hml]
  have h1 : ∀ v ∈ mb, v.oneCell' = true := by rw [hmb]; exact bytes_oneCell m
  have d1 : w2.cell? ⟨f.b, 1, none⟩ = some (.slice (some ⟨f.n, 0, none⟩) s.L.length s.L.length) := hA.cell1
  have hn1 : (0 : Int) ≤ (k : Int) ∧ (k : Int) < s.L.length := by have := HK.out; omega
  have K0 : Hid (w2.drew.cell? ⟨f.b, 1, none⟩ = some (.slice (some ⟨f.n, 0, none⟩) s.L.length s.L.length) ∧ w2.drew.rangeAt ab off mb ∧ w2.drew.there f.n (k * 128) mb.length) :=
    ⟨d1, by rw [hmb]; exact range_of (w := w2.drew) hc2, by rw [Nat.mul_comm, hml]; exact row_there (w := w2.drew) hA.new hA.ok.new' (by rw [new'_length]; exact HK.out)⟩
  obtain ⟨w3, hw3⟩ : ∃ W, W = w2.drew.setCells f.n (k * 128) mb := ⟨_, rfl⟩
  have K1 : Hid (w3.cell? ⟨f.b, 1, none⟩ = some (.slice (some ⟨f.n, 0, none⟩) s.L.length s.L.length) ∧ w3.rangeAt ab off mb ∧ w3.there f.n (k * 128) mb.length) := by
    rw [hw3]
    refine ⟨?_, World.rangeAt_setCells_apart K0.out.2.1 _ _ _ (.inl fun e => hX' (.inr (.inr (.inl e)))), World.there_setCells K0.out.2.2 _ _ _⟩
    rw [World.cell?_setCells_out _ _ _ _ _ fun e _ => absurd e (row_ty hA.obj hA.new (by decide))]
    exact K0.out.1
  have hs3 : w3 = w2.drew.setRow f.n (rowB (s.new'.set k m)) := by
    rw [hw3, hmb, Nat.mul_comm]
    exact setCells_row (w := w2.drew) (L := s.new') hA.new hA.ok.new' (by rw [new'_length]; exact HK.out) m hm
  have E3 : Hid ((∀ j, j ≠ f.n → w3.heap[j]? = w2.heap[j]?) ∧ w3.heap[f.n]? = some (.cells (rowB (s.new'.set k m)) 66 (0, 0)) ∧ SKept f w2 w3) := by
    rw [hs3]
    exact ⟨fun j hj => setRow_other w2.drew f.n j _ hj, setRow_heap w2.drew f.n _ _ _ _ hA.new, (SKept.of_below (⟨rfl, rfl, rfl, Nat.le_refl _, fun _ _ => rfl⟩ : Below w2.heap.size w2 w2.drew)).trans (fun _ h => .inl h) (SKept.row (w := w2.drew) (.inr (.inr (.inl rfl))) _)⟩
  have HW3 := Lib.hid hw3
  have HMB := Lib.hid hmb
  have HML := Lib.hid hml
  have HA := Lib.hid hA
  have HKP := Lib.hid hkp
  clear hA hkp hc2 hX' hX hs hs3 hw3 hmb hm hbl hml
  dsimp only
  go_wp2_with (fail)
  go_region_held3 (fun w' => w'.cell? ⟨f.b, 1, none⟩ = some (.slice (some ⟨f.n, 0, none⟩) s.L.length s.L.length) ∧ w'.rangeAt ab off mb ∧ w'.there f.n (k * 128) mb.length) (first | exact K0.out | (rw [← HW3.out]; exact K1.out)) (fail)
  rw [← HW3.out]
  clear d1 hn1 K0
  have d2 : w3.cell? ⟨f.b, 2, none⟩ = some f.wv := by
    rw [World.cell?_of_block (w := w2) (E3.out.1 f.b (row_ty HA.out.obj HA.out.new (by decide)))]
    exact HA.out.cell2
  go_wp2_with (fail)
  have hbm : Try.prog.built 68 [(0, .int .i64 (k : Int)), (1, .agg mb.toArray)] = some (waitC (k, m)).toArray := by
    rw [HMB.out]
    exact built_wait k m HM.out.1
  refine wp_region_held_drew (S := fun w' => w'.rangeAt ab off mb) (by kernel_rfl) K1.out.2.1 (fun hHeld => ?_)
  refine tkFree (i := 0) rfl (by kernel_rfl) (by kernel_rfl) (by kernel_rfl) (fun _ _ _ h => h) (.inl ⟨by rfl, fun w hSw => by go_simp; rfl⟩) hHeld ?_
  simp only [Act.put, List.setIfInBounds_toArray, List.set_cons_zero, List.set_cons_succ]
  refine tkFree (i := 1) rfl (by kernel_rfl) (by kernel_rfl) (by kernel_rfl) (fun _ _ _ h => h) (.inl ⟨by rfl, fun w hSw => by go_simp; rfl⟩) hHeld ?_
  simp only [Act.put, List.setIfInBounds_toArray, List.set_cons_zero, List.set_cons_succ]
  refine tkFree (i := 2) rfl (by kernel_rfl) (by kernel_rfl) (by kernel_rfl) (fun _ _ _ h => h) (.inl ⟨by rfl, fun w hSw => by go_simp; rfl⟩) hHeld ?_
  simp only [Act.put, List.setIfInBounds_toArray, List.set_cons_zero, List.set_cons_succ]
  refine tkFree (i := 3) rfl (by kernel_rfl) (by kernel_rfl) (by kernel_rfl) (fun _ _ _ h => h) (.inl ⟨by rfl, fun w hSw => by go_simp; rfl⟩) hHeld ?_
  simp only [Act.put, List.setIfInBounds_toArray, List.set_cons_zero, List.set_cons_succ]
  refine tkFree (i := 5) rfl (by kernel_rfl) (by kernel_rfl) (by kernel_rfl) (fun _ _ _ h => h) (.inl ⟨by rfl, fun w hSw => by go_simp; rfl⟩) hHeld ?_
  simp only [Act.put, List.setIfInBounds_toArray, List.set_cons_zero, List.set_cons_succ]
  refine tkFree (i := 6) rfl (by kernel_rfl) (by kernel_rfl) (by kernel_rfl) (fun _ _ _ h => h) (.inl ⟨by rfl, fun w hSw => by go_simp; rfl⟩) hHeld ?_
  simp only [Act.put, List.setIfInBounds_toArray, List.set_cons_zero, List.set_cons_succ]
  refine tkFree (i := 7) rfl (by kernel_rfl) (by kernel_rfl) (by kernel_rfl) (fun _ _ _ h => h) (.inl ⟨by rfl, fun w hSw => by go_simp; rfl⟩) hHeld ?_
  simp only [Act.put, List.setIfInBounds_toArray, List.set_cons_zero, List.set_cons_succ]
  refine tkFree (i := 8) rfl (by kernel_rfl) (by kernel_rfl) (by kernel_rfl) (fun _ _ _ h => h) (yieldsIf_load_mid rfl _ _ rfl _ _ rfl mb _ (fun _ h => h) hu rfl hi) hHeld ?_
  simp only [Act.put, List.setIfInBounds_toArray, List.set_cons_zero, List.set_cons_succ]
  refine tkFree (i := 9) rfl (by kernel_rfl) (by kernel_rfl) (by kernel_rfl) (fun _ _ _ h => h) (yieldsIf_build rfl _ _ rfl (cs := (waitC (k, m)).toArray) (by simp only [List.map_toArray, List.map_cons, List.map_nil]; exact hbm)) hHeld ?_
  simp only [Act.put, List.setIfInBounds_toArray, List.set_cons_zero, List.set_cons_succ]
  obtain ⟨w4, hw4⟩ : ∃ W, W = w3.drew.alloc (.cells (waitC (k, m)).toArray 68) := ⟨_, rfl⟩
  have hd2 : w3.drew.cell? ⟨f.b, 2, none⟩ = some f.wv := d2
  have hd4 : w4.cell? ⟨f.b, 2, none⟩ = some f.wv := by
    rw [hw4, World.cell?_alloc_some _ _ _ (by rw [hd2]; rfl)]
    exact hd2
  have hH4 : w4.rangeAt ab off mb := by
    rw [hw4]
    exact World.rangeAt_alloc hHeld _
  have hB4 : Below w3.heap.size w3 w4 := by
    rw [hw4]
    exact ((⟨rfl, rfl, rfl, Nat.le_refl _, fun _ _ => rfl⟩ : Below w3.heap.size w3 w3.drew)).trans ((Below.refl _ w3.drew).alloc (Nat.le_refl _) _)
  have hz4 : w4.heap[w3.drew.heap.size]? = some (.cells (waitC (k, m)).toArray 68 (0, 0)) := by
    rw [hw4]
    exact heap_alloc_new _ _
  have hA := HA.out
  have hlt3 : ∀ g, g < w2.heap.size → g < w3.heap.size := fun g hg => Nat.lt_of_lt_of_le hg E3.out.2.2.size
  have ho4 : w4.ownsRow base 68 129 f.wv s.W.length (waitsC s.W) := own_move hA.waits fun g hg =>
    (hB4.block g (hlt3 g (hA.lt (.inr (.inr (.inr (.inr hg))))))).trans (E3.out.1 g (fun e => own_ty hA.waits hA.new (by decide) (e ▸ hg)))
  have hb4 : base ≤ w4.heap.size := by have h1 := HKP.out.size; have h2 := E3.out.2.2.size; have h3 := hB4.size; omega
  have hob4 : w4.heap[f.b]? = w2.heap[f.b]? := (hB4.block _ (hlt3 _ (hA.lt (.inl rfl)))).trans (E3.out.1 _ (row_ty hA.obj hA.new (by decide)))
  have F4 := Lib.hid (And.intro hw4 (And.intro hd4 (And.intro hH4 (And.intro hB4 (And.intro hz4 (And.intro ho4 (And.intro hb4 hob4)))))))
  clear hw4 hd4 hH4 hB4 hz4 hA hlt3 ho4 hb4 hob4
  refine tkTwo 4 10 rfl rfl (by kernel_rfl) rfl rfl (fun K hK => ?_) (fun K hK => ?_)
  · refine wp_loadT (.tmp 34) rfl rfl hd2 Try.isAgg58 ?_
    refine hK _ _ hHeld ?_
    simp only [Act.put, List.setIfInBounds_toArray, List.set_cons_zero, List.set_cons_succ]
    refine tkOne 10 rfl (by kernel_rfl) rfl (fun K hK => ?_)
    refine slice_wait (.tmp 40) rfl (k, m) HM.out.1 rfl ?_
    rw [← F4.out.1]
    refine hK _ _ F4.out.2.2.1 ?_
    simp only [Act.put, List.setIfInBounds_toArray, List.set_cons_zero, List.set_cons_succ]
    obtain ⟨hw4, hd4, hH4, hB4, hz4, ho4, hb4, hob4⟩ := F4.out
    refine tkOne 11 rfl (by kernel_rfl) rfl (fun K hK => ?_)
    refine append_wait (.tmp 35) (.tmp 41) rfl ho4 rfl rfl HM.out.1 hz4 HM.out.2.2.2.2 hb4 ?_
    intro v' w5 ho5 hg5 hv5
    have hob : w5.heap[f.b]? = some (.cells (objC f s.L.length (lessCall s.C)) 60 (0, 0)) :=
      (hg5.block _ (by have := (Array.getElem?_eq_some_iff.1 (hob4.trans HA.out.obj)).1; exact this) fun e => own_ty HA.out.waits HA.out.obj (by decide) e.symm).trans (hob4.trans HA.out.obj)
    have hHeld5 : w5.rangeAt ab off mb := range_block hH4 (hg5.block ab (block_lt_of_cell (hH4 0 (mb[0]'(by rw [HML.out]; omega)) (List.getElem?_eq_getElem _))) fun e => HM.out.2.2.1 ab rfl (.inr (.inr (.inr (.inr e.symm)))))
    have hd5 : w5.cell? ⟨f.b, 2, none⟩ = some f.wv := by rw [cell_of_row _ _ _ _ _ _ hob]; rfl
    have hf5 : w5.frozen? ⟨f.b, 2, none⟩ = false := frozen_of_row w5 f.b 2 _ _ hob
    have hEnd := wrote_end HS.out.ok HK.out HM.out.1 HA.out HKP.out E3.out.1 E3.out.2.1 E3.out.2.2 hB4 ho5 hg5 hv5
    have hone := own_one ho5
    have hHeld6 : (w5.setCell ⟨f.b, 2, none⟩ v').rangeAt ab off mb := range_block hHeld5 (heap_setCell_other _ _ _ _ fun e => HM.out.2.2.1 ab rfl (.inl e))
    have F5 := Lib.hid (And.intro hEnd (And.intro hd5 (And.intro hf5 (And.intro hone hHeld6))))
    clear hw4 hd4 hH4 hB4 hz4 ho4 hb4 hob4 ho5 hg5 hv5 hob hEnd hd5 hf5 hone hHeld6
    refine hK _ _ hHeld5 ?_
    clear hHeld
    have hHeld := hHeld5
    clear hHeld5
    simp only [Act.put, List.setIfInBounds_toArray, List.set_cons_zero, List.set_cons_succ]
    refine tkFree (i := 12) rfl (by kernel_rfl) (by kernel_rfl) (by kernel_rfl) (fun _ _ _ h => h) (.inl ⟨by rfl, fun w hSw => by go_simp; rfl⟩) hHeld ?_
    simp only [Act.put, List.setIfInBounds_toArray, List.set_cons_zero, List.set_cons_succ]
    refine tkFree (i := 13) rfl (by kernel_rfl) (by kernel_rfl) (by kernel_rfl) (fun _ _ _ h => h) (.inl ⟨by rfl, fun w hSw => by go_simp; rfl⟩) hHeld ?_
    simp only [Act.put, List.setIfInBounds_toArray, List.set_cons_zero, List.set_cons_succ]
    refine tkOne 14 rfl (by kernel_rfl) rfl (fun K hK => ?_)
    refine wp_storeT (.tmp 44) (.tmp 42) rfl rfl rfl F5.out.2.2.2.1.1 F5.out.2.2.2.1.2 Try.sizeOf58 F5.out.2.1 F5.out.2.2.1 ?_
    refine hK _ _ F5.out.2.2.2.2 ?_
    simp only [Act.put]
    refine wpAnyH_done (by kernel_rfl) ?_ _
    clear hHeld d2 hd2
    go_wp2_with (fail)
    go_ret
    exact ⟨rfl, F5.out.1⟩
  · refine slice_wait (.tmp 40) rfl (k, m) HM.out.1 rfl ?_
    rw [← F4.out.1]
    refine hK _ _ F4.out.2.2.1 ?_
    simp only [Act.put, List.setIfInBounds_toArray, List.set_cons_zero, List.set_cons_succ]
    refine tkOne 4 rfl (by kernel_rfl) rfl (fun K hK => ?_)
    refine wp_loadT (.tmp 34) rfl rfl F4.out.2.1 Try.isAgg58 ?_
    refine hK _ _ F4.out.2.2.1 ?_
    simp only [Act.put, List.setIfInBounds_toArray, List.set_cons_zero, List.set_cons_succ]
    obtain ⟨hw4, hd4, hH4, hB4, hz4, ho4, hb4, hob4⟩ := F4.out
    refine tkOne 11 rfl (by kernel_rfl) rfl (fun K hK => ?_)
    refine append_wait (.tmp 35) (.tmp 41) rfl ho4 rfl rfl HM.out.1 hz4 HM.out.2.2.2.2 hb4 ?_
    intro v' w5 ho5 hg5 hv5
    have hob : w5.heap[f.b]? = some (.cells (objC f s.L.length (lessCall s.C)) 60 (0, 0)) :=
      (hg5.block _ (by have := (Array.getElem?_eq_some_iff.1 (hob4.trans HA.out.obj)).1; exact this) fun e => own_ty HA.out.waits HA.out.obj (by decide) e.symm).trans (hob4.trans HA.out.obj)
    have hHeld5 : w5.rangeAt ab off mb := range_block hH4 (hg5.block ab (block_lt_of_cell (hH4 0 (mb[0]'(by rw [HML.out]; omega)) (List.getElem?_eq_getElem _))) fun e => HM.out.2.2.1 ab rfl (.inr (.inr (.inr (.inr e.symm)))))
    have hd5 : w5.cell? ⟨f.b, 2, none⟩ = some f.wv := by rw [cell_of_row _ _ _ _ _ _ hob]; rfl
    have hf5 : w5.frozen? ⟨f.b, 2, none⟩ = false := frozen_of_row w5 f.b 2 _ _ hob
    have hEnd := wrote_end HS.out.ok HK.out HM.out.1 HA.out HKP.out E3.out.1 E3.out.2.1 E3.out.2.2 hB4 ho5 hg5 hv5
    have hone := own_one ho5
    have hHeld6 : (w5.setCell ⟨f.b, 2, none⟩ v').rangeAt ab off mb := range_block hHeld5 (heap_setCell_other _ _ _ _ fun e => HM.out.2.2.1 ab rfl (.inl e))
    have F5 := Lib.hid (And.intro hEnd (And.intro hd5 (And.intro hf5 (And.intro hone hHeld6))))
    clear hw4 hd4 hH4 hB4 hz4 ho4 hb4 hob4 ho5 hg5 hv5 hob hEnd hd5 hf5 hone hHeld6
    refine hK _ _ hHeld5 ?_
    clear hHeld
    have hHeld := hHeld5
    clear hHeld5
    simp only [Act.put, List.setIfInBounds_toArray, List.set_cons_zero, List.set_cons_succ]
    refine tkFree (i := 12) rfl (by kernel_rfl) (by kernel_rfl) (by kernel_rfl) (fun _ _ _ h => h) (.inl ⟨by rfl, fun w hSw => by go_simp; rfl⟩) hHeld ?_
    simp only [Act.put, List.setIfInBounds_toArray, List.set_cons_zero, List.set_cons_succ]
    refine tkFree (i := 13) rfl (by kernel_rfl) (by kernel_rfl) (by kernel_rfl) (fun _ _ _ h => h) (.inl ⟨by rfl, fun w hSw => by go_simp; rfl⟩) hHeld ?_
    simp only [Act.put, List.setIfInBounds_toArray, List.set_cons_zero, List.set_cons_succ]
    refine tkOne 14 rfl (by kernel_rfl) rfl (fun K hK => ?_)
    refine wp_storeT (.tmp 44) (.tmp 42) rfl rfl rfl F5.out.2.2.2.1.1 F5.out.2.2.2.1.2 Try.sizeOf58 F5.out.2.1 F5.out.2.2.1 ?_
    refine hK _ _ F5.out.2.2.2.2 ?_
    simp only [Act.put]
    refine wpAnyH_done (by kernel_rfl) ?_ _
    clear hHeld d2 hd2
    go_wp2_with (fail)
    go_ret
    exact ⟨rfl, F5.out.1⟩
end
end Go.Proofs.Ytdmnhgbdeifpbaa
