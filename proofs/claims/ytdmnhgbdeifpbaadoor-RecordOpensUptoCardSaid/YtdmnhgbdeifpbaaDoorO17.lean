/-
  Part 17 of 42 of what the proof leans on.
-/
import Derived.Test.YtdmnhgbdeifpbaaDoorO15
import Derived.Test.YtdmnhgbdeifpbaaDoorO1
import Derived.Test.YtdmnhgbdeifpbaaDoorO2
namespace Go.Proofs.YtdmnhgbdeifpbaaDoor
open Go.RowKit
theorem zero64 : (∀ w, (zeroValue 107).run Tryd.prog w = .ok (.agg (Array.replicate 64 (.int .u8 0))) w) ∧ (Tryd.prog.info? 107).map (·.size) = some 64 := zero_of_info (n := 64) (by kernel_rfl)
theorem zero32 : (∀ w, (zeroValue 23).run Tryd.prog w = .ok (.agg (Array.replicate 32 (.int .u8 0))) w) ∧ (Tryd.prog.info? 23).map (·.size) = some 32 := zero_of_info (n := 32) (by kernel_rfl)
def WholeEnd (w : World) (Z : Array Value) (s : List (BitVec 8)) (s0 : Value) (wx : World) : Prop :=
  ∃ a n c, s0 = .slice a n c ∧ n = s.length ∧ SrcP wx a s.length s ∧ Below w.heap.size w wx ∧ wx.heap[w.heap.size]? = some (.cells Z 107 (0, 0)) ∧ wx.heap[w.heap.size + 1]? = some (.cells Z 107 (0, 0))
set_option maxRecDepth 100000 in
set_option maxHeartbeats 1000000 in
theorem whole_any (w : World) (a : Option Addr) (cap : Nat) (key : List (BitVec 8)) (hS : SrcP w a key.length key) (hcap : key.length ≤ cap) (hmax : cap ≤ 9223372036854775807) (hlen : key.length < 1152921504606846976)
    (hT : Tables w) (hgl : 0 < w.heap.size ∧ 1 < w.heap.size) :
    Calls Tryd.prog 91 #[.slice a key.length cap] w (Below0 w (.agg ((keyL key).map B).toArray)) := by
  obtain ⟨Z, hZ⟩ : ∃ Z : Array Value, Z = Array.replicate 64 (.int .u8 0) := ⟨_, rfl⟩
  have hz : ∀ w, (zeroValue 107).run Tryd.prog w = .ok (.agg Z) w := by rw [hZ]; exact zero64.1
  obtain ⟨Y, hY⟩ : ∃ Y : Array Value, Y = Array.replicate 32 (.int .u8 0) := ⟨_, rfl⟩
  have hz2 : ∀ w, (zeroValue 23).run Tryd.prog w = .ok (.agg Y) w := by rw [hY]; exact zero32.1
  have HZ := Lib.hid hZ; have HY := Lib.hid hY; obtain ⟨L, hL⟩ : ∃ L, L = key.length := ⟨_, rfl⟩; have HX := Lib.hid (And.intro hS (And.intro hT hgl)); rw [← hL] at hcap hlen ⊢; have HL := Lib.hid hL; clear hZ hY hS hT hgl hL
  go_enter Tryd.func91, Tryd.ntmps91
  go_upto_if 7 with (fail)
  obtain ⟨w0, hw0⟩ : ∃ w0, w0 = (w.alloc (.cells Z 107)).alloc (.cells Z 107) := ⟨_, rfl⟩; rw [← hw0]
  have hB : Below w.heap.size w w0 := by rw [hw0]; exact ((Below.refl _ w).alloc (Nat.le_refl _) _).alloc (by simp) _
  have hr0 : w0.heap[w.heap.size]? = some (.cells Z 107 (0, 0)) := by rw [hw0]; exact heap_alloc2_old w _ _
  have hr1 : w0.heap[w.heap.size + 1]? = some (.cells Z 107 (0, 0)) := by rw [hw0]; exact heap_alloc2_new w _ _
  have H0 := Lib.hid (And.intro hB (And.intro hr0 hr1)); clear hB hr0 hr1 hw0 hz
  go_cut [0, 4] from 7 to 11 (fun s0 _ wx => WholeEnd w Z (shortL key) s0 wx)
  case first =>
    by_cases hlong : 64 < L
    · have hl : (64 : Int) < (L : Int) := by omega
      have HB := Lib.hid hlong; clear hlong; go_wp2_with (fail); obtain ⟨W1, hW1⟩ : ∃ W1, W1 = w0.alloc (.cells #[.slice a L cap] 26) := ⟨_, rfl⟩; rw [← hW1]
      have hB1 : Below w.heap.size w W1 := by rw [hW1]; exact H0.out.1.alloc H0.out.1.size _
      have hg : W1.heap[w0.heap.size]? = some (.cells #[.slice a L cap] 26 (0, 0)) := by rw [hW1]; exact heap_alloc_new w0 _
      have hr0 : W1.heap[w.heap.size]? = some (.cells Z 107 (0, 0)) := by rw [hW1, Below.heap_alloc _ _ _ (Array.getElem?_eq_some_iff.1 H0.out.2.1).1]; exact H0.out.2.1
      have hr1 : W1.heap[w.heap.size + 1]? = some (.cells Z 107 (0, 0)) := by rw [hW1, Below.heap_alloc _ _ _ (Array.getElem?_eq_some_iff.1 H0.out.2.2).1]; exact H0.out.2.2
      have hs : Calls Tryd.prog 50 #[.slice (some ⟨w0.heap.size, 0, none⟩) 1 1] W1 (Below0 W1 (.agg (ShaA key))) := by
        have := sumF_any W1 (some ⟨w0.heap.size, 0, none⟩) 1 [⟨a, cap, key⟩] (parts_one ⟨a, cap, key⟩ (by rw [Part.val, ← HL.out]; exact hg)) (fun p hp => by
          obtain rfl : p = ⟨a, cap, key⟩ := by simpa using hp
          exact ⟨by rw [← HL.out]; exact hcap, hmax, HX.out.1.below hB1⟩) (HX.out.2.1.below hB1) (by have := hB1.size; have := HX.out.2.2; omega) (by rw [flat_one, ← HL.out]; exact hlen) (by simp)
        rwa [flat_one] at this
      have H1 := Lib.hid (And.intro hB1 (And.intro hr0 hr1)); have HS := Lib.hid hs; clear hW1 hB1 hg hr0 hr1 hs; refine HS.out.mono ?_; rintro e w2 ⟨rfl, hB2⟩; have H2 := Lib.hid hB2; clear hB2; dsimp only
      have hi : (Tryd.prog.info? 23).map (·.size) = some (ShaA key).size := by rw [ShaA_size]; exact zero32.2
      have HI := Lib.hid hi; clear hi
      iterate 4 go_step
      refine wpList_store_row rfl _ _ _ rfl w2.heap.size (ShaA key) rfl rfl 23 Y (heap_alloc_new w2 _) HI.out (by rw [HY.out, ShaA_size]; simp) (Spell_one _) ?_
      rw [World.setRow_alloc_new]; obtain ⟨W3, hW3⟩ : ∃ W3, W3 = w2.alloc (.cells (ShaA key) 23) := ⟨_, rfl⟩; rw [← hW3]
      have hB3 : Below W1.heap.size W1 W3 := by rw [hW3]; exact H2.out.alloc H2.out.size _
      have hg3 : W3.heap[w2.heap.size]? = some (.cells (ShaA key) 23 (0, 0)) := by rw [hW3]; exact heap_alloc_new w2 _
      have H3 := Lib.hid (And.intro hB3 hg3); clear hW3 hB3 hg3; go_wp2_with (fail)
      go_meet
      obtain ⟨hB1, hr0, hr1⟩ := H1.out; obtain ⟨hB3, hg3⟩ := H3.out
      have hl2 : 64 < key.length := by rw [← HL.out]; exact HB.out
      refine ⟨_, _, _, rfl, by rw [shortL_long hl2, shaL_length], ?_, hB1.trans (hB3.mono hB1.size), (hB3.block _ (Array.getElem?_eq_some_iff.1 hr0).1).trans hr0, (hB3.block _ (Array.getElem?_eq_some_iff.1 hr1).1).trans hr1⟩
      rw [shortL_long hl2]; refine src_row (e := 23) (fr := (0, 0)) ?_; rw [hg3, ShaA_is]
    · go_wp2_with (fail)
      go_meet
      obtain ⟨hB, hr0, hr1⟩ := H0.out
      have hl2 : key.length ≤ 64 := by rw [← HL.out]; omega
      exact ⟨_, _, _, rfl, by rw [shortL_short hl2, HL.out], by rw [shortL_short hl2]; exact HX.out.1.below hB, hB, hr0, hr1⟩
  case rest =>
    obtain ⟨a', n, c, rfl, hn, hsrc, hB, hr0, hr1⟩ := hcut; obtain ⟨s, hs⟩ : ∃ s, s = shortL key := ⟨_, rfl⟩; rw [← hs] at hn hsrc
    have hs64 : s.length ≤ 64 := by rw [hs]; exact shortL_length key
    have HC := Lib.hid (And.intro hn (And.intro hsrc (And.intro hB (And.intro hr0 (And.intro hr1 (And.intro hs64 hs)))))); clear hn hsrc hB hr0 hr1 hs64 hs hz2 hlen hcap hmax
    go_upto_region 5 with (fail)
    refine wp_region_lit ?_
    iterate 6 go_step
    refine wpList_copy_splice rfl (.tmp 12) (.tmp 13) 26 26 rfl 5 Tryd.underlying26 (by kernel_rfl) _ _ _ _ _ _ rfl rfl (w.heap.size + 1) 0 (Array.replicate 64 (Value.int .u8 0)).toList 107
      (by rw [Array.toArray_toList, ← HZ.out]; exact HC.out.2.2.2.2.1) (s.map B) (by rw [List.length_map, HC.out.1]; exact (Nat.min_eq_left HC.out.2.2.2.2.2.1).symm) (fun hpos => ⟨rfl, ?_⟩) (by rw [List.length_map]; simpa using HC.out.2.2.2.2.2.1)
      (fun v hv => by obtain ⟨y, _, rfl⟩ := List.mem_map.1 hv; rfl) (w.heap.size + 1) wc (Below.refl _ _) (by omega) ?_
    · rw [List.length_map] at hpos
      rcases HC.out.2.1 with h | ⟨ab, off, rfl, hc⟩
      · omega
      · refine ⟨_, rfl, fun j v hv => ?_⟩
        have hj : j < s.length := by
          have := (List.getElem?_eq_some_iff.1 hv).1
          simpa using this
        have hv' := list_map_at s j hj; rw [List.getElem?_toArray, hv] at hv'; rw [addr_add, hc j hj, ← hv']
    · intro wd hrow hBd
      have hrow' : wd.heap[w.heap.size + 1]? = some (.cells ((keyL key).map B).toArray 107 (0, 0)) := by
        have h : _ = _ := hrow; rw [laid_noughts, HC.out.2.2.2.2.2.2] at h; exact h
      have hres : wd.heap[w.heap.size]? = some (.cells Z 107 (0, 0)) := (hBd.block _ (by omega)).trans HC.out.2.2.2.1
      have hB : Below w.heap.size w wd := HC.out.2.2.1.trans (hBd.mono (by omega))
      have hi : (Tryd.prog.info? 107).map (·.size) = some ((keyL key).map B).toArray.size := by rw [row_size, keyL_length]; exact zero64.2
      have HD := Lib.hid (And.intro hrow' (And.intro hres (And.intro hB hi))); clear hrow hBd hrow' hres hB hi
      rw [show goInt (s.map B).length = .int .i64 (s.length : Int) from by rw [List.length_map]; rfl]
      go_upto_region 6 with (fail)
      refine wp_region_lit ?_; refine wpList_load_row rfl _ _ rfl (w.heap.size + 1) rfl 107 ((keyL key).map B).toArray (0, 0) _ HD.out.1 Tryd.underlying107 rfl HD.out.2.2.2 ?_
      refine wpList_store_row rfl _ _ _ rfl w.heap.size ((keyL key).map B).toArray rfl rfl 107 Z HD.out.2.1 HD.out.2.2.2 (by rw [row_size, keyL_length, HZ.out]; simp) (row_one _) ?_
      go_wp2_with (fail); obtain ⟨hrow, hres, hB, hi⟩ := HD.out; refine bodyPost_ret (v := .agg ((keyL key).map B).toArray) (results_cell_row rfl _ _ w.heap.size 107 ((keyL key).map B).toArray (0, 0) _ rfl (setRow_heap _ _ Z _ _ _ hres) Tryd.underlying107 rfl hi) rfl ⟨rfl, ?_⟩
      exact hB.trans ⟨rfl, rfl, rfl, by simp, fun k hk => setRow_other _ _ _ _ (by omega)⟩
end Go.Proofs.YtdmnhgbdeifpbaaDoor
namespace Go.Proofs.YtdmnhgbdeifpbaaDoor
open Go.RowKit
def turned (x : BitVec 8) (K : List (BitVec 8)) (t j : Nat) : BitVec 8 := if j < t then gl K j ^^^ x else gl K j
def BegRel (w : World) (x : BitVec 8) (K : List (BitVec 8)) (k : Value) (wr : World) : Prop :=
  ∃ (t : Nat) (c : Array Value), t ≤ 64 ∧ k = .int .i64 t ∧ wr = w.alloc (.cells c 107) ∧ c.size = 64 ∧ ∀ j < 64, c[j]? = some (B (turned x K t j))
def NewHash (w : World) (l : List (BitVec 8)) (e : Ending) (w' : World) : Prop :=
  ∃ g c, e = .returned (.pointer (some ⟨g, 0, none⟩)) ∧ w.heap.size ≤ g ∧ w'.heap[g]? = some (.cells c 109 (0, 0)) ∧ HashW c l ∧ Below w.heap.size w w'
theorem turned_start (x : BitVec 8) (K : List (BitVec 8)) (h : K.length = 64) : ((K.map B).toArray).size = 64 ∧ ∀ j < 64, ((K.map B).toArray)[j]? = some (B (turned x K 0 j)) :=
  ⟨by rw [row_size, h], fun j hj => by rw [list_map_at K j (by omega)]; rfl⟩
theorem turned_step (x : BitVec 8) (K : List (BitVec 8)) (t : Nat) (c : Array Value) (h : c.size = 64) (hc : ∀ j < 64, c[j]? = some (B (turned x K t j))) (ht : t < 64) :
    (c.setIfInBounds t (B (gl K t ^^^ x))).size = 64 ∧ ∀ j < 64, (c.setIfInBounds t (B (gl K t ^^^ x)))[j]? = some (B (turned x K (t + 1) j)) := by
  refine ⟨by simp [h], fun j hj => ?_⟩
  rw [Array.getElem?_setIfInBounds]
  split
  · rename_i e
    subst e
    rw [if_pos (by omega), turned, if_pos (by omega)]
  · rename_i e
    rw [hc j hj, turned, turned]
    by_cases h1 : j < t
    · rw [if_pos h1, if_pos (by omega)]
    · rw [if_neg h1, if_neg (by omega)]
theorem turned_all (x : BitVec 8) (K : List (BitVec 8)) (h : K.length = 64) (i : Nat) (hi : i < 64) : turned x K 64 i = gl (xorL x K) i := by
  simp [turned, hi, xorL, gl, h]
set_option maxRecDepth 100000 in
set_option maxHeartbeats 1000000 in
theorem begin_any (w : World) (K : List (BitVec 8)) (x : BitVec 8) (hK : K.length = 64) (hT : Tables w) (hgl : 0 < w.heap.size ∧ 1 < w.heap.size) :
    Calls Tryd.prog 92 #[.agg (K.map B).toArray, B x] w (NewHash w (xorL x K)) := by
  obtain ⟨hs0, hc0⟩ := turned_start x K hK; obtain ⟨c0, hc00⟩ : ∃ c0, c0 = (K.map B).toArray := ⟨_, rfl⟩; rw [← hc00] at hs0 hc0 ⊢; have HX := Lib.hid (And.intro hs0 (And.intro hc0 (And.intro hK (And.intro hT hgl)))); clear hs0 hc0 hK hT hgl hc00
  go_enter Tryd.func92, Tryd.ntmps92
  go_wp2_with (fail)
  go_loopw [7] (BegRel w x K) (fun k _ => 64 - (intOf k).toNat)
  case atStart => exact ⟨0, c0, by omega, rfl, rfl, HX.out.1, HX.out.2.1⟩
  case round =>
    obtain ⟨t, c, ht, rfl, rfl, hs, hc⟩ := hrel
    by_cases hlt : t < 64
    · have i0 : (0 : Int) ≤ (t : Int) ∧ (t : Int) < 64 := by omega
      have hct : c[t]? = some (B (gl K t)) := by rw [hc t hlt, turned, if_neg (by omega)]
      have hcell : (w.alloc (.cells c 107)).cell? ⟨w.heap.size, t, none⟩ = some (B (gl K t)) := by rw [cell_of_row _ _ _ _ _ _ (heap_alloc_new w _)]; exact hct
      have HC := Lib.hid (And.intro hs (And.intro hc hct)); clear hs hc hct
      go_upto_region 4 with (fail)
      refine wp_region_lit ?_
      iterate 18 go_step
      refine wpList_store1 rfl _ _ _ rfl ⟨w.heap.size, t, none⟩ (B (gl K t ^^^ x)) _ rfl rfl rfl rfl Tryd.sizeOf5 hcell (by go_simp) ?_
      rw [setCell_1]; have HS := Lib.hid (turned_step x K t c HC.out.1 HC.out.2.1 hlt); clear hcell; go_wp2_with (fail)
      exact ⟨⟨t + 1, _, by omega, by go_num, rfl, HS.out.1, HS.out.2⟩, by simp [intOf]; omega⟩
    · obtain rfl : t = 64 := by omega
      rw [show ((64 : Nat) : Int) = 64 from rfl]; obtain ⟨W0, hW0⟩ : ∃ W0, W0 = w.alloc (.cells c 107) := ⟨_, rfl⟩; rw [← hW0]
      have hB0 : Below w.heap.size w W0 := by rw [hW0]; exact (Below.refl _ w).alloc (Nat.le_refl _) _
      have hr0 : W0.heap[w.heap.size]? = some (.cells c 107 (0, 0)) := by rw [hW0]; exact heap_alloc_new w _
      have h0s : w.heap.size < W0.heap.size := (Array.getElem?_eq_some_iff.1 hr0).1; have H0 := Lib.hid (And.intro hB0 (And.intro hr0 (And.intro h0s (And.intro hs hc)))); clear hW0 hB0 hr0 h0s hs hc; go_wp2_with (fail); refine (new_any W0).mono ?_; rintro e W1 ⟨rfl, hW1⟩; dsimp only
      have hB1 : Below W0.heap.size W0 W1 := by rw [hW1]; exact (Below.refl _ W0).alloc (Nat.le_refl _) _
      have hb1 : W1.heap[W0.heap.size]? = some (.cells zeroHash 109 (0, 0)) := by rw [hW1]; exact heap_alloc_new W0 _
      have H1 := Lib.hid (And.intro hB1 hb1); clear hW1 hB1 hb1; go_wp2_with (fail); obtain ⟨hB0, hr0, h0s, hs, hc⟩ := H0.out; obtain ⟨hB1, hb1⟩ := H1.out; obtain ⟨_, _, hK, hT, hgl⟩ := HX.out; have hr1 : W1.heap[w.heap.size]? = some (.cells c 107 (0, 0)) := (hB1.block _ h0s).trans hr0
      have hxl : (xorL x K).length = 64 := by rw [xorL_length, hK]
      have hsrc : Src W1 W0.heap.size (some ⟨w.heap.size, 0, none⟩) (xorL x K).length (xorL x K) 0 := by
        refine .inr ⟨w.heap.size, 0, rfl, by omega, fun i hi => ?_⟩
        rw [hxl] at hi; rw [cell_of_row _ _ _ _ _ _ hr1, Nat.zero_add, hc i hi, turned_all x K hK i hi]
      have hwr := write_any W1 W0.heap.size zeroHash [] (xorL x K) (some ⟨w.heap.size, 0, none⟩) 64 hb1 zeroHash_is ((hT.below hB0).below hB1) (by omega) (by omega) (by omega) (by omega) hsrc (by simp; omega)
      rw [hxl] at hwr; have HW := Lib.hid hwr; clear hB0 hr0 h0s hs hc hB1 hb1 hK hT hgl hr1 hxl hsrc hwr; refine HW.out.mono ?_; rintro e W2 ⟨rfl, c2, hb2, hS2, hg2⟩; have H2 := Lib.hid (And.intro hb2 (And.intro (show HashS c2 (xorL x K) from hS2) hg2)); clear hb2 hS2 hg2; dsimp only; go_wp2_with (fail); go_ret; obtain ⟨hB0, hr0, h0s, hs, hc⟩ := H0.out; obtain ⟨hB1, hb1⟩ := H1.out; obtain ⟨hb2, hS2, hg2⟩ := H2.out
      exact ⟨_, c2, rfl, by omega, hb2, hS2.weak, (hB0.trans (hB1.mono (by omega))).trans ⟨hg2.os, hg2.tape, hg2.output, hg2.size, fun k hk => hg2.block k (by have := hB1.size; omega) (by simp; omega)⟩⟩
end Go.Proofs.YtdmnhgbdeifpbaaDoor
namespace Go.Proofs.YtdmnhgbdeifpbaaDoor
open Go.RowKit
def HashIn (w : World) (g : Nat) (l : List (BitVec 8)) : Prop := ∃ c, w.heap[g]? = some (.cells c 109 (0, 0)) ∧ HashW c l
theorem HashIn.lt {w : World} {g : Nat} {l : List (BitVec 8)} (h : HashIn w g l) : g < w.heap.size := by
  obtain ⟨c, hc, _⟩ := h; exact (Array.getElem?_eq_some_iff.1 hc).1
theorem HashIn.below {w w' : World} {B g : Nat} {l : List (BitVec 8)} (h : HashIn w g l) (hB : Below B w w') (hg : g < B) : HashIn w' g l := by
  obtain ⟨c, hc, hH⟩ := h; exact ⟨c, (hB.block g hg).trans hc, hH⟩
theorem HashIn.grown {w w' : World} {g b : Nat} {l : List (BitVec 8)} (h : HashIn w g l) (hg : w.grownBy w' (some b)) (hne : g ≠ b) : HashIn w' g l := by
  obtain ⟨c, hc, hH⟩ := h
  exact ⟨c, (hg.block g (Array.getElem?_eq_some_iff.1 hc).1 (by simpa using hne)).trans hc, hH⟩
def macCells (bi bo bw : Nat) : Array Value := #[.pointer (some ⟨bi, 0, none⟩), .pointer (some ⟨bo, 0, none⟩), .pointer (some ⟨bw, 0, none⟩)]
def MacAt (B0 : Nat) (w : World) (b : Nat) (ik ok l : List (BitVec 8)) : Prop :=
  ∃ bi bo bw, w.heap[b]? = some (.cells (macCells bi bo bw) 130 (0, 0)) ∧ HashIn w bi ik ∧ HashIn w bo ok ∧ HashIn w bw (ik ++ l) ∧
    B0 ≤ b ∧ B0 ≤ bi ∧ B0 ≤ bo ∧ B0 ≤ bw ∧ bw ≠ bi ∧ bw ≠ bo
theorem MacAt.below {B0 b : Nat} {w w' : World} {ik ok l : List (BitVec 8)} (h : MacAt B0 w b ik ok l) (hB : Below w.heap.size w w') : MacAt B0 w' b ik ok l := by
  obtain ⟨bi, bo, bw, hb, hi, ho, hw, hr⟩ := h; exact ⟨bi, bo, bw, (hB.block _ (Array.getElem?_eq_some_iff.1 hb).1).trans hb, hi.below hB hi.lt, ho.below hB ho.lt, hw.below hB hw.lt, hr⟩
def Kept (B0 : Nat) (w w' : World) : Prop :=
  Below B0 w w' ∧ ∀ (k : Nat) (c : Array Value) (t : TypeId) (fr : Nat × Nat), w.heap[k]? = some (Obj.cells c t fr) → t ≠ 109 → t ≠ 130 → w'.heap[k]? = some (Obj.cells c t fr)
theorem Kept.refl (B0 : Nat) (w : World) : Kept B0 w w := ⟨Below.refl _ _, fun _ _ _ _ h _ _ => h⟩
theorem Kept.trans {B0 : Nat} {a b c : World} (h : Kept B0 a b) (k : Kept B0 b c) : Kept B0 a c := ⟨h.1.trans k.1, fun i x t fr hx h1 h2 => k.2 i x t fr (h.2 i x t fr hx h1 h2) h1 h2⟩
theorem Kept.of_below {B0 : Nat} {w w' : World} (h : Below w.heap.size w w') (h0 : B0 ≤ w.heap.size) : Kept B0 w w' :=
  ⟨h.mono h0, fun k _ _ _ hk _ _ => (h.block k (Array.getElem?_eq_some_iff.1 hk).1).trans hk⟩
theorem Kept.of_grown {B0 b : Nat} {w w' : World} {c : Array Value} {t : TypeId} {fr : Nat × Nat} (h : w.grownBy w' (some b)) (hb : B0 ≤ b) (h0 : B0 ≤ w.heap.size) (hr : w.heap[b]? = some (.cells c t fr))
    (ht : t = 109 ∨ t = 130) : Kept B0 w w' := by
  refine ⟨⟨h.os, h.tape, h.output, h.size, fun k hk => h.block k (by omega) (by simp; omega)⟩, fun k c' t' fr' hk h1 h2 => ?_⟩
  have hne : k ≠ b := by
    intro e; subst e; rw [hr] at hk
    injection hk with hk
    injection hk with _ e2
    subst e2
    rcases ht with ht | ht
    · exact h1 ht
    · exact h2 ht
  exact (h.block k (Array.getElem?_eq_some_iff.1 hk).1 (by simpa using hne)).trans hk
def noughts32 : Array Value := Array.replicate 32 (.int .u8 0)
def MWriteEnd (B0 : Nat) (w : World) (b n : Nat) (ik ok l m : List (BitVec 8)) (e : Ending) (w' : World) : Prop :=
  e = .returned (.int .i64 (n : Int)) ∧ MacAt B0 w' b ik ok (l ++ m) ∧ Kept B0 w w'
theorem mac_cell {w : World} {b bi bo bw : Nat} (hb : w.heap[b]? = some (.cells (macCells bi bo bw) 130 (0, 0))) :
    w.cell? ⟨b, 0, none⟩ = some (.pointer (some ⟨bi, 0, none⟩)) ∧ w.cell? ⟨b, 1, none⟩ = some (.pointer (some ⟨bo, 0, none⟩)) ∧ w.cell? ⟨b, 2, none⟩ = some (.pointer (some ⟨bw, 0, none⟩)) := by
  refine ⟨?_, ?_, ?_⟩ <;> (rw [cell_of_row _ _ _ _ _ _ hb]; rfl)
set_option maxRecDepth 100000 in
theorem mwrite_any (w : World) (B0 b n : Nat) (ik ok l m : List (BitVec 8)) (a : Option Addr) (cap : Nat) (hM : MacAt B0 w b ik ok l) (hT : Tables w) (h0 : 0 < B0 ∧ 1 < B0)
    (hn : n = m.length) (hcap : n ≤ cap) (hmax : cap ≤ 9223372036854775807) (hS : ∀ (g : Nat) (c : Array Value), B0 ≤ g → w.heap[g]? = some (Obj.cells c 109 (0, 0)) → Src w g a m.length m 0)
    (hlen : ik.length + l.length + m.length < 4611686018427387904) :
    Calls Tryd.prog 78 #[.pointer (some ⟨b, 0, none⟩), .slice a n cap] w (MWriteEnd B0 w b n ik ok l m) := by
  obtain ⟨bi, bo, bw, hb, hi, ho, ⟨c, hc, hH⟩, k0, k1, k2, k3, k4, k5⟩ := hM; obtain ⟨c0, c1, c2⟩ := mac_cell hb
  have hwr := write_any w bw c (ik ++ l) m a cap hc hH hT (by omega) (by omega) (by omega) hmax (hS bw c k3 hc) (by rw [List.length_append]; omega)
  rw [← hn] at hwr; have HX := Lib.hid (And.intro hb (And.intro hi (And.intro ho (And.intro hc (And.intro k0 (And.intro k1 (And.intro k2 (And.intro k3 (And.intro k4 (And.intro k5 hn)))))))))); have HW := Lib.hid hwr; clear hb hi ho hc hH k0 k1 k2 k3 k4 k5 hn hwr hS hT h0 hcap hmax hlen
  go_enter Tryd.func78, Tryd.ntmps78
  go_wp2_with (fail); refine HW.out.mono ?_; rintro e w1 ⟨rfl, c', hc', hH', hg⟩; have HY := Lib.hid (And.intro hc' (And.intro hH'.weak hg)); clear hc' hH' hg; dsimp only; go_wp2_with (fail); go_ret; obtain ⟨hb, hi, ho, hc, k0, k1, k2, k3, k4, k5, hn⟩ := HX.out; obtain ⟨hc', hH', hg⟩ := HY.out; have hbl := (Array.getElem?_eq_some_iff.1 hb).1
  have hne : b ≠ bw := by
    intro e; subst e; rw [hb] at hc
    injection hc with hc
    injection hc with _ e2
    exact absurd e2 (by decide)
  refine ⟨by rw [hn]; rfl, ⟨bi, bo, bw, (hg.block b hbl (by simpa using hne)).trans hb, hi.grown hg (Ne.symm k4), ho.grown hg (Ne.symm k5), ⟨c', hc', by rw [← List.append_assoc]; exact hH'⟩, k0, k1, k2, k3, k4, k5⟩, Kept.of_grown hg k3 (by omega) hc (.inl rfl)⟩
def MResetEnd (B0 : Nat) (w : World) (b : Nat) (ik ok : List (BitVec 8)) (e : Ending) (w' : World) : Prop :=
  e = .returned (.tuple #[]) ∧ MacAt B0 w' b ik ok [] ∧ Kept B0 w w'
set_option maxRecDepth 100000 in
theorem mreset_row (w : World) (B0 b bi bo : Nat) (v : Value) (ik ok : List (BitVec 8)) (hb : w.heap[b]? = some (.cells #[.pointer (some ⟨bi, 0, none⟩), .pointer (some ⟨bo, 0, none⟩), v] 130 (0, 0)))
    (hi : HashIn w bi ik) (ho : HashIn w bo ok) (k0 : B0 ≤ b) (k1 : B0 ≤ bi) (k2 : B0 ≤ bo) :
    Calls Tryd.prog 93 #[.pointer (some ⟨b, 0, none⟩)] w (MResetEnd B0 w b ik ok) := by
  have c0 : w.cell? ⟨b, 0, none⟩ = some (.pointer (some ⟨bi, 0, none⟩)) := by rw [cell_of_row _ _ _ _ _ _ hb]; rfl
  obtain ⟨c, hc, hH⟩ := hi; have hcl := clone_any w bi c ik hc hH; have HX := Lib.hid (And.intro hb (And.intro hc (And.intro hH (And.intro ho (And.intro k0 (And.intro k1 k2)))))); have HC := Lib.hid hcl; clear hb hc hH ho k0 k1 k2 hcl
  go_enter Tryd.func93, Tryd.ntmps93
  go_wp2_with (fail); refine HC.out.mono ?_; rintro e w1 ⟨rfl, hw1⟩; obtain ⟨hb, hc, hH, ho, k0, k1, k2⟩ := HX.out; have hbl := (Array.getElem?_eq_some_iff.1 hb).1
  have hB1 : Below w.heap.size w w1 := by rw [hw1]; exact (Below.refl _ w).alloc (Nat.le_refl _) _
  have hn1 : w1.heap[w.heap.size]? = some (.cells c 109 (0, 0)) := by rw [hw1]; exact heap_alloc_new w _
  have hb1 := (hB1.block b hbl).trans hb
  have d2 : w1.cell? ⟨b, 2, none⟩ = some v := by rw [cell_of_row _ _ _ _ _ _ hb1]; rfl
  have f2 : w1.frozen? ⟨b, 2, none⟩ = false := frozen_of_row w1 b 2 _ _ hb1; have HY := Lib.hid (And.intro hB1 (And.intro hn1 (And.intro hb1 hbl))); clear hw1 hb hc hH ho k0 k1 k2 hB1 hn1 hb1 hbl c0; dsimp only; go_wp2_with (fail)
  go_end0
  obtain ⟨hb, hc, hH, ho, k0, k1, k2⟩ := HX.out; obtain ⟨hB1, hn1, hb1, hbl⟩ := HY.out; have hcl := (Array.getElem?_eq_some_iff.1 hc).1; have hol := ho.lt
  have hne : ∀ {g : Nat} {c : Array Value}, w.heap[g]? = some (.cells c 109 (0, 0)) → g ≠ b := by
    intro g c hg e; subst e; rw [hb] at hg
    injection hg with hg
    injection hg with _ e2
    exact absurd e2 (by decide)
  have hg := grown_setCell w1 b 2 (.pointer (some ⟨w.heap.size, 0, none⟩)); have hb2 := heap_setCell_same w1 b 2 _ _ (.pointer (some ⟨w.heap.size, 0, none⟩)) hb1; have hs1 := hB1.size; have hnl := (Array.getElem?_eq_some_iff.1 hn1).1; have h1 : HashIn (w1.setCell ⟨b, 2, none⟩ (.pointer (some ⟨w.heap.size, 0, none⟩))) bi ik := HashIn.grown ⟨c, (hB1.block bi hcl).trans hc, hH⟩ hg (hne hc)
  have h2 : HashIn (w1.setCell ⟨b, 2, none⟩ (.pointer (some ⟨w.heap.size, 0, none⟩))) bo ok := (ho.below hB1 hol).grown hg (by obtain ⟨c', hc', _⟩ := ho; exact hne hc')
  have h3 : HashIn (w1.setCell ⟨b, 2, none⟩ (.pointer (some ⟨w.heap.size, 0, none⟩))) w.heap.size ik := HashIn.grown ⟨c, hn1, hH⟩ hg (by omega)
  refine ⟨rfl, ⟨bi, bo, w.heap.size, hb2, h1, h2, by rw [List.append_nil]; exact h3, k0, k1, k2, by omega, by omega, by omega⟩, ?_⟩
  exact (Kept.of_below hB1 (by omega)).trans (Kept.of_grown hg k0 (by omega) hb1 (.inr rfl))
set_option maxRecDepth 100000 in
set_option maxHeartbeats 1000000 in
theorem msum_any (w : World) (B0 b : Nat) (ik ok l : List (BitVec 8)) (hM : MacAt B0 w b ik ok l) (hT : Tables w) (hgl : 0 < w.heap.size ∧ 1 < w.heap.size)
    (h1 : ik.length + l.length < 1152921504606846976) (h2 : ok.length ≤ 1000) :
    Calls Tryd.prog 79 #[.pointer (some ⟨b, 0, none⟩)] w (Below0 w (.agg (ShaA (outerL ik ok l)))) := by
  obtain ⟨Y, hY⟩ : ∃ Y : Array Value, Y = noughts32 := ⟨_, rfl⟩
  have hz2 : ∀ w, (zeroValue 23).run Tryd.prog w = .ok (.agg Y) w := by rw [hY]; exact zero32.1
  have HY := Lib.hid hY; obtain ⟨w0, hw0⟩ : ∃ w0, w0 = w.alloc (.cells Y 23) := ⟨_, rfl⟩
  have hB0 : Below w.heap.size w w0 := by rw [hw0]; exact (Below.refl _ w).alloc (Nat.le_refl _) _
  have hr0 : w0.heap[w.heap.size]? = some (.cells Y 23 (0, 0)) := by rw [hw0]; exact heap_alloc_new w _
  have H0 := Lib.hid (And.intro hB0 hr0); have HM := Lib.hid (And.intro (hM.below hB0) (And.intro (hT.below hB0) (And.intro hgl (And.intro h1 h2)))); clear hY hB0 hr0 hM hT hgl h1 h2
  go_enter Tryd.func79, Tryd.ntmps79
  go_upto_region 3 with (fail)
  rw [← hw0]; clear hw0; obtain ⟨⟨bi, bo, bw, hb, hi, ho, ⟨cw, hcw, hHw⟩, hr⟩, hT, hgl, h1, h2⟩ := HM.out; obtain ⟨co, hco, hHo⟩ := ho; obtain ⟨m0, m1, m2⟩ := mac_cell hb
  have hgl0 : 0 < w0.heap.size ∧ 1 < w0.heap.size := by have := H0.out.1.size; omega
  have hsum := sum_any w0 (some ⟨bw, 0, none⟩) (ik ++ l) (.inr ⟨bw, cw, rfl, hcw, hHw⟩) hT hgl0 (by rw [List.length_append]; exact h1)
  have HS := Lib.hid hsum; have HB := Lib.hid (And.intro hb (And.intro hco (And.intro hHo (And.intro hT hgl0)))); have HM2 := Lib.hid h2; clear hb hi hcw hHw hr hT hgl h1 h2 hco hHo hgl0 hsum HM; go_wp2_with (fail); refine HS.out.mono ?_; rintro e w1 ⟨rfl, hB1⟩; obtain ⟨x, hx⟩ : ∃ x, x = shaL (ik ++ l) := ⟨_, rfl⟩; obtain ⟨sx, hsx⟩ : ∃ sx, sx = ShaA (ik ++ l) := ⟨_, rfl⟩; rw [← hsx]
  have hsz : sx.size = 32 := by rw [hsx, ShaA_size]
  have hi : (Tryd.prog.info? 23).map (·.size) = some sx.size := by rw [hsz]; exact zero32.2
  have H1 := Lib.hid (And.intro hB1 (And.intro hx (And.intro hsx (And.intro hsz hi)))); clear hB1 hx hsx hsz hi m0 m2 m1; dsimp only
  iterate 4 go_step
  refine wpList_store_row rfl _ _ _ rfl w1.heap.size sx rfl rfl 23 Y (heap_alloc_new w1 _) H1.out.2.2.2.2 (by rw [HY.out, H1.out.2.2.2.1]; simp [noughts32]) (by rw [H1.out.2.2.1]; exact Spell_one _) ?_
  rw [World.setRow_alloc_new]; obtain ⟨W1, hW1⟩ : ∃ W1, W1 = w1.alloc (.cells sx 23) := ⟨_, rfl⟩; rw [← hW1]
  have hB2 : Below w0.heap.size w0 W1 := by rw [hW1]; exact H1.out.1.alloc H1.out.1.size _
  have hr2 : W1.heap[w1.heap.size]? = some (.cells sx 23 (0, 0)) := by rw [hW1]; exact heap_alloc_new w1 _
  have hb2 := (hB2.block b (Array.getElem?_eq_some_iff.1 HB.out.1).1).trans HB.out.1; have hco2 := (hB2.block bo (Array.getElem?_eq_some_iff.1 HB.out.2.1).1).trans HB.out.2.1; obtain ⟨m0, m1, m2⟩ := mac_cell hb2; have hcl := clone_any W1 bo co ok hco2 HB.out.2.2.1; have H2 := Lib.hid (And.intro hB2 hr2); have HC := Lib.hid hcl; clear hW1 hB2 hr2 hb2 hco2 hcl hz2 m0 m2; go_wp2_with (fail); refine HC.out.mono ?_; rintro e W2 ⟨rfl, hW2⟩; dsimp only
  have hB3 : Below W1.heap.size W1 W2 := by rw [hW2]; exact (Below.refl _ W1).alloc (Nat.le_refl _) _
  have hl3 : W2.heap[W1.heap.size]? = some (.cells co 109 (0, 0)) := by rw [hW2]; exact heap_alloc_new W1 _
  have hr3 := (hB3.block _ (Array.getElem?_eq_some_iff.1 H2.out.2).1).trans H2.out.2; have hs2 := H2.out.1.size; have hs1 := (Array.getElem?_eq_some_iff.1 H2.out.2).1; have hgl := HB.out.2.2.2.2; have hT3 := (HB.out.2.2.2.1.below H2.out.1).below hB3; have hok := HB.out.2.2.1
  have hwr := write_any W2 W1.heap.size co ok x (some ⟨w1.heap.size, 0, none⟩) 32 hl3 hok hT3 (by omega) (by omega) (by rw [H1.out.2.1, shaL_length]; omega) (by omega)
    (.inr ⟨w1.heap.size, 0, rfl, by omega, fun i hi => by
      rw [H1.out.2.1, shaL_length] at hi
      rw [cell_of_row _ _ _ _ _ _ hr3, H1.out.2.2.1, ShaA_is, Nat.zero_add, list_map_at _ _ (by rw [shaL_length]; exact hi), H1.out.2.1]⟩) (by rw [H1.out.2.1, shaL_length]; have := HM2.out; omega)
  rw [show x.length = 32 by rw [H1.out.2.1, shaL_length]] at hwr
  have H3 := Lib.hid (And.intro hB3 (And.intro hT3 (And.intro hs2 hs1))); have HW := Lib.hid hwr; clear hB3 hl3 hr3 hs2 hs1 hgl hT3 hok hwr hW2 m1; go_wp2_with (fail); refine HW.out.mono ?_; rintro e W3 ⟨rfl, c3, hc3, hS3, hg3⟩; dsimp only; have hT3 := H3.out.2.1; have hgl := HB.out.2.2.2.2; have hs := H3.out.2.2; have hs4 := H3.out.1.size; have hs5 := hg3.size
  have hsum := sum_any W3 (some ⟨W1.heap.size, 0, none⟩) (ok ++ x) (.inr ⟨_, c3, rfl, hc3, hS3.weak⟩) (hT3.grown hg3 (by omega) (by omega)) (by omega) (by rw [List.length_append, H1.out.2.1, shaL_length]; have := HM2.out; omega)
  have hB4 : Below w0.heap.size w0 W3 := (H2.out.1.trans (H3.out.1.mono hs.1)).trans ⟨hg3.os, hg3.tape, hg3.output, hg3.size, fun k hk => hg3.block k (by omega) (by simp; omega)⟩
  have H4 := Lib.hid hB4; have HS3 := Lib.hid hsum; clear hc3 hS3 hg3 hT3 hgl hs hs4 hs5 hsum hB4; go_wp2_with (fail); refine HS3.out.mono ?_; rintro e w5 ⟨rfl, hB5⟩; obtain ⟨z, hz⟩ : ∃ z, z = ShaA (ok ++ x) := ⟨_, rfl⟩; rw [← hz]
  have hzz : z = ShaA (outerL ik ok l) := by rw [hz, H1.out.2.1]; rfl
  have hzs : z.size = 32 := by rw [hz, ShaA_size]
  have hi : (Tryd.prog.info? 23).map (·.size) = some z.size := by rw [hzs]; exact zero32.2
  have hz1 : z.all (·.oneCell') = true := by rw [hz]; exact Spell_one _
  have hB6 : Below w.heap.size w w5 := H0.out.1.trans ((H4.out.trans (hB5.mono H4.out.size)).mono H0.out.1.size); have hr5 : w5.heap[w.heap.size]? = some (.cells Y 23 (0, 0)) := ((H4.out.trans (hB5.mono H4.out.size)).block _ (Array.getElem?_eq_some_iff.1 H0.out.2).1).trans H0.out.2; have H5 := Lib.hid (And.intro hzz (And.intro hzs (And.intro hi (And.intro hz1 (And.intro hB6 hr5))))); clear hz hzz hzs hi hz1 hB6 hr5 hB5; dsimp only; go_step
  refine wpList_store_row rfl _ _ _ rfl w.heap.size z rfl rfl 23 Y H5.out.2.2.2.2.2 H5.out.2.2.1 (by rw [HY.out, H5.out.2.1]; simp [noughts32]) H5.out.2.2.2.1 ?_
  go_wp2_with (fail); obtain ⟨hzz, hzs, hi, hz1, hB6, hr5⟩ := H5.out
  refine bodyPost_ret (v := .agg z) (results_cell_row rfl _ _ w.heap.size 23 z (0, 0) _ rfl (setRow_heap _ _ Y _ _ _ hr5) Tryd.underlying23 rfl hi) rfl ⟨by rw [hzz], ?_⟩
  exact hB6.trans ⟨rfl, rfl, rfl, by simp, fun k hk => setRow_other _ _ _ _ (by omega)⟩
end Go.Proofs.YtdmnhgbdeifpbaaDoor
namespace Go.Proofs.YtdmnhgbdeifpbaaDoor
open Go.RowKit
def sbHash (B0 : Nat) (l : List (BitVec 8)) : StB := ⟨fun w v => ∃ g, v = .pointer (some ⟨g, 0, none⟩) ∧ B0 ≤ g ∧ HashIn w g l, fun _ _ _ h ⟨g, hv, hb, hg⟩ => ⟨g, hv, hb, hg.below h hg.lt⟩⟩
def sbTwo (B0 : Nat) (ik ok : List (BitVec 8)) : StB := ⟨fun w v => ∃ gi go, v = .agg #[.pointer (some ⟨gi, 0, none⟩), .pointer (some ⟨go, 0, none⟩), .pointer none] ∧ B0 ≤ gi ∧ B0 ≤ go ∧ HashIn w gi ik ∧ HashIn w go ok,
  fun _ _ _ h ⟨gi, go, hv, hb, hb2, hg, hg2⟩ => ⟨gi, go, hv, hb, hb2, hg.below h hg.lt, hg2.below h hg2.lt⟩⟩
def sbMac (B0 : Nat) (ik ok : List (BitVec 8)) : StB := ⟨fun w v => ∃ b gi go, v = .pointer (some ⟨b, 0, none⟩) ∧ w.heap[b]? = some (Obj.cells #[.pointer (some ⟨gi, 0, none⟩), .pointer (some ⟨go, 0, none⟩), .pointer none] 130 (0, 0)) ∧
    B0 ≤ b ∧ B0 ≤ gi ∧ B0 ≤ go ∧ HashIn w gi ik ∧ HashIn w go ok,
  fun _ _ _ h ⟨b, gi, go, hv, hm, k0, k1, k2, hg, hg2⟩ => ⟨b, gi, go, hv, (h.block b (Array.getElem?_eq_some_iff.1 hm).1).trans hm, k0, k1, k2, hg.below h hg.lt, hg2.below h hg2.lt⟩⟩
def NewMac (w : World) (key : List (BitVec 8)) (e : Ending) (w' : World) : Prop :=
  ∃ b, e = .returned (.pointer (some ⟨b, 0, none⟩)) ∧ MacAt w.heap.size w' b (ipad key) (opad key) [] ∧ Below w.heap.size w w'
def newVs (B0 : Nat) (kr : Array Value) (ik ok : List (BitVec 8)) : List StB := [sbEq (.agg kr), sbHash B0 ik, sbEq (.agg kr), sbHash B0 ok, sbTwo B0 ik ok, sbMac B0 ik ok, sbMac B0 ik ok]
set_option maxRecDepth 100000 in
set_option maxHeartbeats 1000000 in
theorem newMac_any (w : World) (a : Option Addr) (cap : Nat) (key : List (BitVec 8)) (hS : SrcP w a key.length key) (hcap : key.length ≤ cap) (hmax : cap ≤ 9223372036854775807) (hlen : key.length < 1152921504606846976)
    (hT : Tables w) (hgl : 0 < w.heap.size ∧ 1 < w.heap.size) :
    Calls Tryd.prog 77 #[.slice a key.length cap] w (NewMac w key) := by
  obtain ⟨Z, hZ⟩ : ∃ Z : Array Value, Z = Array.replicate 64 (.int .u8 0) := ⟨_, rfl⟩
  have hz : ∀ w, (zeroValue 107).run Tryd.prog w = .ok (.agg Z) w := by rw [hZ]; exact zero64.1
  have HZ := Lib.hid hZ; have HW := Lib.hid (whole_any w a cap key hS hcap hmax hlen hT hgl); have HX := Lib.hid (And.intro hT hgl); obtain ⟨L, hL⟩ : ∃ L, L = key.length := ⟨_, rfl⟩; rw [← hL] at HW ⊢; clear hZ hS hT hgl hL hcap hmax hlen
  go_enter Tryd.func77, Tryd.ntmps77
  go_wp2_with (fail); refine HW.out.mono ?_; rintro e w1 ⟨rfl, hB1⟩; obtain ⟨kr, hkr⟩ : ∃ kr, kr = ((keyL key).map B).toArray := ⟨_, rfl⟩; rw [← hkr]
  have hks : kr.size = 64 := by rw [hkr, row_size, keyL_length]
  have hi : (Tryd.prog.info? 107).map (·.size) = some kr.size := by rw [hks]; exact zero64.2
  have hk1 : kr.all (·.oneCell') = true := by rw [hkr]; exact row_one _
  have HK := Lib.hid (And.intro hkr (And.intro hks (And.intro hi (And.intro hk1 hB1)))); clear hkr hks hi hk1 hB1; dsimp only
  iterate 4 go_step
  refine wpList_store_row rfl _ _ _ rfl w1.heap.size kr rfl rfl 107 Z (heap_alloc_new w1 _) HK.out.2.2.1 (by rw [HZ.out, HK.out.2.1]; simp) HK.out.2.2.2.1 ?_
  rw [World.setRow_alloc_new]; obtain ⟨W0, hW0⟩ : ∃ W0, W0 = w1.alloc (.cells kr 107) := ⟨_, rfl⟩; rw [← hW0]
  have hB2 : Below w.heap.size w W0 := by rw [hW0]; exact HK.out.2.2.2.2.alloc HK.out.2.2.2.2.size _
  have hr : W0.heap[w1.heap.size]? = some (.cells kr 107 (0, 0)) := by rw [hW0]; exact heap_alloc_new w1 _
  have H0 := Lib.hid (And.intro hB2 hr); clear hW0 hB2 hr hz
  go_upto_region 2 with (fail)
  refine wp_region_local_frame (by kernel_rfl) (vOfB (newVs w.heap.size kr (ipad key) (opad key))) (fun w' => Below W0.heap.size W0 w') (fun w w' => Below w.heap.size w w') (vOfB_st _) (by kernel_rfl) ⟨rfl, rfl, rfl, Nat.le_refl _, fun _ _ => rfl⟩ ⟨trivial, trivial, trivial, trivial, trivial, trivial, trivial, trivial⟩ ?_ ?_
  · have HF : Hid (Tables W0 ∧ 0 < W0.heap.size ∧ 1 < W0.heap.size) := by
      obtain ⟨hT, hgl⟩ := HX.out; have := H0.out.1.size
      exact ⟨hT.below H0.out.1, by omega, by omega⟩
    refine ⟨?_, ?_, ?_, ?_, ?_, ?_, ?_, trivial⟩
    · intro a w' hG hout hpre K hK; refine wp_load_row _ _ rfl w1.heap.size ((hout 3 rfl).trans rfl) 107 kr (0, 0) _ ((hG.block _ (Array.getElem?_eq_some_iff.1 H0.out.2).1).trans H0.out.2) Tryd.underlying107 rfl HK.out.2.2.1 ?_; exact hK _ _ rfl hG (Below.refl _ _)
    · intro a w' hG hout hpre K hK; obtain ⟨p0, _⟩ := hpre; have q7 := ev_of (show a.eval (.tmp 7) = .agg kr from p0); have HG := Lib.hid hG
      have hb := begin_any w' (keyL key) 0x36 (keyL_length key) (HF.out.1.below hG) (by have := hG.size; have := HF.out.2; omega)
      rw [← HK.out.1] at hb; have HB := Lib.hid hb; clear hout hb hG p0; go_step; refine HB.out.mono ?_; rintro e w3 ⟨g, c, rfl, hg, hc, hH, hB⟩; have hG := HG.out
      exact hK _ _ ⟨g, rfl, by have := hG.size; have := H0.out.1.size; omega, c, hc, hH⟩ (hG.trans (hB.mono hG.size)) hB
    · intro a w' hG hout hpre K hK; refine wp_load_row _ _ rfl w1.heap.size ((hout 3 rfl).trans rfl) 107 kr (0, 0) _ ((hG.block _ (Array.getElem?_eq_some_iff.1 H0.out.2).1).trans H0.out.2) Tryd.underlying107 rfl HK.out.2.2.1 ?_; exact hK _ _ rfl hG (Below.refl _ _)
    · intro a w' hG hout hpre K hK; obtain ⟨p0, _⟩ := hpre; have q7 := ev_of (show a.eval (.tmp 9) = .agg kr from p0); have HG := Lib.hid hG
      have hb := begin_any w' (keyL key) 0x5c (keyL_length key) (HF.out.1.below hG) (by have := hG.size; have := HF.out.2; omega)
      rw [← HK.out.1] at hb; have HB := Lib.hid hb; clear hout hb hG p0; go_step; refine HB.out.mono ?_; rintro e w3 ⟨g, c, rfl, hg, hc, hH, hB⟩; have hG := HG.out
      exact hK _ _ ⟨g, rfl, by have := hG.size; have := H0.out.1.size; omega, c, hc, hH⟩ (hG.trans (hB.mono hG.size)) hB
    · intro a w' hG hout hpre K hK; obtain ⟨p0, p1, _⟩ := hpre; obtain ⟨gi, hv1, k1, h1⟩ := show (sbHash w.heap.size (ipad key)).p w' (a.eval (.tmp 8)) from p0; obtain ⟨go, hv2, k2, h2⟩ := show (sbHash w.heap.size (opad key)).p w' (a.eval (.tmp 10)) from p1; have q1 := ev_of hv1; have q2 := ev_of hv2; have HG := Lib.hid (And.intro hG (And.intro h1 h2)); have hz47 : ∀ w, (zeroValue 130).run Tryd.prog w = .ok (.agg #[.pointer none, .pointer none, .pointer none]) w := fun w => rfl; clear hout hG h1 h2 hv1 hv2; go_step; obtain ⟨hG, h1, h2⟩ := HG.out; exact hK _ _ ⟨gi, go, rfl, k1, k2, h1, h2⟩ hG (Below.refl _ _)
    · intro a w' hG hout hpre K hK; obtain ⟨p0, _⟩ := hpre; obtain ⟨gi, go, hv, k1, k2, h1, h2⟩ := show (sbTwo w.heap.size (ipad key) (opad key)).p w' (a.eval (.tmp 11)) from p0; have q := ev_of hv; have HG := Lib.hid (And.intro hG (And.intro h1 h2)); clear hout hG h1 h2 hv; go_step; obtain ⟨hG, h1, h2⟩ := HG.out; have hs := hG.size; have hs2 := H0.out.1.size; have hB : Below w'.heap.size w' (w'.alloc (.cells #[.pointer (some ⟨gi, 0, none⟩), .pointer (some ⟨go, 0, none⟩), .pointer none] 130)) := (Below.refl _ w').alloc (Nat.le_refl _) _
      exact hK _ _ ⟨w'.heap.size, gi, go, rfl, heap_alloc_new w' _, by omega, k1, k2, h1.below hB h1.lt, h2.below hB h2.lt⟩ (hG.trans (hB.mono hs)) hB
    · intro a w' hG hout hpre K hK; obtain ⟨p0, _⟩ := hpre; unfold Oper.wp; exact hK _ _ p0 hG (Below.refl _ _)
  · intro vs w2 hG hlen hV
    match vs, hlen, hV with
    | [v0, v1, v2, v3, v4, v5, v6], _, hV =>
      obtain ⟨b, gi, go, hv, hb, k0, k1, k2, h1, h2⟩ := show (sbMac w.heap.size (ipad key) (opad key)).p w2 v6 from hV 6 4 v6 rfl rfl; have HR := Lib.hid (mreset_row w2 w.heap.size b gi go _ (ipad key) (opad key) hb h1 h2 k0 k1 k2); have HG := Lib.hid (H0.out.1.trans (hG.mono H0.out.1.size)); subst hv; clear hV hb h1 h2 k0 k1 k2 hG; simp only [putsL, List.tail_cons, List.headD_cons]; go_wp2_with (fail); refine HR.out.mono ?_; rintro e w3 ⟨rfl, hM, hKp⟩; have H3 := Lib.hid (And.intro hM hKp); clear hM hKp; dsimp only; go_wp2_with (fail); go_ret; exact ⟨b, rfl, H3.out.1, HG.out.trans H3.out.2.1⟩
end Go.Proofs.YtdmnhgbdeifpbaaDoor
namespace Go.Proofs.YtdmnhgbdeifpbaaDoor
open Go.RowKit
def TagRel (w0 : World) (B0 b : Nat) (ik ok : List (BitVec 8)) (ps : List Part) (k : Value) (wr : World) : Prop :=
  ∃ t : Nat, t ≤ ps.length ∧ k = .int .i64 t ∧ MacAt B0 wr b ik ok (flat (ps.take t)) ∧ Kept B0 w0 wr
set_option maxRecDepth 100000 in
set_option maxHeartbeats 1000000 in
theorem htag_any (w : World) (a ap : Option Addr) (cap capp : Nat) (key : List (BitVec 8)) (ps : List Part) (hS : SrcP w a key.length key) (hcap : key.length ≤ cap) (hmax : cap ≤ 9223372036854775807) (hlen : key.length < 1152921504606846976)
    (hP : PartsAt w ap ps) (hok : ∀ p ∈ ps, p.ok w) (hps : ps.length ≤ 9223372036854775807) (hfl : (flat ps).length < 1152921504606846000) (hT : Tables w) (hgl : 0 < w.heap.size ∧ 1 < w.heap.size) :
    Calls Tryd.prog 52 #[.slice a key.length cap, .slice ap ps.length capp] w (Below0 w (.agg (ShaA (macL key (flat ps))))) := by
  obtain ⟨Y, hY⟩ : ∃ Y : Array Value, Y = noughts32 := ⟨_, rfl⟩
  have hz2 : ∀ w, (zeroValue 23).run Tryd.prog w = .ok (.agg Y) w := by rw [hY]; exact zero32.1
  have HY := Lib.hid hY; obtain ⟨w0, hw0⟩ : ∃ w0, w0 = w.alloc (.cells Y 23) := ⟨_, rfl⟩
  have hB0 : Below w.heap.size w w0 := by rw [hw0]; exact (Below.refl _ w).alloc (Nat.le_refl _) _
  have hr0 : w0.heap[w.heap.size]? = some (.cells Y 23 (0, 0)) := by rw [hw0]; exact heap_alloc_new w _
  have h0s : w.heap.size < w0.heap.size := (Array.getElem?_eq_some_iff.1 hr0).1
  have HN := Lib.hid (newMac_any w0 a cap key (hS.below hB0) hcap hmax hlen (hT.below hB0) (by omega))
  have H0 := Lib.hid (And.intro hB0 (And.intro hr0 h0s)); obtain ⟨L, hL⟩ : ∃ L, L = key.length := ⟨_, rfl⟩; rw [← hL] at HN ⊢; obtain ⟨K, hK⟩ : ∃ K, K = ps.length := ⟨_, rfl⟩; rw [← hK] at hps ⊢; have HK := Lib.hid hK; have HP := Lib.hid (And.intro hP (And.intro hok (And.intro hT (And.intro hgl hfl)))); clear hY hB0 hr0 h0s hS hcap hmax hlen hL hK hP hok hT hgl hfl
  go_enter Tryd.func52, Tryd.ntmps52
  go_upto_region 1 with (fail)
  rw [← hw0]; clear hw0 hz2; go_wp2_with (fail); refine HN.out.mono ?_; rintro e w1 ⟨b, rfl, hM, hB1⟩; obtain ⟨B0, hB0e⟩ : ∃ B0, B0 = w0.heap.size := ⟨_, rfl⟩; rw [← hB0e] at hM hB1; obtain ⟨ik, hik⟩ : ∃ ik, ik = ipad key := ⟨_, rfl⟩; obtain ⟨ok, hok⟩ : ∃ ok, ok = opad key := ⟨_, rfl⟩; rw [← hik, ← hok] at hM; have HB0 := Lib.hid hB0e; have HPAD := Lib.hid (And.intro hik hok); have H1 := Lib.hid (And.intro hM hB1); clear hB0e hik hok hM hB1 HN; dsimp only; go_wp2_with (fail)
  go_loopw [12] (TagRel w1 B0 b ik ok ps) (fun k _ => K - (intOf k).toNat)
  case atStart => exact ⟨0, by omega, rfl, H1.out.1, Kept.refl _ _⟩
  case round =>
    obtain ⟨t, ht, rfl, hM, hKp⟩ := hrel; rw [← HK.out] at ht; have hBw : Below B0 w0 wr := H1.out.2.trans hKp.1; have HR := Lib.hid (And.intro hM (And.intro hKp hBw)); clear hM hKp hBw
    by_cases hlt : t < K
    · obtain ⟨p, hp⟩ : ∃ p, ps[t]? = some p := ⟨ps[t]'(by rw [← HK.out]; exact hlt), List.getElem?_eq_getElem (by rw [← HK.out]; exact hlt)⟩
      have hpm : p ∈ ps := List.mem_of_getElem? hp
      rcases HP.out.1 with hP | ⟨pb, po, rfl, hP⟩
      · rw [hP] at hp
        cases hp
      have i0 : (0 : Int) ≤ (t : Int) ∧ (t : Int) < (K : Int) := by omega
      have hB0 := HB0.out
      have hcell : wr.cell? ⟨pb, po + t, none⟩ = some (.slice p.a p.m.length p.cap) := by
        have h1 := hP t p hp; have h2 := block_lt_of_cell h1; have h3 := (H0.out.1.cell (p := ⟨pb, po + t, none⟩) h2).trans h1
        exact (HR.out.2.2.cell (p := ⟨pb, po + t, none⟩) (by simp at h2 ⊢; have := H0.out.2.2; omega)).trans h3
      have HY := Lib.hid (And.intro hp hpm); clear hp hpm hP hB0; go_wp2_with (fail); obtain ⟨hM, hKp, hBw⟩ := HR.out; obtain ⟨hP, hok, hT, hgl, hfl⟩ := HP.out; obtain ⟨hp, hpm⟩ := HY.out; have hB0 := HB0.out; have h0s := H0.out.2.2; have hpo := hok p hpm; have hfs := flat_step ps t p hp; have hftl := flat_take_length ps (t + 1); have hT0 := hT.below H0.out.1
      have hsrc : ∀ (g : Nat) (c : Array Value), B0 ≤ g → wr.heap[g]? = some (Obj.cells c 109 (0, 0)) → Src wr g p.a p.m.length p.m 0 := fun g c hg _ => by
        have h1 := (hpo.2.2.src (b := g) (by omega)).belowS H0.out.1
        exact h1.belowS (by rw [← hB0]; exact hBw)
      refine (mwrite_any wr B0 b p.m.length ik ok (flat (ps.take t)) p.m p.a p.cap hM (hT0.below (by rw [← hB0]; exact hBw)) (by omega) rfl hpo.1 hpo.2.1 hsrc (by rw [HPAD.out.1, ipad_length]; rw [hfs, List.length_append] at hftl; omega)).mono ?_
      rintro e w' ⟨rfl, hM', hK'⟩; rw [← hfs] at hM'; have HW := Lib.hid (And.intro hM' (hKp.trans hK')); clear hM hKp hBw hP hok hT hgl hfl hp hpm hB0 h0s hpo hfs hftl hT0 hsrc hM' hK'; dsimp only; go_wp2_with (fail)
      exact ⟨⟨t + 1, by rw [← HK.out]; omega, by go_num, HW.out.1, HW.out.2⟩, by simp [intOf]; omega⟩
    · obtain rfl : t = K := by omega
      obtain ⟨hM, hKp, hBw⟩ := HR.out; rw [HK.out, List.take_length] at hM; have hB0 := HB0.out
      have hT0 := (HP.out.2.2.1.below H0.out.1).below (by rw [← hB0]; exact hBw)
      have hgl := HP.out.2.2.2.1; have hs := H0.out.2.2; have hs2 := hBw.size
      have hsm := msum_any wr B0 b ik ok (flat ps) hM hT0 (by omega) (by rw [HPAD.out.1, ipad_length]; have := HP.out.2.2.2.2; omega) (by rw [HPAD.out.2, opad_length]; omega)
      have HS := Lib.hid hsm; clear hM hKp hBw hB0 hT0 hgl hs hs2 hsm; go_wp2_with (fail); refine HS.out.mono ?_; rintro e w2 ⟨rfl, hB2⟩; obtain ⟨z, hz⟩ : ∃ z, z = ShaA (outerL ik ok (flat ps)) := ⟨_, rfl⟩; rw [← hz]
      have hzz : z = ShaA (macL key (flat ps)) := by rw [hz, HPAD.out.1, HPAD.out.2]; rfl
      have hzs : z.size = 32 := by rw [hz, ShaA_size]
      have hi : (Tryd.prog.info? 23).map (·.size) = some z.size := by rw [hzs]; exact zero32.2
      have hz1 : z.all (·.oneCell') = true := by rw [hz]; exact Spell_one _
      have hBw := HR.out.2.2
      have hB3 : Below B0 w0 w2 := hBw.trans (hB2.mono (by rw [HB0.out]; exact hBw.size))
      have hB4 : Below w.heap.size w w2 := H0.out.1.trans (hB3.mono (by rw [HB0.out]; exact H0.out.1.size))
      have hr2 : w2.heap[w.heap.size]? = some (.cells Y 23 (0, 0)) := (hB3.block _ (by rw [HB0.out]; exact H0.out.2.2)).trans H0.out.2.1
      have H5 := Lib.hid (And.intro hzz (And.intro hzs (And.intro hi (And.intro hz1 (And.intro hB4 hr2))))); clear hz hzz hzs hi hz1 hBw hB3 hB4 hr2 hB2; dsimp only; go_step
      refine wpList_store_row rfl _ _ _ rfl w.heap.size z rfl rfl 23 Y H5.out.2.2.2.2.2 H5.out.2.2.1 (by rw [HY.out, H5.out.2.1]; simp [noughts32]) H5.out.2.2.2.1 ?_
      go_wp2_with (fail); obtain ⟨hzz, hzs, hi, hz1, hB6, hr5⟩ := H5.out
      refine bodyPost_ret (v := .agg z) (results_cell_row rfl _ _ w.heap.size 23 z (0, 0) _ rfl (setRow_heap _ _ Y _ _ _ hr5) Tryd.underlying23 rfl hi) rfl ⟨by rw [hzz], ?_⟩
      exact hB6.trans ⟨rfl, rfl, rfl, by simp, fun k hk => setRow_other _ _ _ _ (by omega)⟩
set_option maxRecDepth 100000 in
set_option maxHeartbeats 1000000 in
theorem hgood_any (w : World) (a ap at_ : Option Addr) (cap capp capt : Nat) (key t : List (BitVec 8)) (ps : List Part) (hS : SrcP w a key.length key) (hcap : key.length ≤ cap) (hmax : cap ≤ 9223372036854775807) (hlen : key.length < 1152921504606846976)
    (hP : PartsAt w ap ps) (hok : ∀ p ∈ ps, p.ok w) (hps : ps.length ≤ 9223372036854775807) (hfl : (flat ps).length < 1152921504606846000) (ht : SrcP w at_ t.length t) (htl : t.length ≤ 9223372036854775807)
    (hT : Tables w) (hgl : 0 < w.heap.size ∧ 1 < w.heap.size) :
    Calls Tryd.prog 54 #[.slice a key.length cap, .slice at_ t.length capt, .slice ap ps.length capp] w (Below0 w (.bool (decide (shaL (macL key (flat ps)) = t)))) := by
  obtain ⟨Y, hY⟩ : ∃ Y : Array Value, Y = noughts32 := ⟨_, rfl⟩
  have hz2 : ∀ w, (zeroValue 23).run Tryd.prog w = .ok (.agg Y) w := by rw [hY]; exact zero32.1
  have HY := Lib.hid hY; have HTG := Lib.hid (htag_any w a ap cap capp key ps hS hcap hmax hlen hP hok hps hfl hT hgl); obtain ⟨L, hL⟩ : ∃ L, L = key.length := ⟨_, rfl⟩; rw [← hL] at HTG ⊢; obtain ⟨K, hK⟩ : ∃ K, K = ps.length := ⟨_, rfl⟩; rw [← hK] at HTG ⊢; obtain ⟨M, hM⟩ : ∃ M, M = t.length := ⟨_, rfl⟩; rw [← hM]; obtain ⟨x, hx⟩ : ∃ x, x = shaL (macL key (flat ps)) := ⟨_, rfl⟩; rw [← hx]; have HX := Lib.hid (And.intro ht (And.intro htl (And.intro hx hM))); clear hY hS hcap hmax hlen hP hok hps hfl ht htl hT hgl hL hK hM hx
  go_enter Tryd.func54, Tryd.ntmps54
  go_wp2_with (fail); refine HTG.out.mono ?_; rintro e w1 ⟨rfl, hB1⟩; obtain ⟨z, hz⟩ : ∃ z, z = ShaA (macL key (flat ps)) := ⟨_, rfl⟩; rw [← hz]
  have hzz : z = (x.map B).toArray := by rw [hz, ShaA_is, HX.out.2.2.1]
  have hzs : z.size = 32 := by rw [hz, ShaA_size]
  have hi : (Tryd.prog.info? 23).map (·.size) = some z.size := by rw [hzs]; exact zero32.2
  have hz1 : z.all (·.oneCell') = true := by rw [hz]; exact Spell_one _
  have H1 := Lib.hid (And.intro hzz (And.intro hzs (And.intro hi (And.intro hz1 hB1)))); clear hz hzz hzs hi hz1 hB1; dsimp only
  iterate 4 go_step
  refine wpList_store_row rfl _ _ _ rfl w1.heap.size z rfl rfl 23 Y (heap_alloc_new w1 _) H1.out.2.2.1 (by rw [HY.out, H1.out.2.1]; simp [noughts32]) H1.out.2.2.2.1 ?_
  rw [World.setRow_alloc_new]; obtain ⟨W1, hW1⟩ : ∃ W1, W1 = w1.alloc (.cells z 23) := ⟨_, rfl⟩; rw [← hW1]
  have hB2 : Below w.heap.size w W1 := by rw [hW1]; exact H1.out.2.2.2.2.alloc H1.out.2.2.2.2.size _
  have hr2 : W1.heap[w1.heap.size]? = some (.cells z 23 (0, 0)) := by rw [hW1]; exact heap_alloc_new w1 _
  have hxl : x.length = 32 := by rw [HX.out.2.2.1, shaL_length]
  have hs1 : SrcP W1 (some ⟨w1.heap.size, 0, none⟩) x.length x := by
    rw [H1.out.1] at hr2; exact src_row hr2
  have hsm := same_any W1 (some ⟨w1.heap.size, 0, none⟩) at_ x t 32 capt hs1 (HX.out.1.below hB2) (by omega) HX.out.2.1
  rw [hxl, ← HX.out.2.2.2] at hsm; have HS := Lib.hid hsm; have H2 := Lib.hid hB2; clear hW1 hB2 hr2 hxl hs1 hsm hz2; go_wp2_with (fail); refine HS.out.mono ?_; rintro e w2 ⟨rfl, n, rfl⟩; dsimp only; go_wp2_with (fail); go_ret; exact ⟨rfl, below_draws H2.out n⟩
end Go.Proofs.YtdmnhgbdeifpbaaDoor
