/-
  The contract of begin: a sum begun with a whole key, each byte turned.
-/
import Derived.Test.YtmdacfbhfacniaaDoorHmacWhole
namespace Go.Proofs.YtmdacfbhfacniaaDoor
open Go.RowKit

def turned (x : BitVec 8) (K : List (BitVec 8)) (t j : Nat) : BitVec 8 := if j < t then gl K j ^^^ x else gl K j
def BegRel (w : World) (x : BitVec 8) (K : List (BitVec 8)) (k : Value) (wr : World) : Prop :=
  ∃ (t : Nat) (c : Array Value), t ≤ 64 ∧ k = .int .i64 t ∧ wr = w.alloc (.cells c 42) ∧ c.size = 64 ∧ ∀ j < 64, c[j]? = some (B (turned x K t j))
/-- A new hash that took the bytes l. -/
def NewHash (w : World) (l : List (BitVec 8)) (e : Ending) (w' : World) : Prop :=
  ∃ g c, e = .returned (.pointer (some ⟨g, 0, none⟩)) ∧ w.heap.size ≤ g ∧ w'.heap[g]? = some (.cells c 57 (0, 0)) ∧ HashW c l ∧ Below w.heap.size w w'

theorem turned_start (x : BitVec 8) (K : List (BitVec 8)) (h : K.length = 64) : ((K.map B).toArray).size = 64 ∧ ∀ j < 64, ((K.map B).toArray)[j]? = some (B (turned x K 0 j)) :=
  ⟨by rw [row_size, h], fun j hj => by rw [list_map_at K j (by omega)]; rfl⟩
theorem turned_step (x : BitVec 8) (K : List (BitVec 8)) (t : Nat) (c : Array Value) (h : c.size = 64) (hc : ∀ j < 64, c[j]? = some (B (turned x K t j))) (ht : t < 64) :
    (c.setIfInBounds t (B (gl K t ^^^ x))).size = 64 ∧ ∀ j < 64, (c.setIfInBounds t (B (gl K t ^^^ x)))[j]? = some (B (turned x K (t + 1) j)) := by
  refine ⟨by simp [h], fun j hj => ?_⟩
  rw [Array.getElem?_setIfInBounds]
  split
  · rename_i e
    subst e
    rw [if_pos (by omega), turned, if_pos (by omega)]
  · rename_i e
    rw [hc j hj, turned, turned]
    by_cases h1 : j < t
    · rw [if_pos h1, if_pos (by omega)]
    · rw [if_neg h1, if_neg (by omega)]
theorem turned_all (x : BitVec 8) (K : List (BitVec 8)) (h : K.length = 64) (i : Nat) (hi : i < 64) : turned x K 64 i = gl (xorL x K) i := by
  simp [turned, hi, xorL, gl, h]

set_option maxRecDepth 100000 in
set_option maxHeartbeats 1000000 in
theorem begin_any (w : World) (K : List (BitVec 8)) (x : BitVec 8) (hK : K.length = 64) (hT : Tables w) (hgl : 0 < w.heap.size ∧ 1 < w.heap.size) :
    Calls Tryd.prog 17 #[.agg (K.map B).toArray, B x] w (NewHash w (xorL x K)) := by
  obtain ⟨hs0, hc0⟩ := turned_start x K hK
  obtain ⟨c0, hc00⟩ : ∃ c0, c0 = (K.map B).toArray := ⟨_, rfl⟩
  rw [← hc00] at hs0 hc0 ⊢
  have HX := Lib.hid (And.intro hs0 (And.intro hc0 (And.intro hK (And.intro hT hgl))))
  clear hs0 hc0 hK hT hgl hc00
  go_enter Tryd.func17, Tryd.ntmps17
  go_wp2_with (fail)
  go_loopw [7] (BegRel w x K) (fun k _ => 64 - (intOf k).toNat)
  case atStart => exact ⟨0, c0, by omega, rfl, rfl, HX.out.1, HX.out.2.1⟩
  case round =>
    obtain ⟨t, c, ht, rfl, rfl, hs, hc⟩ := hrel
    by_cases hlt : t < 64
    · have i0 : (0 : Int) ≤ (t : Int) ∧ (t : Int) < 64 := by omega
      have hct : c[t]? = some (B (gl K t)) := by rw [hc t hlt, turned, if_neg (by omega)]
      have hcell : (w.alloc (.cells c 42)).cell? ⟨w.heap.size, t, none⟩ = some (B (gl K t)) := by rw [cell_of_row _ _ _ _ _ _ (heap_alloc_new w _)]; exact hct
      have HC := Lib.hid (And.intro hs (And.intro hc hct))
      clear hs hc hct
      go_upto_region 4 with (fail)
      refine wp_region_lit ?_
      iterate 18 go_step
      refine wpList_store1 rfl _ _ _ rfl ⟨w.heap.size, t, none⟩ (B (gl K t ^^^ x)) _ rfl rfl rfl rfl Tryd.sizeOf5 hcell (by go_simp) ?_
      rw [setCell_1]
      have HS := Lib.hid (turned_step x K t c HC.out.1 HC.out.2.1 hlt)
      clear hcell
      go_wp2_with (fail)
      exact ⟨⟨t + 1, _, by omega, by go_num, rfl, HS.out.1, HS.out.2⟩, by simp [intOf]; omega⟩
    · obtain rfl : t = 64 := by omega
      rw [show ((64 : Nat) : Int) = 64 from rfl]
      obtain ⟨W0, hW0⟩ : ∃ W0, W0 = w.alloc (.cells c 42) := ⟨_, rfl⟩
      rw [← hW0]
      have hB0 : Below w.heap.size w W0 := by rw [hW0]; exact (Below.refl _ w).alloc (Nat.le_refl _) _
      have hr0 : W0.heap[w.heap.size]? = some (.cells c 42 (0, 0)) := by rw [hW0]; exact heap_alloc_new w _
      have h0s : w.heap.size < W0.heap.size := (Array.getElem?_eq_some_iff.1 hr0).1
      have H0 := Lib.hid (And.intro hB0 (And.intro hr0 (And.intro h0s (And.intro hs hc))))
      clear hW0 hB0 hr0 h0s hs hc
      go_wp2_with (fail)
      refine (new_any W0).mono ?_
      rintro e W1 ⟨rfl, hW1⟩
      dsimp only
      have hB1 : Below W0.heap.size W0 W1 := by rw [hW1]; exact (Below.refl _ W0).alloc (Nat.le_refl _) _
      have hb1 : W1.heap[W0.heap.size]? = some (.cells zeroHash 57 (0, 0)) := by rw [hW1]; exact heap_alloc_new W0 _
      have H1 := Lib.hid (And.intro hB1 hb1)
      clear hW1 hB1 hb1
      go_wp2_with (fail)
      obtain ⟨hB0, hr0, h0s, hs, hc⟩ := H0.out
      obtain ⟨hB1, hb1⟩ := H1.out
      obtain ⟨_, _, hK, hT, hgl⟩ := HX.out
      have hr1 : W1.heap[w.heap.size]? = some (.cells c 42 (0, 0)) := (hB1.block _ h0s).trans hr0
      have hxl : (xorL x K).length = 64 := by rw [xorL_length, hK]
      have hsrc : Src W1 W0.heap.size (some ⟨w.heap.size, 0, none⟩) (xorL x K).length (xorL x K) 0 := by
        refine .inr ⟨w.heap.size, 0, rfl, by omega, fun i hi => ?_⟩
        rw [hxl] at hi
        rw [cell_of_row _ _ _ _ _ _ hr1, Nat.zero_add, hc i hi, turned_all x K hK i hi]
      have hwr := write_any W1 W0.heap.size zeroHash [] (xorL x K) (some ⟨w.heap.size, 0, none⟩) 64 hb1 zeroHash_is ((hT.below hB0).below hB1) (by omega) (by omega) (by omega) (by omega) hsrc (by simp; omega)
      rw [hxl] at hwr
      have HW := Lib.hid hwr
      clear hB0 hr0 h0s hs hc hB1 hb1 hK hT hgl hr1 hxl hsrc hwr
      refine HW.out.mono ?_
      rintro e W2 ⟨rfl, c2, hb2, hS2, hg2⟩
      have H2 := Lib.hid (And.intro hb2 (And.intro (show HashS c2 (xorL x K) from hS2) hg2))
      clear hb2 hS2 hg2
      dsimp only
      go_wp2_with (fail)
      go_ret
      obtain ⟨hB0, hr0, h0s, hs, hc⟩ := H0.out
      obtain ⟨hB1, hb1⟩ := H1.out
      obtain ⟨hb2, hS2, hg2⟩ := H2.out
      exact ⟨_, c2, rfl, by omega, hb2, hS2.weak, (hB0.trans (hB1.mono (by omega))).trans ⟨hg2.os, hg2.tape, hg2.output, hg2.size, fun k hk => hg2.block k (by have := hB1.size; omega) (by simp; omega)⟩⟩
end Go.Proofs.YtmdacfbhfacniaaDoor
