/-
  The contract of whole: a key brought to a block.
-/
import Derived.Test.YtmdacfbhfacniaaDoorHmacPure
namespace Go.Proofs.YtmdacfbhfacniaaDoor
open Go.RowKit

theorem zero64 : (∀ w, (zeroValue 42).run Tryd.prog w = .ok (.agg (Array.replicate 64 (.int .u8 0))) w) ∧ (Tryd.prog.info? 42).map (·.size) = some 64 := zero_of_info (n := 64) (by kernel_rfl)
theorem zero32 : (∀ w, (zeroValue 25).run Tryd.prog w = .ok (.agg (Array.replicate 32 (.int .u8 0))) w) ∧ (Tryd.prog.info? 25).map (·.size) = some 32 := zero_of_info (n := 32) (by kernel_rfl)

/-- One slice alone in a new row. -/
theorem parts_one {w : World} {g : Nat} {e : TypeId} {fr : Nat × Nat} (p : Part) (hg : w.heap[g]? = some (.cells #[p.val] e fr)) : PartsAt w (some ⟨g, 0, none⟩) [p] := by
  refine .inr ⟨g, 0, rfl, fun i q hq => ?_⟩
  rw [cell_of_row _ _ _ _ _ _ hg, Nat.zero_add]
  match i, hq with
  | 0, hq => cases hq; rfl
theorem flat_one (p : Part) : flat [p] = p.m := by simp [flat]

/-- A short list of bytes laid over noughts. -/
theorem laid_noughts (n : Nat) (s : List (BitVec 8)) :
    splice (Array.replicate n (Value.int .u8 0)).toList 0 (s.map B) = (s ++ List.replicate (n - s.length) 0).map B := by
  rw [splice, Array.toList_replicate, List.take_zero, List.drop_replicate]
  simp [B]

def WholeEnd (w : World) (Z : Array Value) (s : List (BitVec 8)) (s0 : Value) (wx : World) : Prop :=
  ∃ a n c, s0 = .slice a n c ∧ n = s.length ∧ SrcP wx a s.length s ∧ Below w.heap.size w wx ∧ wx.heap[w.heap.size]? = some (.cells Z 42 (0, 0)) ∧ wx.heap[w.heap.size + 1]? = some (.cells Z 42 (0, 0))

set_option maxRecDepth 100000 in
set_option maxHeartbeats 1000000 in
theorem whole_any (w : World) (a : Option Addr) (cap : Nat) (key : List (BitVec 8)) (hS : SrcP w a key.length key) (hcap : key.length ≤ cap) (hmax : cap ≤ 9223372036854775807) (hlen : key.length < 1152921504606846976)
    (hT : Tables w) (hgl : 0 < w.heap.size ∧ 1 < w.heap.size) :
    Calls Tryd.prog 16 #[.slice a key.length cap] w (Below0 w (.agg ((keyL key).map B).toArray)) := by
  obtain ⟨Z, hZ⟩ : ∃ Z : Array Value, Z = Array.replicate 64 (.int .u8 0) := ⟨_, rfl⟩
  have hz : ∀ w, (zeroValue 42).run Tryd.prog w = .ok (.agg Z) w := by rw [hZ]; exact zero64.1
  obtain ⟨Y, hY⟩ : ∃ Y : Array Value, Y = Array.replicate 32 (.int .u8 0) := ⟨_, rfl⟩
  have hz2 : ∀ w, (zeroValue 25).run Tryd.prog w = .ok (.agg Y) w := by rw [hY]; exact zero32.1
  have HZ := Lib.hid hZ
  have HY := Lib.hid hY
  obtain ⟨L, hL⟩ : ∃ L, L = key.length := ⟨_, rfl⟩
  have HX := Lib.hid (And.intro hS (And.intro hT hgl))
  rw [← hL] at hcap hlen ⊢
  have HL := Lib.hid hL
  clear hZ hY hS hT hgl hL
  go_enter Tryd.func16, Tryd.ntmps16
  go_upto_if 7 with (fail)
  obtain ⟨w0, hw0⟩ : ∃ w0, w0 = (w.alloc (.cells Z 42)).alloc (.cells Z 42) := ⟨_, rfl⟩
  rw [← hw0]
  have hB : Below w.heap.size w w0 := by rw [hw0]; exact ((Below.refl _ w).alloc (Nat.le_refl _) _).alloc (by simp) _
  have hr0 : w0.heap[w.heap.size]? = some (.cells Z 42 (0, 0)) := by rw [hw0]; exact heap_alloc2_old w _ _
  have hr1 : w0.heap[w.heap.size + 1]? = some (.cells Z 42 (0, 0)) := by rw [hw0]; exact heap_alloc2_new w _ _
  have H0 := Lib.hid (And.intro hB (And.intro hr0 hr1))
  clear hB hr0 hr1 hw0 hz
  go_cut [0, 4] from 7 to 11 (fun s0 _ wx => WholeEnd w Z (shortL key) s0 wx)
  case first =>
    by_cases hlong : 64 < L
    · have hl : (64 : Int) < (L : Int) := by omega
      have HB := Lib.hid hlong
      clear hlong
      go_wp2_with (fail)
      obtain ⟨W1, hW1⟩ : ∃ W1, W1 = w0.alloc (.cells #[.slice a L cap] 22) := ⟨_, rfl⟩
      rw [← hW1]
      have hB1 : Below w.heap.size w W1 := by rw [hW1]; exact H0.out.1.alloc H0.out.1.size _
      have hg : W1.heap[w0.heap.size]? = some (.cells #[.slice a L cap] 22 (0, 0)) := by rw [hW1]; exact heap_alloc_new w0 _
      have hr0 : W1.heap[w.heap.size]? = some (.cells Z 42 (0, 0)) := by rw [hW1, Below.heap_alloc _ _ _ (Array.getElem?_eq_some_iff.1 H0.out.2.1).1]; exact H0.out.2.1
      have hr1 : W1.heap[w.heap.size + 1]? = some (.cells Z 42 (0, 0)) := by rw [hW1, Below.heap_alloc _ _ _ (Array.getElem?_eq_some_iff.1 H0.out.2.2).1]; exact H0.out.2.2
      have hs : Calls Tryd.prog 23 #[.slice (some ⟨w0.heap.size, 0, none⟩) 1 1] W1 (Below0 W1 (.agg (ShaA key))) := by
        have := sumF_any W1 (some ⟨w0.heap.size, 0, none⟩) 1 [⟨a, cap, key⟩] (parts_one ⟨a, cap, key⟩ (by rw [Part.val, ← HL.out]; exact hg)) (fun p hp => by
          obtain rfl : p = ⟨a, cap, key⟩ := by simpa using hp
          exact ⟨by rw [← HL.out]; exact hcap, hmax, HX.out.1.below hB1⟩) (HX.out.2.1.below hB1) (by have := hB1.size; have := HX.out.2.2; omega) (by rw [flat_one, ← HL.out]; exact hlen) (by simp)
        rwa [flat_one] at this
      have H1 := Lib.hid (And.intro hB1 (And.intro hr0 hr1))
      have HS := Lib.hid hs
      clear hW1 hB1 hg hr0 hr1 hs
      refine HS.out.mono ?_
      rintro e w2 ⟨rfl, hB2⟩
      have H2 := Lib.hid hB2
      clear hB2
      dsimp only
      have hi : (Tryd.prog.info? 25).map (·.size) = some (ShaA key).size := by rw [ShaA_size]; exact zero32.2
      have HI := Lib.hid hi
      clear hi
      iterate 4 go_step
      refine wpList_store_row rfl _ _ _ rfl w2.heap.size (ShaA key) rfl rfl 25 Y (heap_alloc_new w2 _) HI.out (by rw [HY.out, ShaA_size]; simp) (Spell_one _) ?_
      rw [World.setRow_alloc_new]
      obtain ⟨W3, hW3⟩ : ∃ W3, W3 = w2.alloc (.cells (ShaA key) 25) := ⟨_, rfl⟩
      rw [← hW3]
      have hB3 : Below W1.heap.size W1 W3 := by rw [hW3]; exact H2.out.alloc H2.out.size _
      have hg3 : W3.heap[w2.heap.size]? = some (.cells (ShaA key) 25 (0, 0)) := by rw [hW3]; exact heap_alloc_new w2 _
      have H3 := Lib.hid (And.intro hB3 hg3)
      clear hW3 hB3 hg3
      go_wp2_with (fail)
      go_meet
      obtain ⟨hB1, hr0, hr1⟩ := H1.out
      obtain ⟨hB3, hg3⟩ := H3.out
      have hl2 : 64 < key.length := by rw [← HL.out]; exact HB.out
      refine ⟨_, _, _, rfl, by rw [shortL_long hl2, shaL_length], ?_, hB1.trans (hB3.mono hB1.size), (hB3.block _ (Array.getElem?_eq_some_iff.1 hr0).1).trans hr0, (hB3.block _ (Array.getElem?_eq_some_iff.1 hr1).1).trans hr1⟩
      rw [shortL_long hl2]
      refine src_row (e := 25) (fr := (0, 0)) ?_
      rw [hg3, ShaA_is]
    · go_wp2_with (fail)
      go_meet
      obtain ⟨hB, hr0, hr1⟩ := H0.out
      have hl2 : key.length ≤ 64 := by rw [← HL.out]; omega
      exact ⟨_, _, _, rfl, by rw [shortL_short hl2, HL.out], by rw [shortL_short hl2]; exact HX.out.1.below hB, hB, hr0, hr1⟩
  case rest =>
    obtain ⟨a', n, c, rfl, hn, hsrc, hB, hr0, hr1⟩ := hcut
    obtain ⟨s, hs⟩ : ∃ s, s = shortL key := ⟨_, rfl⟩
    rw [← hs] at hn hsrc
    have hs64 : s.length ≤ 64 := by rw [hs]; exact shortL_length key
    have HC := Lib.hid (And.intro hn (And.intro hsrc (And.intro hB (And.intro hr0 (And.intro hr1 (And.intro hs64 hs))))))
    clear hn hsrc hB hr0 hr1 hs64 hs hz2 hlen hcap hmax
    go_upto_region 5 with (fail)
    refine wp_region_lit ?_
    iterate 6 go_step
    refine wpList_copy_splice rfl (.tmp 12) (.tmp 13) 22 22 rfl 5 Tryd.underlying22 (by kernel_rfl) _ _ _ _ _ _ rfl rfl (w.heap.size + 1) 0 (Array.replicate 64 (Value.int .u8 0)).toList 42
      (by rw [Array.toArray_toList, ← HZ.out]; exact HC.out.2.2.2.2.1) (s.map B) (by rw [List.length_map, HC.out.1]; exact (Nat.min_eq_left HC.out.2.2.2.2.2.1).symm) (fun hpos => ⟨rfl, ?_⟩) (by rw [List.length_map]; simpa using HC.out.2.2.2.2.2.1)
      (fun v hv => by obtain ⟨y, _, rfl⟩ := List.mem_map.1 hv; rfl) (w.heap.size + 1) wc (Below.refl _ _) (by omega) ?_
    · rw [List.length_map] at hpos
      rcases HC.out.2.1 with h | ⟨ab, off, rfl, hc⟩
      · omega
      · refine ⟨_, rfl, fun j v hv => ?_⟩
        have hj : j < s.length := by
          have := (List.getElem?_eq_some_iff.1 hv).1
          simpa using this
        have hv' := list_map_at s j hj
        rw [List.getElem?_toArray, hv] at hv'
        rw [addr_add, hc j hj, ← hv']
    · intro wd hrow hBd
      have hrow' : wd.heap[w.heap.size + 1]? = some (.cells ((keyL key).map B).toArray 42 (0, 0)) := by
        have h : _ = _ := hrow
        rw [laid_noughts, HC.out.2.2.2.2.2.2] at h
        exact h
      have hres : wd.heap[w.heap.size]? = some (.cells Z 42 (0, 0)) := (hBd.block _ (by omega)).trans HC.out.2.2.2.1
      have hB : Below w.heap.size w wd := HC.out.2.2.1.trans (hBd.mono (by omega))
      have hi : (Tryd.prog.info? 42).map (·.size) = some ((keyL key).map B).toArray.size := by rw [row_size, keyL_length]; exact zero64.2
      have HD := Lib.hid (And.intro hrow' (And.intro hres (And.intro hB hi)))
      clear hrow hBd hrow' hres hB hi
      rw [show goInt (s.map B).length = .int .i64 (s.length : Int) from by rw [List.length_map]; rfl]
      go_upto_region 6 with (fail)
      refine wp_region_lit ?_
      refine wpList_load_row rfl _ _ rfl (w.heap.size + 1) rfl 42 ((keyL key).map B).toArray (0, 0) _ HD.out.1 Tryd.underlying42 rfl HD.out.2.2.2 ?_
      refine wpList_store_row rfl _ _ _ rfl w.heap.size ((keyL key).map B).toArray rfl rfl 42 Z HD.out.2.1 HD.out.2.2.2 (by rw [row_size, keyL_length, HZ.out]; simp) (row_one _) ?_
      go_wp2_with (fail)
      obtain ⟨hrow, hres, hB, hi⟩ := HD.out
      refine bodyPost_ret (v := .agg ((keyL key).map B).toArray) (results_cell_row rfl _ _ w.heap.size 42 ((keyL key).map B).toArray (0, 0) _ rfl (setRow_heap _ _ Z _ _ _ hres) Tryd.underlying42 rfl hi) rfl ⟨rfl, ?_⟩
      exact hB.trans ⟨rfl, rfl, rfl, by simp, fun k hk => setRow_other _ _ _ _ (by omega)⟩
end Go.Proofs.YtmdacfbhfacniaaDoor
