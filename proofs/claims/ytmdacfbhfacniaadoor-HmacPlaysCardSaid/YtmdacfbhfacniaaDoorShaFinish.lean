/-
  The contract of finish.
-/
import Derived.Test.YtmdacfbhfacniaaDoorShaWrite
namespace Go.Proofs.YtmdacfbhfacniaaDoor
open Go.RowKit

def FinEnd (w : World) (b : Nat) (l : List (BitVec 8)) (e : Ending) (w' : World) : Prop :=
  e = .returned (.tuple #[]) ∧ ∃ c', w'.heap[b]? = some (.cells c' 57 (0, 0)) ∧ HashS c' (l ++ pad l.length) ∧ w.grownBy w' (some b)

def FinRel (w : World) (n : Nat) (k : Value) (wr : World) : Prop :=
  ∃ (t : Nat) (c : Array Value), t ≤ 8 ∧ k = .int .i64 t ∧ wr = w.alloc (.cells c 67) ∧ c.size = 72 ∧ ∀ j < gap n + t, c[j]? = some (B (gl (pad n) j))

theorem tail_start (n : Nat) : ((Array.replicate 72 (Value.int .u8 0)).setIfInBounds 0 (.int .u8 128)).size = 72 ∧ ∀ j < gap n + 0, ((Array.replicate 72 (Value.int .u8 0)).setIfInBounds 0 (.int .u8 128))[j]? = some (B (gl (pad n) j)) := by
  refine ⟨by simp, fun j hj => ?_⟩
  have hg := gap_le n
  rw [Array.getElem?_setIfInBounds]
  by_cases h : 0 = j
  · subst h
    rw [if_pos rfl, if_pos (by simp), pad_0]
    rfl
  · rw [if_neg h, pad_mid n j (by omega) hj, Array.getElem?_replicate, if_pos (by omega)]
    rfl
theorem tail_step (n t : Nat) (c : Array Value) (h : c.size = 72) (hc : ∀ j < gap n + t, c[j]? = some (B (gl (pad n) j))) (ht : t < 8) :
    (c.setIfInBounds (gap n + t) (B (lenByte n t))).size = 72 ∧ ∀ j < gap n + (t + 1), (c.setIfInBounds (gap n + t) (B (lenByte n t)))[j]? = some (B (gl (pad n) j)) := by
  refine ⟨by simp [h], fun j hj => ?_⟩
  have hg := gap_le n
  rw [Array.getElem?_setIfInBounds]
  split
  · rename_i e
    subst e
    rw [if_pos (by omega), pad_end n t ht]
  · exact hc j (by omega)
theorem setCell_1 (w : World) (c : Array Value) (t : TypeId) (i : Nat) (v : Value) :
    (w.alloc (.cells c t)).setCell ⟨w.heap.size, i, none⟩ v = w.alloc (.cells (c.setIfInBounds i v) t) :=
  World.setCell_alloc_at (w := w) c t w.heap.size i v rfl
theorem run_conv_B (P : Program) (src dst : TypeId) (v : Nat) (w : World) (hs : P.underlying src = some (.int .u64)) (hd : P.underlying dst = some (.int .u8)) :
    (convert src dst (.int .u64 (v : Int))).run P w = .ok (B (BitVec.ofNat 8 v)) w := by
  simp [convert, B, run_underlying hs, run_underlying hd, Conv.intToInt, IntKind.wrap, IntKind.bits, IntKind.signed]
theorem run_shr_u64 (P : Program) (t : TypeId) (x : Nat) (k : Nat) (hk : k ≤ 64) (w : World) : (binOp .shr t (.int .u64 (x : Int)) (.int .i64 (k : Int))).run P w = .ok (.int .u64 ((x / 2 ^ k : Nat) : Int)) w := by
  rw [binOp_shr, shift_shr .u64 .i64 _ _ (by omega) (by simp [IntKind.bits]; omega)]
  simp

set_option maxRecDepth 100000 in
set_option maxHeartbeats 1000000 in
theorem finish_any (w : World) (b : Nat) (c : Array Value) (l : List (BitVec 8)) (hb : w.heap[b]? = some (.cells c 57 (0, 0))) (hH : HashW c l)
    (hT : Tables w) (hb0 : b ≠ 0) (hb1 : b ≠ 1) (hlen : l.length < 1152921504606846976) :
    Calls Tryd.prog 26 #[.pointer (some ⟨b, 0, none⟩)] w (FinEnd w b l) := by
  have hz : ∀ w, (zeroValue 67).run Tryd.prog w = .ok (.agg (Array.replicate 72 (.int .u8 0))) w := (zero_of_info (n := 72) (by kernel_rfl)).1
  have hbl : b < w.heap.size := (Array.getElem?_eq_some_iff.1 hb).1
  have hn : w.cell? ⟨b, 72, none⟩ = some (.int .i64 (l.length : Int)) := (cell_of_row w b 72 c _ _ hb).trans hH.2.1
  have HB := Lib.hid (And.intro hb (And.intro hH hT))
  clear hb hH hT
  obtain ⟨N, hN⟩ : ∃ N, N = l.length := ⟨_, rfl⟩
  rw [← hN] at hn hlen
  obtain ⟨r, hr⟩ : ∃ r, r = N % 64 := ⟨_, rfl⟩
  obtain ⟨g1, hg1⟩ : ∃ g1, g1 = (119 - r) % 64 := ⟨_, rfl⟩
  have hr64 : r < 64 := by omega
  have hg64 : g1 < 64 := by omega
  have et : (N : Int).tmod 64 = r := (Int.tmod_eq_emod_of_nonneg (by omega)).trans (by omega)
  have em : (N : Int) % 64 = r := by omega
  have ft : (119 - (r : Int)).tmod 64 = g1 := (Int.tmod_eq_emod_of_nonneg (by omega)).trans (by omega)
  have fm : (119 - (r : Int)) % 64 = g1 := by omega
  obtain ⟨g, hg⟩ : ∃ g : Nat, g = g1 + 1 := ⟨_, rfl⟩
  have hgi : (g1 : Int) + 1 = g := by omega
  have hgg : g = gap N := by rw [hg, hg1, hr]; rfl
  have HG := Lib.hid (And.intro hN (And.intro hr (And.intro hg1 (And.intro hg hgg))))
  have hgw : IntKind.i64.wrap (g : Int) = g := IntWalk.i64_in _ (by omega)
  have hg65 : (g : Int) < 65 := by omega
  have h8 : IntKind.u64.wrap (N : Int) = N := by
    simp [IntKind.wrap, IntKind.bits, IntKind.signed]
    omega
  obtain ⟨N8, hN8⟩ : ∃ N8, N8 = 8 * N := ⟨_, rfl⟩
  have h9 : IntKind.u64.wrap ((N : Int) * 8) = N8 := by
    simp [IntKind.wrap, IntKind.bits, IntKind.signed]
    omega
  have HN8 := Lib.hid hN8
  clear hN hr hg1 hg hgg hN8
  go_enter Tryd.func26, Tryd.ntmps26
  go_wp2_with (fail)
  go_loopw [21] (FinRel w N) (fun k _ => 8 - (intOf k).toNat)
  case atStart => exact ⟨0, _, by omega, rfl, rfl, (tail_start N).1, (tail_start N).2⟩
  case round =>
    obtain ⟨t, c2, ht, rfl, rfl, hc, hj⟩ := hrel
    by_cases hlt : t < 8
    · obtain ⟨sh, hsh⟩ : ∃ sh : Nat, (56 : Int) - 8 * (t : Int) = sh := ⟨56 - 8 * t, by omega⟩
      have hshw : IntKind.i64.wrap (sh : Int) = sh := IntWalk.i64_in _ (by omega)
      obtain ⟨gt, hgt⟩ : ∃ gt : Nat, (g : Int) + (t : Int) = gt := ⟨g + t, by omega⟩
      have hgtw : IntKind.i64.wrap (gt : Int) = gt := IntWalk.i64_in _ (by omega)
      have i0 : (0 : Int) ≤ (gt : Int) ∧ (gt : Int) < 72 := by omega
      have hval : Value.int .u8 ((N8 : Int) / 2 ^ sh % 256) = B (lenByte N t) := by
        rw [lenByte, ← HN8.out, show 56 - 8 * t = sh by omega]
        simp [B]
      have HV := Lib.hid hval
      clear hval
      obtain ⟨d, hd⟩ : ∃ d, c2[gt]? = some d := ⟨c2[gt]'(by omega), Array.getElem?_eq_getElem (by omega)⟩
      have hgt2 : gt = gap N + t := by rw [← HG.out.2.2.2.2]; omega
      have HC := Lib.hid (And.intro hc (And.intro hj hgt2))
      clear hc hj hgt2
      go_upto_region 7 with (fail)
      refine wp_region_lit ?_
      iterate 30 go_step
      refine wpList_store1 rfl _ _ _ rfl ⟨w.heap.size, gt, none⟩ (B (lenByte N t)) d rfl HV.out rfl rfl Tryd.sizeOf5 (by go_simp) (by go_simp) ?_
      rw [setCell_1]
      go_wp2_with (fail)
      obtain ⟨hc, hj, hgt2⟩ := HC.out
      have hst := tail_step N t c2 hc hj hlt
      rw [← hgt2] at hst
      exact ⟨⟨t + 1, c2.setIfInBounds gt (B (lenByte N t)), by omega, by go_num, rfl, hst.1, hst.2⟩, by simp [intOf]; omega⟩
    · obtain rfl : t = 8 := by omega
      obtain ⟨hb, hH, hT⟩ := HB.out
      have hgg := HG.out.2.2.2.2
      obtain ⟨p, hp⟩ : ∃ p, p = pad N := ⟨_, rfl⟩
      have hpl : p.length = g + 8 := by rw [hp, pad_length, hgg]
      have hsl : ∀ W', (Instr.sliceAt 67 (.pointer (some ⟨w.heap.size, 0, none⟩)) none (some (.int .i64 ((g : Int) + 8))) none).run Tryd.prog W' = .ok (.slice (some ⟨w.heap.size, 0, none⟩) p.length 72) W' := fun W' =>
        run_slice_arr_h _ _ 72 Tryd.underlying67 Tryd.sizeOf5 w.heap.size 0 p.length (by omega) W' _ (by omega)
      obtain ⟨W1, hW1⟩ : ∃ W1, W1 = w.alloc (.cells c2 67) := ⟨_, rfl⟩
      rw [← hW1]
      have hB1 : Below w.heap.size w W1 := by rw [hW1]; exact (Below.refl _ w).alloc (Nat.le_refl _) _
      have hS : Src W1 b (some ⟨w.heap.size, 0, none⟩) p.length p 0 := by
        refine .inr ⟨w.heap.size, 0, rfl, by omega, fun i hi => ?_⟩
        have e : W1.heap[w.heap.size]? = some (.cells c2 67 (0, 0)) := by rw [hW1]; exact heap_alloc_new w _
        rw [cell_of_row W1 _ _ c2 _ _ e, Nat.zero_add, hp]
        exact hj i (by omega)
      have hb1w : W1.heap[b]? = some (.cells c 57 (0, 0)) := by rw [hB1.block b hbl]; exact hb
      have HX := Lib.hid (And.intro hb1w (And.intro hS (And.intro hpl (And.intro hp hB1))))
      clear hb hH hT hgg hp hpl hW1 hB1 hS hb1w hc hj
      go_wp2_with (fail)
      obtain ⟨hb1w, hS, hpl, hp, hB1⟩ := HX.out
      obtain ⟨hb, hH, hT⟩ := HB.out
      refine (write_any W1 b c l p (some ⟨w.heap.size, 0, none⟩) 72 hb1w hH (hT.below hB1) hb0 hb1 (by omega) (by omega) hS (by rw [← HG.out.1]; omega)).mono ?_
      rintro e w' ⟨rfl, c', hc', hHS, hg⟩
      have HY := Lib.hid (And.intro hc' (And.intro hHS hg))
      clear hb1w hS hpl hp hB1 hb hH hT hc' hHS hg
      dsimp only
      go_wp2_with (fail)
      go_end0
      obtain ⟨hb1w, hS, hpl, hp, hB1⟩ := HX.out
      obtain ⟨hc', hHS, hg⟩ := HY.out
      rw [hp, HG.out.1] at hHS
      refine ⟨rfl, c', hc', hHS, hg.os.trans hB1.os, hg.tape.trans hB1.tape, hg.output.trans hB1.output, Nat.le_trans hB1.size hg.size, fun k hk hne => (hg.block k (Nat.lt_of_lt_of_le hk hB1.size) hne).trans (hB1.block k hk)⟩
end Go.Proofs.YtmdacfbhfacniaaDoor
