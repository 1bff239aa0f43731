/-
  The bytes of an act: the contract of the law's own whole.
-/
import Derived.Test.YtggecfecodoigaaStoreImage
namespace Go.Proofs.Ytggecfecodoigaa
open Go Go.RowKit

def wholeAt (bs : List (BitVec 8)) (j : Nat) : BitVec 8 := if 0 < bs.length then gl bs (j % bs.length) else 0
/-- The bytes so far: the first i are laid. -/
def wholeTo (bs : List (BitVec 8)) (i : Nat) : List (BitVec 8) := (List.range 128).map fun j => if j < i then wholeAt bs j else 0
theorem wholeTo_zero (bs : List (BitVec 8)) : wholeTo bs 0 = List.replicate 128 0 := by
  have h : wholeTo bs 0 = (List.range 128).map fun _ => (0 : BitVec 8) := List.map_congr_left fun j _ => by simp
  rw [h, List.map_const', List.length_range]
theorem wholeTo_length (bs : List (BitVec 8)) (i : Nat) : (wholeTo bs i).length = 128 := by simp [wholeTo]
theorem wholeTo_end (bs : List (BitVec 8)) (h : bs.length ≠ 1) : wholeTo bs 128 = wholeB bs := by
  unfold wholeB
  rw [if_neg h]
  apply List.map_congr_left
  intro j hj
  rw [if_pos (List.mem_range.1 hj)]
  rfl
theorem wholeTo_step (bs : List (BitVec 8)) (i : Nat) (h : i < 128) : (wholeTo bs i).set i (wholeAt bs i) = wholeTo bs (i + 1) := by
  apply List.ext_getElem?
  intro j
  unfold wholeTo
  by_cases e : i = j
  · subst e
    rw [List.getElem?_set_self (by simpa using h)]
    simp [h]
  · rw [List.getElem?_set_ne e]
    by_cases hj : j < 128
    · simp only [List.getElem?_map, List.getElem?_range hj, Option.map_some]
      congr 1
      by_cases h1 : j < i
      · rw [if_pos h1, if_pos (by omega)]
      · rw [if_neg h1, if_neg (by omega)]
    · simp [hj]
theorem wholeTo_none (bs : List (BitVec 8)) (i : Nat) (h : bs.length = 0) : wholeTo bs (i + 1) = wholeTo bs i := by
  apply List.map_congr_left
  intro j _
  simp [wholeAt, h]
theorem mk_bytes (w : World) : (Instr.makeSlice 28 (.int .i64 128) (.int .i64 128)).run Try.prog w =
    .ok (.slice (some ⟨w.heap.size, 0, none⟩) 128 128) (w.alloc (.cells (((List.replicate 128 (0 : BitVec 8)).map B).toArray) 5)) := by
  obtain ⟨i, hi, hz, hs, hb⟩ := info_u8
  have hr := run_make (P := Try.prog) w 28 5 i _ Try.underlying28 hi hz .i64 .i64 128 128 (by omega) (Int.le_refl _) (by rw [hb]; omega) (by omega)
  simp only [show (128 : Int).toNat = 128 from rfl] at hr
  rw [hr, hs]
  show Result.ok _ (w.alloc (.cells (madeCells #[Value.int .u8 0] (128 * 1)) _)) = _
  have h := made_same 1 (128 * 1) (.int .u8 0) (by omega)
  have h' : madeCells #[Value.int .u8 0] (128 * 1) = ((List.replicate 128 (0 : BitVec 8)).map B).toArray := by
    refine Eq.trans h ?_
    rw [List.map_replicate]
    rfl
  rw [h']
/-- What whole leaves: bytes that it made, or those that it was given. -/
def WholeEnd (w : World) (ba : Option Addr) (bs : List (BitVec 8)) (e : Ending) (w' : World) : Prop :=
  ∃ a c, e = .returned (.slice a (wholeB bs).length c) ∧ SrcP w' a (wholeB bs).length (wholeB bs) ∧ Below w.heap.size w w' ∧ ((a = ba ∧ bs.length = 1) ∨ ∀ ab, a.map (·.block) = some ab → w.heap.size ≤ ab)
set_option maxRecDepth 100000 in
set_option maxHeartbeats 1000000 in
theorem whole_any (w : World) (kd at_ n : Int) (ba : Option Addr) (bc : Nat) (bs : List (BitVec 8)) (kv : Value) (hb : SrcP w ba bs.length bs) (hl : bs.length ≤ 9223372036854775807) :
    Calls Try.prog 24 #[.agg #[.int .i64 kd, .int .i64 at_, .int .i64 n, .slice ba bs.length bc, kv]] w (WholeEnd w ba bs) := by
  have HB := Lib.hid (And.intro hb hl)
  clear hb hl
  obtain ⟨N, hN⟩ : ∃ N, N = bs.length := ⟨_, rfl⟩
  rw [← hN]
  have HN := Lib.hid hN
  clear hN
  obtain ⟨zb, hzb⟩ : ∃ z, z = wholeTo bs 0 := ⟨_, rfl⟩
  have mk := mk_bytes
  rw [← wholeTo_zero bs, ← hzb] at mk
  have HZ := Lib.hid hzb
  clear hzb
  go_enter Try.func24, Try.ntmps24
  go_upto_region 2 with (fail)
  obtain ⟨w1, hw1⟩ : ∃ W, W = (w.alloc (.cells #[.int .i64 kd, .int .i64 at_, .int .i64 n, .slice ba N bc, kv] 47)).alloc (.cells ((zb.map B).toArray) 5) := ⟨_, rfl⟩
  rw [← hw1]
  obtain ⟨ob, hob⟩ : ∃ b, b = w.heap.size := ⟨_, rfl⟩
  obtain ⟨g, hg⟩ : ∃ b, b = w.heap.size + 1 := ⟨_, rfl⟩
  rw [← hg, ← hob]
  have h1 : w1.heap[ob]? = some (.cells #[.int .i64 kd, .int .i64 at_, .int .i64 n, .slice ba N bc, kv] 47 (0, 0)) := by
    rw [hw1, hob, heap_alloc_old _ _ (by simp), heap_alloc_new]
  have h2 : w1.heap[g]? = some (.cells ((zb.map B).toArray) 5 (0, 0)) := by
    rw [hw1, hg, show w.heap.size + 1 = (w.alloc (.cells #[.int .i64 kd, .int .i64 at_, .int .i64 n, .slice ba N bc, kv] 47)).heap.size by simp, heap_alloc_new]
  have hB1 : Below w.heap.size w w1 := by
    rw [hw1]
    exact ((Below.refl _ w).alloc (by omega) _).alloc (by simp) _
  have H1 := Lib.hid (And.intro h1 (And.intro h2 (And.intro hB1 (And.intro hob hg))))
  clear hw1 h1 h2 hB1 hob hg mk
  go_wp2_with (fail)
  go_loopw [8] (fun v wr => ∃ i : Nat, i ≤ 128 ∧ v = .int .i64 (i : Int) ∧ wr.heap[ob]? = some (.cells #[.int .i64 kd, .int .i64 at_, .int .i64 n, .slice ba N bc, kv] 47 (0, 0)) ∧
      wr.heap[g]? = some (.cells (((wholeTo bs i).map B).toArray) 5 (0, 0)) ∧ Below w.heap.size w wr) (fun v _ => 128 - (intOf v).toNat)
  case atStart => exact ⟨0, Nat.zero_le _, rfl, H1.out.1, by rw [← HZ.out]; exact H1.out.2.1, H1.out.2.2.1⟩
  case round =>
    obtain ⟨i, hi, rfl, h1, h2, h3⟩ := hrel
    have d3 : wr.cell? ⟨ob, 3, none⟩ = some (.slice ba N bc) := by rw [cell_of_row _ _ _ _ _ _ h1]; rfl
    have HR := Lib.hid (And.intro h1 (And.intro h2 h3))
    by_cases hlt : i < 128
    · have hi0 : (0 : Int) ≤ (i : Int) ∧ (i : Int) < 128 := by omega
      by_cases hN0 : 0 < N
      · obtain ⟨r, hr⟩ : ∃ r, r = i % N := ⟨_, rfl⟩
        have hrN : r < N := by rw [hr]; exact Nat.mod_lt _ hN0
        have hr0 : (0 : Int) ≤ (r : Int) ∧ (r : Int) < N := by omega
        have htm : Int.tmod (i : Int) (N : Int) = (r : Int) := by rw [hr]; exact (Int.ofNat_tmod i N).symm
        have hne : ¬ (N : Int) = 0 := by omega
        have hNp : (0 : Int) < N := by omega
        obtain ⟨ab, off, rfl, hc⟩ : ∃ ab off, ba = some ⟨ab, off, none⟩ ∧ ∀ i < bs.length, w.cell? ⟨ab, off + i, none⟩ = some (B (gl bs i)) := by
          rcases HB.out.1 with h | h
          · have := HN.out; omega
          · exact h
        obtain ⟨x, hx⟩ : ∃ x, x = gl bs r := ⟨_, rfl⟩
        have hcr := hc r (by rw [← HN.out]; exact hrN)
        have c1 : wr.cell? ⟨ab, off + r, none⟩ = some (B x) := by
          rw [hx]
          exact (h3.cell (p := ⟨ab, off + r, none⟩) (block_lt_of_cell hcr)).trans hcr
        have c2 : wr.cell? ⟨g, i, none⟩ = some (B (gl (wholeTo bs i) i)) := by
          rw [cell_of_row _ _ _ _ _ _ h2]
          exact list_map_at _ i (by rw [wholeTo_length]; exact hlt)
        have f2 := frozen_of_row wr g i _ _ h2
        obtain ⟨u, hu⟩ : ∃ u, u = gl (wholeTo bs i) i := ⟨_, rfl⟩
        rw [← hu] at c2
        have hE : (wr.setCell ⟨g, i, none⟩ (B x)).heap[ob]? = some (.cells #[.int .i64 kd, .int .i64 at_, .int .i64 n, .slice (some ⟨ab, off, none⟩) N bc, kv] 47 (0, 0)) ∧
            (wr.setCell ⟨g, i, none⟩ (B x)).heap[g]? = some (.cells (((wholeTo bs (i + 1)).map B).toArray) 5 (0, 0)) ∧ Below w.heap.size w (wr.setCell ⟨g, i, none⟩ (B x)) := by
          have hog : ob ≠ g := by have h4 := H1.out.2.2.2.1; have h5 := H1.out.2.2.2.2; omega
          refine ⟨(heap_setCell_other _ _ _ _ hog).trans h1, ?_, h3.trans ⟨rfl, rfl, rfl, by simp [World.setCell], fun k hk => heap_setCell_other _ _ _ _ (by have h5 := H1.out.2.2.2.2; show k ≠ g; omega)⟩⟩
          rw [heap_setCell_same wr g i _ _ _ h2]
          have hw : wholeAt bs i = x := by
            unfold wholeAt
            rw [← HN.out, if_pos hN0, hx, hr]
          rw [← wholeTo_step bs i hlt, hw]
          simp [List.map_set]
        obtain ⟨xi, hxi⟩ : ∃ k : Int, B x = .int .u8 k := ⟨_, rfl⟩
        rw [hxi] at c1 hE
        have HE := Lib.hid hE
        clear hE h1 h2 h3 hr hrN hc hcr hx hu hlt hN0 hxi
        go_wp2_with (fail)
        go_region
        go_wp2_with (fail)
        exact ⟨⟨i + 1, by omega, by go_num, HE.out.1, HE.out.2.1, HE.out.2.2.trans ⟨rfl, rfl, rfl, Nat.le_refl _, fun _ _ => rfl⟩⟩, by simp [intOf]; omega⟩
      · have hN1 : N = 0 := by omega
        subst hN1
        have hE : wr.heap[g]? = some (.cells (((wholeTo bs (i + 1)).map B).toArray) 5 (0, 0)) := by
          rw [wholeTo_none bs i HN.out.symm]
          exact h2
        have HE := Lib.hid hE
        clear hE h1 h2 h3 hlt hN0
        go_wp2_with (fail)
        exact ⟨⟨i + 1, by omega, by go_num, HR.out.1, HE.out, HR.out.2.2⟩, by simp [intOf]; omega⟩
    · obtain rfl : i = 128 := by omega
      clear h1 h2 h3 hlt
      by_cases hN1 : N = 1
      · subst hN1
        go_wp2_with (fail)
        go_ret
        have hw : wholeB bs = bs := by unfold wholeB; rw [if_pos HN.out.symm]
        refine ⟨ba, bc, ?_, ?_, HR.out.2.2, .inl ⟨rfl, HN.out.symm⟩⟩
        · rw [hw, ← HN.out]
          rfl
        · rw [hw]
          exact HB.out.1.from (Nat.le_refl _) HR.out.2.2
      · have hN2 : ¬ (N : Int) = 1 := by omega
        go_wp2_with (fail)
        go_ret
        have hw := wholeTo_end bs (by rw [← HN.out]; exact hN1)
        have hr := HR.out.2.1
        rw [hw] at hr
        refine ⟨some ⟨g, 0, none⟩, 128, ?_, src_row hr, HR.out.2.2, .inr fun ab h => ?_⟩
        · rw [← hw, wholeTo_length]
          rfl
        · have h5 := H1.out.2.2.2.2
          simp at h
          omega
end Go.Proofs.Ytggecfecodoigaa
