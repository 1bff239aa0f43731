/-
  What must be answered ahead of everything else: the contract of layer 12's first.
-/
import Derived.Test.YtggecfecodoigaaStoreWhole
import Derived.Test.YtggecfecodoigaaStoreWrite
namespace Go.Proofs.Ytggecfecodoigaa
open Go Go.RowKit

/-- A block that is none of the store's. -/
def Aside (f : StF) (w : World) (k : Nat) : Prop := k < w.heap.size ∧ ¬ f.has k
/-- The store goes from one world to the next: its own new place, and whatever is aside stays. -/
def Next (base : Nat) (f : StF) (s : StS) (w w' : World) (f' : StF) : Prop :=
  f'.b = f.b ∧ StAt w' base f' s ∧ Below base w w' ∧ (∀ k, Aside f w k → Aside f' w' k ∧ w'.heap[k]? = w.heap[k]?)
theorem SEnd.next {w w' : World} {base : Nat} {f : StF} {s0 s : StS} (h0 : StAt w base f s0) (hb : base ≤ w.heap.size) (h : SEnd w base f s w') : ∃ f', Next base f s w w' f' := by
  obtain ⟨f', h1, h2, h3, h4⟩ := h
  refine ⟨f', h2, h1, h0.below h4 hb, fun k hk => ⟨⟨Nat.lt_of_lt_of_le hk.1 h4.size, fun hf => ?_⟩, h4.block k hk.1 hk.2⟩⟩
  rcases h3 k hf with h | h
  · exact hk.2 h
  · have := hk.1; omega
theorem Next.far {base : Nat} {f : StF} {s0 : StS} {w w' : World} (h0 : StAt w base f s0) (hb : base ≤ w.heap.size) (hB : Below w.heap.size w w') : Next base f s0 w w' f :=
  ⟨rfl, h0.far hB, hB.mono hb, fun k hk => ⟨⟨Nat.lt_of_lt_of_le hk.1 hB.size, hk.2⟩, hB.block k hk.1⟩⟩
theorem Next.kept {base : Nat} {f : StF} {s0 s : StS} {w w' : World} (h0 : StAt w base f s0) (hb : base ≤ w.heap.size) (h1 : StAt w' base f s) (hk : SKept f w w') : Next base f s w w' f :=
  ⟨rfl, h1, h0.below hk hb, fun k hk' => ⟨⟨Nat.lt_of_lt_of_le hk'.1 hk.size, hk'.2⟩, hk.block k hk'.1 hk'.2⟩⟩
/-- Bytes that lie aside. -/
def SrcA (f : StF) (w : World) (a : Option Addr) (m : List (BitVec 8)) : Prop :=
  m.length = 0 ∨ ∃ ab off, a = some ⟨ab, off, none⟩ ∧ Aside f w ab ∧ ∀ i < m.length, w.cell? ⟨ab, off + i, none⟩ = some (B (gl m i))
theorem SrcA.src {f : StF} {w : World} {a : Option Addr} {m : List (BitVec 8)} (h : SrcA f w a m) : SrcP w a m.length m := by
  rcases h with h | ⟨ab, off, h1, _, h3⟩
  · exact .inl h
  · exact .inr ⟨ab, off, h1, h3⟩
theorem SrcA.next {base : Nat} {f f' : StF} {s : StS} {w w' : World} {a : Option Addr} {m : List (BitVec 8)} (h : SrcA f w a m) (hn : Next base f s w w' f') : SrcA f' w' a m := by
  rcases h with h | ⟨ab, off, h1, h2, h3⟩
  · exact .inl h
  · obtain ⟨k1, k2⟩ := hn.2.2.2 ab h2
    refine .inr ⟨ab, off, h1, k1, fun i hi => ?_⟩
    rw [World.cell?_of_block (w := w) k2]
    exact h3 i hi
theorem SrcA.of_new {f : StF} {w w' : World} {base : Nat} {s s' : StS} {a : Option Addr} {m : List (BitVec 8)} (h0 : StAt w base f s) (h : SrcN w.heap.size w' a m) (_h1 : StAt w' base f s') : SrcA f w' a m := by
  rcases h with h | ⟨ab, off, h1, h2, h3⟩
  · exact .inl h
  · by_cases hm : m.length = 0
    · exact .inl hm
    · exact .inr ⟨ab, off, h1, ⟨block_lt_of_cell (h3 0 (by omega)), fun hf => by have := h0.lt hf; omega⟩, h3⟩
theorem SrcA.not {f : StF} {w : World} {a : Option Addr} {m : List (BitVec 8)} (h : SrcA f w a m) (hm : m.length ≠ 0) : ∀ ab, a.map (·.block) = some ab → ¬ f.has ab := by
  rcases h with h | ⟨ab, off, rfl, h2, _⟩
  · exact absurd h hm
  · intro ab' h
    simp at h
    subst h
    exact h2.2
def firstB : List (BitVec 8) := ((List.replicate 128 (0 : BitVec 8)).set 0 7).set 127 9
theorem firstB_length : firstB.length = 128 := by simp [firstB]
def fst0 : StS := StS.new 2
def fst1 : StS := fst0.wrote 1 firstB
def fst2 : StS := fst1.crashed [] 0 1
def fst3 : StS := fst2.told 1
def fst4 : StS := fst3.wrote 1 firstB
def fst5 : StS := fst4.synced
def fst6 : StS := fst5.crashed [] (-1) 0
def fst7 : StS := fst6.told 1
theorem fst2_read : gl (fst2.new'.getD 1 []) 0 = 7 ∧ gl (fst2.new'.getD 1 []) 127 = 0 ∧ (fst2.new'.getD 1 []).length = 128 := by decide +kernel
theorem fst6_read : gl (fst6.new'.getD 1 []) 127 = 9 ∧ (fst6.new'.getD 1 []).length = 128 := by decide +kernel
set_option maxRecDepth 100000 in
set_option maxHeartbeats 2000000 in
theorem first_any (w : World) : Calls Try.prog 6 #[] w fun e w' => e = .returned (.bool true) ∧ Below w.heap.size w w' := by
  obtain ⟨zb, hzb⟩ : ∃ z : List (BitVec 8), z = List.replicate 128 0 := ⟨_, rfl⟩
  have mk := mk_bytes
  rw [← hzb] at mk
  have HZ := Lib.hid hzb
  clear hzb
  go_enter Try.func6, Try.ntmps6
  go_wp2_with (fail)
  refine (snew_any w 2 (by omega) (by omega)).mono ?_
  rintro e w1 ⟨f0, rfl, hA0, hB0⟩
  have H0 := Lib.hid (And.intro hA0 hB0)
  clear hA0 hB0
  obtain ⟨pb, hpb⟩ : ∃ b, b = f0.b := ⟨_, rfl⟩
  rw [← hpb]
  have HP := Lib.hid hpb
  clear hpb
  dsimp only
  go_upto_region 3 with (fail)
  obtain ⟨w2, hw2⟩ : ∃ W, W = w1.alloc (.cells ((zb.map B).toArray) 5) := ⟨_, rfl⟩
  obtain ⟨g, hg⟩ : ∃ b, b = w1.heap.size := ⟨_, rfl⟩
  rw [← hw2, ← hg]
  have hrow : w2.heap[g]? = some (.cells ((zb.map B).toArray) 5 (0, 0)) := by rw [hw2, hg, heap_alloc_new]
  have hB2 : Below w1.heap.size w1 w2 := by rw [hw2]; exact (Below.refl _ w1).alloc (Nat.le_refl _) _
  have hzl : zb.length = 128 := by rw [HZ.out]; simp
  have c0 : w2.cell? ⟨g, 0, none⟩ = some (B (gl zb 0)) := by rw [cell_of_row _ _ _ _ _ _ hrow]; exact list_map_at zb 0 (by omega)
  have c1 : w2.cell? ⟨g, 127, none⟩ = some (B (gl zb 127)) := by rw [cell_of_row _ _ _ _ _ _ hrow]; exact list_map_at zb 127 (by omega)
  have f0' := frozen_of_row w2 g 0 _ _ hrow
  have f1' := frozen_of_row w2 g 127 _ _ hrow
  obtain ⟨w3, hw3⟩ : ∃ W, W = (w2.setCell ⟨g, 0, none⟩ (.int .u8 7)).setCell ⟨g, 127, none⟩ (.int .u8 9) := ⟨_, rfl⟩
  have hr3 : w3.heap[g]? = some (.cells ((firstB.map B).toArray) 5 (0, 0)) := by
    rw [hw3, heap_setCell_same _ g 127 _ _ _ (heap_setCell_same w2 g 0 _ _ _ hrow), HZ.out]
    unfold firstB
    rw [List.map_set, List.map_set]
    rfl
  have hB3 : Below w1.heap.size w1 w3 := by
    rw [hw3]
    refine hB2.trans ⟨rfl, rfl, rfl, by simp [World.setCell], fun k hk => ?_⟩
    rw [heap_setCell_other _ _ _ _ (by show k ≠ g; omega), heap_setCell_other _ _ _ _ (by show k ≠ g; omega)]
  have hI3 : StAt w3 w.heap.size f0 fst0 ∧ f0.b = pb ∧ SrcA f0 w3 (some ⟨g, 0, none⟩) firstB ∧ Below w.heap.size w w3 := by
    obtain ⟨h1, h2⟩ := H0.out
    refine ⟨h1.far hB3, HP.out.symm, .inr ⟨g, 0, rfl, ⟨(Array.getElem?_eq_some_iff.1 hr3).1, fun hf => by have := h1.lt hf; omega⟩, fun i hi => ?_⟩, h2.trans (hB3.mono h2.size)⟩
    rw [cell_of_row _ _ _ _ _ _ hr3, Nat.zero_add]
    exact list_map_at firstB i hi
  have HW3 := Lib.hid hw3
  have I3 := Lib.hid hI3
  clear hw2 hg hrow hB2 hzl hw3 hr3 hB3 hI3 mk
  go_upto_region 4 with (fail)
  rw [← HW3.out]
  clear c0 c1 f0' f1'
  go_wp2_with (fail)
  have hc := swrite_any I3.out.1 (k := 1) (by decide +kernel) (some ⟨g, 0, none⟩) 128 firstB firstB_length (SrcA.src I3.out.2.2.1) (by decide +kernel) (SrcA.not I3.out.2.2.1 (by rw [firstB_length]; decide)) I3.out.2.2.2.size (by decide +kernel)
  rw [I3.out.2.1] at hc
  refine hc.mono ?_
  clear hc
  rintro e w4 ⟨rfl, hE⟩
  obtain ⟨f1, hn⟩ := SEnd.next I3.out.1 I3.out.2.2.2.size hE
  have I4 : Hid (StAt w4 w.heap.size f1 fst1 ∧ f1.b = pb ∧ SrcA f1 w4 (some ⟨g, 0, none⟩) firstB ∧ Below w.heap.size w w4) :=
    ⟨hn.2.1, hn.1.trans I3.out.2.1, SrcA.next I3.out.2.2.1 hn, I3.out.2.2.2.trans hn.2.2.1⟩
  clear hE hn
  dsimp only
  go_wp2_with (fail)
  have hc := scrash_any I4.out.1 none 0 [] (0) (1) (.inl rfl) (fun ab _ h => by cases h)
  rw [I4.out.2.1] at hc
  refine hc.mono ?_
  clear hc
  rintro e w5 ⟨rfl, hE⟩
  obtain ⟨f2, hn⟩ := SEnd.next I4.out.1 I4.out.2.2.2.size hE
  have I5 : Hid (StAt w5 w.heap.size f2 fst2 ∧ f2.b = pb ∧ SrcA f2 w5 (some ⟨g, 0, none⟩) firstB ∧ Below w.heap.size w w5) :=
    ⟨hn.2.1, hn.1.trans I4.out.2.1, SrcA.next I4.out.2.2.1 hn, I4.out.2.2.2.trans hn.2.2.1⟩
  clear hE hn
  dsimp only
  go_wp2_with (fail)
  have hc := sread_any I5.out.1 (k := 1) (by decide +kernel) (by decide +kernel)
  rw [I5.out.2.1] at hc
  refine hc.mono ?_
  clear hc
  rintro e w6 ⟨Xa, Xc, rfl, hsr, hst, hk⟩
  have X6 : Hid (SrcA f2 w6 Xa (fst2.new'.getD 1 [])) := SrcA.of_new I5.out.1 hsr hst
  have hn := Next.kept I5.out.1 I5.out.2.2.2.size hst hk
  have I6 : Hid (StAt w6 w.heap.size f2 fst3 ∧ f2.b = pb ∧ SrcA f2 w6 (some ⟨g, 0, none⟩) firstB ∧ Below w.heap.size w w6) :=
    ⟨hn.2.1, hn.1.trans I5.out.2.1, SrcA.next I5.out.2.2.1 hn, I5.out.2.2.2.trans hn.2.2.1⟩
  clear hsr hst hk hn
  dsimp only
  go_wp2_with (fail)
  have hc := swrite_any I6.out.1 (k := 1) (by decide +kernel) (some ⟨g, 0, none⟩) 128 firstB firstB_length (SrcA.src I6.out.2.2.1) (by decide +kernel) (SrcA.not I6.out.2.2.1 (by rw [firstB_length]; decide)) I6.out.2.2.2.size (by decide +kernel)
  rw [I6.out.2.1] at hc
  refine hc.mono ?_
  clear hc
  rintro e w7 ⟨rfl, hE⟩
  obtain ⟨f3, hn⟩ := SEnd.next I6.out.1 I6.out.2.2.2.size hE
  have I7 : Hid (StAt w7 w.heap.size f3 fst4 ∧ f3.b = pb ∧ SrcA f3 w7 (some ⟨g, 0, none⟩) firstB ∧ Below w.heap.size w w7) :=
    ⟨hn.2.1, hn.1.trans I6.out.2.1, SrcA.next I6.out.2.2.1 hn, I6.out.2.2.2.trans hn.2.2.1⟩
  have X7 : Hid (SrcA f3 w7 Xa (fst2.new'.getD 1 [])) := SrcA.next X6.out hn
  clear hE hn
  dsimp only
  go_wp2_with (fail)
  have hc := ssync_any I7.out.1 (by decide +kernel)
  rw [I7.out.2.1] at hc
  refine hc.mono ?_
  clear hc
  rintro e w8 ⟨rfl, hE⟩
  obtain ⟨f4, hn⟩ := SEnd.next I7.out.1 I7.out.2.2.2.size hE
  have I8 : Hid (StAt w8 w.heap.size f4 fst5 ∧ f4.b = pb ∧ SrcA f4 w8 (some ⟨g, 0, none⟩) firstB ∧ Below w.heap.size w w8) :=
    ⟨hn.2.1, hn.1.trans I7.out.2.1, SrcA.next I7.out.2.2.1 hn, I7.out.2.2.2.trans hn.2.2.1⟩
  have X8 : Hid (SrcA f4 w8 Xa (fst2.new'.getD 1 [])) := SrcA.next X7.out hn
  clear hE hn
  dsimp only
  go_wp2_with (fail)
  have hc := scrash_any I8.out.1 none 0 [] (-1) (0) (.inl rfl) (fun ab _ h => by cases h)
  rw [I8.out.2.1] at hc
  refine hc.mono ?_
  clear hc
  rintro e w9 ⟨rfl, hE⟩
  obtain ⟨f5, hn⟩ := SEnd.next I8.out.1 I8.out.2.2.2.size hE
  have I9 : Hid (StAt w9 w.heap.size f5 fst6 ∧ f5.b = pb ∧ SrcA f5 w9 (some ⟨g, 0, none⟩) firstB ∧ Below w.heap.size w w9) :=
    ⟨hn.2.1, hn.1.trans I8.out.2.1, SrcA.next I8.out.2.2.1 hn, I8.out.2.2.2.trans hn.2.2.1⟩
  have X9 : Hid (SrcA f5 w9 Xa (fst2.new'.getD 1 [])) := SrcA.next X8.out hn
  clear hE hn
  dsimp only
  go_wp2_with (fail)
  have hc := sread_any I9.out.1 (k := 1) (by decide +kernel) (by decide +kernel)
  rw [I9.out.2.1] at hc
  refine hc.mono ?_
  clear hc
  rintro e w10 ⟨Ya, Yc, rfl, hsr, hst, hk⟩
  have Y10 : Hid (SrcA f5 w10 Ya (fst6.new'.getD 1 [])) := SrcA.of_new I9.out.1 hsr hst
  have hn := Next.kept I9.out.1 I9.out.2.2.2.size hst hk
  have I10 : Hid (StAt w10 w.heap.size f5 fst7 ∧ f5.b = pb ∧ SrcA f5 w10 (some ⟨g, 0, none⟩) firstB ∧ Below w.heap.size w w10) :=
    ⟨hn.2.1, hn.1.trans I9.out.2.1, SrcA.next I9.out.2.2.1 hn, I9.out.2.2.2.trans hn.2.2.1⟩
  have X10 : Hid (SrcA f5 w10 Xa (fst2.new'.getD 1 [])) := SrcA.next X9.out hn
  clear hsr hst hk hn
  dsimp only
  obtain ⟨xb, xo, rfl, x0, x1⟩ : ∃ xb xo, Xa = some ⟨xb, xo, none⟩ ∧ w10.cell? ⟨xb, xo, none⟩ = some (.int .u8 7) ∧ w10.cell? ⟨xb, xo + 127, none⟩ = some (.int .u8 0) := by
    obtain ⟨e0, e1, e2⟩ := fst2_read
    rcases X10.out with h | ⟨xb, xo, h1, _, h3⟩
    · omega
    · have k0 := h3 0 (by omega)
      have k1 := h3 127 (by omega)
      rw [e0] at k0
      rw [e1] at k1
      exact ⟨xb, xo, h1, k0, k1⟩
  obtain ⟨yb, yo, rfl, y1⟩ : ∃ yb yo, Ya = some ⟨yb, yo, none⟩ ∧ w10.cell? ⟨yb, yo + 127, none⟩ = some (.int .u8 9) := by
    obtain ⟨e1, e2⟩ := fst6_read
    rcases Y10.out with h | ⟨yb, yo, h1, _, h3⟩
    · omega
    · have k1 := h3 127 (by omega)
      rw [e1] at k1
      exact ⟨yb, yo, h1, k1⟩
  go_wp2_with (fail)
  refine (snew_no w10 0 (by omega)).mono ?_
  rintro e w11 ⟨rfl, rfl⟩
  dsimp only
  go_wp2_with (fail)
  have hc := slen_any I10.out.1
  rw [I10.out.2.1] at hc
  refine hc.mono ?_
  clear hc
  rintro e w12 ⟨rfl, rfl⟩
  rw [show fst7.L.length = 2 by decide +kernel]
  dsimp only
  go_wp2_with (fail)
  have hc := soff_any I10.out.1
  rw [I10.out.2.1] at hc
  refine hc.mono ?_
  clear hc
  rintro e w13 ⟨rfl, rfl⟩
  rw [show decide (fst7.C = 0) = false by decide +kernel]
  dsimp only
  go_wp2_with (fail)
  have hc := simage_any I10.out.1
  rw [I10.out.2.1] at hc
  refine hc.mono ?_
  clear hc
  rintro e w14 ⟨ia, ic, rfl, hsr, hB⟩
  rw [show fst7.L.length = 2 by decide +kernel]
  have HE := Lib.hid (I10.out.2.2.2.trans (hB.mono I10.out.2.2.2.size))
  clear hsr hB
  dsimp only
  go_wp2_with (fail)
  go_ret
  exact ⟨rfl, HE.out⟩
end Go.Proofs.Ytggecfecodoigaa
