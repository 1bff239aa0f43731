/-
  The contracts of a store's Sync and Crash, and of the functions that they hand to settle.
-/
import Derived.Test.YtggecfecodoigaaStoreSettle
import Derived.Shelf.Abstract
namespace Go.Proofs.Ytggecfecodoigaa
open Go Go.RowKit

theorem sync1_any (w : World) (i : Int) : Calls Try.prog 37 #[.int .i64 i] w fun e w' => e = .returned (.int .i64 128) ∧ w' = w := by
  go_enter Try.func37, Try.ntmps37
  go_wp2_with (fail)
  go_ret
  exact ⟨rfl, rfl⟩
theorem sync1_tells (f : StF) (w : World) (n : Nat) : Tells f w 37 #[] n (fun _ => 128) :=
  ⟨enters_of Try.func37 (by kernel_rfl) rfl, fun w' _ i _ => sync1_any w' i⟩
section
variable {w : World} {base : Nat} {f : StF} {s : StS}
theorem ssync_off (h : StAt w base f s) (h0 : s.C = 0) : Calls Try.prog 12 #[.pointer (some ⟨f.b, 0, none⟩)] w fun e w' => e = .returned (.int .i64 31) ∧ w' = w := by
  have HS := Lib.hid h
  have H0 := Lib.hid h0
  clear h h0
  go_enter Try.func12, Try.ntmps12
  go_wp2_with (fail)
  refine (sspend_no HS.out H0.out).mono ?_
  rintro e w1 ⟨rfl, rfl⟩
  dsimp only
  go_wp2_with (fail)
  go_ret
  exact ⟨rfl, rfl⟩
theorem ssync_any (h : StAt w base f s) (h0 : s.C ≠ 0) : Calls Try.prog 12 #[.pointer (some ⟨f.b, 0, none⟩)] w fun e w' => e = .returned (.int .i64 0) ∧ SEnd w base f s.synced w' := by
  have HS := Lib.hid h
  have H0 := Lib.hid h0
  clear h h0
  go_enter Try.func12, Try.ntmps12
  go_wp2_with (fail)
  refine (sspend_yes HS.out H0.out).mono ?_
  rintro e w1 ⟨rfl, hA, hK⟩
  have HA := Lib.hid (And.intro hA hK)
  clear hA hK
  dsimp only
  go_wp2_with (fail)
  refine (ssettle_any HA.out.1 (m := fun _ => 128) (fun _ => Nat.le_refl _) (sync1_tells f w1 _)).mono ?_
  rintro e w2 ⟨rfl, hE⟩
  rw [settled_all HS.out.ok] at hE
  have HE := Lib.hid (SEnd.trans (fun _ h => .inl h) rfl HA.out.2 hE)
  clear hE
  dsimp only
  go_wp2_with (fail)
  go_ret
  exact ⟨rfl, HE.out⟩
end
/-- A slice of bools that came in. -/
def KeepAt (w : World) (a : Option Addr) (keep : List Bool) : Prop :=
  keep.length = 0 ∨ ∃ ab off, a = some ⟨ab, off, none⟩ ∧ ∀ j < keep.length, w.cell? ⟨ab, off + j, none⟩ = some (.bool (keep.getD j false))
theorem crash1_any (w : World) (b5 b6 b7 : Nat) (ka : Option Addr) (kc : Nat) (keep : List Bool) (t c : Int) (h5 : w.cell? ⟨b5, 0, none⟩ = some (.slice ka keep.length kc)) (h6 : w.cell? ⟨b6, 0, none⟩ = some (.int .i64 t))
    (h7 : w.cell? ⟨b7, 0, none⟩ = some (.int .i64 c)) (hk : KeepAt w ka keep) (i : Nat) :
    Calls Try.prog 36 #[.int .i64 (i : Int), .pointer (some ⟨b6, 0, none⟩), .pointer (some ⟨b7, 0, none⟩), .pointer (some ⟨b5, 0, none⟩)] w
      fun e w' => e = .returned (.int .i64 (if (i : Int) = t then c else if keep.getD i false = true then 128 else 0)) ∧ w' = w := by
  by_cases ht : (i : Int) = t
  · rw [if_pos ht]
    have ht' : ((i : Int) == t) = true := by simpa using ht
    go_enter Try.func36, Try.ntmps36
    go_wp2_with (fail)
    go_ret
    exact ⟨rfl, rfl⟩
  · rw [if_neg ht]
    by_cases hl : i < keep.length
    · obtain ⟨ab, off, rfl, hc⟩ : ∃ ab off, ka = some ⟨ab, off, none⟩ ∧ ∀ j < keep.length, w.cell? ⟨ab, off + j, none⟩ = some (.bool (keep.getD j false)) := by
        rcases hk with h | h
        · omega
        · exact h
      have hci := hc i hl
      obtain ⟨kb, hkb⟩ : ∃ kb, kb = keep.getD i false := ⟨_, rfl⟩
      rw [← hkb] at hci ⊢
      have hl' : (0 : Int) ≤ (i : Int) ∧ (i : Int) < keep.length := by omega
      clear hc hk hkb hl
      cases kb
      · go_enter Try.func36, Try.ntmps36
        go_wp2_with (fail)
        go_ret
        exact ⟨rfl, rfl⟩
      · go_enter Try.func36, Try.ntmps36
        go_wp2_with (fail)
        go_ret
        exact ⟨rfl, rfl⟩
    · rw [if_neg (by rw [List.getD_eq_getElem?_getD, List.getElem?_eq_none (by omega)]; decide)]
      have hl' : ¬ (i : Int) < keep.length := by omega
      clear hk hl
      go_enter Try.func36, Try.ntmps36
      go_wp2_with (fail)
      go_ret
      exact ⟨rfl, rfl⟩
theorem crash_tells {w : World} {f : StF} {b5 b6 b7 : Nat} {ka : Option Addr} {kc : Nat} {keep : List Bool} {t c : Int} (h5 : w.heap[b5]? = some (.cells #[.slice ka keep.length kc] 45 (0, 0)))
    (h6 : w.heap[b6]? = some (.cells #[.int .i64 t] 3 (0, 0))) (h7 : w.heap[b7]? = some (.cells #[.int .i64 (if c < 0 ∨ 128 < c then 128 else c)] 3 (0, 0))) (hk : KeepAt w ka keep)
    (hn : ¬ f.has b5 ∧ ¬ f.has b6 ∧ ¬ f.has b7) (hka : ∀ ab, keep.length ≠ 0 → ka.map (·.block) = some ab → ¬ f.has ab) (n : Nat) :
    Tells f w 36 #[.pointer (some ⟨b6, 0, none⟩), .pointer (some ⟨b7, 0, none⟩), .pointer (some ⟨b5, 0, none⟩)] n (crashM keep t c) := by
  refine ⟨enters_of Try.func36 (by kernel_rfl) rfl, fun w' hK i _ => ?_⟩
  have e : ∀ {b : Nat} {v : Value} {ty : TypeId}, w.heap[b]? = some (.cells #[v] ty (0, 0)) → ¬ f.has b → w'.cell? ⟨b, 0, none⟩ = some v := fun {b v ty} hb hf => by
    rw [World.cell?_of_block (w := w) (hK.block b (Array.getElem?_eq_some_iff.1 hb).1 hf), cell_of_row _ _ _ _ _ _ hb]
    rfl
  have hk' : KeepAt w' ka keep := by
    rcases hk with h | ⟨ab, off, ha, hc⟩
    · exact .inl h
    · refine .inr ⟨ab, off, ha, fun j hj => ?_⟩
      rw [World.cell?_of_block (w := w) (hK.block ab (block_lt_of_cell (hc j hj)) (hka ab (by omega) (by rw [ha]; rfl)))]
      exact hc j hj
  refine (crash1_any w' b5 b6 b7 ka kc keep t _ (e h5 hn.1) (e h6 hn.2.1) (e h7 hn.2.2) hk' i).mono ?_
  rintro e' w'' ⟨rfl, rfl⟩
  refine ⟨?_, rfl⟩
  congr 2
  unfold crashM
  split
  · split <;> omega
  · split <;> rfl
theorem crash_boxes {w : World} {base : Nat} {f : StF} {s : StS} (h : StAt w base f s) {ka : Option Addr} {kc n : Nat} {keep : List Bool} {t c cc : Int} (hk : KeepAt w ka keep) (hka : ∀ ab, keep.length ≠ 0 → ka.map (·.block) = some ab → ¬ f.has ab) (hn : n = keep.length)
    (hcc : cc = if c < 0 ∨ 128 < c then 128 else c) {w1 : World} (hw : w1 = ((w.alloc (.cells #[.slice ka n kc] 45)).alloc (.cells #[.int .i64 t] 3)).alloc (.cells #[.int .i64 cc] 3)) :
    StAt w1 base f s ∧ SKept f w w1 ∧ Tells f w1 36 #[.pointer (some ⟨w.heap.size + 1, 0, none⟩), .pointer (some ⟨w.heap.size + 1 + 1, 0, none⟩), .pointer (some ⟨w.heap.size, 0, none⟩)] s.W.length (crashM keep t c) := by
  subst hn
  have e1 : (w.alloc (.cells #[.slice ka keep.length kc] 45)).heap.size = w.heap.size + 1 := by simp
  have e2 : ((w.alloc (.cells #[.slice ka keep.length kc] 45)).alloc (.cells #[.int .i64 t] 3)).heap.size = w.heap.size + 1 + 1 := by simp
  have hB : Below w.heap.size w w1 := by
    rw [hw]
    exact (((Below.refl _ w).alloc (by omega) _).alloc (by omega) _).alloc (by omega) _
  have h5 : w1.heap[w.heap.size]? = some (.cells #[.slice ka keep.length kc] 45 (0, 0)) := by
    rw [hw, heap_alloc_old _ _ (by omega), heap_alloc_old _ _ (by omega), heap_alloc_new]
  have h6 : w1.heap[w.heap.size + 1]? = some (.cells #[.int .i64 t] 3 (0, 0)) := by
    rw [hw, heap_alloc_old _ _ (by omega), ← e1, heap_alloc_new]
  have h7 : w1.heap[w.heap.size + 1 + 1]? = some (.cells #[.int .i64 (if c < 0 ∨ 128 < c then 128 else c)] 3 (0, 0)) := by
    rw [hw, ← e2, heap_alloc_new, hcc]
  have hnf : ∀ k, w.heap.size ≤ k → ¬ f.has k := fun k hk hf => by have := h.lt hf; omega
  have hk1 : KeepAt w1 ka keep := by
    rcases hk with h | ⟨ab, off, ha, hc⟩
    · exact .inl h
    · exact .inr ⟨ab, off, ha, fun j hj => (hB.cell (p := ⟨ab, off + j, none⟩) (block_lt_of_cell (hc j hj))).trans (hc j hj)⟩
  exact ⟨h.far hB, SKept.of_below hB, crash_tells h5 h6 h7 hk1 ⟨hnf _ (by omega), hnf _ (by omega), hnf _ (by omega)⟩ hka _⟩
theorem crash_end {w w1 w2 : World} {base : Nat} {f f1 : StF} {s : StS} {keep : List Bool} {t c : Int} (hA : StAt w2 base f1 (s.settled (crashM keep t c))) (hb : f1.b = f.b) (hf : ∀ k, f1.has k → f.has k ∨ w1.heap.size ≤ k)
    (hk : SKept f w1 w2) (hk1 : SKept f w w1) : SEnd w base f (s.crashed keep t c) (w2.setCell ⟨f.b, 3, none⟩ (.int .i64 (-1))) := by
  rw [crashed_eq, ← hb]
  have h2 : SKept f w w2 := hk1.trans (fun _ h => .inl h) hk
  have hf' : ∀ k, f1.has k → f.has k ∨ w.heap.size ≤ k := fun k h => (hf k h).imp id fun h' => Nat.le_trans hk1.size h'
  exact ⟨f1, hA.called (by omega), hb, hf', h2.trans hf' (SKept.cell (.inl rfl) _ _)⟩
set_option maxRecDepth 100000 in
theorem scrash_any {w : World} {base : Nat} {f : StF} {s : StS} (h : StAt w base f s) (ka : Option Addr) (kc : Nat) (keep : List Bool) (t c : Int) (hk : KeepAt w ka keep) (hka : ∀ ab, keep.length ≠ 0 → ka.map (·.block) = some ab → ¬ f.has ab) :
    Calls Try.prog 10 #[.pointer (some ⟨f.b, 0, none⟩), .slice ka keep.length kc, .int .i64 t, .int .i64 c] w fun e w' => e = .returned (.tuple #[]) ∧ SEnd w base f (s.crashed keep t c) w' := by
  have HS := Lib.hid h
  have HK := Lib.hid (And.intro hk hka)
  clear h hk hka
  obtain ⟨n, hn⟩ : ∃ n, n = keep.length := ⟨_, rfl⟩
  rw [← hn]
  have HN := Lib.hid hn
  clear hn
  by_cases h0 : c < 0
  · go_enter Try.func10, Try.ntmps10
    go_upto_region 4 with (fail)
    obtain ⟨w1, hw1⟩ : ∃ W, W = ((w.alloc (.cells #[.slice ka n kc] 45)).alloc (.cells #[.int .i64 t] 3)).alloc (.cells #[.int .i64 128] 3) := ⟨_, rfl⟩
    rw [← hw1]
    have HE := Lib.hid (crash_boxes HS.out HK.out.1 HK.out.2 HN.out (if_pos (.inl h0)).symm hw1)
    clear hw1
    go_wp2_with (fail)
    refine (ssettle_any HE.out.1 (m := crashM keep t c) (crashM_le keep t c) HE.out.2.2).mono ?_
    rintro e w2 ⟨rfl, f1, hA, hb, hf, hk1⟩
    have d3 := hA.cell3
    have f3 := hA.free 3
    have H2 := Lib.hid (And.intro hA (And.intro hb (And.intro hf hk1)))
    rw [hb] at d3 f3
    clear hA hb hf hk1
    dsimp only
    go_wp2_with (fail)
    go_end0
    exact ⟨rfl, crash_end H2.out.1 H2.out.2.1 H2.out.2.2.1 H2.out.2.2.2 HE.out.2.1⟩
  by_cases h1 : 128 < c
  · go_enter Try.func10, Try.ntmps10
    go_upto_region 4 with (fail)
    obtain ⟨w1, hw1⟩ : ∃ W, W = ((w.alloc (.cells #[.slice ka n kc] 45)).alloc (.cells #[.int .i64 t] 3)).alloc (.cells #[.int .i64 128] 3) := ⟨_, rfl⟩
    rw [← hw1]
    have HE := Lib.hid (crash_boxes HS.out HK.out.1 HK.out.2 HN.out (if_pos (.inr h1)).symm hw1)
    clear hw1
    go_wp2_with (fail)
    refine (ssettle_any HE.out.1 (m := crashM keep t c) (crashM_le keep t c) HE.out.2.2).mono ?_
    rintro e w2 ⟨rfl, f1, hA, hb, hf, hk1⟩
    have d3 := hA.cell3
    have f3 := hA.free 3
    have H2 := Lib.hid (And.intro hA (And.intro hb (And.intro hf hk1)))
    rw [hb] at d3 f3
    clear hA hb hf hk1
    dsimp only
    go_wp2_with (fail)
    go_end0
    exact ⟨rfl, crash_end H2.out.1 H2.out.2.1 H2.out.2.2.1 H2.out.2.2.2 HE.out.2.1⟩
  · go_enter Try.func10, Try.ntmps10
    go_upto_region 4 with (fail)
    obtain ⟨w1, hw1⟩ : ∃ W, W = ((w.alloc (.cells #[.slice ka n kc] 45)).alloc (.cells #[.int .i64 t] 3)).alloc (.cells #[.int .i64 c] 3) := ⟨_, rfl⟩
    rw [← hw1]
    have HE := Lib.hid (crash_boxes HS.out HK.out.1 HK.out.2 HN.out (if_neg (by omega)).symm hw1)
    clear hw1
    go_wp2_with (fail)
    refine (ssettle_any HE.out.1 (m := crashM keep t c) (crashM_le keep t c) HE.out.2.2).mono ?_
    rintro e w2 ⟨rfl, f1, hA, hb, hf, hk1⟩
    have d3 := hA.cell3
    have f3 := hA.free 3
    have H2 := Lib.hid (And.intro hA (And.intro hb (And.intro hf hk1)))
    rw [hb] at d3 f3
    clear hA hb hf hk1
    dsimp only
    go_wp2_with (fail)
    go_end0
    exact ⟨rfl, crash_end H2.out.1 H2.out.2.1 H2.out.2.2.1 H2.out.2.2.2 HE.out.2.1⟩
end Go.Proofs.Ytggecfecodoigaa
