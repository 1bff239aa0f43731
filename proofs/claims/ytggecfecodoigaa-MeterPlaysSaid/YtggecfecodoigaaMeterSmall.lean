/-
  A meter in memory, and the contracts of its functions; of a nil one's.
-/
import Derived.Test.YtggecfecodoigaaStoreNew
import Derived.BigQuiet
namespace Go.Proofs.Ytggecfecodoigaa
open Go Go.RowKit

/-- A meter by the side of the store in block b: its number, and the most that it may be. -/
def MetAt (w : World) (mb b : Nat) (n m : Int) : Prop := w.heap[mb]? = some (.cells #[.pointer (some ⟨b, 0, none⟩), .int .i64 n, .int .i64 m] 88 (0, 0))
section
variable {w : World} {mb b : Nat} {n m : Int}
theorem MetAt.cell0 (h : MetAt w mb b n m) : w.cell? ⟨mb, 0, none⟩ = some (.pointer (some ⟨b, 0, none⟩)) := by rw [cell_of_row _ _ _ _ _ _ h]; rfl
theorem MetAt.cell1 (h : MetAt w mb b n m) : w.cell? ⟨mb, 1, none⟩ = some (.int .i64 n) := by rw [cell_of_row _ _ _ _ _ _ h]; rfl
theorem MetAt.cell2 (h : MetAt w mb b n m) : w.cell? ⟨mb, 2, none⟩ = some (.int .i64 m) := by rw [cell_of_row _ _ _ _ _ _ h]; rfl
theorem MetAt.free (h : MetAt w mb b n m) (i : Nat) : w.frozen? ⟨mb, i, none⟩ = false := frozen_of_row w mb i _ _ h
theorem MetAt.lt (h : MetAt w mb b n m) : mb < w.heap.size := (Array.getElem?_eq_some_iff.1 h).1
theorem MetAt.put (h : MetAt w mb b n m) (k : Int) : MetAt (w.setCell ⟨mb, 1, none⟩ (.int .i64 k)) mb b k m := by
  unfold MetAt
  rw [heap_setCell_same w mb 1 _ _ _ h]
  rfl
theorem mvalue_any (h : MetAt w mb b n m) : Calls Try.prog 28 #[.pointer (some ⟨mb, 0, none⟩)] w fun e w' => e = .returned (.int .i64 n) ∧ w' = w := by
  have d1 := h.cell1
  clear h
  go_enter Try.func28, Try.ntmps28
  go_wp2_with (fail)
  go_ret
  exact ⟨rfl, rfl⟩
theorem mmost_any (h : MetAt w mb b n m) : Calls Try.prog 29 #[.pointer (some ⟨mb, 0, none⟩)] w fun e w' => e = .returned (.int .i64 m) ∧ w' = w := by
  have d2 := h.cell2
  clear h
  go_enter Try.func29, Try.ntmps29
  go_wp2_with (fail)
  go_ret
  exact ⟨rfl, rfl⟩
theorem mfull_any (h : MetAt w mb b n m) : Calls Try.prog 30 #[.pointer (some ⟨mb, 0, none⟩)] w fun e w' => e = .returned (.bool (decide (n = m))) ∧ ∃ k, w' = w.drewN k := by
  have d1 := h.cell1
  have d2 := h.cell2
  clear h
  go_enter Try.func30, Try.ntmps30
  go_wp2_with (fail)
  go_quiet (fail)
  go_wp2_with (fail)
  go_ret
  exact ⟨rfl, _, rfl⟩
theorem mvalue_nil (w : World) : Calls Try.prog 28 #[.pointer none] w fun e w' => e = .returned (.int .i64 0) ∧ w' = w := by
  go_enter Try.func28, Try.ntmps28
  go_wp2_with (fail)
  go_ret
  exact ⟨rfl, rfl⟩
theorem mmost_nil (w : World) : Calls Try.prog 29 #[.pointer none] w fun e w' => e = .returned (.int .i64 0) ∧ w' = w := by
  go_enter Try.func29, Try.ntmps29
  go_wp2_with (fail)
  go_ret
  exact ⟨rfl, rfl⟩
theorem mfull_nil (w : World) : Calls Try.prog 30 #[.pointer none] w fun e w' => e = .returned (.bool false) ∧ ∃ k, w' = w.drewN k := by
  go_enter Try.func30, Try.ntmps30
  go_wp2_with (fail)
  go_quiet (fail)
  go_wp2_with (fail)
  go_ret
  exact ⟨rfl, _, rfl⟩
theorem mraise_nil (w : World) : Calls Try.prog 27 #[.pointer none] w fun e w' => e = .returned (.int .i64 1) ∧ w' = w := by
  go_enter Try.func27, Try.ntmps27
  go_wp2_with (fail)
  go_ret
  exact ⟨rfl, rfl⟩
/-- A full one. -/
theorem mraise_full (h : MetAt w mb b m m) : Calls Try.prog 27 #[.pointer (some ⟨mb, 0, none⟩)] w fun e w' => e = .returned (.int .i64 33) ∧ ∃ k, w' = w.drewN k := by
  have H := Lib.hid h
  clear h
  go_enter Try.func27, Try.ntmps27
  go_wp2_with (fail)
  refine (mfull_any H.out).mono ?_
  rintro e w1 ⟨rfl, k, rfl⟩
  rw [decide_eq_true rfl]
  dsimp only
  go_wp2_with (fail)
  go_ret
  exact ⟨rfl, _, rfl⟩
/-- One whose store is off. -/
theorem mraise_off {base : Nat} {f : StF} {s : StS} (hs : StAt w base f s) (h : MetAt w mb f.b n m) (hn : n ≠ m) (h0 : s.C = 0) :
    Calls Try.prog 27 #[.pointer (some ⟨mb, 0, none⟩)] w fun e w' => e = .returned (.int .i64 31) ∧ ∃ k, w' = w.drewN k := by
  have H := Lib.hid (And.intro h (And.intro hn (And.intro hs h0)))
  clear h hn hs h0
  go_enter Try.func27, Try.ntmps27
  go_wp2_with (fail)
  refine (mfull_any H.out.1).mono ?_
  rintro e w1 ⟨rfl, k, rfl⟩
  rw [decide_eq_false H.out.2.1]
  have hB : Below w.heap.size w (w.drewN k) := below_draws (Below.refl _ _) _
  have hS := H.out.2.2.1.far hB
  have d0 : (w.drewN k).cell? ⟨mb, 0, none⟩ = some (.pointer (some ⟨f.b, 0, none⟩)) := H.out.1.cell0
  have H1 := Lib.hid hS
  clear hB hS
  dsimp only
  go_wp2_with (fail)
  refine (sspend_no H1.out H.out.2.2.2).mono ?_
  rintro e w1 ⟨rfl, rfl⟩
  dsimp only
  go_wp2_with (fail)
  go_ret
  exact ⟨rfl, _, rfl⟩
/-- One that may still rise, where the store has calls left: one more, and one call less. -/
theorem mraise_yes {base : Nat} {f : StF} {s : StS} (hs : StAt w base f s) (h : MetAt w mb f.b n m) (hn : n ≠ m) (h0 : s.C ≠ 0) (hr : -9223372036854775808 ≤ n + 1 ∧ n + 1 ≤ 9223372036854775807) :
    Calls Try.prog 27 #[.pointer (some ⟨mb, 0, none⟩)] w fun e w' => e = .returned (.int .i64 0) ∧ ∃ w1, StAt w1 base f s.spent ∧ SKept f w w1 ∧ MetAt w1 mb f.b n m ∧ w' = w1.setCell ⟨mb, 1, none⟩ (.int .i64 (n + 1)) := by
  have H := Lib.hid (And.intro h (And.intro hn (And.intro hs (And.intro h0 hr))))
  clear h hn hs h0
  go_enter Try.func27, Try.ntmps27
  go_wp2_with (fail)
  refine (mfull_any H.out.1).mono ?_
  rintro e w1 ⟨rfl, k, rfl⟩
  rw [decide_eq_false H.out.2.1]
  have hB : Below w.heap.size w (w.drewN k) := below_draws (Below.refl _ _) _
  have hS := H.out.2.2.1.far hB
  have hm : MetAt (w.drewN k) mb f.b n m := H.out.1
  have d0 := hm.cell0
  have H1 := Lib.hid (And.intro hS (And.intro hm hB))
  clear hB hS hm
  dsimp only
  go_wp2_with (fail)
  refine (sspend_yes H1.out.1 H.out.2.2.2.1).mono ?_
  rintro e w1 ⟨rfl, hA, hK⟩
  have hM : MetAt w1 mb f.b n m := (hK.block mb H1.out.2.1.lt (H1.out.1.other H1.out.2.1 (by decide) (by decide) (by decide) (by decide))).trans H1.out.2.1
  have c1 := hM.cell1
  have f1 := hM.free 1
  have HE := Lib.hid (And.intro hA (And.intro ((SKept.of_below H1.out.2.2).trans (fun _ h => .inl h) hK) hM))
  clear hA hK hM d0
  dsimp only
  go_wp2_with (fail)
  go_ret
  exact ⟨rfl, w1, HE.out.1, HE.out.2.1, HE.out.2.2, rfl⟩
theorem mnew_nil (w : World) (m : Int) : Calls Try.prog 26 #[.pointer none, .int .i64 m] w fun e w' => e = .returned (.tuple #[.pointer none, .int .i64 1]) ∧ w' = w := by
  go_enter Try.func26, Try.ntmps26
  go_wp2_with (fail)
  go_ret2
  exact ⟨rfl, rfl⟩
theorem mnew_no (w : World) (b : Nat) (m : Int) (h : m < 0 ∨ 1099511627776 < m) : Calls Try.prog 26 #[.pointer (some ⟨b, 0, none⟩), .int .i64 m] w fun e w' => e = .returned (.tuple #[.pointer none, .int .i64 2]) ∧ w' = w := by
  by_cases h1 : m < 0
  · clear h
    go_enter Try.func26, Try.ntmps26
    go_wp2_with (fail)
    go_ret2
    exact ⟨rfl, rfl⟩
  · have h2 : 1099511627776 < m := h.resolve_left h1
    clear h
    go_enter Try.func26, Try.ntmps26
    go_wp2_with (fail)
    go_ret2
    exact ⟨rfl, rfl⟩
theorem mnew_any (w : World) (b : Nat) (m : Int) (h1 : ¬ m < 0) (h2 : ¬ 1099511627776 < m) : Calls Try.prog 26 #[.pointer (some ⟨b, 0, none⟩), .int .i64 m] w fun e w' =>
    ∃ mb, e = .returned (.tuple #[.pointer (some ⟨mb, 0, none⟩), .int .i64 0]) ∧ MetAt w' mb b 0 m ∧ w.heap.size ≤ mb ∧ Below w.heap.size w w' := by
  go_enter Try.func26, Try.ntmps26
  go_wp2_with (fail)
  go_ret2
  exact ⟨w.heap.size, rfl, heap_alloc_new w _, Nat.le_refl _, (Below.refl _ w).alloc (Nat.le_refl _) _⟩
end
end Go.Proofs.Ytggecfecodoigaa
