/-
  A store's methods where there is no store.
-/
import Derived.Test.YtggecfecodoigaaStoreLayd
namespace Go.Proofs.Ytggecfecodoigaa
open Go Go.RowKit

/-- What a function answers where nothing that lay is turned. -/
def Says (w : World) (v : Value) (e : Ending) (w' : World) : Prop := e = .returned v ∧ Below w.heap.size w w'
theorem nil_read (w : World) : Calls Try.prog 8 #[.pointer none, .int .i64 0] w (Says w (.tuple #[.slice none 0 0, .int .i64 1])) := by
  go_enter Try.func8, Try.ntmps8
  go_wp2_with (fail)
  go_ret2
  exact ⟨rfl, by first | exact Below.refl _ _ | exact (Below.refl _ w).alloc (Nat.le_refl _) _ | exact ((Below.refl _ w).alloc (Nat.le_refl _) _).alloc (by simp <;> omega) _ | exact (((Below.refl _ w).alloc (Nat.le_refl _) _).alloc (by simp <;> omega) _).alloc (by simp <;> omega) _⟩
theorem nil_limit (w : World) : Calls Try.prog 9 #[.pointer none, .int .i64 3] w (Says w (.tuple #[])) := by
  go_enter Try.func9, Try.ntmps9
  go_wp2_with (fail)
  go_end0
  exact ⟨rfl, by first | exact Below.refl _ _ | exact (Below.refl _ w).alloc (Nat.le_refl _) _ | exact ((Below.refl _ w).alloc (Nat.le_refl _) _).alloc (by simp <;> omega) _ | exact (((Below.refl _ w).alloc (Nat.le_refl _) _).alloc (by simp <;> omega) _).alloc (by simp <;> omega) _⟩
theorem nil_crash (w : World) : Calls Try.prog 10 #[.pointer none, .slice none 0 0, .int .i64 0, .int .i64 0] w (Says w (.tuple #[])) := by
  go_enter Try.func10, Try.ntmps10
  go_wp2_with (fail)
  go_end0
  exact ⟨rfl, by first | exact Below.refl _ _ | exact (Below.refl _ w).alloc (Nat.le_refl _) _ | exact ((Below.refl _ w).alloc (Nat.le_refl _) _).alloc (by simp <;> omega) _ | exact (((Below.refl _ w).alloc (Nat.le_refl _) _).alloc (by simp <;> omega) _).alloc (by simp <;> omega) _⟩
theorem nil_write (w : World) : Calls Try.prog 11 #[.pointer none, .int .i64 0, .slice none 0 0] w (Says w (.int .i64 1)) := by
  go_enter Try.func11, Try.ntmps11
  go_wp2_with (fail)
  go_ret
  exact ⟨rfl, by first | exact Below.refl _ _ | exact (Below.refl _ w).alloc (Nat.le_refl _) _ | exact ((Below.refl _ w).alloc (Nat.le_refl _) _).alloc (by simp <;> omega) _ | exact (((Below.refl _ w).alloc (Nat.le_refl _) _).alloc (by simp <;> omega) _).alloc (by simp <;> omega) _⟩
theorem nil_spend (w : World) : Calls Try.prog 13 #[.pointer none] w (Says w (.int .i64 1)) := by
  go_enter Try.func13, Try.ntmps13
  go_wp2_with (fail)
  go_ret
  exact ⟨rfl, by first | exact Below.refl _ _ | exact (Below.refl _ w).alloc (Nat.le_refl _) _ | exact ((Below.refl _ w).alloc (Nat.le_refl _) _).alloc (by simp <;> omega) _ | exact (((Below.refl _ w).alloc (Nat.le_refl _) _).alloc (by simp <;> omega) _).alloc (by simp <;> omega) _⟩
theorem nil_sync (w : World) : Calls Try.prog 12 #[.pointer none] w (Says w (.int .i64 1)) := by
  go_enter Try.func12, Try.ntmps12
  go_wp2_with (fail)
  refine (nil_spend w).mono ?_
  rintro e w9 ⟨rfl, hB⟩
  have HB := Lib.hid hB
  clear hB
  dsimp only
  go_wp2_with (fail)
  go_ret
  exact ⟨rfl, HB.out⟩
theorem nil_len (w : World) : Calls Try.prog 14 #[.pointer none] w (Says w (.int .i64 0)) := by
  go_enter Try.func14, Try.ntmps14
  go_wp2_with (fail)
  go_ret
  exact ⟨rfl, by first | exact Below.refl _ _ | exact (Below.refl _ w).alloc (Nat.le_refl _) _ | exact ((Below.refl _ w).alloc (Nat.le_refl _) _).alloc (by simp <;> omega) _ | exact (((Below.refl _ w).alloc (Nat.le_refl _) _).alloc (by simp <;> omega) _).alloc (by simp <;> omega) _⟩
theorem nil_waits (w : World) : Calls Try.prog 15 #[.pointer none] w (Says w (.slice none 0 0)) := by
  go_enter Try.func15, Try.ntmps15
  go_wp2_with (fail)
  go_ret
  exact ⟨rfl, by first | exact Below.refl _ _ | exact (Below.refl _ w).alloc (Nat.le_refl _) _ | exact ((Below.refl _ w).alloc (Nat.le_refl _) _).alloc (by simp <;> omega) _ | exact (((Below.refl _ w).alloc (Nat.le_refl _) _).alloc (by simp <;> omega) _).alloc (by simp <;> omega) _⟩
theorem nil_image (w : World) : Calls Try.prog 16 #[.pointer none] w (Says w (.slice none 0 0)) := by
  go_enter Try.func16, Try.ntmps16
  go_wp2_with (fail)
  go_ret
  exact ⟨rfl, by first | exact Below.refl _ _ | exact (Below.refl _ w).alloc (Nat.le_refl _) _ | exact ((Below.refl _ w).alloc (Nat.le_refl _) _).alloc (by simp <;> omega) _ | exact (((Below.refl _ w).alloc (Nat.le_refl _) _).alloc (by simp <;> omega) _).alloc (by simp <;> omega) _⟩
theorem nil_reads (w : World) : Calls Try.prog 17 #[.pointer none] w (Says w (.slice none 0 0)) := by
  go_enter Try.func17, Try.ntmps17
  go_wp2_with (fail)
  go_ret
  exact ⟨rfl, by first | exact Below.refl _ _ | exact (Below.refl _ w).alloc (Nat.le_refl _) _ | exact ((Below.refl _ w).alloc (Nat.le_refl _) _).alloc (by simp <;> omega) _ | exact (((Below.refl _ w).alloc (Nat.le_refl _) _).alloc (by simp <;> omega) _).alloc (by simp <;> omega) _⟩
theorem nil_off (w : World) : Calls Try.prog 18 #[.pointer none] w (Says w (.bool false)) := by
  go_enter Try.func18, Try.ntmps18
  go_wp2_with (fail)
  go_ret
  exact ⟨rfl, by first | exact Below.refl _ _ | exact (Below.refl _ w).alloc (Nat.le_refl _) _ | exact ((Below.refl _ w).alloc (Nat.le_refl _) _).alloc (by simp <;> omega) _ | exact (((Below.refl _ w).alloc (Nat.le_refl _) _).alloc (by simp <;> omega) _).alloc (by simp <;> omega) _⟩
theorem nil_has (w : World) : Calls Try.prog 33 #[.pointer none, .int .i64 0] w (Says w (.bool false)) := by
  go_enter Try.func33, Try.ntmps33
  go_wp2_with (fail)
  refine (nil_len w).mono ?_
  rintro e w9 ⟨rfl, hB⟩
  have HB := Lib.hid hB
  clear hB
  dsimp only
  go_wp2_with (fail)
  go_ret
  exact ⟨rfl, HB.out⟩
theorem nil_lay (w : World) : Calls Try.prog 19 #[.pointer none, .int .i64 0, .slice none 0 0] w (Says w (.bool false)) := by
  obtain ⟨w1, hw1⟩ : ∃ W, W = w.alloc (.cells #[.int .i64 0] 3) := ⟨_, rfl⟩
  have hB : Below w.heap.size w w1 := by rw [hw1]; exact (Below.refl _ w).alloc (Nat.le_refl _) _
  have b0 : w1.cell? ⟨w.heap.size, 0, none⟩ = some (.int .i64 0) := by
    rw [hw1, cell_of_row _ _ _ _ _ _ (heap_alloc_new w _)]
    rfl
  have HS := Lib.hid (And.intro hB hw1)
  clear hB hw1
  go_enter Try.func19, Try.ntmps19
  go_upto_region 1 with (fail)
  rw [← HS.out.2]
  go_wp2_with (fail)
  refine (nil_has w1).mono ?_
  rintro e w9 ⟨rfl, hB⟩
  have HB := Lib.hid (HS.out.1.trans (hB.mono HS.out.1.size))
  clear hB
  dsimp only
  go_wp2_with (fail)
  go_ret
  exact ⟨rfl, HB.out⟩
theorem nil_load (w : World) : Calls Try.prog 20 #[.pointer none, .slice none 0 0] w (Says w (.bool false)) := by
  go_enter Try.func20, Try.ntmps20
  go_wp2_with (fail)
  go_ret
  exact ⟨rfl, by first | exact Below.refl _ _ | exact (Below.refl _ w).alloc (Nat.le_refl _) _ | exact ((Below.refl _ w).alloc (Nat.le_refl _) _).alloc (by simp <;> omega) _ | exact (((Below.refl _ w).alloc (Nat.le_refl _) _).alloc (by simp <;> omega) _).alloc (by simp <;> omega) _⟩
end Go.Proofs.Ytggecfecodoigaa
