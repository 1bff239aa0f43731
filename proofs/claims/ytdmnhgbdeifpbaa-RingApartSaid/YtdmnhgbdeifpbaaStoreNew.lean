/-
  The contract of store.New.
-/
import Derived.Test.YtdmnhgbdeifpbaaStoreSmall
import Derived.Laws.MakeOwn
namespace Go.Proofs.Ytdmnhgbdeifpbaa
open Go Go.RowKit

theorem info_block : ((Try.prog.info? 66).map fun i => (i.zero, i.size, i.bytes)) = some (some (.agg (List.replicate 128 (Value.int .u8 0)).toArray), 128, 128) := by kernel_rfl
theorem info_int0 : ((Try.prog.info? 3).map fun i => (i.zero, i.size, i.bytes)) = some (some (.int .i64 0), 1, 8) := by kernel_rfl
theorem rep_at (m k : Nat) (x : Value) (h : k < m) : (List.replicate m x).toArray[k]! = x := by
  rw [getElem!_pos _ _ (by simpa using h)]
  simp
theorem made_same (m n : Nat) (x : Value) (hm : 0 < m) : madeCells (List.replicate m x).toArray n = (List.replicate n x).toArray := by
  apply Array.ext_getElem?
  intro j
  unfold madeCells
  rw [Array.getElem?_map]
  by_cases hj : j < n
  · rw [show (Array.range n)[j]? = some j by simp [hj]]
    simp only [Option.map_some]
    rw [rep_at m _ x (by rw [show (List.replicate m x).toArray.size = m by simp]; exact Nat.mod_lt _ hm)]
    simp [hj]
  · rw [show (Array.range n)[j]? = none by simp; omega]
    simp
    omega
theorem made_blocks (n : Nat) : madeCells (List.replicate 128 (Value.int .u8 0)).toArray (n * 128) = rowB (List.replicate n zeroB) := by
  rw [rowB_zeros, made_same 128 _ _ (by omega), Nat.mul_comm]
theorem made_ints (n : Nat) : madeCells #[Value.int .i64 0] (n * 1) = rowR (List.replicate n 0) := by
  have h := made_same 1 (n * 1) (.int .i64 0) (by omega)
  rw [Nat.mul_one] at h ⊢
  refine Eq.trans h ?_
  simp [rowR]
theorem mk_blocks (n : Nat) (hn : n ≤ 4096) (w : World) : (Instr.makeSlice 57 (.int .i64 (n : Int)) (.int .i64 (n : Int))).run Try.prog w =
    .ok (.slice (some ⟨w.heap.size, 0, none⟩) n n) (w.alloc (.cells (rowB (List.replicate n zeroB)) 66)) := by
  have hI := info_block
  cases hq : Try.prog.info? 66 with
  | none => rw [hq] at hI; cases hI
  | some i =>
    rw [hq] at hI
    simp only [Option.map_some, Option.some.injEq, Prod.mk.injEq] at hI
    obtain ⟨hz, hs, hb⟩ := hI
    have hr := run_make (P := Try.prog) w 57 66 i _ Try.underlying57 hq hz .i64 .i64 n n (by omega) (Int.le_refl _) (by rw [hb]; omega) (by omega)
    simp only [Int.toNat_natCast] at hr
    rw [hr, hs]
    show Result.ok _ (w.alloc (.cells (madeCells (List.replicate 128 (Value.int .u8 0)).toArray (n * 128)) _)) = _
    rw [made_blocks]
theorem mk_ints (n : Nat) (hn : n ≤ 4096) (w : World) : (Instr.makeSlice 36 (.int .i64 (n : Int)) (.int .i64 (n : Int))).run Try.prog w =
    .ok (.slice (some ⟨w.heap.size, 0, none⟩) n n) (w.alloc (.cells (rowR (List.replicate n 0)) 3)) := by
  have hI := info_int0
  cases hq : Try.prog.info? 3 with
  | none => rw [hq] at hI; cases hI
  | some i =>
    rw [hq] at hI
    simp only [Option.map_some, Option.some.injEq, Prod.mk.injEq] at hI
    obtain ⟨hz, hs, hb⟩ := hI
    have hr := run_make (P := Try.prog) w 36 3 i _ Try.underlying36 hq hz .i64 .i64 n n (by omega) (Int.le_refl _) (by rw [hb]; omega) (by omega)
    simp only [Int.toNat_natCast] at hr
    rw [hr, hs]
    show Result.ok _ (w.alloc (.cells (madeCells #[Value.int .i64 0] (n * 1)) _)) = _
    rw [made_ints]
theorem snew_no (w : World) (n : Int) (hn : n < 1 ∨ 4096 < n) : Calls Try.prog 7 #[.int .i64 n] w fun e w' => e = .returned (.tuple #[.pointer none, .int .i64 2]) ∧ w' = w := by
  by_cases h1 : n < 1
  · go_enter Try.func7, Try.ntmps7
    go_wp2_with (fail)
    go_ret2
    exact ⟨rfl, rfl⟩
  · have h2 : 4096 < n := by omega
    clear hn
    go_enter Try.func7, Try.ntmps7
    go_wp2_with (fail)
    go_ret2
    exact ⟨rfl, rfl⟩
/-- A new store, whichever row was made first. -/
def NewAt (w : World) (n : Nat) (e : Ending) (w' : World) : Prop :=
  ∃ f : StF, e = .returned (.tuple #[.pointer (some ⟨f.b, 0, none⟩), .int .i64 0]) ∧ StAt w' w.heap.size f (StS.new n) ∧ Below w.heap.size w w'
theorem newAt_of {w w' : World} {n : Nat} (h1 : 1 ≤ n) (h2 : n ≤ 4096) {b l m r : Nat}
    (ho : w'.heap[b]? = some (.cells #[.slice (some ⟨l, 0, none⟩) n n, .slice (some ⟨m, 0, none⟩) n n, .slice none 0 0, .int .i64 (-1), .slice (some ⟨r, 0, none⟩) n n] 60 (0, 0)))
    (hB : Below w.heap.size w w') (hl : w'.heap[l]? = some (.cells (rowB (List.replicate n zeroB)) 66 (0, 0)))
    (hn : w'.heap[m]? = some (.cells (rowB (List.replicate n zeroB)) 66 (0, 0))) (hr : w'.heap[r]? = some (.cells (rowR (List.replicate n 0)) 3 (0, 0)))
    (hb : w.heap.size ≤ b ∧ w.heap.size ≤ l ∧ w.heap.size ≤ m ∧ w.heap.size ≤ r) (hne : l ≠ m) : NewAt w n (.returned (.tuple #[.pointer (some ⟨b, 0, none⟩), .int .i64 0])) w' :=
  ⟨⟨b, l, m, r, .slice none 0 0⟩, rfl, ⟨ok_new h1 h2, by simpa [StS.new, objC] using ho, hl, hn, World.ownsRow_nil w' _ _ 129, hr, hb, hne⟩, hB⟩
theorem four (w : World) (a b c d : Obj) : ((((w.alloc a).alloc b).alloc c).alloc d).drew.heap[w.heap.size]? = some a ∧ ((((w.alloc a).alloc b).alloc c).alloc d).drew.heap[w.heap.size + 1]? = some b ∧
    ((((w.alloc a).alloc b).alloc c).alloc d).drew.heap[w.heap.size + 1 + 1]? = some c ∧ ((((w.alloc a).alloc b).alloc c).alloc d).drew.heap[w.heap.size + 1 + 1 + 1]? = some d ∧
    Below w.heap.size w ((((w.alloc a).alloc b).alloc c).alloc d).drew := by
  have e1 : (w.alloc a).heap.size = w.heap.size + 1 := by simp
  have e2 : ((w.alloc a).alloc b).heap.size = w.heap.size + 1 + 1 := by simp
  have e3 : (((w.alloc a).alloc b).alloc c).heap.size = w.heap.size + 1 + 1 + 1 := by simp
  refine ⟨?_, ?_, ?_, ?_, ?_⟩
  · show ((((w.alloc a).alloc b).alloc c).alloc d).heap[_]? = _
    rw [heap_alloc_old _ _ (by omega), heap_alloc_old _ _ (by omega), heap_alloc_old _ _ (by omega), heap_alloc_new]
  · show ((((w.alloc a).alloc b).alloc c).alloc d).heap[_]? = _
    rw [heap_alloc_old _ _ (by omega), heap_alloc_old _ _ (by omega), ← e1, heap_alloc_new]
  · show ((((w.alloc a).alloc b).alloc c).alloc d).heap[_]? = _
    rw [heap_alloc_old _ _ (by omega), ← e2, heap_alloc_new]
  · show ((((w.alloc a).alloc b).alloc c).alloc d).heap[_]? = _
    rw [← e3, heap_alloc_new]
  · have h : Below w.heap.size w ((((w.alloc a).alloc b).alloc c).alloc d) := ((((Below.refl _ w).alloc (by omega) _).alloc (by omega) _).alloc (by omega) _).alloc (by omega) _
    exact h.trans ⟨rfl, rfl, rfl, Nat.le_refl _, fun _ _ => rfl⟩
set_option maxRecDepth 100000 in
theorem snew_any (w : World) (n : Nat) (h1 : 1 ≤ n) (h2 : n ≤ 4096) : Calls Try.prog 7 #[.int .i64 (n : Int)] w (NewAt w n) := by
  have mb := mk_blocks n h2
  have mi := mk_ints n h2
  have HN := Lib.hid (And.intro h1 h2)
  have q1 : ¬ (n : Int) < 1 := by omega
  have q2 : ¬ (4096 : Int) < n := by omega
  clear h1 h2
  go_enter Try.func7, Try.ntmps7
  go_wp2_with (fail)
  go_region
  all_goals go_wp2_with (fail)
  all_goals go_ret2
  all_goals
    refine newAt_of HN.out.1 HN.out.2 (four w _ _ _ _).2.2.2.1 (four w _ _ _ _).2.2.2.2 ?_ ?_ ?_ (by omega) (by omega)
    · first | exact (four w _ _ _ _).1 | exact (four w _ _ _ _).2.1 | exact (four w _ _ _ _).2.2.1
    · first | exact (four w _ _ _ _).1 | exact (four w _ _ _ _).2.1 | exact (four w _ _ _ _).2.2.1
    · first | exact (four w _ _ _ _).1 | exact (four w _ _ _ _).2.1 | exact (four w _ _ _ _).2.2.1
end Go.Proofs.Ytdmnhgbdeifpbaa
