/-
  Lists of acts (two numbers, and bytes) that came in.
-/
import Derived.Test.YteoolfifpmbkeaaDoorCoreOpen
namespace Go.Proofs.YteoolfifpmbkeaaDoor
open Go Go.ChangeShapes Go.WideShapes Go.ChangeAt Go.WideMaps Go.WideElems Go.RowKit

/-- One act: its kind, its number and its bytes. -/
structure OpR where
  kind : Int
  n : Int
  part : Part
def OpR.ok (w : World) (x : OpR) : Prop := x.part.ok w ∧ (x.part.a = none → x.part.cap = 0) ∧ -9223372036854775808 ≤ x.n ∧ x.n < 9223372036854775808 ∧ x.part.m.length ≤ 140737488355328
def OpsR (w : World) (a : Option Addr) (l : List OpR) : Prop :=
  l = [] ∨ ∃ b o, a = some ⟨b, o, none⟩ ∧ ∀ i x, l[i]? = some x → w.cell? ⟨b, o + i * 3, none⟩ = some (.int .i64 x.kind) ∧ w.cell? ⟨b, o + i * 3 + 1, none⟩ = some (.int .i64 x.n) ∧ w.cell? ⟨b, o + i * 3 + 2, none⟩ = some x.part.val
theorem OpR.ok.below {w w' : World} {x : OpR} (h : x.ok w) (hB : Below w.heap.size w w') : x.ok w' := ⟨h.1.below hB, h.2⟩
theorem OpsR.below {w w' : World} {a : Option Addr} {l : List OpR} (h : OpsR w a l) (hB : Below w.heap.size w w') : OpsR w' a l := by
  rcases h with h | ⟨b, o, h, h'⟩
  · exact .inl h
  · refine .inr ⟨b, o, h, fun i x hx => ?_⟩
    obtain ⟨h1, h2, h3⟩ := h' i x hx
    exact ⟨(hB.cell (block_lt_of_cell h1)).trans h1, (hB.cell (block_lt_of_cell h2)).trans h2, (hB.cell (block_lt_of_cell h3)).trans h3⟩
theorem bytes_u8p : Tryd.prog.bytesOf 5 = 1 := by kernel_rfl
/-- Bytes that came in as a field. -/
theorem open_field {H : Type} {enc : TypeId × Value → H} {w : World} {v : Value} {y : DataW H × List MemPlace} {n : Nat} (h : DataW.trod enc Tryd.prog w 0 (fun _ => true) true n 31 [v] = some y) (hw : ∀ k ∈ y.1.weights Tryd.prog 31, k ≤ reachBytes) :
    ∃ p : Part, v = p.val ∧ p.ok w ∧ (p.a = none → p.cap = 0) ∧ p.m.length ≤ 140737488355328 := by
  obtain ⟨d, pl⟩ := y
  rcases open_ints Tryd.underlying31 Tryd.underlying5 (by kernel_rfl) h with ⟨hcs, _⟩ | ⟨x', l', c', zs, hcs, _, hl', hm', hz, hx', hcell, hwz⟩
  · simp only [List.cons.injEq, and_true] at hcs
    exact ⟨⟨none, 0, []⟩, hcs, ⟨Nat.le_refl _, Nat.zero_le _, .inl rfl⟩, fun _ => rfl, Nat.zero_le _⟩
  · simp only [List.cons.injEq, and_true] at hcs
    have hz' : zs.length = c' := by simpa using hz
    obtain ⟨m, hm1, hm2⟩ := src_of_ints (w := w) (a := some x') (len := l') (cap := c') (zs := zs) (.inr ⟨x', rfl, hl', hz', hcell, hwz⟩)
    have hml : maxLen ≤ 9223372036854775807 := by unfold maxLen; omega
    refine ⟨⟨some x', c', m⟩, by rw [hcs, Part.val, hm1], ⟨by show m.length ≤ c'; omega, Nat.le_trans hm' hml, hm2⟩, (fun h => by cases h), ?_⟩
    show m.length ≤ _
    simp only [Prod.mk.injEq] at hx'
    have hb := hw (c' * 1) (by
      show c' * 1 ∈ d.weights Tryd.prog 31
      rw [hx'.1]
      simp only [DataW.weights, Tryd.underlying31, bytes_u8p, List.mem_cons]
      left
      simp only [lits, List.length_map, List.length_take, List.length_drop]
      omega)
    simp only [reachBytes] at hb
    omega
theorem open_field_int {H : Type} {enc : TypeId × Value → H} {w : World} {v : Value} {y : DataW H × List MemPlace} {n : Nat} (h : DataW.trod enc Tryd.prog w 0 (fun _ => true) true n 3 [v] = some y) :
    ∃ k : Int, v = .int .i64 k ∧ -9223372036854775808 ≤ k ∧ k < 9223372036854775808 := by
  obtain ⟨k, hk, _, hwf⟩ := DataW.trod_int Tryd.underlying3 h
  simp only [List.cons.injEq, and_true] at hk
  have hmin : IntKind.i64.min = -9223372036854775808 := rfl
  have hmax : IntKind.i64.max = 9223372036854775807 := rfl
  simp only [Lit.wf, Bool.and_eq_true, decide_eq_true_eq, hmin, hmax] at hwf
  exact ⟨k, hk, by omega, by omega⟩
end Go.Proofs.YteoolfifpmbkeaaDoor
