/-
  A slice of slices of bytes that came in: its parts, and how many bytes they are together.
-/
import Derived.Test.YtmdacfbhfacniaaDoorShaOpen
import Derived.Test.YtmdacfbhfacniaaDoorShaSumF
import Derived.Deep.Matrix
namespace Go.Proofs.YtmdacfbhfacniaaDoor
open Go Go.ChangeShapes Go.WideShapes Go.ChangeAt Go.WideMaps Go.WideElems Go.RowKit

namespace bulks
theorem one_le {H : Type} (d : DataW H) : 1 ≤ Rows.uptoBulk d := by
  cases d with
  | lit l => cases l <;> simp [Rows.uptoBulk]
  | nil => simp [Rows.uptoBulk]
  | ptr d => simp [Rows.uptoBulk]
  | slice elems spare => simp [Rows.uptoBulk]
  | agg parts => simp [Rows.uptoBulk]
  | iface t d => simp [Rows.uptoBulk]
  | map entries => simp [Rows.uptoBulk]
  | held h => simp [Rows.uptoBulk]
theorem length_le {H : Type} (l : List (DataW H)) : l.length ≤ Rows.uptoBulkAll l := by
  induction l with
  | nil => simp [Rows.uptoBulkAll]
  | cons x r ih => have := one_le x; simp only [Rows.uptoBulkAll, List.length_cons]; omega
theorem slice_le {H : Type} (elems spare : List (DataW H)) : elems.length + spare.length + 1 ≤ Rows.uptoBulk (.slice elems spare) := by
  have h1 := length_le elems
  have h2 := length_le spare
  simp only [Rows.uptoBulk]
  omega
/-- What the parts of a list have together is at most what the list has. -/
theorem sum_le {H α : Type} (f : α → DataW H) (g : α → List (BitVec 8)) : ∀ l : List α, (∀ x ∈ l, (g x).length ≤ Rows.uptoBulk (f x)) → (l.flatMap g).length ≤ Rows.uptoBulkAll (l.map f)
  | [], _ => by simp [Rows.uptoBulkAll]
  | x :: l, h => by
    have h1 := h x (by simp)
    have h2 := sum_le f g l (fun y hy => h y (by simp [hy]))
    simp only [List.flatMap_cons, List.length_append, List.map_cons, Rows.uptoBulkAll]
    omega
end bulks

theorem cells_u8 : Tryd.prog.cellsOf 5 = 1 := by kernel_rfl
theorem cells_bytes : Tryd.prog.cellsOf 22 = 1 := by kernel_rfl

theorem open_parts {H : Type} {enc : TypeId × Value → H} {w : World} {a : Option Addr} {len cap : Nat} {d : DataW H} {p : List MemPlace}
    (h : DataW.Trod enc Tryd.prog w 0 (fun _ => true) true 23 (.slice a len cap) d p) :
    ∃ ps : List Part, ps.length = len ∧ PartsAt w a ps ∧ (∀ p ∈ ps, p.ok w) ∧ len ≤ Rows.uptoBulk d ∧ (flat ps).length ≤ Rows.uptoBulk d := by
  obtain ⟨fuel, hf⟩ := h
  rcases Deep.open_int_rows Tryd.underlying23 Tryd.underlying22 Tryd.underlying5 cells_bytes cells_u8 hf with ⟨hcs, _⟩ | ⟨x, l, c, A, L, C, Z, hcs, _, hl, hm, hx, hr⟩
  · simp [Value.cells] at hcs
    obtain ⟨rfl, rfl, rfl⟩ := hcs
    exact ⟨[], rfl, .inl rfl, by simp, Nat.zero_le _, Nat.zero_le _⟩
  · simp [Value.cells] at hcs
    obtain ⟨rfl, rfl, rfl⟩ := hcs
    have each : ∀ r < len, ∃ m : List (BitVec 8), m.length = L r ∧ SrcP w (A r) m.length m := fun r hrl => by
      obtain ⟨h1, h2, h3, h4, h5, h6, h7⟩ := hr r (by omega)
      refine src_of_ints (w := w) (a := A r) (len := L r) (cap := C r) (zs := Z r) ?_
      cases hA : A r with
      | none => exact .inl ⟨rfl, by have := h6 hA; omega, h6 hA⟩
      | some a' => exact .inr ⟨a', rfl, h2, h4, fun i hi => (h7 a' hA).2 i (by omega), h5⟩
    obtain ⟨M, hM⟩ := Deep.choose_lt each
    refine ⟨(List.range len).map fun r => ⟨A r, C r, M r⟩, by simp, ?_, ?_, ?_, ?_⟩
    · by_cases h0 : len = 0
      · exact .inl (by simp [h0])
      · obtain ⟨b, off, spot⟩ := x
        have hs : spot = none := by
          have := World.cell?_spot (hr 0 (by omega)).1
          simpa [Addr.add] using this
        subst hs
        refine .inr ⟨b, off, rfl, fun i p hp => ?_⟩
        rw [List.getElem?_map] at hp
        have hi : i < len := by
          rcases Nat.lt_or_ge i len with hi | hi
          · exact hi
          · rw [List.getElem?_eq_none (by simpa using hi)] at hp
            cases hp
        rw [List.getElem?_range hi] at hp
        simp only [Option.map_some, Option.some.injEq] at hp
        subst hp
        have := (hr i (by omega)).1
        rw [addr_add] at this
        rw [this, Part.val, (hM i hi).1]
    · intro p hp
      rw [List.mem_map] at hp
      obtain ⟨r, hrl, rfl⟩ := hp
      have hrl' : r < len := List.mem_range.1 hrl
      obtain ⟨h1, h2, h3, _⟩ := hr r (by omega)
      have hml : maxLen ≤ 9223372036854775807 := by unfold maxLen; omega
      exact ⟨by show (M r).length ≤ C r; rw [(hM r hrl').1]; exact h2, Nat.le_trans h3 hml, (hM r hrl').2⟩
    · simp only [Prod.mk.injEq] at hx
      have := bulks.slice_le ((List.range len).map fun r => Deep.intRow (H := H) .u8 (A r) (L r) (Z r)) ((List.range (cap - len)).map fun j => Deep.intRow (H := H) .u8 (A (len + j)) (L (len + j)) (Z (len + j)))
      rw [← hx.1] at this
      simp only [List.length_map, List.length_range] at this
      omega
    · simp only [Prod.mk.injEq] at hx
      have e : flat ((List.range len).map fun r => (⟨A r, C r, M r⟩ : Part)) = (List.range len).flatMap M := by
        rw [flat, List.flatMap_map]
      rw [e, hx.1]
      have := bulks.sum_le (fun r => Deep.intRow (H := H) .u8 (A r) (L r) (Z r)) M (List.range len) (fun r hrl => by
        have hrl' : r < len := List.mem_range.1 hrl
        obtain ⟨h1, h2, h3, h4, h5, h6, h7⟩ := hr r (by omega)
        rw [(hM r hrl').1]
        cases hA : A r with
        | none => have := h6 hA; omega
        | some a' =>
          have := bulks.slice_le (lits (H := H) .u8 ((Z r).take (L r))) (lits .u8 ((Z r).drop (L r)))
          simp only [Deep.intRow]
          simp only [lits, List.length_map, List.length_take, List.length_drop] at this ⊢
          omega)
      simp only [Rows.uptoBulk]
      omega
end Go.Proofs.YtmdacfbhfacniaaDoor
