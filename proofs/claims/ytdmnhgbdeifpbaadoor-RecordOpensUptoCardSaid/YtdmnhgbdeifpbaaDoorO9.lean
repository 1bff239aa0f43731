/-
  Part 9 of 42 of what the proof leans on.
-/
import Derived.Test.YtdmnhgbdeifpbaaDoorO2
import Derived.ProofKit
import Derived.OpenShut
import Derived.ChangeOld
import Derived.LaidMore
import Derived.Stop.Joined
import Derived.Stop.LaidErr
import Derived.Lib.LaidTab
import Derived.SizedLaws
import Derived.Deep.Slices
import Derived.ChangeSame
namespace Go.Proofs.YtdmnhgbdeifpbaaDoor
open Go Go.ChangeShapes Go.WideShapes Go.ChangeAt Go.WideMaps Go.WideElems Go.RowKit
theorem own : ownKnob Tryd.prog.godebug = none := by kernel_rfl
theorem laidOut : laidOutB Tryd.prog = true := by kernel_rfl
theorem src_of_ints {w : World} {a : Option Addr} {len cap : Nat} {zs : List Int} (h : (a = none ∧ len = 0 ∧ cap = 0) ∨ ∃ x, a = some x ∧ len ≤ cap ∧ zs.length = cap ∧ (∀ i, i < zs.length → w.cell? (x.add i) = some (.int .u8 (zs.getD i 0))) ∧ ∀ n ∈ zs, (Lit.int .u8 n).wf = true) :
    ∃ m : List (BitVec 8), m.length = len ∧ SrcP w a m.length m := by
  rcases h with ⟨rfl, rfl, rfl⟩ | ⟨x, rfl, hl, hz, hc, hw⟩
  · exact ⟨[], rfl, .inl rfl⟩
  · refine ⟨(zs.take len).map (BitVec.ofInt 8), by simp; omega, ?_⟩
    by_cases h0 : len = 0
    · exact .inl (by simp; omega)
    · obtain ⟨b, off, spot⟩ := x
      have hs : spot = none := by
        have := World.cell?_spot (hc 0 (by omega))
        simpa [Addr.add] using this
      subst hs; refine .inr ⟨b, off, rfl, fun i hi => ?_⟩
      have hi' : i < len := by simp at hi; omega
      have hiz : i < zs.length := by omega
      have := hc i hiz; rw [addr_add] at this; rw [this]; have hwf := hw (zs[i]) (List.getElem_mem hiz); have hmin : IntKind.u8.min = 0 := rfl; have hmax : IntKind.u8.max = 255 := rfl; simp only [Lit.wf, Bool.and_eq_true, decide_eq_true_eq, hmin, hmax] at hwf; simp only [B, gl, List.getD_eq_getElem?_getD, List.getElem?_map, List.getElem?_take, hi', if_true, List.getElem?_eq_getElem hiz, Option.map_some, Option.getD_some]
      congr 2
      simp [BitVec.toNat_ofInt]; omega
theorem open_bytes {H : Type} {enc : TypeId × Value → H} {w : World} {a : Option Addr} {len cap : Nat} {d : DataW H} {p : List MemPlace}
    (h : DataW.Trod enc Tryd.prog w 0 (fun _ => true) true 26 (.slice a len cap) d p) :
    ∃ m : List (BitVec 8), m.length = len ∧ SrcP w a m.length m ∧ len ≤ cap ∧ (cap = 0 ∨ ∃ elems spare : List (DataW H), d = .slice elems spare ∧ elems.length + spare.length = cap) := by
  obtain ⟨fuel, hf⟩ := h
  rcases open_ints Tryd.underlying26 Tryd.underlying5 (by kernel_rfl) hf with ⟨hcs, _⟩ | ⟨x, l, c, zs, hcs, _, hl, hm, hz, hx, hcell, hwz⟩
  · simp [Value.cells] at hcs; obtain ⟨rfl, rfl, rfl⟩ := hcs; exact ⟨[], rfl, .inl rfl, Nat.le_refl _, .inl rfl⟩
  · simp [Value.cells] at hcs; obtain ⟨rfl, rfl, rfl⟩ := hcs
    obtain ⟨m, hm1, hm2⟩ := src_of_ints (w := w) (a := some x) (len := len) (cap := cap) (zs := zs) (.inr ⟨x, rfl, hl, by simpa using hz, hcell, hwz⟩)
    simp only [Prod.mk.injEq] at hx; refine ⟨m, hm1, hm2, hl, .inr ⟨_, _, hx.1, ?_⟩⟩
    have : zs.length = cap := by simpa using hz
    simp only [lits, List.length_map, List.length_take, List.length_drop]; omega
end Go.Proofs.YtdmnhgbdeifpbaaDoor
namespace Go.Proofs.YtdmnhgbdeifpbaaDoor
open Go Go.ChangeShapes Go.WideShapes Go.ChangeAt Go.WideMaps Go.WideElems Go.RowKit
def recB (P : Program) (fs : Array Field) : Bool := (List.range fs.size).all fun j => match fs[j]? with | some f => f.offset == j && P.cellsOf f.type == 1 | none => true
theorem recB_spec {P : Program} {fs : Array Field} (h : recB P fs = true) {j : Nat} {f : Field} (hj : fs[j]? = some f) : f.offset = j ∧ P.cellsOf f.type = 1 := by
  have hl : j < fs.size := (Array.getElem?_eq_some_iff.1 hj).1; have := List.all_eq_true.1 h j (List.mem_range.2 hl); simp only [hj, Bool.and_eq_true, beq_iff_eq] at this; exact this
end Go.Proofs.YtdmnhgbdeifpbaaDoor
namespace Go.Proofs.YtdmnhgbdeifpbaaDoor
open Go Go.RowKit
end Go.Proofs.YtdmnhgbdeifpbaaDoor
