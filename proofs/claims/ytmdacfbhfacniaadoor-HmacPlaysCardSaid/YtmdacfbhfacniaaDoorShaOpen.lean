/-
  What comes in by a row's reading: bytes; the tables of the package.
-/
import Derived.Test.YtmdacfbhfacniaaDoorShaBits
import Derived.ProofKit
import Derived.OpenShut
import Derived.ChangeOld
import Derived.LaidMore
import Derived.Stop.Joined
import Derived.Stop.LaidErr
import Derived.Lib.LaidTab
import Derived.SizedLaws
namespace Go.Proofs.YtmdacfbhfacniaaDoor
open Go Go.ChangeShapes Go.WideShapes Go.ChangeAt Go.WideMaps Go.WideElems Go.RowKit

theorem own : ownKnob Tryd.prog.godebug = none := by kernel_rfl
theorem laidOut : laidOutB Tryd.prog = true := by kernel_rfl
theorem gFirst : Tryd.prog.globalNamed "waterclock/sha.first" = some 0 := by kernel_rfl
theorem gRoots : Tryd.prog.globalNamed "waterclock/sha.roots" = some 1 := by kernel_rfl
theorem tFirst : (Tryd.prog.globals[0]?).map (·.type) = some 55 := by kernel_rfl
theorem tRoots : (Tryd.prog.globals[1]?).map (·.type) = some 64 := by kernel_rfl
theorem cells32 : Tryd.prog.cellsOf 54 = 1 := by kernel_rfl
theorem cellsFirst : Tryd.prog.cellsOf 55 = 8 := by kernel_rfl
theorem cellsRoots : Tryd.prog.cellsOf 64 = 64 := by kernel_rfl
def nums (l : List (BitVec 32)) : List Int := l.map fun x => (x.toNat : Int)
def laid2 : List (String × DataW Unit) := [("waterclock/sha.first", Lib.tabData .u32 (nums firstSt.ws)), ("waterclock/sha.roots", Lib.tabData .u32 (nums kTable))]
theorem laid2_is : ([("waterclock/sha.first", Rows.laid_waterclock_sha_first), ("waterclock/sha.roots", Rows.laid_waterclock_sha_roots)] : List (String × DataW Unit)) = laid2 := by kernel_rfl
theorem nums_at (l : List (BitVec 32)) (i : Nat) (h : i < l.length) : Value.int .u32 ((nums l).getD i 0) = W (l.getD i 0) := by
  simp [nums, W, h]

theorem tables_of_laid {w : World} (h : laidMetH Tryd.prog [("waterclock/sha.first", Rows.laid_waterclock_sha_first), ("waterclock/sha.roots", Rows.laid_waterclock_sha_roots)] w) :
    Tables w ∧ 0 < w.heap.size ∧ 1 < w.heap.size := by
  rw [laid2_is, MakeChecks.laidMetH_plain _ _ _ (by kernel_rfl)] at h
  have h1 := Lib.tabIs_of_head gFirst tFirst Tryd.underlying55 Tryd.underlying54 cells32 cellsFirst h
  have h2 := Lib.tabIs_of_head gRoots tRoots Tryd.underlying64 Tryd.underlying54 cells32 cellsRoots h.tail
  have c1 : ∀ i < 8, w.cell? ⟨0, i, none⟩ = some (W (firstSt.at i)) := fun i hi => by
    rw [h1.cell gFirst i (by simpa [nums, St.ws] using hi), nums_at _ _ (by simpa [St.ws] using hi)]
    rfl
  have c2 : ∀ i < 64, w.cell? ⟨1, i, none⟩ = some (W (kAt i)) := fun i hi => by
    have hl : kTable.length = 64 := rfl
    rw [h2.cell gRoots i (by simpa [nums, hl] using hi), nums_at _ _ (by rw [hl]; exact hi)]
    rfl
  exact ⟨⟨c1, c2⟩, block_lt_of_cell (c1 0 (by omega)), block_lt_of_cell (c2 0 (by omega))⟩

/-- The heap that the program's start leaves meets the condition. -/
theorem door_met (os : Os) (args : Array Value) : laidMetH Tryd.prog [("waterclock/sha.first", Rows.laid_waterclock_sha_first), ("waterclock/sha.roots", Rows.laid_waterclock_sha_roots)] ((World.doorLaid Tryd.prog 19 os).forCall (fun _ _ => 0) ⟨#[], args, []⟩).memory :=
  laidMetH_of_parts3 (fuel := 8) (laidMet_of_run' 8 (by kernel_rfl) (by kernel_rfl)) (by kernel_rfl) (by kernel_rfl)

/-- A slice of bytes that came in: its bytes. -/
theorem src_of_ints {w : World} {a : Option Addr} {len cap : Nat} {zs : List Int} (h : (a = none ∧ len = 0 ∧ cap = 0) ∨ ∃ x, a = some x ∧ len ≤ cap ∧ zs.length = cap ∧ (∀ i, i < zs.length → w.cell? (x.add i) = some (.int .u8 (zs.getD i 0))) ∧ ∀ n ∈ zs, (Lit.int .u8 n).wf = true) :
    ∃ m : List (BitVec 8), m.length = len ∧ SrcP w a m.length m := by
  rcases h with ⟨rfl, rfl, rfl⟩ | ⟨x, rfl, hl, hz, hc, hw⟩
  · exact ⟨[], rfl, .inl rfl⟩
  · refine ⟨(zs.take len).map (BitVec.ofInt 8), by simp; omega, ?_⟩
    by_cases h0 : len = 0
    · exact .inl (by simp; omega)
    · obtain ⟨b, off, spot⟩ := x
      have hs : spot = none := by
        have := World.cell?_spot (hc 0 (by omega))
        simpa [Addr.add] using this
      subst hs
      refine .inr ⟨b, off, rfl, fun i hi => ?_⟩
      have hi' : i < len := by simp at hi; omega
      have hiz : i < zs.length := by omega
      have := hc i hiz
      rw [addr_add] at this
      rw [this]
      have hwf := hw (zs[i]) (List.getElem_mem hiz)
      have hmin : IntKind.u8.min = 0 := rfl
      have hmax : IntKind.u8.max = 255 := rfl
      simp only [Lit.wf, Bool.and_eq_true, decide_eq_true_eq, hmin, hmax] at hwf
      simp only [B, gl, List.getD_eq_getElem?_getD, List.getElem?_map, List.getElem?_take, hi', if_true, List.getElem?_eq_getElem hiz, Option.map_some, Option.getD_some]
      congr 2
      simp [BitVec.toNat_ofInt]
      omega

theorem open_bytes {H : Type} {enc : TypeId × Value → H} {w : World} {a : Option Addr} {len cap : Nat} {d : DataW H} {p : List MemPlace}
    (h : DataW.Trod enc Tryd.prog w 0 (fun _ => true) true 22 (.slice a len cap) d p) :
    ∃ m : List (BitVec 8), m.length = len ∧ SrcP w a m.length m ∧ len ≤ cap ∧ (cap = 0 ∨ ∃ elems spare : List (DataW H), d = .slice elems spare ∧ elems.length + spare.length = cap) := by
  obtain ⟨fuel, hf⟩ := h
  rcases open_ints Tryd.underlying22 Tryd.underlying5 (by kernel_rfl) hf with ⟨hcs, _⟩ | ⟨x, l, c, zs, hcs, _, hl, hm, hz, hx, hcell, hwz⟩
  · simp [Value.cells] at hcs
    obtain ⟨rfl, rfl, rfl⟩ := hcs
    exact ⟨[], rfl, .inl rfl, Nat.le_refl _, .inl rfl⟩
  · simp [Value.cells] at hcs
    obtain ⟨rfl, rfl, rfl⟩ := hcs
    obtain ⟨m, hm1, hm2⟩ := src_of_ints (w := w) (a := some x) (len := len) (cap := cap) (zs := zs) (.inr ⟨x, rfl, hl, by simpa using hz, hcell, hwz⟩)
    simp only [Prod.mk.injEq] at hx
    refine ⟨m, hm1, hm2, hl, .inr ⟨_, _, hx.1, ?_⟩⟩
    have : zs.length = cap := by simpa using hz
    simp only [lits, List.length_map, List.length_take, List.length_drop]
    omega

end Go.Proofs.YtmdacfbhfacniaaDoor
