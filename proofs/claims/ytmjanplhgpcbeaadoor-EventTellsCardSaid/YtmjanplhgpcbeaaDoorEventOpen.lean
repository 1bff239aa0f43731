/-
  What comes in by a row's reading at layer 5: the library's table of powers, its errors, and how long a needle it looks for.
-/
import Derived.Test.YtmjanplhgpcbeaaDoorEventParse
import Derived.Test.YtmjanplhgpcbeaaDoorRows
import Derived.Test.YtmjanplhgpcbeaaDoorCoreOpen
import Derived.ProofKit
import Derived.OpenShut
import Derived.ChangeOld
import Derived.LaidMore
import Derived.Lay
import Derived.Stop.Joined
import Derived.Stop.LaidErr
import Derived.Lib.LaidTab
import Derived.SizedLaws
import Derived.WideKeyPair
import Derived.Shelf.Vars
import Derived.FnData
import Derived.Deep.DeepWitnessRowRef
namespace Go.Proofs.YtmjanplhgpcbeaaDoor
open Go Go.ChangeShapes Go.WideShapes Go.ChangeAt Go.WideMaps Go.WideElems Go.RowKit

def laidE : List (String × DataW Unit) := Rows.eventBackUptoRow.laid
theorem tPow : (Tryd.prog.globals[0]?).map (·.type) = some 102 := by kernel_rfl
theorem cells64 : Tryd.prog.cellsOf 77 = 1 := by kernel_rfl
theorem cellsPow : Tryd.prog.cellsOf 102 = 20 := by kernel_rfl
theorem laidE_is : ∃ a b c d e f, laidE = [a, b, ("internal/strconv.uint64pow10", Lib.tabData .u64 Lib.pow10Tab), c, ("strconv.ErrRange", .iface "*errors.errorString" (.ptr (.agg [.lit (.string d)]))), ("strconv.ErrSyntax", .iface "*errors.errorString" (.ptr (.agg [.lit (.string e)]))), f] := by
  have e : (Rows.laid_internal_strconv_uint64pow10 : DataW Unit) = Lib.tabData .u64 Lib.pow10Tab := by kernel_rfl
  unfold laidE Rows.eventBackUptoRow
  dsimp only
  rw [e]
  exact ⟨_, _, _, _, _, _, rfl⟩
theorem pow_of_laid {w : World} (h : laidMetH Tryd.prog laidE w) : PowTab w := by
  rw [MakeChecks.laidMetH_plain _ _ _ (by kernel_rfl)] at h
  obtain ⟨a, b, c, d, e', f, e⟩ := laidE_is
  rw [e] at h
  exact Lib.tabIs_of_head gPow tPow Tryd.underlying102 Tryd.underlying77 cells64 cellsPow h.tail.tail
theorem gER : Tryd.prog.globalNamed "strconv.ErrRange" = some 3 := by kernel_rfl
theorem gES : Tryd.prog.globalNamed "strconv.ErrSyntax" = some 2 := by kernel_rfl
theorem tER : (Tryd.prog.globals[3]?).map (·.type) = some 86 := by kernel_rfl
theorem tES : (Tryd.prog.globals[2]?).map (·.type) = some 86 := by kernel_rfl
theorem cellsErr : Tryd.prog.cellsOf 129 = 1 := by kernel_rfl
theorem cellsStr : Tryd.prog.cellsOf 9 = 1 := by kernel_rfl
theorem starErr : "*" ++ "errors.errorString" = "*errors.errorString" := by decide
theorem rowErr (u : TypeId) (h : Tryd.prog.typeName? 3 u = some "*errors.errorString") : u = 127 :=
  typeName_ptr_named (nm := "errors.errorString") (by rw [starErr]; kernel_rfl) (by kernel_rfl) (by decide) u (by rw [starErr]; exact h)
theorem errs_of_laid {w : World} (h : laidMetH Tryd.prog laidE w) : ErrsIn w := by
  rw [MakeChecks.laidMetH_plain _ _ _ (by kernel_rfl)] at h
  obtain ⟨a, b, c, d, e', f, e⟩ := laidE_is
  rw [e] at h
  obtain ⟨a1, s1, hv1, _⟩ := laid_sentinel h.tail.tail.tail.tail gER tER Tryd.underlying86 rowErr Tryd.underlying127 Tryd.underlying129 rfl rfl Tryd.underlying9 cellsErr cellsStr
  obtain ⟨a2, s2, hv2, _⟩ := laid_sentinel h.tail.tail.tail.tail.tail gES tES Tryd.underlying86 rowErr Tryd.underlying127 Tryd.underlying129 rfl rfl Tryd.underlying9 cellsErr cellsStr
  intro g hg
  rcases hg with rfl | rfl
  · exact ⟨_, World.var?_cell gES hv2 0, .inr ⟨_, _, rfl⟩⟩
  · exact ⟨_, World.var?_cell gER hv1 0, .inr ⟨_, _, rfl⟩⟩
theorem max_of_shape {w : World} (h : w.ShapedOpen Tryd.prog) : ∃ m, w.cell? ⟨1, 0, none⟩ = some (.int .i64 m) :=
  cell_of_shapedOpen_int (P := Tryd.prog) (g := 1) (t := 3) (zero := #[.int .i64 0]) h (of_decide_eq_true (by kernel_rfl)) (by kernel_rfl) rfl (by kernel_rfl) (by kernel_rfl) Tryd.underlying3
theorem lib_of {w : World} (h : laidMetH Tryd.prog laidE w) (hs : w.ShapedOpen Tryd.prog) : LibIn w := ⟨pow_of_laid h, errs_of_laid h, max_of_shape hs⟩
theorem laid_met (os : Os) (args : Array Value) : laidMetH Tryd.prog laidE ((World.laidAll Tryd.prog os laidE).forCall (fun _ _ => 0) ⟨#[], args, []⟩).memory := by
  rw [MakeChecks.laidMetH_plain _ _ _ (by kernel_rfl)]
  exact laidMet_laidAll _ (by kernel_rfl) (by kernel_rfl)
theorem laid_shaped (os : Os) (args : Array Value) : ((World.laidAll Tryd.prog os laidE).forCall (fun _ _ => 0) ⟨#[], args, []⟩).Shaped Tryd.prog := World.shaped_of_ZipB (by kernel_rfl) (by kernel_rfl)
end Go.Proofs.YtmjanplhgpcbeaaDoor
