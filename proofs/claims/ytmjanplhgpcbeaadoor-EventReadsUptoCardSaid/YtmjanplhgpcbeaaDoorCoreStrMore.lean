/-
  More of strings: parts of them, when two are the same; sums of any length.
-/
import Derived.Test.YtmjanplhgpcbeaaDoorCoreStr
import Derived.Laws.Strings2
namespace Go.Proofs.YtmjanplhgpcbeaaDoor
open Go Go.RowKit

theorem strOf_extract (m : List (BitVec 8)) (l h : Nat) : (strOf m).extract l h = strOf ((m.drop l).take (h - l)) := by
  have : ((strOf m).extract l h).data = (strOf ((m.drop l).take (h - l))).data := by
    rw [ByteArray.data_extract, strOf_data, strOf_data, List.extract_toArray, List.extract_eq_take_drop, List.map_take, List.map_drop]
  cases h1 : (strOf m).extract l h
  cases h2 : strOf ((m.drop l).take (h - l))
  rw [h1, h2] at this
  simpa using this
theorem run_drop_Sv (w : World) (m : List (BitVec 8)) (n : Nat) (h : n ≤ m.length) : (Instr.slice 9 (Sv m) (some (.int .i64 (n : Int))) none none).run Tryd.prog w = .ok (Sv (m.drop n)) w := by
  have hs := strOf_size m
  have e : (strOf m).extract n m.length = strOf (m.drop n) := by rw [strOf_extract, List.take_of_length_le (by simp)]
  simp [Sv, Instr.slice, run_underlying Tryd.underlying9, Instr.sliceBounds, run_sliceBound, hs, h, e]
theorem run_take_Sv (w : World) (m : List (BitVec 8)) (n : Nat) (h : n ≤ m.length) : (Instr.slice 9 (Sv m) none (some (.int .i64 (n : Int))) none).run Tryd.prog w = .ok (Sv (m.take n)) w := by
  have hs := strOf_size m
  have e : (strOf m).extract 0 n = strOf (m.take n) := by rw [strOf_extract]; simp
  simp [Sv, Instr.slice, run_underlying Tryd.underlying9, Instr.sliceBounds, run_sliceBound, hs, h, e]
theorem run_eql_Sv (w : World) (a b : List (BitVec 8)) : (binOp .eql 9 (Sv a) (Sv b)).run Tryd.prog w = .ok (.bool (decide (a = b))) w := by
  show Result.ok (Value.bool ((strOf a).toList == (strOf b).toList)) w = _
  rw [str_eq]
theorem run_neq_Sv (w : World) (a b : List (BitVec 8)) : (binOp .neq 9 (Sv a) (Sv b)).run Tryd.prog w = .ok (.bool (!decide (a = b))) w := by
  show Result.ok (Value.bool (!((strOf a).toList == (strOf b).toList))) w = _
  rw [str_eq]
theorem run_eqGuard_Sv {P : Program} (w : World) (op : BinOp) (t : TypeId) (o1 o2 : Operand) (m : List (BitVec 8)) (v : Value) : (eqGuard op t o1 o2 (Sv m) v).run P w = .ok () w := by
  unfold eqGuard Sv
  cases op <;> rfl
theorem run_eqGuard_Svr {P : Program} (w : World) (op : BinOp) (t : TypeId) (o1 o2 : Operand) (m : List (BitVec 8)) (s : ByteArray) : (eqGuard op t o1 o2 (.string s) (Sv m)).run P w = .ok () w := by
  unfold eqGuard Sv
  cases op <;> rfl
theorem Sv_nil : (Value.string ⟨#[]⟩) = Sv [] := rfl
theorem run_eql_Sv0 (w : World) (a : List (BitVec 8)) : (binOp .eql 9 (Sv a) (.string ⟨#[]⟩)).run Tryd.prog w = .ok (.bool (decide (a = []))) w := run_eql_Sv w a []
theorem run_neq_Sv0 (w : World) (a : List (BitVec 8)) : (binOp .neq 9 (Sv a) (.string ⟨#[]⟩)).run Tryd.prog w = .ok (.bool (!decide (a = []))) w := run_neq_Sv w a []
attribute [go_sem] run_eqGuard_Sv run_eqGuard_Svr run_eql_Sv run_neq_Sv run_eql_Sv0 run_neq_Sv0
theorem run_index_Sv0 (w : World) (x : BitVec 8) (a : List (BitVec 8)) : (Instr.index 9 (Sv (x :: a)) (.int .i64 0)).run Tryd.prog w = .ok (B x) w := by
  have := run_index_Sv w (x :: a) 0 (by simp)
  simpa [gl] using this
theorem Sv_oneCell (m : List (BitVec 8)) : (Sv m).oneCell' = true := rfl
theorem run_store_Sv (P : Program) (w : World) (a : Addr) (k : Mode) (m : List (BitVec 8)) : (store a (Sv m) k).run P w = stored P w a (Sv m) k := run_store P w a _ k rfl
theorem Sv_cells (m : List (BitVec 8)) : (Sv m).cells = #[Sv m] := rfl
theorem run_storeCells_Sv (P : Program) (w : World) (a : Addr) (m : List (BitVec 8)) : (storeCells a [Sv m]).run P w = stored P w a (Sv m) .plain := by
  have : a.add 0 = a := by simp [Addr.add]
  simp only [storeCells, Sem.run_bind, this, run_store_Sv]
  cases stored P w a (Sv m) .plain <;> rfl
attribute [go_sem] Sv_oneCell run_store_Sv Sv_cells run_storeCells_Sv
/-- Every string that comes in is one of a list of bytes. -/
theorem sv_of (s : ByteArray) : ∃ m : List (BitVec 8), Value.string s = Sv m ∧ m.length = s.size := by
  refine ⟨s.data.toList.map fun x => BitVec.ofNat 8 x.toNat, ?_, by simp⟩
  have : s.data = (strOf (s.data.toList.map fun x => BitVec.ofNat 8 x.toNat)).data := by
    rw [strOf_data, List.map_map]
    apply Array.ext'
    have : ((fun x : BitVec 8 => UInt8.ofNat x.toNat) ∘ fun x : UInt8 => BitVec.ofNat 8 x.toNat) = id := by
      funext x
      have := x.toNat_lt
      simp
    rw [this, List.map_id]
  have e : s = strOf (s.data.toList.map fun x => BitVec.ofNat 8 x.toNat) := by
    cases s
    cases h : strOf _ with
    | mk d =>
      rw [h] at this
      simpa using this
  rw [Sv, ← e]
/-- The sum of two strings, of whatever length an int can tell. -/
theorem run_add_SvW (w : World) (a b : List (BitVec 8)) (h : a.length + b.length ≤ 9223372036854775807) : (binOp .add 9 (Sv a) (Sv b)).run Tryd.prog w = .ok (Sv (a ++ b)) w := by
  show (Op.stringOp .add (strOf a) (strOf b)).run Tryd.prog w = _
  have e : ¬ ((((strOf a).size + (strOf b).size : Nat) : Int) > IntKind.i64.max) := by
    rw [strOf_size, strOf_size]
    have : IntKind.i64.max = 9223372036854775807 := rfl
    omega
  simp only [Op.stringOp, if_neg e]
  rw [strOf_append]
  rfl
end Go.Proofs.YtmjanplhgpcbeaaDoor
