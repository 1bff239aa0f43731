/-
  Bytes as a string of Go, behind an opaque name.
-/
import Derived.Test.YtmjanplhgpcbeaaDoorRows
import Derived.Test.YtmjanplhgpcbeaaDoorCoreOps
import Derived.Laws.IdiomStrings
import Derived.Great.BuildSlice
namespace Go.Proofs.YtmjanplhgpcbeaaDoor
open Go Go.RowKit

/-- Some slice of these bytes. -/
def stSrc (m : List (BitVec 8)) : StV := ⟨fun w v => ∃ a c, v = .slice a m.length c ∧ SrcP w a m.length m, fun _ _ _ h ⟨a, c, hv, hs⟩ => ⟨a, c, hv, hs.lay h⟩⟩
theorem info_u8 : ∃ i, Tryd.prog.info? 5 = some i ∧ i.zero = some (.int .u8 0) ∧ i.size = 1 ∧ i.bytes = 1 := by
  have h : (Tryd.prog.info? 5).map (fun i => (i.zero, i.size, i.bytes)) = some (some (.int .u8 0), 1, 1) := by kernel_rfl
  cases hq : Tryd.prog.info? 5 with
  | none => simp [hq] at h
  | some i =>
    simp [hq] at h
    exact ⟨i, rfl, h.1, h.2.1, h.2.2⟩
theorem append_empty (w : World) (g : Nat) (a : Option Addr) (c : Nat) (m : List (BitVec 8)) (h : SrcP w a m.length m) (hl : m.length ≤ 1048576) :
    ∃ v' w', (Builtin.append_ #[29, 29] 29 #[.slice (some ⟨g, 0, none⟩) 0 0, .slice a m.length c]).run Tryd.prog w = .ok v' w' ∧ (stSrc m).p w' v' ∧ Below w.heap.size w w' := by
  obtain ⟨i, hi, hz, hs, hb⟩ := info_u8
  by_cases h0 : m.length = 0
  · have hm : m = [] := List.eq_nil_of_length_eq_zero h0
    subst hm
    refine ⟨.slice (some ⟨g, 0, none⟩) 0 0, w, ?_, ⟨_, _, rfl, .inl rfl⟩, Below.refl _ _⟩
    cases a with
    | none => simp [Builtin.append_, run_underlying Tryd.underlying29, sizeOf, typeInfo, hi, Builtin.lenOf, Builtin.firstCells, storeCells]
    | some a => simp [Builtin.append_, run_underlying Tryd.underlying29, sizeOf, typeInfo, hi, Builtin.lenOf, Builtin.firstCells, storeCells, loadCells, loadCellsFrom]
  · rcases h with h | ⟨ab, off, rfl, hc⟩
    · exact absurd h h0
    · have hcell : ∀ (j : Nat) (v : Value), (m.map B)[j]? = some v → w.cell? ((⟨ab, off, none⟩ : Addr).add j) = some v := by
        intro j v hv
        rw [List.getElem?_map] at hv
        cases hx : m[j]? with
        | none => rw [hx] at hv; cases hv
        | some y =>
          rw [hx] at hv
          simp only [Option.map_some, Option.some.injEq] at hv
          have hj : j < m.length := (List.getElem?_eq_some_iff.1 hx).1
          rw [addr_add, hc j hj, ← hv]
          simp [gl, hx]
      have hrun := run_append_grow (P := Tryd.prog) w 29 29 5 i (.int .u8 0) Tryd.underlying29 hi hz ⟨g, 0, none⟩ 0 0 [] (by simp) (by simp) ⟨ab, off, none⟩ m.length c (m.map B) (by simp [hs]) hcell (by omega) (by omega)
        (by
          have : Builtin.nextslicecap (0 + m.length) 0 = m.length := by
            unfold Builtin.nextslicecap
            rw [if_pos (by omega)]
            omega
          rw [this, hb]
          omega)
      refine ⟨_, _, hrun, ⟨some ⟨w.heap.size, 0, none⟩, _, by rw [Nat.zero_add], ?_⟩, ?_⟩
      · refine src_new (heap_alloc_new w.drew _) fun j hj => ?_
        rw [Array.getElem?_append_left (by simp; omega), Array.getElem?_append_right (by simp)]
        simp [gl, hj]
      · exact ((Below.refl _ w).drew).alloc (Nat.le_refl _) _
/-- Bytes as a string. -/
def strOf (m : List (BitVec 8)) : ByteArray := strOfNums (m.map fun x => (x.toNat : Int))
theorem run_conv_str (w : World) (a : Option Addr) (c : Nat) (m : List (BitVec 8)) (h : SrcP w a m.length m) : (convert 29 9 (.slice a m.length c)).run Tryd.prog w = .ok (.string (strOf m)) w := by
  have hz : m = [] → ∀ b off c, (convert 29 9 (.slice (some ⟨b, off, none⟩) m.length c)).run Tryd.prog w = .ok (.string (strOf m)) w := fun hm b off c => by
    subst hm
    exact run_convert_bytes_arg w _ _ Tryd.underlying29 Tryd.underlying5 b off 0 c [] rfl (fun i hi => by omega) _ Tryd.underlying9
  rcases h with h | ⟨ab, off, rfl, hc⟩
  · have hm : m = [] := List.eq_nil_of_length_eq_zero h
    cases a with
    | none =>
      subst hm
      exact run_convert_bytes_nil w _ _ Tryd.underlying29 Tryd.underlying5 _ _ _ Tryd.underlying9
    | some a =>
      subst hm
      rw [run_convert_bytes_string w _ _ _ _ _ _ Tryd.underlying29 Tryd.underlying5 Tryd.underlying9]
      simp [Conv.bytesToString]
      rfl
  · refine run_convert_bytes_arg w _ _ Tryd.underlying29 Tryd.underlying5 ab off m.length c _ (by simp) (fun i hi => ?_) _ Tryd.underlying9
    rw [hc i hi]
    simp [B, gl, hi]
theorem map_inj {α β : Type} {f : α → β} (hf : ∀ x y, f x = f y → x = y) : ∀ (l l' : List α), l.map f = l'.map f → l = l'
  | [], [], _ => rfl
  | [], _ :: _, h => by simp at h
  | _ :: _, [], h => by simp at h
  | x :: l, y :: l', h => by
    simp only [List.map_cons, List.cons.injEq] at h
    rw [hf _ _ h.1, map_inj hf l l' h.2]
theorem str_eq (m1 m2 : List (BitVec 8)) : ((strOf m1).toList == (strOf m2).toList) = decide (m1 = m2) := by
  rw [Bool.eq_iff_iff, beq_iff_eq, decide_eq_true_eq]
  refine ⟨fun h => ?_, fun h => by rw [h]⟩
  rw [ByteArray.toList_eq, ByteArray.toList_eq] at h
  simp only [strOf, strOfNums_data, List.map_map] at h
  refine map_inj (fun x y hxy => ?_) _ _ h
  simp only [Function.comp, Int.toNat_natCast] at hxy
  have := congrArg UInt8.toNat hxy
  simp at this
  exact BitVec.eq_of_toNat_eq (by omega)
def Sv (m : List (BitVec 8)) : Value := .string (strOf m)
theorem strOf_size (m : List (BitVec 8)) : (strOf m).size = m.length := by simp [strOf, strOfNums_size]
theorem strOf_data (m : List (BitVec 8)) : (strOf m).data = (m.map fun x => UInt8.ofNat x.toNat).toArray := by
  simp [strOf, strOfNums]
theorem strOf_append (a b : List (BitVec 8)) : strOf a ++ strOf b = strOf (a ++ b) := by
  have : (strOf a ++ strOf b).data = (strOf (a ++ b)).data := by
    rw [ByteArray.data_append, strOf_data, strOf_data, strOf_data]
    simp
  cases h1 : strOf a ++ strOf b
  cases h2 : strOf (a ++ b)
  rw [h1, h2] at this
  simpa using this
theorem run_add_Sv (w : World) (a b : List (BitVec 8)) (h : a.length + b.length ≤ 1048576) : (binOp .add 9 (Sv a) (Sv b)).run Tryd.prog w = .ok (Sv (a ++ b)) w := by
  show (Op.stringOp .add (strOf a) (strOf b)).run Tryd.prog w = _
  rw [run_string_add_sum w _ _ (by rw [strOf_size, strOf_size]; omega), strOf_append]
  rfl
theorem run_len_Sv (w : World) (ty : TypeId) (a : List (BitVec 8)) : (Builtin.len_ #[9] ty #[Sv a]).run Tryd.prog w = .ok (.int .i64 (a.length : Int)) w := by
  show (Builtin.len_ #[9] ty #[.string (strOf a)]).run Tryd.prog w = _
  rw [run_len_string w _ _ _ Tryd.underlying9, strOf_size]
  rfl
theorem run_index_Sv (w : World) (a : List (BitVec 8)) (i : Nat) (h : i < a.length) : (Instr.index 9 (Sv a) (.int .i64 (i : Int))).run Tryd.prog w = .ok (B (gl a i)) w := by
  show (Instr.index 9 (.string (strOf a)) (.int .i64 (i : Int))).run Tryd.prog w = _
  rw [run_index_string w _ _ _ _ Tryd.underlying9]
  have hs := strOf_size a
  rw [dif_pos (by rw [hs]; omega)]
  congr 1
  show Value.int .u8 _ = Value.int .u8 _
  congr 1
  have e : ∀ (hi : i < (strOf a).size), ((strOf a)[i]'hi) = UInt8.ofNat (gl a i).toNat := by
    intro hi
    have : ((strOf a)[i]'hi) = (strOf a).data[i]'(by simpa using hi) := rfl
    rw [this]
    simp only [strOf_data, List.getElem_toArray, List.getElem_map]
    simp [gl, h]
  have h2 := (gl a i).isLt
  simp only [Int.toNat_natCast]
  rw [e]
  simp
theorem run_slice1_B {ops : Array Oper} {rest : List Oper} {o : Oper} {a : Act} {w : World} {Q : Exit → Act → World → Prop} (hg : o.guard = none) (y : Operand) (ho : o.op = .buildSlice 29 1 #[(0, y)]) (x : BitVec 8) (hy : a.eval y = B x)
    (h : wpList Tryd.prog ops Q rest (a.put o.dst (.slice (some ⟨w.heap.size, 0, none⟩) 1 1)) (w.alloc (.cells #[B x] 5))) : wpList Tryd.prog ops Q (o :: rest) a w := by
  have hF : Instr.fill (fun i => some (i * 1, 1)) ((Array.range (1 * 1)).map ((Value.int .u8 0).cells[· % (Value.int .u8 0).cells.size]!)) [(0, B x)] = some #[B x] := by kernel_rfl
  obtain ⟨i, hi, hz0, hz1, hz2⟩ := info_u8
  refine wpList_buildSlice hg 29 5 1 _ ho #[B x] i _ Tryd.underlying29 hi hz0 (by rw [hz1]; decide) (by rw [hz1]; decide) ?_ h
  rw [hz1]
  simp only [List.map_toArray, List.map_cons, List.map_nil, hy]
  exact hF
theorem run_conv_one (w : World) (g c : Nat) (x : BitVec 8) (h : w.cell? ⟨g, 0, none⟩ = some (B x)) : (convert 29 9 (.slice (some ⟨g, 0, none⟩) 1 c)).run Tryd.prog w = .ok (Sv [x]) w :=
  run_conv_str w (some ⟨g, 0, none⟩) c [x] (.inr ⟨g, 0, rfl, fun j hj => by
    have : j = 0 := by simpa using hj
    subst this
    simpa [gl] using h⟩)
def lenS : Value → Nat | .string b => b.size | _ => 0
theorem lenS_Sv (m : List (BitVec 8)) : lenS (Sv m) = m.length := strOf_size m
set_option maxRecDepth 100000 in
/-- A string as bytes: a new row, its bytes ahead of some spare noughts. -/
theorem conv_bytes (w : World) (m : List (BitVec 8)) : ∃ c w', (convert 9 29 (Sv m)).run Tryd.prog w = .ok (.slice (some ⟨w.heap.size, 0, none⟩) m.length c) w' ∧ Below w.heap.size w w' ∧
    ∀ i < m.length, w'.cell? ⟨w.heap.size, i, none⟩ = some (B (gl m i)) := by
  have h := run_bytes_of_string (P := Tryd.prog) w 9 29 5 (strOf m) Tryd.underlying9 Tryd.underlying29 Tryd.underlying5
  rw [strOf_size] at h
  refine ⟨_, _, h, ((Below.refl _ w).drew).alloc (Nat.le_refl _) _, fun i hi => ?_⟩
  have hs : i < (strOf m).data.size := by rw [strOf_data]; simpa using hi
  have e : w.heap.size = w.drew.heap.size := rfl
  rw [e, World.cell?_alloc_mark, bytesRow_at _ _ _ hs]
  simp only [strOf_data, List.getElem_toArray, List.getElem_map]
  have := (gl m i).isLt
  simp only [B, gl, List.getD_eq_getElem?_getD, List.getElem?_eq_getElem hi, Option.getD_some] at this ⊢
  congr 2
  simp
theorem run_conv_u64_B (w : World) (b : Nat) (h : b < 256) : (convert 77 5 (.int .u64 (b : Int))).run Tryd.prog w = .ok (B (BitVec.ofNat 8 b)) w := by
  have e : (B (BitVec.ofNat 8 b)) = .int .u8 (IntKind.u8.wrap (b : Int)) := by
    rw [IntWalk.u8_in _ (by omega)]
    simp [B]
    omega
  rw [e]
  simp [convert, Conv.intToInt, run_underlying Tryd.underlying77, run_underlying Tryd.underlying5]

end Go.Proofs.YtmjanplhgpcbeaaDoor
