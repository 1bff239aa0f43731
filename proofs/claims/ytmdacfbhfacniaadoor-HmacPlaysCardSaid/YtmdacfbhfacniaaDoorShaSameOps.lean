/-
  What ShaSame's last statement wants besides: a slice appended to an empty one, bytes as a string.
-/
import Derived.Test.YtmdacfbhfacniaaDoorShaBits
namespace Go.Proofs.YtmdacfbhfacniaaDoor
open Go.RowKit

/-- Some slice of these bytes. -/
def stSrc (m : List (BitVec 8)) : StV := ⟨fun w v => ∃ a c, v = .slice a m.length c ∧ SrcP w a m.length m, fun _ _ _ h ⟨a, c, hv, hs⟩ => ⟨a, c, hv, hs.lay h⟩⟩

theorem info_u8 : ∃ i, Tryd.prog.info? 5 = some i ∧ i.zero = some (.int .u8 0) ∧ i.size = 1 ∧ i.bytes = 1 := by
  have h : (Tryd.prog.info? 5).map (fun i => (i.zero, i.size, i.bytes)) = some (some (.int .u8 0), 1, 1) := by kernel_rfl
  cases hq : Tryd.prog.info? 5 with
  | none => simp [hq] at h
  | some i =>
    simp [hq] at h
    exact ⟨i, rfl, h.1, h.2.1, h.2.2⟩

theorem append_empty (w : World) (g : Nat) (a : Option Addr) (c : Nat) (m : List (BitVec 8)) (h : SrcP w a m.length m) (hl : m.length ≤ 1048576) :
    ∃ v' w', (Builtin.append_ #[22, 22] 22 #[.slice (some ⟨g, 0, none⟩) 0 0, .slice a m.length c]).run Tryd.prog w = .ok v' w' ∧ (stSrc m).p w' v' ∧ Below w.heap.size w w' := by
  obtain ⟨i, hi, hz, hs, hb⟩ := info_u8
  by_cases h0 : m.length = 0
  · have hm : m = [] := List.eq_nil_of_length_eq_zero h0
    subst hm
    refine ⟨.slice (some ⟨g, 0, none⟩) 0 0, w, ?_, ⟨_, _, rfl, .inl rfl⟩, Below.refl _ _⟩
    cases a with
    | none => simp [Builtin.append_, run_underlying Tryd.underlying22, sizeOf, typeInfo, hi, Builtin.lenOf, Builtin.firstCells, storeCells]
    | some a => simp [Builtin.append_, run_underlying Tryd.underlying22, sizeOf, typeInfo, hi, Builtin.lenOf, Builtin.firstCells, storeCells, loadCells, loadCellsFrom]
  · rcases h with h | ⟨ab, off, rfl, hc⟩
    · exact absurd h h0
    · have hcell : ∀ (j : Nat) (v : Value), (m.map B)[j]? = some v → w.cell? ((⟨ab, off, none⟩ : Addr).add j) = some v := by
        intro j v hv
        rw [List.getElem?_map] at hv
        cases hx : m[j]? with
        | none => rw [hx] at hv; cases hv
        | some y =>
          rw [hx] at hv
          simp only [Option.map_some, Option.some.injEq] at hv
          have hj : j < m.length := (List.getElem?_eq_some_iff.1 hx).1
          rw [addr_add, hc j hj, ← hv]
          simp [gl, hx]
      have hrun := run_append_grow (P := Tryd.prog) w 22 22 5 i (.int .u8 0) Tryd.underlying22 hi hz ⟨g, 0, none⟩ 0 0 [] (by simp) (by simp) ⟨ab, off, none⟩ m.length c (m.map B) (by simp [hs]) hcell (by omega) (by omega)
        (by
          have : Builtin.nextslicecap (0 + m.length) 0 = m.length := by
            unfold Builtin.nextslicecap
            rw [if_pos (by omega)]
            omega
          rw [this, hb]
          omega)
      refine ⟨_, _, hrun, ⟨some ⟨w.heap.size, 0, none⟩, _, by rw [Nat.zero_add], ?_⟩, ?_⟩
      · refine src_new (heap_alloc_new w.drew _) fun j hj => ?_
        rw [Array.getElem?_append_left (by simp; omega), Array.getElem?_append_right (by simp)]
        simp [gl, hj]
      · exact ((Below.refl _ w).drew).alloc (Nat.le_refl _) _

/-- Bytes as a string. -/
def strOf (m : List (BitVec 8)) : ByteArray := strOfNums (m.map fun x => (x.toNat : Int))
theorem run_conv_str (w : World) (a : Option Addr) (c : Nat) (m : List (BitVec 8)) (h : SrcP w a m.length m) : (convert 22 9 (.slice a m.length c)).run Tryd.prog w = .ok (.string (strOf m)) w := by
  have hz : m = [] → ∀ b off c, (convert 22 9 (.slice (some ⟨b, off, none⟩) m.length c)).run Tryd.prog w = .ok (.string (strOf m)) w := fun hm b off c => by
    subst hm
    exact run_convert_bytes_arg w _ _ Tryd.underlying22 Tryd.underlying5 b off 0 c [] rfl (fun i hi => by omega) _ Tryd.underlying9
  rcases h with h | ⟨ab, off, rfl, hc⟩
  · have hm : m = [] := List.eq_nil_of_length_eq_zero h
    cases a with
    | none =>
      subst hm
      exact run_convert_bytes_nil w _ _ Tryd.underlying22 Tryd.underlying5 _ _ _ Tryd.underlying9
    | some a =>
      subst hm
      rw [run_convert_bytes_string w _ _ _ _ _ _ Tryd.underlying22 Tryd.underlying5 Tryd.underlying9]
      simp [Conv.bytesToString]
      rfl
  · refine run_convert_bytes_arg w _ _ Tryd.underlying22 Tryd.underlying5 ab off m.length c _ (by simp) (fun i hi => ?_) _ Tryd.underlying9
    rw [hc i hi]
    simp [B, gl, hi]
theorem map_inj {α β : Type} {f : α → β} (hf : ∀ x y, f x = f y → x = y) : ∀ (l l' : List α), l.map f = l'.map f → l = l'
  | [], [], _ => rfl
  | [], _ :: _, h => by simp at h
  | _ :: _, [], h => by simp at h
  | x :: l, y :: l', h => by
    simp only [List.map_cons, List.cons.injEq] at h
    rw [hf _ _ h.1, map_inj hf l l' h.2]
theorem str_eq (m1 m2 : List (BitVec 8)) : ((strOf m1).toList == (strOf m2).toList) = decide (m1 = m2) := by
  rw [Bool.eq_iff_iff, beq_iff_eq, decide_eq_true_eq]
  refine ⟨fun h => ?_, fun h => by rw [h]⟩
  rw [ByteArray.toList_eq, ByteArray.toList_eq] at h
  simp only [strOf, strOfNums_data, List.map_map] at h
  refine map_inj (fun x y hxy => ?_) _ _ h
  simp only [Function.comp, Int.toNat_natCast] at hxy
  have := congrArg UInt8.toNat hxy
  simp at this
  exact BitVec.eq_of_toNat_eq (by omega)

end Go.Proofs.YtmdacfbhfacniaaDoor
