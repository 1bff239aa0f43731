/-
  Part 25 of 42 of what the proof leans on.
-/
import Derived.Test.YtdmnhgbdeifpbaaDoorO2
import Derived.Great.BuildSlice
namespace Go.Proofs.YtdmnhgbdeifpbaaDoor
open Go Go.RowKit
theorem sizeu8 : (Tryd.prog.info? 5).map (·.size) = some 1 := by kernel_rfl
theorem zerou8 : ((Tryd.prog.info? 5).bind (·.zero)).isSome = true := by kernel_rfl
def numsOf (m : List (BitVec 8)) : List Int := m.map fun x => (x.toNat : Int)
theorem numsOf_B (m : List (BitVec 8)) : (numsOf m).map (Value.int .u8) = m.map B := by simp [numsOf, B, List.map_map]
section
variable {ops : Array Oper} {rest : List Oper} {o o1 o2 : Oper} {a : Act} {w : World} {K : Act → World → Prop} {Q : Exit → Act → World → Prop}
theorem wpList_bytesLit (hg : o.guard = none) (len : Nat) (parts : Array (Nat × Operand)) (ho : o.op = .buildSlice 26 len parts) (m : List (BitVec 8)) (hlen : len = m.length) (hpos : 0 < len) (hsmall : len ≤ 2 ^ 24)
    (hparts : parts.toList = ((numsOf m).zipIdx 0).map fun x => (x.2, Operand.const (Value.int .u8 x.1)))
    (h : wpList Tryd.prog ops Q rest (a.put o.dst (.slice (some ⟨w.heap.size, 0, none⟩) len len)) (w.alloc (.cells (m.map B).toArray 5))) : wpList Tryd.prog ops Q (o :: rest) a w := by
  refine wpList_buildFlat hg 26 5 len parts ho .u8 (numsOf m) Tryd.underlying26 sizeu8 zerou8 (by rw [hlen]; simp [numsOf]) hpos hsmall hparts ?_
  rw [numsOf_B]; exact h
theorem wp_bytesLit (len : Nat) (parts : Array (Nat × Operand)) (ho : o.op = .buildSlice 26 len parts) (m : List (BitVec 8)) (hlen : len = m.length) (hpos : 0 < len) (hsmall : len ≤ 2 ^ 24)
    (hparts : parts.toList = ((numsOf m).zipIdx 0).map fun x => (x.2, Operand.const (Value.int .u8 x.1)))
    (h : K (a.put o.dst (.slice (some ⟨w.heap.size, 0, none⟩) len len)) (w.alloc (.cells (m.map B).toArray 5))) : o.wp Tryd.prog a w K Q := by
  obtain ⟨i, hi, hz0, hz1, hz2⟩ := info_u8
  refine wp_buildSlice 26 5 len parts ho _ i _ Tryd.underlying26 hi hz0 (by rw [hz1]; omega) (by rw [hz1]; omega) ?_ h
  rw [parts_eval a parts .u8 (numsOf m) hparts, hz1, numsOf_B]
  exact Great.fill_flat _ _ (fun v hv => by obtain ⟨n, _, rfl⟩ := List.mem_map.1 hv; rfl) (by simp [hlen])
theorem wp_convBytes (y : Operand) (ho : o.op = .convert 26 26 y) (g n c : Nat) (cs : Array Value) (e : TypeId) (fr : Nat × Nat) (hy : a.eval y = .slice (some ⟨g, 0, none⟩) n c) (hg : w.heap[g]? = some (.cells cs e fr))
    (h : K (a.put o.dst (.slice (some ⟨g, 0, none⟩) n c)) (w.freeze ⟨g, cs.size, none⟩ 1)) : o.wp Tryd.prog a w K Q := by
  have hc := run_conv_bytes (P := Tryd.prog) 26 5 Tryd.underlying26 Tryd.underlying5 w g n c cs e fr hg; unfold Oper.wp execOp; simp only [ho, hy, Sem.run_bind, Sem.run_pure, hc, Result.andThen_ok]; exact h
theorem wpList_bytes2 (h1 : o1.guard = none) (h2 : o2.guard = none) (d : Nat) (hd : o1.dst = some d) (hdn : d < a.tmps.size) (len : Nat) (parts : Array (Nat × Operand)) (ho1 : o1.op = .buildSlice 26 len parts) (ho2 : o2.op = .convert 26 26 (.tmp d))
    (m : List (BitVec 8)) (hlen : len = m.length) (hpos : 0 < len) (hsmall : len ≤ 2 ^ 24) (hparts : parts.toList = ((numsOf m).zipIdx 0).map fun x => (x.2, Operand.const (Value.int .u8 x.1)))
    (h : ∀ g w', Below w.heap.size w w' → w.heap.size ≤ g → (∃ fr, w'.heap[g]? = some (.cells (m.map B).toArray 5 fr)) →
      wpList Tryd.prog ops Q rest ((a.put o1.dst (.slice (some ⟨g, 0, none⟩) len len)).put o2.dst (.slice (some ⟨g, 0, none⟩) len len)) w') : wpList Tryd.prog ops Q (o1 :: o2 :: rest) a w := by
  refine wpList_bytesLit h1 len parts ho1 m hlen hpos hsmall hparts ?_; refine wpList_plain h2 fun K hK => ?_; refine wp_convBytes (.tmp d) ho2 w.heap.size len len (m.map B).toArray 5 (0, 0) ?_ (heap_alloc_new w _) (hK _ _ ?_)
  · rw [hd, eval_put, if_pos ⟨rfl, hdn⟩]
  · have hc := conv_new w (m.map B).toArray 5 (m.map B).toArray.size; exact h w.heap.size _ hc.1 (Nat.le_refl _) hc.2.1
end
end Go.Proofs.YtdmnhgbdeifpbaaDoor
