/-
  A string as bytes, and those bytes with a nought behind them.
-/
import Derived.Test.YtggecfecodoigaaStorePairs
import Derived.ArgAppend
namespace Go.Proofs.Ytggecfecodoigaa
open Go Go.RowKit

theorem below_cells {B0 g : Nat} (hg : B0 ≤ g) : ∀ (vs : List Value) (o : Nat) (w : World), Below B0 w (w.setCells g o vs)
  | [], _, w => Below.refl _ w
  | v :: vs, o, w => Below.trans (b := w.setCell ⟨g, o, none⟩ v) ⟨rfl, rfl, rfl, by simp [World.setCell], fun k hk => heap_setCell_other _ _ _ _ (show k ≠ g by omega)⟩ (below_cells hg vs (o + 1) _)
theorem conv_bytes2 (w : World) (m : List (BitVec 8)) : ∃ c w', m.length ≤ c ∧ (convert 9 28 (Sv m)).run Try.prog w = .ok (.slice (some ⟨w.heap.size, 0, none⟩) m.length c) w' ∧ Below w.heap.size w w' ∧
    (∀ i < m.length, w'.cell? ⟨w.heap.size, i, none⟩ = some (B (gl m i))) ∧ ∀ j < c, (w'.cell? ⟨w.heap.size, j, none⟩).isSome = true ∧ w'.frozen? ⟨w.heap.size, j, none⟩ = false := by
  have h := run_bytes_of_string (P := Try.prog) w 9 28 5 (strOf m) Try.underlying9 Try.underlying28 Try.underlying5
  rw [strOf_size] at h
  obtain ⟨c, hc⟩ : ∃ c, c = grownCap w m.length 0 5 := ⟨_, rfl⟩
  have hge : m.length ≤ c := by rw [hc]; exact grownCap_ge w m.length 0 _
  rw [← hc] at h
  have hsz : (bytesRow (strOf m) c).size = c := by
    simp only [bytesRow, Array.size_append, Array.size_map, Array.size_replicate, strOf_size, strOf_data, List.size_toArray, List.length_map]
    omega
  refine ⟨c, _, hge, h, ((Below.refl _ w).drew).alloc (Nat.le_refl _) _, fun i hi => ?_, fun j hj => ⟨?_, ?_⟩⟩
  · have hs : i < (strOf m).data.size := by rw [strOf_data]; simpa using hi
    have e : w.heap.size = w.drew.heap.size := rfl
    rw [e, World.cell?_alloc_mark, bytesRow_at _ _ _ hs]
    simp only [strOf_data, List.getElem_toArray, List.getElem_map]
    have := (gl m i).isLt
    simp only [B, gl, List.getD_eq_getElem?_getD, List.getElem?_eq_getElem hi, Option.getD_some] at this ⊢
    congr 2
    simp
  · have e : w.heap.size = w.drew.heap.size := rfl
    rw [e, World.cell?_alloc_mark, Array.getElem?_eq_getElem (by rw [hsz]; exact hj)]
    rfl
  · unfold World.frozen?
    have e : (w.drew.alloc (.cells (bytesRow (strOf m) c) 5 ((bytesRow (strOf m) c).size, (bytesRow (strOf m) c).size + 1))).heap[w.heap.size]? = some (.cells (bytesRow (strOf m) c) 5 ((bytesRow (strOf m) c).size, (bytesRow (strOf m) c).size + 1)) := heap_alloc_new w.drew _
    simp only [e]
    simp
    omega
theorem wp_slice_zero {o : Oper} {a : Act} {w : World} {K : Act → World → Prop} {Q : Exit → Act → World → Prop} (y : Operand) (ho : o.op = .buildSlice 28 1 #[(0, y)]) (hy : a.eval y = .int .u8 0)
    (h : K (a.put o.dst (.slice (some ⟨w.heap.size, 0, none⟩) 1 1)) (w.alloc (.cells #[.int .u8 0] 5))) : o.wp Try.prog a w K Q := by
  have hF : Instr.fill (fun i => some (i * 1, 1)) ((Array.range (1 * 1)).map ((Value.int .u8 0).cells[· % (Value.int .u8 0).cells.size]!)) [(0, .int .u8 0)] = some #[.int .u8 0] := by kernel_rfl
  obtain ⟨i, hi, hz0, hz1, hz2⟩ := info_u8
  refine wp_buildSlice 28 5 1 _ ho #[.int .u8 0] i _ Try.underlying28 hi hz0 (by rw [hz1]; decide) (by rw [hz1]; decide) ?_ h
  rw [hz1]
  simp only [List.map_toArray, List.map_cons, List.map_nil, hy]
  exact hF
theorem wp_append_zero {o : Oper} {a : Act} {w : World} {K : Act → World → Prop} {Q : Exit → Act → World → Prop} (s x : Operand) (ho : o.op = .call { callee := .builtin .append, args := #[s, x], argTypes := #[28, 28] })
    {b n c zb B0 : Nat} {m : List (BitVec 8)} (hm : m.length = n) (hn : n ≤ 1000000) (hs : a.eval s = .slice (some ⟨b, 0, none⟩) n c) (hx : a.eval x = .slice (some ⟨zb, 0, none⟩) 1 1) (hc : ∀ i < n, w.cell? ⟨b, i, none⟩ = some (B (gl m i)))
    (hsp : ∀ j < c, (w.cell? ⟨b, j, none⟩).isSome = true ∧ w.frozen? ⟨b, j, none⟩ = false) (hz : w.cell? ⟨zb, 0, none⟩ = some (.int .u8 0)) (hb : B0 ≤ b) (hw : B0 ≤ w.heap.size)
    (h : ∀ a' c' w', Below B0 w w' → K (a.put o.dst (.slice a' (n + 1) c')) w') : o.wp Try.prog a w K Q := by
  obtain ⟨i, hi, hi0, hi1, hi2⟩ := info_u8
  have holds : ∀ j u, (m.map B)[j]? = some u → w.cell? ⟨b, 0 + j, none⟩ = some u := fun j u hj => by
    have hj' : j < m.length := by simpa using (List.getElem?_eq_some_iff.1 hj).1
    rw [Nat.zero_add, hc j (by omega), ← hj]
    simp [gl, hj']
  have hnew : ∀ j u, ([.int .u8 0] : List Value)[j]? = some u → w.cell? ((⟨zb, 0, none⟩ : Addr).add j) = some u := fun j u hj => by
    match j, hj with
    | 0, hj =>
      simp only [List.getElem?_cons_zero, Option.some.injEq] at hj
      subst hj
      simpa [addr_add] using hz
    | j + 1, hj => simp at hj
  by_cases hr : n + 1 ≤ c
  · have hrun := run_append_room_cells (P := Try.prog) w 28 o.type 5 i Try.underlying28 hi b 0 n c ⟨zb, 0, none⟩ 1 1 [.int .u8 0] (by rw [hi1]; rfl) hnew (fun u hu => by
      simp only [List.mem_singleton] at hu
      subst hu
      rfl) hr (fun j hj => by
        obtain rfl : j = 0 := by simpa using hj
        have := (hsp n (by omega)).1
        rw [hi1]
        simpa using this) (fun j hj => by
        obtain rfl : j = 0 := by simpa using hj
        have := (hsp n (by omega)).2
        rw [hi1]
        simpa using this)
    unfold Oper.wp execOp
    simp only [ho, resolve, invoke, builtin, Sem.run_bind, Sem.run_pure, Result.andThen_ok, List.map_toArray, List.map_cons, List.map_nil, hs, hx, hrun]
    exact h _ _ _ (below_cells hb _ _ _)
  · obtain ⟨v', w', hrun, h1, h2⟩ := run_append_arg_grows (P := Try.prog) w 28 o.type 5 i (.int .u8 0) 1 1 Try.underlying28 hi hi0 hi1 hi2 (by simp [Value.cells]) (by decide) ⟨b, 0, none⟩ n c (m.map B) (by simp [hm]) (fun j u hj => by rw [addr_add]; exact holds j u hj) ⟨zb, 0, none⟩ 1 1 [.int .u8 0] rfl hnew (by omega) (by unfold maxLen; omega) (by omega)
    obtain ⟨va, vc, hv⟩ : ∃ va vc, v' = .slice va (n + 1) vc := by
      rcases h1.2 with ⟨hv, hn⟩ | ⟨g, cap, cur, hv, _⟩
      · omega
      · exact ⟨_, _, hv⟩
    rw [hv] at hrun
    unfold Oper.wp execOp
    simp only [ho, resolve, invoke, builtin, Sem.run_bind, Sem.run_pure, Result.andThen_ok, List.map_toArray, List.map_cons, List.map_nil, hs, hx, hrun]
    exact h _ _ _ ⟨h2.os, h2.tape, h2.output, h2.size, fun k hk => h2.block k (by omega) (by simp)⟩
end Go.Proofs.Ytggecfecodoigaa
