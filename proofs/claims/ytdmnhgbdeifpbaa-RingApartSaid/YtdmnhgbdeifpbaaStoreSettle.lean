/-
  The contract of a store's settle, for whichever function tells how much of each one lasts.
-/
import Derived.Test.YtdmnhgbdeifpbaaStoreRead
namespace Go.Proofs.Ytdmnhgbdeifpbaa
open Go Go.RowKit

/-- A store while what waits is laid. -/
structure SetI (w : World) (base : Nat) (f : StF) (s : StS) (m : Nat → Nat) (i : Nat) (wr : World) : Prop where
  obj : wr.heap[f.b]? = some (.cells (objC f s.L.length s.C) 60 (0, 0))
  last : wr.heap[f.l]? = some (.cells (rowB (laid m 0 (s.W.take i) s.L)) 66 (0, 0))
  new : wr.heap[f.n]? = some (.cells (rowB (mixed m s.L s.W i)) 66 (0, 0))
  waits : wr.ownsRow base 68 129 f.wv s.W.length (waitsC s.W)
  reads : wr.heap[f.r]? = some (.cells (rowR s.R) 3 (0, 0))
  kept : SKept f w wr
theorem SetI.start {w : World} {base : Nat} {f : StF} {s : StS} (h : StAt w base f s) (m : Nat → Nat) : SetI w base f s m 0 w := ⟨h.obj, h.last, h.new, h.waits, h.reads, SKept.refl f w⟩
/-- The function tells m i of i, in every world that keeps what it captured. -/
def Tells (f : StF) (w : World) (g : FuncId) (cap : Array Value) (n : Nat) (m : Nat → Nat) : Prop :=
  (∀ args w', (callFunc g args).run Try.prog w' = .ok (.enter g args) w') ∧
  ∀ w', SKept f w w' → ∀ i, i < n → Calls Try.prog g (#[.int .i64 (i : Int)] ++ cap) w' fun e w'' => e = .returned (.int .i64 (m i : Int)) ∧ w'' = w'
theorem step_copy_block {ops : Array Oper} {o : Oper} {a : Act} {w : World} {K : Act → World → Prop} {Q : Exit → Act → World → Prop} {E : Prop} (hgd : o.guard = none) (d x : Operand)
    (ho : o.op = .call { callee := .builtin .copy, args := #[d, x], argTypes := #[25, 25] }) {g k wb n : Nat} {L : List (List (BitVec 8))} (hg : w.heap[g]? = some (.cells (rowB L) 66 (0, 0)))
    (hL : Blocks L) (hk : k < L.length) {b : List (BitVec 8)} (hb : b.length = 128) (hw : ∀ j < b.length, w.cell? ⟨wb, 1 + j, none⟩ = some (B (gl b j))) (hn : n ≤ 128)
    (hd : a.eval d = .slice (some ⟨g, k * 128, none⟩) 128 128) (hx : a.eval x = .slice (some ⟨wb, 1, none⟩) n 128)
    (h : K (a.put o.dst (.int .i64 (n : Int))) (w.setRow g (rowB (L.set k (torn n b (L.getD k [])))))) : if Region.wanted o (yielded ops a.tmps) = true then Oper.wp Try.prog o a w K Q else E := by
  rw [if_pos (by simp [Region.wanted, hgd])]
  have hl : ((b.take n).map B).length = n := by simp [hb]; omega
  have hsz := rowB_size hL
  have hrun := run_copy_row (P := Try.prog) w 25 25 o.type 5 g (k * 128) 128 128 ⟨wb, 1, none⟩ n 128 (rowB L) 66 ((b.take n).map B) Try.underlying25 (by kernel_rfl) hg
    (by rw [hl]; exact (Nat.min_eq_left hn).symm) (fun j v hv => by
      have hj := (List.getElem?_eq_some_iff.1 hv).1
      rw [hl] at hj
      rw [addr_add, hw j (by omega), ← hv, List.getElem?_map, List.getElem?_take, if_pos hj]
      show some (B _) = _
      rw [List.getElem?_eq_getElem (by omega)]
      simp [gl, List.getElem?_eq_getElem (show j < b.length by omega)]) (by rw [hl, hsz]; omega) (bytes_oneCell _)
  have hrow : ((rowB L).toList.take (k * 128) ++ (b.take n).map B ++ (rowB L).toList.drop (k * 128 + ((b.take n).map B).length)).toArray = rowB (L.set k (torn n b (L.getD k []))) := by
    have e := flatB_torn hL hk b hb n hn
    show ((flatB L).map B |>.take (k * 128) |>.append _ |>.append _).toArray = ((flatB _).map B).toArray
    rw [← e, ← splice_map, Nat.mul_comm]
    congr 1
    simp [splice, rowB]
  rw [hrow, hl] at hrun
  unfold Oper.wp
  simp [execOp, ho, resolve, invoke, builtin, hd, hx, hrun, Result.andThen]
  exact h
theorem zero_write : ∃ cz : Array Value, (∀ w, (zeroValue 68).run Try.prog w = .ok (.agg cz) w) ∧ cz.size = 129 := by
  have h := zero_of_info (P := Try.prog) (t := 68) (v := .agg (Value.int .i64 0 :: List.replicate 128 (.int .u8 0)).toArray) (n := 129) (by kernel_rfl)
  exact ⟨_, h.1, by simp⟩
theorem info_wr : (Try.prog.info? 68).map (·.size) = some 129 := by kernel_rfl
theorem wait_range {w : World} {base n : Nat} {wa : Option Addr} {wc : Nat} {W : List (Nat × List (BitVec 8))} {N : Nat} (h : w.ownsRow base 68 129 (.slice wa n wc) W.length (waitsC W)) (hW : WaitsIn N W) {i : Nat} {x : Nat × List (BitVec 8)} (hx : W[i]? = some x) :
    ∃ q, wa = some ⟨q, 0, none⟩ ∧ w.rangeAt q (i * 129) (waitC x) := by
  have hi := (List.getElem?_eq_some_iff.1 hx).1
  rcases h.2 with ⟨_, hn⟩ | ⟨q, cap, cur, hv, _, hq, hle, _, hs, htake⟩
  · omega
  · injection hv with hv1 _ _
    refine ⟨q, hv1, fun j v hv => ?_⟩
    rw [cell_of_row w q _ _ _ _ hq]
    have h1 := waitsC_at hW i j x v hx hv
    have h2 := (List.getElem?_eq_some_iff.1 h1).1
    rw [waitsC_length hW] at h2
    rw [← htake, List.getElem?_take, if_pos h2] at h1
    simpa using h1
theorem mixed_blocks {m : Nat → Nat} (hm : ∀ i, m i ≤ 128) {L : List (List (BitVec 8))} {W : List (Nat × List (BitVec 8))} (hL : Blocks L) (hW : WaitsIn L.length W) (i : Nat) : Blocks (mixed m L W i) := by
  induction i with
  | zero => exact newest_blocks hL hW
  | succ i ih =>
    cases hx : W[i]? with
    | none =>
      show Blocks (match W[i]? with | some x => _ | none => _ : List (List (BitVec 8)))
      rw [hx]
      exact ih
    | some x =>
      rw [mixed_step m L W i x hx]
      refine ih.set ((laid_blocks hm 0 hL fun y hy => hW y (List.mem_of_mem_take hy)).at ?_)
      rw [laid_length]
      exact (hW x (List.mem_of_getElem? hx)).1
section
variable {w : World} {base : Nat} {f : StF} {s : StS} {m : Nat → Nat} {i : Nat} {wr : World}
theorem SetI.lt (h : SetI w base f s m i wr) {k : Nat} (hk : f.has k) : k < wr.heap.size := by
  rcases hk with rfl | rfl | rfl | rfl | e
  · exact (Array.getElem?_eq_some_iff.1 h.obj).1
  · exact (Array.getElem?_eq_some_iff.1 h.last).1
  · exact (Array.getElem?_eq_some_iff.1 h.new).1
  · exact (Array.getElem?_eq_some_iff.1 h.reads).1
  · exact (World.ownsRow.lt h.waits k e).2
theorem SetI.far (h : SetI w base f s m i wr) {w' : World} (hB : Below wr.heap.size wr w') : SetI w base f s m i w' := by
  have hb : ∀ k, f.has k → w'.heap[k]? = wr.heap[k]? := fun k hk => hB.block k (h.lt hk)
  exact ⟨(hb _ (.inl rfl)).trans h.obj, (hb _ (.inr (.inl rfl))).trans h.last, (hb _ (.inr (.inr (.inl rfl)))).trans h.new, own_move h.waits fun g hg => hb g (.inr (.inr (.inr (.inr hg)))),
    (hb _ (.inr (.inr (.inr (.inl rfl))))).trans h.reads, h.kept.trans (fun _ h => .inl h) (SKept.of_below hB)⟩
/-- One more is laid: first the row that lasts, then the newest. -/
theorem SetI.step (h : SetI w base f s m i wr) (hl : f.l ≠ f.n) {x : Nat × List (BitVec 8)} (hx : s.W[i]? = some x) {w2 w2' w3 : World}
    (hd : w2'.heap = w2.heap) (hdk : SKept f w2 w2') (h2 : w2 = wr.setRow f.l (rowB ((laid m 0 (s.W.take i) s.L).set x.1 (torn (m i) x.2 ((laid m 0 (s.W.take i) s.L).getD x.1 [])))))
    (h3 : w3 = w2'.setRow f.n (rowB ((mixed m s.L s.W i).set x.1 ((laid m 0 (s.W.take (i + 1)) s.L).getD x.1 [])))) : SetI w base f s m (i + 1) w3 := by
  have e2 : ∀ k, k ≠ f.l → w2.heap[k]? = wr.heap[k]? := fun k hk => by rw [h2]; exact setRow_other wr f.l k _ hk
  have e3 : ∀ k, k ≠ f.n → w3.heap[k]? = w2.heap[k]? := fun k hk => by rw [h3, ← hd]; exact setRow_other w2' f.n k _ hk
  have e : ∀ k, k ≠ f.l → k ≠ f.n → w3.heap[k]? = wr.heap[k]? := fun k h1 h2 => (e3 k h2).trans (e2 k h1)
  refine ⟨(e _ (row_ty h.obj h.last (by decide)) (row_ty h.obj h.new (by decide))).trans h.obj, ?_, ?_,
    own_move h.waits fun g hg => e g (fun e' => own_ty h.waits h.last (by decide) (e' ▸ hg)) (fun e' => own_ty h.waits h.new (by decide) (e' ▸ hg)),
    (e _ (row_ty h.reads h.last (by decide)) (row_ty h.reads h.new (by decide))).trans h.reads, ?_⟩
  · rw [e3 _ hl, h2, laid_step m s.W x s.L i hx]
    exact setRow_heap wr f.l _ _ _ _ h.last
  · rw [h3, mixed_step m s.L s.W i x hx]
    exact setRow_heap w2' f.n _ _ _ _ (by rw [hd]; exact (e2 _ hl.symm).trans h.new)
  · have k2 : SKept f wr w2 := by rw [h2]; exact SKept.row (.inr (.inl rfl)) _
    have k3 : SKept f w2' w3 := by rw [h3]; exact SKept.row (.inr (.inr (.inl rfl))) _
    exact ((h.kept.trans (fun _ h => .inl h) k2).trans (fun _ h => .inl h) hdk).trans (fun _ h => .inl h) k3
theorem SetI.done (h : SetI w base f s m s.W.length wr) (h0 : StAt w base f s) (hm : ∀ i, m i ≤ 128) : SEnd w base f (s.settled m) (wr.setCell ⟨f.b, 2, none⟩ (.slice none 0 0)) := by
  have hset : ∀ j, j ≠ f.b → (wr.setCell ⟨f.b, 2, none⟩ (.slice none 0 0)).heap[j]? = wr.heap[j]? := fun j hj => heap_setCell_other _ _ _ _ hj
  have hl := h.last
  have hn := h.new
  rw [List.take_length] at hl
  rw [mixed_end] at hn
  refine ⟨{ f with wv := .slice none 0 0 }, ⟨h0.ok.settled hm, ?_, (hset _ (row_ty hl h.obj (by decide))).trans hl, (hset _ (row_ty hn h.obj (by decide))).trans hn, World.ownsRow_nil _ _ _ 129,
    (hset _ (row_ty h.reads h.obj (by decide))).trans h.reads, h0.low, h0.ln⟩, rfl, fun j hj => ?_, h.kept.trans (fun _ h => .inl h) (SKept.cell (.inl rfl) _ _)⟩
  · rw [heap_setCell_same wr f.b 2 _ _ _ h.obj]
    show some (Obj.cells _ _ _) = some (Obj.cells (objC _ (laid m 0 s.W s.L).length _) _ _)
    rw [laid_length]
    rfl
  · rcases hj with e | e | e | e | e
    · exact .inl (.inl e)
    · exact .inl (.inr (.inl e))
    · exact .inl (.inr (.inr (.inl e)))
    · exact .inl (.inr (.inr (.inr (.inl e))))
    · cases e
end
end Go.Proofs.Ytdmnhgbdeifpbaa
