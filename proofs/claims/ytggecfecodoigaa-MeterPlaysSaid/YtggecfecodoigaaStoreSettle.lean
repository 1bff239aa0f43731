/-
  The contract of a store's settle, for whichever function tells how much of each one lasts.
-/
import Derived.Test.YtggecfecodoigaaStoreRead
namespace Go.Proofs.Ytggecfecodoigaa
open Go Go.RowKit

/-- A store while what waits is laid. -/
structure SetI (w : World) (base : Nat) (f : StF) (s : StS) (m : Nat → Nat) (i : Nat) (wr : World) : Prop where
  obj : wr.heap[f.b]? = some (.cells (objC f s.L.length s.C) 70 (0, 0))
  last : wr.heap[f.l]? = some (.cells (rowB (laid m 0 (s.W.take i) s.L)) 74 (0, 0))
  new : wr.heap[f.n]? = some (.cells (rowB (mixed m s.L s.W i)) 74 (0, 0))
  waits : wr.ownsRow base 78 129 f.wv s.W.length (waitsC s.W)
  reads : wr.heap[f.r]? = some (.cells (rowR s.R) 3 (0, 0))
  kept : SKept f w wr
theorem SetI.start {w : World} {base : Nat} {f : StF} {s : StS} (h : StAt w base f s) (m : Nat → Nat) : SetI w base f s m 0 w := ⟨h.obj, h.last, h.new, h.waits, h.reads, SKept.refl f w⟩
/-- The function tells m i of i, in every world that keeps what it captured. -/
def Tells (f : StF) (w : World) (g : FuncId) (cap : Array Value) (n : Nat) (m : Nat → Nat) : Prop :=
  (∀ args w', (callFunc g args).run Try.prog w' = .ok (.enter g args) w') ∧
  ∀ w', SKept f w w' → ∀ i, i < n → Calls Try.prog g (#[.int .i64 (i : Int)] ++ cap) w' fun e w'' => e = .returned (.int .i64 (m i : Int)) ∧ w'' = w'
theorem step_copy_block {ops : Array Oper} {o : Oper} {a : Act} {w : World} {K : Act → World → Prop} {Q : Exit → Act → World → Prop} {E : Prop} (hgd : o.guard = none) (d x : Operand)
    (ho : o.op = .call { callee := .builtin .copy, args := #[d, x], argTypes := #[28, 28] }) {g k wb n : Nat} {L : List (List (BitVec 8))} (hg : w.heap[g]? = some (.cells (rowB L) 74 (0, 0)))
    (hL : Blocks L) (hk : k < L.length) {b : List (BitVec 8)} (hb : b.length = 128) (hw : ∀ j < b.length, w.cell? ⟨wb, 1 + j, none⟩ = some (B (gl b j))) (hn : n ≤ 128)
    (hd : a.eval d = .slice (some ⟨g, k * 128, none⟩) 128 128) (hx : a.eval x = .slice (some ⟨wb, 1, none⟩) n 128)
    (h : K (a.put o.dst (.int .i64 (n : Int))) (w.setRow g (rowB (L.set k (torn n b (L.getD k [])))))) : if Region.wanted o (yielded ops a.tmps) = true then Oper.wp Try.prog o a w K Q else E := by
  rw [if_pos (by simp [Region.wanted, hgd])]
  have hl : ((b.take n).map B).length = n := by simp [hb]; omega
  have hsz := rowB_size hL
  have hrun := run_copy_row (P := Try.prog) w 28 28 o.type 5 g (k * 128) 128 128 ⟨wb, 1, none⟩ n 128 (rowB L) 74 ((b.take n).map B) Try.underlying28 (by kernel_rfl) hg
    (by rw [hl]; exact (Nat.min_eq_left hn).symm) (fun j v hv => by
      have hj := (List.getElem?_eq_some_iff.1 hv).1
      rw [hl] at hj
      rw [addr_add, hw j (by omega), ← hv, List.getElem?_map, List.getElem?_take, if_pos hj]
      show some (B _) = _
      rw [List.getElem?_eq_getElem (by omega)]
      simp [gl, List.getElem?_eq_getElem (show j < b.length by omega)]) (by rw [hl, hsz]; omega) (bytes_oneCell _)
  have hrow : ((rowB L).toList.take (k * 128) ++ (b.take n).map B ++ (rowB L).toList.drop (k * 128 + ((b.take n).map B).length)).toArray = rowB (L.set k (torn n b (L.getD k []))) := by
    have e := flatB_torn hL hk b hb n hn
    show ((flatB L).map B |>.take (k * 128) |>.append _ |>.append _).toArray = ((flatB _).map B).toArray
    rw [← e, ← splice_map, Nat.mul_comm]
    congr 1
    simp [splice, rowB]
  rw [hrow, hl] at hrun
  unfold Oper.wp
  simp [execOp, ho, resolve, invoke, builtin, hd, hx, hrun, Result.andThen]
  exact h
theorem zero_write : ∃ cz : Array Value, (∀ w, (zeroValue 78).run Try.prog w = .ok (.agg cz) w) ∧ cz.size = 129 := by
  have h := zero_of_info (P := Try.prog) (t := 78) (v := .agg (Value.int .i64 0 :: List.replicate 128 (.int .u8 0)).toArray) (n := 129) (by kernel_rfl)
  exact ⟨_, h.1, by simp⟩
theorem info_wr : (Try.prog.info? 78).map (·.size) = some 129 := by kernel_rfl
theorem wait_range {w : World} {base n : Nat} {wa : Option Addr} {wc : Nat} {W : List (Nat × List (BitVec 8))} {N : Nat} (h : w.ownsRow base 78 129 (.slice wa n wc) W.length (waitsC W)) (hW : WaitsIn N W) {i : Nat} {x : Nat × List (BitVec 8)} (hx : W[i]? = some x) :
    ∃ q, wa = some ⟨q, 0, none⟩ ∧ w.rangeAt q (i * 129) (waitC x) := by
  have hi := (List.getElem?_eq_some_iff.1 hx).1
  rcases h.2 with ⟨_, hn⟩ | ⟨q, cap, cur, hv, _, hq, hle, _, hs, htake⟩
  · omega
  · injection hv with hv1 _ _
    refine ⟨q, hv1, fun j v hv => ?_⟩
    rw [cell_of_row w q _ _ _ _ hq]
    have h1 := waitsC_at hW i j x v hx hv
    have h2 := (List.getElem?_eq_some_iff.1 h1).1
    rw [waitsC_length hW] at h2
    rw [← htake, List.getElem?_take, if_pos h2] at h1
    simpa using h1
theorem mixed_blocks {m : Nat → Nat} (hm : ∀ i, m i ≤ 128) {L : List (List (BitVec 8))} {W : List (Nat × List (BitVec 8))} (hL : Blocks L) (hW : WaitsIn L.length W) (i : Nat) : Blocks (mixed m L W i) := by
  induction i with
  | zero => exact newest_blocks hL hW
  | succ i ih =>
    cases hx : W[i]? with
    | none =>
      show Blocks (match W[i]? with | some x => _ | none => _ : List (List (BitVec 8)))
      rw [hx]
      exact ih
    | some x =>
      rw [mixed_step m L W i x hx]
      refine ih.set ((laid_blocks hm 0 hL fun y hy => hW y (List.mem_of_mem_take hy)).at ?_)
      rw [laid_length]
      exact (hW x (List.mem_of_getElem? hx)).1
section
variable {w : World} {base : Nat} {f : StF} {s : StS} {m : Nat → Nat} {i : Nat} {wr : World}
theorem SetI.lt (h : SetI w base f s m i wr) {k : Nat} (hk : f.has k) : k < wr.heap.size := by
  rcases hk with rfl | rfl | rfl | rfl | e
  · exact (Array.getElem?_eq_some_iff.1 h.obj).1
  · exact (Array.getElem?_eq_some_iff.1 h.last).1
  · exact (Array.getElem?_eq_some_iff.1 h.new).1
  · exact (Array.getElem?_eq_some_iff.1 h.reads).1
  · exact (World.ownsRow.lt h.waits k e).2
theorem SetI.far (h : SetI w base f s m i wr) {w' : World} (hB : Below wr.heap.size wr w') : SetI w base f s m i w' := by
  have hb : ∀ k, f.has k → w'.heap[k]? = wr.heap[k]? := fun k hk => hB.block k (h.lt hk)
  exact ⟨(hb _ (.inl rfl)).trans h.obj, (hb _ (.inr (.inl rfl))).trans h.last, (hb _ (.inr (.inr (.inl rfl)))).trans h.new, own_move h.waits fun g hg => hb g (.inr (.inr (.inr (.inr hg)))),
    (hb _ (.inr (.inr (.inr (.inl rfl))))).trans h.reads, h.kept.trans (fun _ h => .inl h) (SKept.of_below hB)⟩
/-- One more is laid: first the row that lasts, then the newest. -/
theorem SetI.step (h : SetI w base f s m i wr) (hl : f.l ≠ f.n) {x : Nat × List (BitVec 8)} (hx : s.W[i]? = some x) {w2 w2' w3 : World}
    (hd : w2'.heap = w2.heap) (hdk : SKept f w2 w2') (h2 : w2 = wr.setRow f.l (rowB ((laid m 0 (s.W.take i) s.L).set x.1 (torn (m i) x.2 ((laid m 0 (s.W.take i) s.L).getD x.1 [])))))
    (h3 : w3 = w2'.setRow f.n (rowB ((mixed m s.L s.W i).set x.1 ((laid m 0 (s.W.take (i + 1)) s.L).getD x.1 [])))) : SetI w base f s m (i + 1) w3 := by
  have e2 : ∀ k, k ≠ f.l → w2.heap[k]? = wr.heap[k]? := fun k hk => by rw [h2]; exact setRow_other wr f.l k _ hk
  have e3 : ∀ k, k ≠ f.n → w3.heap[k]? = w2.heap[k]? := fun k hk => by rw [h3, ← hd]; exact setRow_other w2' f.n k _ hk
  have e : ∀ k, k ≠ f.l → k ≠ f.n → w3.heap[k]? = wr.heap[k]? := fun k h1 h2 => (e3 k h2).trans (e2 k h1)
  refine ⟨(e _ (row_ty h.obj h.last (by decide)) (row_ty h.obj h.new (by decide))).trans h.obj, ?_, ?_,
    own_move h.waits fun g hg => e g (fun e' => own_ty h.waits h.last (by decide) (e' ▸ hg)) (fun e' => own_ty h.waits h.new (by decide) (e' ▸ hg)),
    (e _ (row_ty h.reads h.last (by decide)) (row_ty h.reads h.new (by decide))).trans h.reads, ?_⟩
  · rw [e3 _ hl, h2, laid_step m s.W x s.L i hx]
    exact setRow_heap wr f.l _ _ _ _ h.last
  · rw [h3, mixed_step m s.L s.W i x hx]
    exact setRow_heap w2' f.n _ _ _ _ (by rw [hd]; exact (e2 _ hl.symm).trans h.new)
  · have k2 : SKept f wr w2 := by rw [h2]; exact SKept.row (.inr (.inl rfl)) _
    have k3 : SKept f w2' w3 := by rw [h3]; exact SKept.row (.inr (.inr (.inl rfl))) _
    exact ((h.kept.trans (fun _ h => .inl h) k2).trans (fun _ h => .inl h) hdk).trans (fun _ h => .inl h) k3
theorem SetI.done (h : SetI w base f s m s.W.length wr) (h0 : StAt w base f s) (hm : ∀ i, m i ≤ 128) : SEnd w base f (s.settled m) (wr.setCell ⟨f.b, 2, none⟩ (.slice none 0 0)) := by
  have hset : ∀ j, j ≠ f.b → (wr.setCell ⟨f.b, 2, none⟩ (.slice none 0 0)).heap[j]? = wr.heap[j]? := fun j hj => heap_setCell_other _ _ _ _ hj
  have hl := h.last
  have hn := h.new
  rw [List.take_length] at hl
  rw [mixed_end] at hn
  refine ⟨{ f with wv := .slice none 0 0 }, ⟨h0.ok.settled hm, ?_, (hset _ (row_ty hl h.obj (by decide))).trans hl, (hset _ (row_ty hn h.obj (by decide))).trans hn, World.ownsRow_nil _ _ _ 129,
    (hset _ (row_ty h.reads h.obj (by decide))).trans h.reads, h0.low, h0.ln⟩, rfl, fun j hj => ?_, h.kept.trans (fun _ h => .inl h) (SKept.cell (.inl rfl) _ _)⟩
  · rw [heap_setCell_same wr f.b 2 _ _ _ h.obj]
    show some (Obj.cells _ _ _) = some (Obj.cells (objC _ (laid m 0 s.W s.L).length _) _ _)
    rw [laid_length]
    rfl
  · rcases hj with e | e | e | e | e
    · exact .inl (.inl e)
    · exact .inl (.inr (.inl e))
    · exact .inl (.inr (.inr (.inl e)))
    · exact .inl (.inr (.inr (.inr (.inl e))))
    · cases e
end
set_option maxRecDepth 100000 in
set_option maxHeartbeats 2000000 in
theorem ssettle_any {w : World} {base : Nat} {f : StF} {s : StS} (h : StAt w base f s) {g : FuncId} {cap : Array Value} {m : Nat → Nat} (hm : ∀ i, m i ≤ 128) (ht : Tells f w g cap s.W.length m) :
    Calls Try.prog 35 #[.pointer (some ⟨f.b, 0, none⟩), .func (.func g) #[] cap] w fun e w' => e = .returned (.tuple #[]) ∧ SEnd w base f (s.settled m) w' := by
  have HS := Lib.hid h
  have HT := Lib.hid (And.intro hm ht)
  have d2 := h.cell2
  have hI := Lib.hid (SetI.start h m)
  obtain ⟨wa, wc, hwv, hwm⟩ : ∃ wa wc, f.wv = .slice wa s.W.length wc ∧ s.W.length ≤ 9223372036854775807 := by
    rcases h.waits.2 with ⟨hv, hn⟩ | ⟨g, cap, cur, hv, _, _, h1, h2, _⟩
    · exact ⟨none, 0, by rw [hv, hn], by omega⟩
    · exact ⟨_, _, hv, by unfold maxLen at h2; omega⟩
  rw [hwv] at d2
  have HWV := Lib.hid hwv
  clear h hm ht hwv
  go_enter Try.func35, Try.ntmps35
  go_wp2_with (fail)
  go_loopw [11] (fun v wr => ∃ i : Nat, i ≤ s.W.length ∧ v = .int .i64 (i : Int) ∧ SetI w base f s m i wr) (fun v _ => s.W.length - (intOf v).toNat)
  case atStart => exact ⟨0, Nat.zero_le _, rfl, hI.out⟩
  case round =>
    obtain ⟨i, hi, rfl, hR⟩ := hrel
    have HR := Lib.hid hR
    clear hR hI d2
    by_cases hlt : i < s.W.length
    · have hlt' : (i : Int) < s.W.length := by omega
      obtain ⟨x, hx⟩ : ∃ x, s.W[i]? = some x := ⟨_, List.getElem?_eq_getElem hlt⟩
      have hin := HS.out.ok.waits x (List.mem_of_getElem? hx)
      have hwr : wr.ownsRow base 78 129 (.slice wa s.W.length wc) s.W.length (waitsC s.W) := by
        rw [← HWV.out]
        exact HR.out.waits
      obtain ⟨q, rfl, hq⟩ := wait_range hwr HS.out.ok.waits hx
      have hi0 : (0 : Int) ≤ (i : Int) ∧ (i : Int) < s.W.length := by omega
      obtain ⟨cz, hz, hcz⟩ := zero_write
      obtain ⟨cx, hcx⟩ : ∃ cx, cx = waitC x := ⟨_, rfl⟩
      have hcl : cx.length = 129 := by rw [hcx]; exact waitC_length hin.2
      rw [← hcx] at hq
      have HX := Lib.hid (And.intro hx (And.intro hin (And.intro hcx (And.intro hcl (And.intro hq hcz)))))
      clear hx hin hwr hq hcx hcl hcz hlt
      go_upto_region 2 with (fail)
      refine wp_region_lit ?_
      iterate 6 go_step
      refine wpList_load_mid rfl _ _ rfl q (i * 129) rfl cx _ HX.out.2.2.2.2.1 Try.underlying78 rfl (by rw [info_wr, HX.out.2.2.2.1]) ?_
      iterate 6 go_step
      refine wpList_store_row rfl _ _ _ rfl wr.heap.size cx.toArray rfl rfl 78 cz (heap_alloc_new wr _) (by rw [info_wr]; simp [HX.out.2.2.2.1]) (by rw [HX.out.2.2.2.2.2]; simp [HX.out.2.2.2.1])
        (by rw [HX.out.2.2.1]; exact all_oneCell_toArray (waitC_one x)) ?_
      obtain ⟨k, b⟩ := x
      obtain ⟨w1, hw1⟩ : ∃ W, W = (wr.alloc (.cells cz 78)).setRow wr.heap.size cx.toArray := ⟨_, rfl⟩
      obtain ⟨wb, hwb⟩ : ∃ b, b = wr.heap.size := ⟨_, rfl⟩
      have hB1 : Below wr.heap.size wr w1 := by
        rw [hw1]
        exact below_setRow ((Below.refl _ wr).alloc (Nat.le_refl _) _) (Nat.le_refl _) _
      have hrow : w1.heap[wb]? = some (.cells cx.toArray 78 (0, 0)) := by
        rw [hw1, hwb]
        exact setRow_heap _ _ _ _ _ _ (heap_alloc_new wr _)
      rw [← hw1, ← hwb]
      have hR1 := HR.out.far hB1
      obtain ⟨hx, hin, hcx, hcl, -, -⟩ := HX.out
      have b0 : w1.cell? ⟨wb, 0, none⟩ = some (.int .i64 (k : Int)) := by
        rw [cell_of_row _ _ _ _ _ _ hrow, hcx]
        rfl
      have hbb : ∀ j < b.length, w1.cell? ⟨wb, 1 + j, none⟩ = some (B (gl b j)) := fun j hj => by
        rw [cell_of_row _ _ _ _ _ _ hrow, hcx, Nat.add_comm]
        simp [waitC, gl, hj]
      have e0 : w1.cell? ⟨f.b, 0, none⟩ = some (.slice (some ⟨f.l, 0, none⟩) s.L.length s.L.length) := by rw [cell_of_row _ _ _ _ _ _ hR1.obj]; rfl
      have e1 : w1.cell? ⟨f.b, 1, none⟩ = some (.slice (some ⟨f.n, 0, none⟩) s.L.length s.L.length) := by rw [cell_of_row _ _ _ _ _ _ hR1.obj]; rfl
      have hk0 : (0 : Int) ≤ (k : Int) ∧ (k : Int) < s.L.length := by have := hin.1; dsimp only at this; omega
      have hwbl : wb ≠ f.l := by have := HR.out.lt (.inr (.inl rfl)); omega
      have HWN : Hid (wb ≠ f.n) := by
        show wb ≠ f.n
        have := HR.out.lt (.inr (.inr (.inl rfl))); omega
      obtain ⟨mi, hmi⟩ : ∃ n, n = m i := ⟨_, rfl⟩
      have hmi8 : mi ≤ 128 := by rw [hmi]; exact HT.out.1 i
      have hsl : ∀ w', (Instr.sliceAt 74 (.pointer (some ⟨f.l, k * 128, none⟩)) none none none).run Try.prog w' = .ok (.slice (some ⟨f.l, k * 128, none⟩) 128 128) w' := fun w' => by
        simp [Instr.sliceAt, run_underlying Try.underlying74, Instr.sureAddr, Instr.sliceBounds, Try.sizeOf5, addr_add]
      have hsl2 : ∀ w', (Instr.sliceAt 74 (.pointer (some ⟨wb, 1, none⟩)) none (some (.int .i64 (mi : Int))) none).run Try.prog w' = .ok (.slice (some ⟨wb, 1, none⟩) mi 128) w' := fun w' =>
        run_slice_arr_h 74 5 128 Try.underlying74 Try.sizeOf5 wb 1 mi hmi8 w' mi rfl
      have eg := HT.out.2.1
      obtain ⟨w2, hw2⟩ : ∃ W, W = w1.drew.setRow f.l (rowB ((laid m 0 (s.W.take i) s.L).set k (torn mi b ((laid m 0 (s.W.take i) s.L).getD k [])))) := ⟨_, rfl⟩
      have hkd : SKept f w w1.drew := hR1.kept.trans (fun _ h => .inl h) (SKept.of_below ⟨rfl, rfl, rfl, Nat.le_refl _, fun _ _ => rfl⟩)
      have K0 : Hid (w1.drew.cell? ⟨f.b, 0, none⟩ = some (.slice (some ⟨f.l, 0, none⟩) s.L.length s.L.length) ∧ w1.drew.cell? ⟨wb, 0, none⟩ = some (.int .i64 (k : Int)) ∧ SKept f w w1.drew) := ⟨e0, b0, hkd⟩
      have K1 : Hid (w2.cell? ⟨f.b, 0, none⟩ = some (.slice (some ⟨f.l, 0, none⟩) s.L.length s.L.length) ∧ w2.cell? ⟨wb, 0, none⟩ = some (.int .i64 (k : Int)) ∧ SKept f w w2) := by
        rw [hw2]
        exact ⟨(cell_setRow_other w1.drew _ _ _ (row_ty hR1.obj hR1.last (by decide))).trans e0, (cell_setRow_other w1.drew _ _ _ hwbl).trans b0, hkd.trans (fun _ h => .inl h) (SKept.row (.inr (.inl rfl)) _)⟩
      have hLb : Blocks (laid m 0 (s.W.take i) s.L) := laid_blocks HT.out.1 0 HS.out.ok.blocks fun y hy => HS.out.ok.waits y (List.mem_of_mem_take hy)
      have hLk : k < (laid m 0 (s.W.take i) s.L).length := by rw [laid_length]; exact hin.1
      have H3 := Lib.hid (And.intro hw2 (And.intro hR1 (And.intro hLb (And.intro hLk (And.intro hbb (And.intro hin.2 (And.intro hmi8 (And.intro hx (And.intro hmi (And.intro e1 (And.intro b0 hkd)))))))))))
      clear hw1 hwb hB1 hrow hR1 hx hin hcx hcl b0 hbb e0 e1 hwbl hmi hw2 hkd hLb hLk hz
      go_wp2_with (fail)
      go_region_held3 (fun w' => w'.cell? ⟨f.b, 0, none⟩ = some (.slice (some ⟨f.l, 0, none⟩) s.L.length s.L.length) ∧ w'.cell? ⟨wb, 0, none⟩ = some (.int .i64 (k : Int)) ∧ SKept f w w')
        (first | exact K0.out | (rw [← H3.out.1]; exact K1.out))
        (first
          | (refine step_copy_block rfl _ _ rfl (w := w1.drew) (L := laid m 0 (s.W.take i) s.L) (k := k) (n := mi) (b := b) (wb := wb) H3.out.2.1.last H3.out.2.2.1 H3.out.2.2.2.1 H3.out.2.2.2.2.2.1 H3.out.2.2.2.2.1 H3.out.2.2.2.2.2.2.1 rfl rfl ?_)
          | (refine (HT.out.2.2 w1.drew H3.out.2.2.2.2.2.2.2.2.2.2.2 i (by omega)).mono ?_; rintro e w9 ⟨rfl, rfl⟩; rw [← H3.out.2.2.2.2.2.2.2.2.1]))
      rw [← H3.out.1]
      obtain ⟨hw2, hR1, hLb, hLk, hbb, hb8, -, hx, hmi, e1, b0, hkd⟩ := H3.out
      have hRd : SetI w base f s m i w1.drew := hR1.far ⟨rfl, rfl, rfl, Nat.le_refl _, fun _ _ => rfl⟩
      have hln := HS.out.ln
      obtain ⟨y, hy⟩ : ∃ y, y = torn mi b ((laid m 0 (s.W.take i) s.L).getD k []) := ⟨_, rfl⟩
      rw [← hy] at hw2
      have hy8 : y.length = 128 := by rw [hy]; exact torn_length hmi8 hb8 (hLb.at hLk)
      have hL2 : Blocks ((laid m 0 (s.W.take i) s.L).set k y) := hLb.set hy8
      have hl2 : w2.heap[f.l]? = some (.cells (rowB ((laid m 0 (s.W.take i) s.L).set k y)) 74 (0, 0)) := by
        rw [hw2]
        exact setRow_heap w1.drew f.l _ _ _ _ hR1.last
      have hn2 : w2.heap[f.n]? = some (.cells (rowB (mixed m s.L s.W i)) 74 (0, 0)) := by
        rw [hw2, setRow_other w1.drew f.l f.n _ hln.symm]
        exact hR1.new
      have hgy : ((laid m 0 (s.W.take i) s.L).set k y).getD k [] = y := by
        rw [List.getD_eq_getElem?_getD, List.getElem?_set_self hLk]
        rfl
      obtain ⟨nb, hnb⟩ : ∃ nb, nb = y.map B := ⟨_, rfl⟩
      have hnl : nb.length = 128 := by rw [hnb]; simp [hy8]
      have hNb : Blocks (mixed m s.L s.W i) := mixed_blocks HT.out.1 HS.out.ok.blocks HS.out.ok.waits i
      have hNk : k < (mixed m s.L s.W i).length := by rw [mixed_length, ← laid_length m 0 (s.W.take i) s.L]; exact hLk
      have g0 : w2.cell? ⟨f.b, 0, none⟩ = some (.slice (some ⟨f.l, 0, none⟩) s.L.length s.L.length) := K1.out.1
      have g1 : w2.cell? ⟨f.b, 1, none⟩ = some (.slice (some ⟨f.n, 0, none⟩) s.L.length s.L.length) := by
        rw [hw2]
        exact (cell_setRow_other w1.drew _ _ _ (row_ty hR1.obj hR1.last (by decide))).trans e1
      have gb := K1.out.2.1
      have hu := Try.underlying74
      have hi8 : (Try.prog.info? 74).map (·.size) = some nb.length := by rw [info_blk, hnl]
      have h1 : ∀ v ∈ nb, v.oneCell' = true := by rw [hnb]; exact bytes_oneCell y
      have gr : w2.rangeAt f.l (k * 128) nb := by
        have := row_range hl2 hL2 (k := k) (by rw [List.length_set]; exact hLk)
        rw [hgy, Nat.mul_comm, ← hnb] at this
        exact this
      have gt : w2.there f.n (k * 128) nb.length := by
        rw [Nat.mul_comm, hnl]
        exact row_there hn2 hNb hNk
      obtain ⟨w3, hw3⟩ : ∃ W, W = w2.drew.setCells f.n (k * 128) nb := ⟨_, rfl⟩
      have hs3 : w3 = w2.drew.setRow f.n (rowB ((mixed m s.L s.W i).set k y)) := by
        rw [hw3, hnb, Nat.mul_comm]
        exact setCells_row (w := w2.drew) hn2 hNb hNk y hy8
      have K2 : Hid (w2.drew.cell? ⟨f.b, 0, none⟩ = some (.slice (some ⟨f.l, 0, none⟩) s.L.length s.L.length) ∧ w2.drew.cell? ⟨f.b, 1, none⟩ = some (.slice (some ⟨f.n, 0, none⟩) s.L.length s.L.length) ∧
          w2.drew.cell? ⟨wb, 0, none⟩ = some (.int .i64 (k : Int)) ∧ w2.drew.rangeAt f.l (k * 128) nb ∧ w2.drew.there f.n (k * 128) nb.length) := ⟨g0, g1, gb, gr, gt⟩
      have hwbn := HWN.out
      have hob2 : f.b ≠ f.n := row_ty HS.out.obj HS.out.new (by decide)
      have K3 : Hid (w3.cell? ⟨f.b, 0, none⟩ = some (.slice (some ⟨f.l, 0, none⟩) s.L.length s.L.length) ∧ w3.cell? ⟨f.b, 1, none⟩ = some (.slice (some ⟨f.n, 0, none⟩) s.L.length s.L.length) ∧
          w3.cell? ⟨wb, 0, none⟩ = some (.int .i64 (k : Int)) ∧ w3.rangeAt f.l (k * 128) nb ∧ w3.there f.n (k * 128) nb.length) := by
        rw [hw3]
        refine ⟨?_, ?_, ?_, World.rangeAt_setCells_apart K2.out.2.2.2.1 _ _ _ (.inl hln), World.there_setCells K2.out.2.2.2.2 _ _ _⟩
        · rw [World.cell?_setCells_out _ _ _ _ _ fun e _ => absurd e hob2]; exact K2.out.1
        · rw [World.cell?_setCells_out _ _ _ _ _ fun e _ => absurd e hob2]; exact K2.out.2.1
        · rw [World.cell?_setCells_out _ _ _ _ _ fun e _ => absurd e hwbn]; exact K2.out.2.2.1
      have hE : SetI w base f s m (i + 1) w3 := hRd.step hln hx (w2 := w2) (w2' := w2.drew) rfl (SKept.of_below ⟨rfl, rfl, rfl, Nat.le_refl _, fun _ _ => rfl⟩) (by rw [hw2, ← hmi, hy])
        (by rw [hs3, laid_step m s.W (k, b) s.L i hx, ← hmi, ← hy, hgy])
      have H4 := Lib.hid (And.intro hw3 hE)
      clear hw2 hR1 hLb hLk hbb hb8 hx hmi e1 b0 hkd hRd hln hy hy8 hL2 hl2 hn2 hgy hnb hnl hNb hNk g0 g1 gb gr gt hw3 hs3 hwbn hob2 hE K0 K1 H3 HX
      go_wp2_with (fail)
      go_region_held3 (fun w' => w'.cell? ⟨f.b, 0, none⟩ = some (.slice (some ⟨f.l, 0, none⟩) s.L.length s.L.length) ∧ w'.cell? ⟨f.b, 1, none⟩ = some (.slice (some ⟨f.n, 0, none⟩) s.L.length s.L.length) ∧
          w'.cell? ⟨wb, 0, none⟩ = some (.int .i64 (k : Int)) ∧ w'.rangeAt f.l (k * 128) nb ∧ w'.there f.n (k * 128) nb.length) (first | exact K2.out | (rw [← H4.out.1]; exact K3.out)) (fail)
      rw [← H4.out.1]
      clear K2 K3 hu hi8 h1 hsl hsl2 eg
      go_wp2_with (fail)
      refine ⟨⟨i + 1, by omega, by go_num, H4.out.2⟩, by simp [intOf]; omega⟩
    · obtain rfl : i = s.W.length := by omega
      have hR := HR.out
      have c2 : wr.cell? ⟨f.b, 2, none⟩ = some f.wv := by rw [cell_of_row _ _ _ _ _ _ hR.obj]; rfl
      have f2 : wr.frozen? ⟨f.b, 2, none⟩ = false := frozen_of_row wr f.b 2 _ _ hR.obj
      have hE := hR.done HS.out HT.out.1
      have HE := Lib.hid hE
      clear hR hE hi hlt
      go_wp2_with (fail)
      go_end0
      exact ⟨rfl, HE.out⟩
end Go.Proofs.Ytggecfecodoigaa
