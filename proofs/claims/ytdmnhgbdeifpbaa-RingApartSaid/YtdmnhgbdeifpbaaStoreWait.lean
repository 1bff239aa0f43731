/-
  A write that waits: how it is built, made a slice of one, and appended.
-/
import Derived.Test.YtdmnhgbdeifpbaaStoreNew
import Derived.Test.YtdmnhgbdeifpbaaTake
import Derived.Laws.Cover3
import Derived.Deep.RegionHeld3
import Derived.Maps.AppendAt
namespace Go.Proofs.Ytdmnhgbdeifpbaa
open Go Go.RowKit

theorem info_blk : (Try.prog.info? 66).map (·.size) = some 128 := by kernel_rfl
theorem range_of {w : World} {ab off : Nat} {m : List (BitVec 8)} (hc : ∀ i < m.length, w.cell? ⟨ab, off + i, none⟩ = some (B (gl m i))) : w.rangeAt ab off (m.map B) := fun j v hv => by
  have hj : j < m.length := by simpa using (List.getElem?_eq_some_iff.1 hv).1
  rw [hc j hj, ← hv]
  simp [gl, hj]
theorem lay_list (off : Nat) : ∀ (vs : List Value) (i : Nat) (cs : List Value), off + i + vs.length ≤ cs.length →
    (vs.zipIdx i).foldl (fun (cs : Array Value) (x : Value × Nat) => cs.setIfInBounds (off + x.2) x.1) cs.toArray = (cs.take (off + i) ++ (vs ++ cs.drop (off + i + vs.length))).toArray
  | [], i, cs, _ => by simp
  | v :: vs, i, cs, h => by
    have h' : off + i + (vs.length + 1) ≤ cs.length := h
    rw [List.zipIdx_cons, List.foldl_cons, List.setIfInBounds_toArray, lay_list off vs (i + 1) _ (by rw [List.length_set]; omega)]
    congr 1
    have e1 : (cs.set (off + i) v).take (off + (i + 1)) = cs.take (off + i) ++ [v] := by
      rw [show off + (i + 1) = off + i + 1 by omega, List.take_add_one, List.take_set_of_le (Nat.le_refl _), List.getElem?_set_self (by omega)]
      rfl
    have e2 : (cs.set (off + i) v).drop (off + (i + 1) + vs.length) = cs.drop (off + i + (v :: vs).length) := by
      rw [List.drop_set_of_lt (by omega), show off + (i + 1) + vs.length = off + i + (v :: vs).length by simp; omega]
    rw [e1, e2]
    simp
theorem fill_one (place : Nat → Option (Nat × Nat)) (cs : List Value) (i off : Nat) (vs : List Value) (rest : List (Nat × Value)) (hp : place i = some (off, vs.length)) (hl : off + vs.length ≤ cs.length) :
    Instr.fill place cs.toArray ((i, .agg vs.toArray) :: rest) = Instr.fill place (cs.take off ++ (vs ++ cs.drop (off + vs.length))).toArray rest := by
  have hc : (Value.agg vs.toArray).cells = vs.toArray := rfl
  rw [Instr.fill, hp]
  simp only [hc, List.size_toArray, ne_eq, not_true_eq_false, decide_false, Bool.false_or, gt_iff_lt, decide_eq_true_eq]
  rw [if_neg (by omega)]
  congr 1
  have h := lay_list off vs 0 cs (by omega)
  simp only [Nat.add_zero] at h
  rw [← h]
  simp
theorem fill_head (place : Nat → Option (Nat × Nat)) (c : Value) (cs : List Value) (k : Int) (rest : List (Nat × Value)) (hp : place 0 = some (0, 1)) :
    Instr.fill place (c :: cs).toArray ((0, .int .i64 k) :: rest) = Instr.fill place (.int .i64 k :: cs).toArray rest := by
  have hc : (Value.int .i64 k).cells = #[.int .i64 k] := rfl
  rw [Instr.fill, hp]
  simp only [hc]
  rw [if_neg (by simp)]
  simp
theorem built_wait (k : Nat) (m : List (BitVec 8)) (hm : m.length = 128) : Try.prog.built 68 [(0, .int .i64 (k : Int)), (1, .agg (m.map B).toArray)] = some (waitC (k, m)).toArray := by
  have hI : ((Try.prog.info? 68).map fun i => (i.zero, i.size, i.bytes)) = some (some (.agg (Value.int .i64 0 :: List.replicate 128 (.int .u8 0)).toArray), 129, 136) := by kernel_rfl
  have hP : (match Try.prog.underlying 68 with | some (.struct fs) => fs.toList.mapM (fun f => (Try.prog.info? f.type).map fun i => (f.offset, i.size)) | _ => none) = some [(0, 1), (1, 128)] := by kernel_rfl
  have h0 : ∀ parts, Try.prog.built 68 parts = Instr.fill ((#[(0, 1), (1, 128)] : Array (Nat × Nat))[·]?) (Value.int .i64 0 :: List.replicate 128 (.int .u8 0)).toArray parts := fun parts => by
    cases hq : Try.prog.info? 68 with
    | none => rw [hq] at hI; cases hI
    | some i =>
      rw [hq] at hI
      simp only [Option.map_some, Option.some.injEq, Prod.mk.injEq] at hI
      cases hu : Try.prog.underlying 68 with
      | none => rw [hu] at hP; cases hP
      | some d =>
        rw [hu] at hP
        cases d with
        | struct fs =>
          simp only at hP
          unfold Program.built
          rw [hq, hu]
          simp only [hI.1, hP]
          rfl
        | _ => cases hP
  rw [h0]
  rw [fill_head _ _ _ _ _ rfl, fill_one _ _ 1 1 (m.map B) [] (by rw [List.length_map, hm]; rfl) (by rw [List.length_map, hm]; simp)]
  show some _ = some _
  congr 2
  rw [List.drop_of_length_le (by rw [List.length_map, hm]; simp)]
  simp [waitC]
theorem slice_wait {o : Oper} {a : Act} {w : World} {K : Act → World → Prop} {Q : Exit → Act → World → Prop} (y : Operand) (ho : o.op = .buildSlice 58 1 #[(0, y)]) (x : Nat × List (BitVec 8)) (hx : x.2.length = 128)
    (hy : a.eval y = .agg (waitC x).toArray) (h : K (a.put o.dst (.slice (some ⟨w.heap.size, 0, none⟩) 1 1)) (w.alloc (.cells (waitC x).toArray 68))) : o.wp Try.prog a w K Q := by
  have hI : ((Try.prog.info? 68).map fun i => (i.zero, i.size, i.bytes)) = some (some (.agg (Value.int .i64 0 :: List.replicate 128 (.int .u8 0)).toArray), 129, 136) := by kernel_rfl
  cases hq : Try.prog.info? 68 with
  | none => rw [hq] at hI; cases hI
  | some i =>
    rw [hq] at hI
    simp only [Option.map_some, Option.some.injEq, Prod.mk.injEq] at hI
    obtain ⟨hz, hs, hb⟩ := hI
    refine wp_buildSlice 58 68 1 _ ho (waitC x).toArray i _ Try.underlying58 hq hz (by rw [hs]; decide) (by rw [hs]; decide) ?_ h
    rw [hs]
    simp only [List.map_toArray, List.map_cons, List.map_nil, hy]
    have hl := waitC_length hx
    obtain ⟨cs, hcs, hcl⟩ : ∃ cs : List Value, ((Array.range (1 * 129)).map fun j => (Value.agg (Value.int .i64 0 :: List.replicate 128 (.int .u8 0)).toArray).cells[j % (Value.agg (Value.int .i64 0 :: List.replicate 128 (.int .u8 0)).toArray).cells.size]!) = cs.toArray ∧ cs.length = 129 :=
      ⟨_, (Array.toArray_toList (xs := _)).symm, by simp⟩
    rw [hcs, fill_one _ cs 0 0 (waitC x) [] (by rw [hl]) (by omega)]
    show some _ = some _
    congr 2
    rw [List.drop_of_length_le (by omega)]
    simp
theorem append_wait {o : Oper} {a : Act} {w : World} {K : Act → World → Prop} {Q : Exit → Act → World → Prop} (x y : Operand)
    (ho : o.op = .call { callee := .builtin .append, args := #[x, y], argTypes := #[58, 58] }) {base : Nat} {v : Value} {W : List (Nat × List (BitVec 8))}
    (hown : w.ownsRow base 68 129 v W.length (waitsC W)) (hx : a.eval x = v) {g : Nat} (hy : a.eval y = .slice (some ⟨g, 0, none⟩) 1 1) {z : Nat × List (BitVec 8)} (hz : z.2.length = 128)
    (hg : w.heap[g]? = some (.cells (waitC z).toArray 68 (0, 0))) (hl : W.length < 1000000) (hb : base ≤ w.heap.size)
    (h : ∀ v' w', w'.ownsRow base 68 129 v' (W ++ [z]).length (waitsC (W ++ [z])) → w.grownBy w' v.ownBlock → (v'.ownBlock = v.ownBlock ∨ v'.ownBlock = some w.heap.size) → K (a.put o.dst v') w') : o.wp Try.prog a w K Q := by
  have hI : ((Try.prog.info? 68).map fun i => (i.zero, i.size, i.bytes)) = some (some (.agg (Value.int .i64 0 :: List.replicate 128 (.int .u8 0)).toArray), 129, 136) := by kernel_rfl
  cases hq : Try.prog.info? 68 with
  | none => rw [hq] at hI; cases hI
  | some i =>
    rw [hq] at hI
    simp only [Option.map_some, Option.some.injEq, Prod.mk.injEq] at hI
    obtain ⟨hz0, hs, hby⟩ := hI
    obtain ⟨v', w', hr, h2, h3, _, h5⟩ := run_append_own_at (P := Try.prog) w base 58 o.type 68 i _ 129 136 Try.underlying58 hq hz0 hs hby (by simp [Value.cells]) (by decide) v W.length (waitsC W) hown
      ⟨g, 0, none⟩ 1 1 (waitC z) (by rw [waitC_length hz]) (fun j u hj => by
        rw [addr_add, Nat.zero_add, cell_of_row w g j _ _ _ hg]
        simpa using hj) (waitC_one z) (by unfold maxLen; omega) (by omega) hb
    unfold Oper.wp execOp
    simp only [ho, resolve, invoke, builtin, Sem.run_bind, Sem.run_pure, Result.andThen_ok, List.map_toArray, List.map_cons, List.map_nil, hx, hy, hr]
    exact h v' w' (by rw [waitsC_snoc]; simpa using h2) h3 h5
/-- What a write leaves. -/
theorem wrote_end {w1 w2 w3 w4 w5 : World} {base : Nat} {f : StF} {s : StS} {k : Nat} {m : List (BitVec 8)} (h0 : s.Ok) (hk : k < s.L.length) (hm : m.length = 128) (hA : StAt w2 base f s.spent) (hK : SKept f w1 w2)
    (h3 : ∀ j, j ≠ f.n → w3.heap[j]? = w2.heap[j]?) (h3n : w3.heap[f.n]? = some (.cells (rowB (s.new'.set k m)) 66 (0, 0))) (h3k : SKept f w2 w3) (h4 : Below w3.heap.size w3 w4) {v' : Value}
    (hown : w5.ownsRow base 68 129 v' (s.W ++ [(k, m)]).length (waitsC (s.W ++ [(k, m)]))) (hg : w4.grownBy w5 f.wv.ownBlock) (hv : v'.ownBlock = f.wv.ownBlock ∨ v'.ownBlock = some w4.heap.size) :
    SEnd w1 base f (s.wrote k m) (w5.setCell ⟨f.b, 2, none⟩ v') := by
  have hs4 : w2.heap.size ≤ w4.heap.size := Nat.le_trans h3k.size h4.size
  have hf : ∀ {j}, f.has j → j < w2.heap.size := fun hj => hA.lt hj
  have hown0 := hA.waits
  have e4 : ∀ j, j < w2.heap.size → w4.heap[j]? = w3.heap[j]? := fun j hj => h4.block j (Nat.lt_of_lt_of_le hj h3k.size)
  have hb2 := hA.obj
  have hb : w5.heap[f.b]? = some (.cells (objC f s.L.length (lessCall s.C)) 60 (0, 0)) :=
    (hg.block _ (Nat.lt_of_lt_of_le (hf (.inl rfl)) hs4) fun e => own_ty hown0 hb2 (by decide) e.symm).trans ((e4 _ (hf (.inl rfl))).trans ((h3 _ (row_ty hA.obj hA.new (by decide))).trans hb2))
  have hl : w5.heap[f.l]? = some (.cells (rowB s.L) 66 (0, 0)) :=
    (hg.block _ (Nat.lt_of_lt_of_le (hf (.inr (.inl rfl))) hs4) fun e => own_ty hown0 hA.last (by decide) e.symm).trans ((e4 _ (hf (.inr (.inl rfl)))).trans ((h3 _ hA.ln).trans hA.last))
  have hn : w5.heap[f.n]? = some (.cells (rowB (s.new'.set k m)) 66 (0, 0)) :=
    (hg.block _ (Nat.lt_of_lt_of_le (hf (.inr (.inr (.inl rfl)))) hs4) fun e => own_ty hown0 hA.new (by decide) e.symm).trans ((e4 _ (hf (.inr (.inr (.inl rfl))))).trans h3n)
  have hr : w5.heap[f.r]? = some (.cells (rowR s.R) 3 (0, 0)) :=
    (hg.block _ (Nat.lt_of_lt_of_le (hf (.inr (.inr (.inr (.inl rfl))))) hs4) fun e => own_ty hown0 hA.reads (by decide) e.symm).trans ((e4 _ (hf (.inr (.inr (.inr (.inl rfl)))))).trans ((h3 _ (row_ty hA.reads hA.new (by decide))).trans hA.reads))
  have hset : ∀ j, j ≠ f.b → (w5.setCell ⟨f.b, 2, none⟩ v').heap[j]? = w5.heap[j]? := fun j hj => heap_setCell_other _ _ _ _ hj
  have hw5 : w4.heap.size ≤ w5.heap.size := hg.size
  refine ⟨{ f with wv := v' }, ⟨h0.wrote hk hm, ?_, (hset _ (row_ty hl hb (by decide))).trans hl, ?_, ?_, (hset _ (row_ty hr hb (by decide))).trans hr, hA.low, hA.ln⟩, rfl, fun j hj => ?_, ?_⟩
  · rw [heap_setCell_same w5 f.b 2 _ _ _ hb]
    rfl
  · rw [new'_wrote]
    exact (hset _ (row_ty hn hb (by decide))).trans hn
  · refine ⟨hown.1, ?_⟩
    rcases hown.2 with e | ⟨g, cap, cur, hv', h1, hg', rest⟩
    · exact .inl e
    · exact .inr ⟨g, cap, cur, hv', h1, (hset g (row_ty hg' hb (by decide))).trans hg', rest⟩
  · have hsz : w1.heap.size ≤ w4.heap.size := Nat.le_trans hK.size hs4
    rcases hj with e | e | e | e | e
    · exact .inl (.inl e)
    · exact .inl (.inr (.inl e))
    · exact .inl (.inr (.inr (.inl e)))
    · exact .inl (.inr (.inr (.inr (.inl e))))
    · rcases hv with h | h
      · exact .inl (.inr (.inr (.inr (.inr (h ▸ e)))))
      · right
        have e' : v'.ownBlock = some j := e
        rw [h] at e'
        injection e' with e'
        omega
  · have k1 : SKept f w1 w3 := hK.trans (fun _ h => .inl h) h3k
    have k2 : SKept f w1 w4 := k1.trans (fun _ h => .inl h) (SKept.of_below h4)
    have k3 : SKept f w1 w5 := k2.trans (fun _ h => .inl h) (SKept.grown hg fun j hj => .inr (.inr (.inr (.inr hj))))
    exact k3.trans (fun _ h => .inl h) (SKept.cell (.inl rfl) _ _)
theorem own_move {w w' : World} {base : Nat} {e : TypeId} {m n : Nat} {v : Value} {xs : List Value} (h : w.ownsRow base e m v n xs) (hb : ∀ g, v.ownBlock = some g → w'.heap[g]? = w.heap[g]?) : w'.ownsRow base e m v n xs := by
  refine ⟨h.1, ?_⟩
  rcases h.2 with e | ⟨g, cap, cur, hv, h1, hg, rest⟩
  · exact .inl e
  · exact .inr ⟨g, cap, cur, hv, h1, (hb g (by rw [hv]; rfl)).trans hg, rest⟩
theorem own_one {w : World} {base : Nat} {e : TypeId} {m n : Nat} {v : Value} {xs : List Value} (h : w.ownsRow base e m v n xs) : v.cells = #[v] ∧ v.oneCell' = true := by
  rcases h.2 with ⟨rfl, _⟩ | ⟨g, cap, cur, rfl, _⟩
  · exact ⟨rfl, rfl⟩
  · exact ⟨rfl, rfl⟩
theorem range_block {w w' : World} {b o : Nat} {cs : List Value} (h : w.rangeAt b o cs) (hb : w'.heap[b]? = w.heap[b]?) : w'.rangeAt b o cs := fun j v hv => by
  rw [World.cell?_of_block (w := w) hb]
  exact h j v hv
end Go.Proofs.Ytdmnhgbdeifpbaa
