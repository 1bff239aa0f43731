/-
  The contracts of a store's Reads and Load.
-/
import Derived.Test.YtggecfecodoigaaStoreFirst
import Derived.Test.YtggecfecodoigaaRefStLoad
namespace Go.Proofs.Ytggecfecodoigaa
open Go Go.RowKit

section
variable {w : World} {base : Nat} {f : StF} {s : StS}
/-- What Reads leaves: the counts that were, and new ones. -/
theorem sreads_any (h : StAt w base f s) (hbase : base ≤ w.heap.size) : Calls Try.prog 17 #[.pointer (some ⟨f.b, 0, none⟩)] w fun e w' =>
    e = .returned (.slice (some ⟨f.r, 0, none⟩) s.L.length s.L.length) ∧ w'.heap[f.r]? = some (.cells (rowR s.R) 3 (0, 0)) ∧ SEnd w base f s.zeroed w' ∧ Moved (fun k => k = f.b) w w' := by
  have mi := mk_ints s.L.length h.ok.most
  have HS := Lib.hid h
  have d4 := h.cell4
  obtain ⟨w1, hw1⟩ : ∃ W, W = w.alloc (.cells (rowR (List.replicate s.L.length 0)) 3) := ⟨_, rfl⟩
  have hB : Below w.heap.size w w1 := by rw [hw1]; exact (Below.refl _ w).alloc (Nat.le_refl _) _
  have h1 := h.far hB
  have mi' : (Instr.makeSlice 36 (.int .i64 (s.L.length : Int)) (.int .i64 (s.L.length : Int))).run Try.prog w = .ok (.slice (some ⟨w.heap.size, 0, none⟩) s.L.length s.L.length) w1 := by rw [hw1]; exact mi w
  have e4 := h1.cell4
  have g4 := h1.free 4
  have hset : ∀ j, j ≠ f.b → (w1.setCell ⟨f.b, 4, none⟩ (.slice (some ⟨w.heap.size, 0, none⟩) s.L.length s.L.length)).heap[j]? = w1.heap[j]? := fun j hj => heap_setCell_other _ _ _ _ hj
  have HE : Hid ((w1.setCell ⟨f.b, 4, none⟩ (.slice (some ⟨w.heap.size, 0, none⟩) s.L.length s.L.length)).heap[f.r]? = some (.cells (rowR s.R) 3 (0, 0)) ∧ SEnd w base f s.zeroed (w1.setCell ⟨f.b, 4, none⟩ (.slice (some ⟨w.heap.size, 0, none⟩) s.L.length s.L.length)) ∧
      Moved (fun k => k = f.b) w (w1.setCell ⟨f.b, 4, none⟩ (.slice (some ⟨w.heap.size, 0, none⟩) s.L.length s.L.length))) := by
    refine ⟨(hset _ (row_ty h1.reads h1.obj (by decide))).trans h1.reads, ⟨{ f with r := w.heap.size }, ⟨h.ok.zeroed, ?_, (hset _ (row_ty h1.last h1.obj (by decide))).trans h1.last, (hset _ (row_ty h1.new h1.obj (by decide))).trans h1.new,
      own_obj h1.waits h1.obj (by decide) _ _, ?_, ⟨h.low.1, h.low.2.1, h.low.2.2.1, hbase⟩, h.ln⟩, rfl, fun k hk => ?_, (SKept.of_below hB).trans (fun _ h => .inl h) (SKept.cell (.inl rfl) _ _)⟩, (Moved.of_below hB).then_ (Moved.cell (H := fun k => k = f.b) rfl _ _)⟩
    · rw [(obj_step h1.obj 4 _).1]
      rfl
    · have hr : w1.heap[w.heap.size]? = some (.cells (rowR (List.replicate s.L.length 0)) 3 (0, 0)) := by rw [hw1, heap_alloc_new]
      exact (hset _ (row_ty hr h1.obj (by decide))).trans hr
    · rcases hk with e | e | e | e | e
      · exact .inl (.inl e)
      · exact .inl (.inr (.inl e))
      · exact .inl (.inr (.inr (.inl e)))
      · right
        have e' : k = w.heap.size := e
        omega
      · exact .inl (.inr (.inr (.inr (.inr e))))
  clear h mi hw1 hB h1 hset
  go_enter Try.func17, Try.ntmps17
  go_wp2_with (fail)
  refine (slen_any HS.out).mono ?_
  rintro e w9 ⟨rfl, rfl⟩
  dsimp only
  go_wp2_with (fail)
  go_ret
  exact ⟨rfl, HE.out⟩
theorem sload_no (h : StAt w base f s) (a : Option Addr) (n c : Nat) (hn : n ≠ 128 * s.L.length) : Calls Try.prog 20 #[.pointer (some ⟨f.b, 0, none⟩), .slice a n c] w fun e w' => e = .returned (.bool false) ∧ w' = w := by
  have HS := Lib.hid h
  have hml := h.ok.most
  have hb' : ((n : Int) != 128 * (s.L.length : Int)) = true := by
    have : ¬ (n : Int) = 128 * (s.L.length : Int) := by omega
    simpa using this
  clear h hn
  go_enter Try.func20, Try.ntmps20
  go_wp2_with (fail)
  refine (slen_any HS.out).mono ?_
  rintro e w9 ⟨rfl, rfl⟩
  dsimp only
  go_wp2_with (fail)
  go_ret
  exact ⟨rfl, rfl⟩
end
theorem step_copy_rows {ops : Array Oper} {o : Oper} {a : Act} {w : World} {K : Act → World → Prop} {Q : Exit → Act → World → Prop} {E : Prop} (hgd : o.guard = none) (d x : Operand)
    (ho : o.op = .call { callee := .builtin .copy, args := #[d, x], argTypes := #[67, 67] }) {g l n : Nat} {L M : List (List (BitVec 8))} (hg : w.heap[g]? = some (.cells (rowB M) 74 (0, 0)))
    (hl : w.heap[l]? = some (.cells (rowB L) 74 (0, 0))) (hM : Blocks M) (hL : Blocks L) (hMn : M.length = n) (hLn : L.length = n) (hd : a.eval d = .slice (some ⟨g, 0, none⟩) n n) (hx : a.eval x = .slice (some ⟨l, 0, none⟩) n n)
    (h : K (a.put o.dst (.int .i64 (n : Int))) (w.setRow g (rowB L))) : if Region.wanted o (yielded ops a.tmps) = true then Oper.wp Try.prog o a w K Q else E := by
  rw [if_pos (by simp [Region.wanted, hgd])]
  have hsL := rowB_size hL
  have hsM := rowB_size hM
  have hld := run_loadCells_list (P := Try.prog) w ⟨l, 0, none⟩ (rowB L).toList (fun j v hv => by
    rw [addr_add, Nat.zero_add, cell_of_row w l _ _ _ _ hl]
    simpa using hv)
  have hst := run_storeCells_at Try.prog g 0 74 (rowB L).toList 0 (rowB M) w hg (by simp; omega) (fun v hv => bytes_oneCell _ v hv)
  have hlen : (rowB L).toList.length = n * 128 := by simp; omega
  rw [hlen] at hld
  have hfin : ((rowB M).toList.take (0 + 0) ++ (rowB L).toList ++ (rowB M).toList.drop (0 + 0 + (rowB L).toList.length)).toArray = rowB L := by
    rw [List.drop_of_length_le (by simp; omega)]
    simp
  have hrun : (Builtin.copy_ #[67, 67] o.type #[.slice (some ⟨g, 0, none⟩) n n, .slice (some ⟨l, 0, none⟩) n n]).run Try.prog w = .ok (goInt n) (w.setRow g (rowB L)) := by
    rw [hfin] at hst
    obtain ⟨R, hR⟩ : ∃ R, R = rowB L := ⟨_, rfl⟩
    rw [← hR] at hld hst ⊢
    simp [Builtin.copy_, run_underlying Try.underlying67, Builtin.lenOf, Builtin.firstCells, Try.sizeOf74, hld, hst]
  unfold Oper.wp
  simp [execOp, ho, resolve, invoke, builtin, hd, hx, hrun, Result.andThen]
  exact h
/-- A store amid Load: its lasting blocks are L'. -/
structure MidI (w : World) (base : Nat) (f : StF) (s : StS) (L' N' : List (List (BitVec 8))) (wr : World) : Prop where
  obj : wr.heap[f.b]? = some (.cells (objC f s.L.length s.C) 70 (0, 0))
  last : wr.heap[f.l]? = some (.cells (rowB L') 74 (0, 0))
  new : wr.heap[f.n]? = some (.cells (rowB N') 74 (0, 0))
  waits : wr.ownsRow base 78 129 f.wv s.W.length (waitsC s.W)
  reads : wr.heap[f.r]? = some (.cells (rowR s.R) 3 (0, 0))
  kept : SKept f w wr
section
variable {w : World} {base : Nat} {f : StF} {s : StS} {L' N' : List (List (BitVec 8))} {wr : World}
theorem MidI.start (h : StAt w base f s) : MidI w base f s s.L s.new' w := ⟨h.obj, h.last, h.new, h.waits, h.reads, SKept.refl f w⟩
theorem MidI.same (h : MidI w base f s L' N' wr) {w' : World} (hh : w'.heap = wr.heap) (hk : SKept f wr w') : MidI w base f s L' N' w' :=
  ⟨by rw [hh]; exact h.obj, by rw [hh]; exact h.last, by rw [hh]; exact h.new, own_move h.waits fun g _ => by rw [hh], by rw [hh]; exact h.reads, h.kept.trans (fun _ h => .inl h) hk⟩
theorem MidI.setLast (h : MidI w base f s L' N' wr) (hln : f.l ≠ f.n) (L2 : List (List (BitVec 8))) : MidI w base f s L2 N' (wr.setRow f.l (rowB L2)) := by
  have e : ∀ k, k ≠ f.l → (wr.setRow f.l (rowB L2)).heap[k]? = wr.heap[k]? := fun k hk => setRow_other wr f.l k _ hk
  exact ⟨(e _ (row_ty h.obj h.last (by decide))).trans h.obj, setRow_heap wr f.l _ _ _ _ h.last, (e _ hln.symm).trans h.new, own_move h.waits fun g hg => e g fun e' => own_ty h.waits h.last (by decide) (e' ▸ hg),
    (e _ (row_ty h.reads h.last (by decide))).trans h.reads, h.kept.trans (fun _ h => .inl h) (SKept.row (.inr (.inl rfl)) _)⟩
theorem MidI.setNew (h : MidI w base f s L' N' wr) (hln : f.l ≠ f.n) (N2 : List (List (BitVec 8))) : MidI w base f s L' N2 (wr.setRow f.n (rowB N2)) := by
  have e : ∀ k, k ≠ f.n → (wr.setRow f.n (rowB N2)).heap[k]? = wr.heap[k]? := fun k hk => setRow_other wr f.n k _ hk
  exact ⟨(e _ (row_ty h.obj h.new (by decide))).trans h.obj, (e _ hln).trans h.last, setRow_heap wr f.n _ _ _ _ h.new, own_move h.waits fun g hg => e g fun e' => own_ty h.waits h.new (by decide) (e' ▸ hg),
    (e _ (row_ty h.reads h.new (by decide))).trans h.reads, h.kept.trans (fun _ h => .inl h) (SKept.row (.inr (.inr (.inl rfl))) _)⟩
/-- What waits is another list now. -/
theorem MidI.done (h : MidI w base f s L' N' wr) (h0 : StAt w base f s) {s' : StS} (hok : s'.Ok) (hL : s'.L = L') (hN : s'.new' = N') (hC : s'.C = s.C) (hR : s'.R = s.R) (hl : L'.length = s.L.length) {v : Value}
    (hw : wr.ownsRow base 78 129 v s'.W.length (waitsC s'.W)) (hv : ∀ k, v.ownBlock = some k → f.wv.ownBlock = some k ∨ w.heap.size ≤ k) : SEnd w base f s' (wr.setCell ⟨f.b, 2, none⟩ v) := by
  have hset : ∀ j, j ≠ f.b → (wr.setCell ⟨f.b, 2, none⟩ v).heap[j]? = wr.heap[j]? := fun j hj => heap_setCell_other _ _ _ _ hj
  refine ⟨{ f with wv := v }, ⟨hok, ?_, by rw [hL]; exact (hset _ (row_ty h.last h.obj (by decide))).trans h.last, by rw [hN]; exact (hset _ (row_ty h.new h.obj (by decide))).trans h.new, own_obj hw h.obj (by decide) _ _,
    by rw [hR]; exact (hset _ (row_ty h.reads h.obj (by decide))).trans h.reads, h0.low, h0.ln⟩, rfl, fun j hj => ?_, h.kept.trans (fun _ h => .inl h) (SKept.cell (.inl rfl) _ _)⟩
  · rw [heap_setCell_same wr f.b 2 _ _ _ h.obj, hL, hl, hC]
    rfl
  · rcases hj with e | e | e | e | e
    · exact .inl (.inl e)
    · exact .inl (.inr (.inl e))
    · exact .inl (.inr (.inr (.inl e)))
    · exact .inl (.inr (.inr (.inr (.inl e))))
    · exact (hv j e).imp (fun h => .inr (.inr (.inr (.inr h)))) id
end
theorem run_slice_lh (w : World) (ab off n c l h : Nat) (hl : l ≤ h) (hh : h ≤ c) (hlc : l < c) : (Instr.slice 28 (.slice (some ⟨ab, off, none⟩) n c) (some (.int .i64 (l : Int))) (some (.int .i64 (h : Int))) none).run Try.prog w = .ok (.slice (some ⟨ab, off + l, none⟩) (h - l) (c - l)) w := by
  have h4 : ¬ c = l := by omega
  simp [Instr.slice, run_underlying Try.underlying28, Instr.sliceBounds, run_sliceBound, Try.sizeOf5, addr_add, hl, hh, h4]
set_option maxRecDepth 100000 in
set_option maxHeartbeats 2000000 in
theorem sload_any {w : World} {base : Nat} {f : StF} {s : StS} (h : StAt w base f s) (a : Option Addr) (c : Nat) (L0 : List (List (BitVec 8))) (hb : Blocks L0) (hl0 : L0.length = s.L.length) (hsr : SrcA f w a (flatB L0)) (hc : 128 * s.L.length ≤ c) :
    Calls Try.prog 20 #[.pointer (some ⟨f.b, 0, none⟩), .slice a (128 * s.L.length) c] w fun e w' => e = .returned (.bool true) ∧ SEnd w base f (s.loaded L0) w' := by
  have HS := Lib.hid h
  have hml := h.ok.most
  have hm1 := h.ok.some
  have d0 := h.cell0
  have hfl := flatB_length hb
  obtain ⟨ab, off, rfl, has, hcell⟩ : ∃ ab off, a = some ⟨ab, off, none⟩ ∧ Aside f w ab ∧ ∀ i < (flatB L0).length, w.cell? ⟨ab, off + i, none⟩ = some (B (gl (flatB L0) i)) := by
    rcases hsr with h | h
    · omega
    · exact h
  have HB := Lib.hid (And.intro hb (And.intro hl0 (And.intro has (And.intro hcell (And.intro hc hfl)))))
  obtain ⟨N, hN⟩ : ∃ N, N = 128 * s.L.length := ⟨_, rfl⟩
  rw [← hN]
  have hNi : (N : Int) = 128 * (s.L.length : Int) := by omega
  have hNb : ((N : Int) != 128 * (s.L.length : Int)) = false := by simpa using hNi
  clear h hb hl0 hsr hc hfl has hcell
  go_enter Try.func20, Try.ntmps20
  go_wp2_with (fail)
  refine (slen_any HS.out).mono ?_
  rintro e w9 ⟨rfl, rfl⟩
  have HN := Lib.hid (And.intro hN (And.intro hNi hNb))
  dsimp only
  go_wp2_with (fail)
  clear hN hNi hNb
  go_loopw [21] (fun u wr => ∃ i : Nat, i ≤ s.L.length ∧ u = .int .i64 (i : Int) ∧ MidI w9 base f s (loadTo L0 s.L i) s.new' wr) (fun u _ => s.L.length - (intOf u).toNat)
  case atStart => exact ⟨0, Nat.zero_le _, rfl, MidI.start HS.out⟩
  case round =>
    obtain ⟨i, hi, rfl, hR⟩ := hrel
    clear d0
    by_cases hlt : i < s.L.length
    · have hi0 : (0 : Int) ≤ (i : Int) ∧ (i : Int) < s.L.length := by omega
      have hLl : (loadTo L0 s.L i).length = s.L.length := loadTo_length L0 s.L i HB.out.2.1 (by omega)
      have hLb : Blocks (loadTo L0 s.L i) := fun x hx => by
        rcases List.mem_append.1 hx with h | h
        · exact HB.out.1 x (List.mem_of_mem_take h)
        · exact HS.out.ok.blocks x (List.mem_of_mem_drop h)
      obtain ⟨y, hy⟩ : ∃ y, y = L0.getD i [] := ⟨_, rfl⟩
      have hy8 : y.length = 128 := by rw [hy]; exact HB.out.1.at (by rw [HB.out.2.1]; exact hlt)
      obtain ⟨nb, hnb⟩ : ∃ nb, nb = y.map B := ⟨_, rfl⟩
      have hnl : nb.length = 128 := by rw [hnb]; simp [hy8]
      have g0 : wr.cell? ⟨f.b, 0, none⟩ = some (.slice (some ⟨f.l, 0, none⟩) s.L.length s.L.length) := by rw [cell_of_row _ _ _ _ _ _ hR.obj]; rfl
      have hab : wr.heap[ab]? = w9.heap[ab]? := hR.kept.block ab HB.out.2.2.1.1 HB.out.2.2.1.2
      have gr : wr.rangeAt ab (off + 128 * i) nb := fun j v hv => by
        have hj : j < 128 := by
          have := (List.getElem?_eq_some_iff.1 hv).1
          omega
        have h1 := HB.out.2.2.2.1 (128 * i + j) (by rw [HB.out.2.2.2.2.2, HB.out.2.1]; omega)
        rw [World.cell?_of_block (w := w9) hab, show off + 128 * i + j = off + (128 * i + j) by omega, h1, ← hv, hnb, List.getElem?_map]
        have h2 := flatB_at HB.out.1 i j (by rw [HB.out.2.1]; exact hlt) hj
        rw [← hy] at h2
        rw [← h2, List.getElem?_eq_getElem (by rw [HB.out.2.2.2.2.2, HB.out.2.1]; omega)]
        simp [gl, List.getElem?_eq_getElem (show 128 * i + j < (flatB L0).length by rw [HB.out.2.2.2.2.2, HB.out.2.1]; omega)]
      have gt : wr.there f.l (i * 128) nb.length := by
        rw [Nat.mul_comm, hnl]
        exact row_there hR.last hLb (by rw [hLl]; exact hlt)
      have hu := Try.underlying74
      have hi8 : (Try.prog.info? 74).map (·.size) = some nb.length := by rw [info_blk, hnl]
      have h1 : ∀ v ∈ nb, v.oneCell' = true := by rw [hnb]; exact bytes_oneCell y
      have hsl : ∀ w', (Instr.slice 28 (.slice (some ⟨ab, off, none⟩) N c) (some (.int .i64 (128 * (i : Int)))) (some (.int .i64 (128 * ((i : Int) + 1)))) none).run Try.prog w' = .ok (.slice (some ⟨ab, off + 128 * i, none⟩) 128 (c - 128 * i)) w' := fun w' => by
        have h := run_slice_lh w' ab off N c (128 * i) (128 * (i + 1)) (by omega) (by have := HB.out.2.2.2.2.1; omega) (by have := HB.out.2.2.2.2.1; omega)
        rw [show 128 * (i + 1) - 128 * i = 128 by omega] at h
        rw [← h]
        congr 2
      have hat : ∀ w', (Instr.arrayAt 74 (.slice (some ⟨ab, off + 128 * i, none⟩) 128 (c - 128 * i))).run Try.prog w' = .ok (.pointer (some ⟨ab, off + 128 * i, none⟩)) w' := fun w' => run_arrayAt w' _ _ 128 _ 128 _ Try.underlying74 (by omega)
      obtain ⟨w3, hw3⟩ : ∃ W, W = wr.drew.setCells f.l (i * 128) nb := ⟨_, rfl⟩
      have hs3 : w3 = wr.drew.setRow f.l (rowB (loadTo L0 s.L (i + 1))) := by
        rw [hw3, hnb, Nat.mul_comm, setCells_row (w := wr.drew) hR.last hLb (by rw [hLl]; exact hlt) y hy8, hy, loadTo_step L0 s.L i HB.out.2.1 hlt]
      have hM3 : MidI w9 base f s (loadTo L0 s.L (i + 1)) s.new' w3 := by
        rw [hs3]
        exact (hR.same (w' := wr.drew) rfl (SKept.of_below ⟨rfl, rfl, rfl, Nat.le_refl _, fun _ _ => rfl⟩)).setLast HS.out.ln _
      have K2 : Hid (wr.drew.cell? ⟨f.b, 0, none⟩ = some (.slice (some ⟨f.l, 0, none⟩) s.L.length s.L.length) ∧ wr.drew.rangeAt ab (off + 128 * i) nb ∧ wr.drew.there f.l (i * 128) nb.length) := ⟨g0, gr, gt⟩
      have K3 : Hid (w3.cell? ⟨f.b, 0, none⟩ = some (.slice (some ⟨f.l, 0, none⟩) s.L.length s.L.length) ∧ w3.rangeAt ab (off + 128 * i) nb ∧ w3.there f.l (i * 128) nb.length) := by
        refine ⟨by rw [cell_of_row _ _ _ _ _ _ hM3.obj]; rfl, ?_, by rw [hw3]; exact World.there_setCells K2.out.2.2 _ _ _⟩
        rw [hw3]
        exact World.rangeAt_setCells_apart K2.out.2.1 _ _ _ (.inl fun e => HB.out.2.2.1.2 (.inr (.inl e)))
      have H4 := Lib.hid (And.intro hw3 hM3)
      have hi1 : (i : Int) + 1 ≤ 4096 := by omega
      have hi128 : (128 : Int) * ((i : Int) + 1) ≤ 524288 := by omega
      have wa : IntKind.i64.wrap ((i : Int) + 1) = (i : Int) + 1 := IntWalk.i64_in _ (by omega)
      have wb : IntKind.i64.wrap ((128 : Int) * (i : Int)) = 128 * (i : Int) := IntWalk.i64_in _ (by omega)
      have wc : IntKind.i64.wrap ((128 : Int) * ((i : Int) + 1)) = 128 * ((i : Int) + 1) := IntWalk.i64_in _ (by omega)
      clear hR hLl hLb hy hy8 hnb hnl g0 hab gr gt hw3 hs3 hM3 hlt
      go_wp2_with (fail)
      go_region_held3 (fun w' => w'.cell? ⟨f.b, 0, none⟩ = some (.slice (some ⟨f.l, 0, none⟩) s.L.length s.L.length) ∧ w'.rangeAt ab (off + 128 * i) nb ∧ w'.there f.l (i * 128) nb.length) (first | exact K2.out | (rw [← H4.out.1]; exact K3.out)) (fail)
      rw [← H4.out.1]
      clear K2 K3 hu hi8 h1 hsl hat
      go_wp2_with (fail)
      exact ⟨⟨i + 1, by omega, by go_num, H4.out.2⟩, by simp [intOf]; omega⟩
    · obtain rfl : i = s.L.length := by omega
      rw [loadTo_end L0 s.L HB.out.2.1] at hR
      have g0 : wr.cell? ⟨f.b, 0, none⟩ = some (.slice (some ⟨f.l, 0, none⟩) s.L.length s.L.length) := by rw [cell_of_row _ _ _ _ _ _ hR.obj]; rfl
      have g1 : wr.cell? ⟨f.b, 1, none⟩ = some (.slice (some ⟨f.n, 0, none⟩) s.L.length s.L.length) := by rw [cell_of_row _ _ _ _ _ _ hR.obj]; rfl
      have hRd := hR.same (w' := wr.drew) rfl (SKept.of_below ⟨rfl, rfl, rfl, Nat.le_refl _, fun _ _ => rfl⟩)
      obtain ⟨w3, hw3⟩ : ∃ W, W = wr.drew.setRow f.n (rowB L0) := ⟨_, rfl⟩
      have hM3 : MidI w9 base f s L0 L0 w3 := by
        rw [hw3]
        exact hRd.setNew HS.out.ln L0
      have K2 : Hid (wr.drew.cell? ⟨f.b, 0, none⟩ = some (.slice (some ⟨f.l, 0, none⟩) s.L.length s.L.length) ∧ wr.drew.cell? ⟨f.b, 1, none⟩ = some (.slice (some ⟨f.n, 0, none⟩) s.L.length s.L.length)) := ⟨g0, g1⟩
      have K3 : Hid (w3.cell? ⟨f.b, 0, none⟩ = some (.slice (some ⟨f.l, 0, none⟩) s.L.length s.L.length) ∧ w3.cell? ⟨f.b, 1, none⟩ = some (.slice (some ⟨f.n, 0, none⟩) s.L.length s.L.length)) :=
        ⟨by rw [cell_of_row _ _ _ _ _ _ hM3.obj]; rfl, by rw [cell_of_row _ _ _ _ _ _ hM3.obj]; rfl⟩
      have c2 : w3.cell? ⟨f.b, 2, none⟩ = some f.wv := by rw [cell_of_row _ _ _ _ _ _ hM3.obj]; rfl
      have f2 := frozen_of_row w3 f.b 2 _ _ hM3.obj
      have hE := hM3.done HS.out (s' := s.loaded L0) (HS.out.ok.loaded HB.out.1 HB.out.2.1) rfl rfl rfl rfl HB.out.2.1 (v := .slice none 0 0) (World.ownsRow_nil _ _ _ 129) (fun k h => by cases h)
      have H5 := Lib.hid (And.intro hw3 (And.intro hE hRd))
      have hNl : (newest s.L s.W).length = s.L.length := newest_length _ _
      clear hR g0 g1 hRd hw3 hM3 hE hlt
      go_wp2_with (fail)
      go_region_held3 (fun w' => w'.cell? ⟨f.b, 0, none⟩ = some (.slice (some ⟨f.l, 0, none⟩) s.L.length s.L.length) ∧ w'.cell? ⟨f.b, 1, none⟩ = some (.slice (some ⟨f.n, 0, none⟩) s.L.length s.L.length)) (first | exact K2.out | (rw [← H5.out.1]; exact K3.out))
        (refine step_copy_rows rfl _ _ rfl (w := wr.drew) (M := s.new') (L := L0) H5.out.2.2.new H5.out.2.2.last HS.out.ok.new' HB.out.1 (new'_length s) HB.out.2.1 rfl rfl ?_)
      rw [← H5.out.1]
      clear K2 K3
      go_wp2_with (fail)
      go_ret
      exact ⟨rfl, H5.out.2.1⟩
end Go.Proofs.Ytggecfecodoigaa
