/-
  What each statement of layer 9 asks first.
  The statements' great: are windows too many, or their keys too long?
-/
import Derived.Test.YtbfioekbahcicaaSessTaken
import Derived.Test.YtbfioekbahcicaaSessWhole
import Derived.Test.YtbfioekbahcicaaSessCore
namespace Go.Proofs.Ytbfioekbahcicaa
open Go Go.RowKit

/-- '[]api.Window{x, y}', one operation of a drawn region. -/
theorem wp_slice2_W {o : Oper} {a : Act} {w : World} {K : Act → World → Prop} {Q : Exit → Act → World → Prop} (y z : Operand) (ho : o.op = .buildSlice 22 2 #[(0, y), (1, z)]) (x1 x2 : WindowL) (hy : a.eval y = .agg x1.cells) (hz : a.eval z = .agg x2.cells)
    (h : K (a.put o.dst (.slice (some ⟨w.heap.size, 0, none⟩) 2 2)) (w.alloc (.cells (x1.cells ++ x2.cells) 24))) : o.wp Try.prog a w K Q := by
  have hF : Instr.fill (fun i => some (i * 3, 3)) ((Array.range (2 * 3)).map ((Value.agg #[.string ⟨#[]⟩, .int .i64 0, .int .i64 0]).cells[· % (Value.agg #[.string ⟨#[]⟩, .int .i64 0, .int .i64 0]).cells.size]!)) [(0, .agg x1.cells), (1, .agg x2.cells)] = some (x1.cells ++ x2.cells) := by kernel_rfl
  obtain ⟨i, hi, hz0, hz1, hz2⟩ := info_parts window_parts
  refine wp_buildSlice 22 24 2 _ ho (x1.cells ++ x2.cells) i _ Try.underlying22 hi hz0 (by rw [hz1]; decide) (by rw [hz1]; decide) ?_ h
  rw [hz1]
  simp only [List.map_toArray, List.map_cons, List.map_nil, hy, hz]
  exact hF
theorem WinsAt.two {w : World} {g : Nat} {x y : WindowL} (h : w.heap[g]? = some (.cells (x.cells ++ y.cells) 24 (0, 0))) : WinsAt w (some ⟨g, 0, none⟩) [x, y] := by
  refine .inr ⟨g, 0, rfl, fun i u hu j v hv => ?_⟩
  have hj := cellsW_lt hv
  have e : x.cells ++ y.cells = #[Sv x.key, .int .i64 x.lo, .int .i64 x.hi, Sv y.key, .int .i64 y.lo, .int .i64 y.hi] := rfl
  rw [cell_of_row _ _ _ _ _ _ h, e]
  match i, hu with
  | 0, hu =>
    simp only [List.getElem?_cons_zero, Option.some.injEq] at hu
    subst hu
    match j, hv with
    | 0, hv => exact hv
    | 1, hv => exact hv
    | 2, hv => exact hv
    | j + 3, _ => omega
  | 1, hu =>
    simp only [List.getElem?_cons_succ, List.getElem?_cons_zero, Option.some.injEq] at hu
    subst hu
    match j, hv with
    | 0, hv => exact hv
    | 1, hv => exact hv
    | 2, hv => exact hv
    | j + 3, _ => omega
  | i + 2, hu => simp at hu
def kA : List (BitVec 8) := [97]
def wA : WindowL := ⟨kA, 5, 10⟩
def wB : WindowL := ⟨kA, 10, 12⟩
def wC : WindowL := ⟨kA, 5, 12⟩
theorem wA_right : wA.rightB = true := by decide
theorem wB_right : wB.rightB = true := by decide
theorem wC_right : wC.rightB = true := by decide
theorem wAB_joins : joinsB wA wB = true := by decide
theorem wA_settled : Settled [wA] := ⟨by simp [wA_right], by simp⟩
theorem wAB_settled : ¬ Settled [wA, wB] := fun h => by
  have := h.2
  simp [wAB_joins] at this
theorem wAB_take : takeL [wA] wB = ([wC], wC, [0]) := by
  have hb : became [wA] wB = wC := by
    show hullW wB wB wA = wC
    rw [hullW, if_pos wAB_joins]
    rfl
  have hr : restW [wA] wB = [] := by
    show List.filter (fun o => !joinsB o wB) [wA] = []
    rw [List.filter_cons, wAB_joins]
    rfl
  have hg : gaveW [wA] wB = [0] := by
    show List.filter (fun i => joinsB (([wA] : List WindowL).getD i zeroW) wB) [0] = [0]
    rw [List.filter_cons]
    simp [wAB_joins]
  have hs : takeS [wA] wB = [wC] := by
    rw [takeS, hb, hr]
    rfl
  rw [takeL_yes wA_settled wB_right, hs, hb, hg]
theorem wBA_all : allL [wB, wA] = [wC] := by
  refine (allL_ext ⟨by simp [wC_right], by simp⟩ fun k p => ?_).symm
  have e : rightsW [wB, wA] = [wB, wA] := by
    show List.filter WindowL.rightB [wB, wA] = _
    rw [List.filter_cons, List.filter_cons, wA_right, wB_right]
    rfl
  rw [e]
  simp only [Cov, List.mem_cons, List.not_mem_nil, or_false, exists_eq_or_imp, exists_eq_left]
  have h1 : wA.key = kA ∧ wB.key = kA ∧ wC.key = kA := ⟨rfl, rfl, rfl⟩
  have h2 : wA.lo = 5 ∧ wA.hi = 10 ∧ wB.lo = 10 ∧ wB.hi = 12 ∧ wC.lo = 5 ∧ wC.hi = 12 := ⟨rfl, rfl, rfl, rfl, rfl, rfl⟩
  rw [h1.1, h1.2.1, h1.2.2, h2.1, h2.2.1, h2.2.2.1, h2.2.2.2.1, h2.2.2.2.2.1, h2.2.2.2.2.2]
  constructor
  · rintro ⟨h, _, _⟩
    by_cases hp : p ≤ 20
    · exact .inr ⟨h, by omega, by omega⟩
    · exact .inl ⟨h, by omega, by omega⟩
  · rintro (⟨h, _, _⟩ | ⟨h, _, _⟩)
    · exact ⟨h, by omega, by omega⟩
    · exact ⟨h, by omega, by omega⟩
set_option maxRecDepth 100000 in
set_option maxHeartbeats 4000000 in
theorem sfirst_any (w : World) : Calls Try.prog 6 #[] w (Below0 w (.bool true)) := by
  obtain ⟨w2, hw2⟩ : ∃ W, W = (w.alloc (.cells #[.string ⟨#[]⟩, .int .i64 0, .int .i64 0] 24)).alloc (.cells #[.string ⟨#[]⟩, .int .i64 0, .int .i64 0] 24) := ⟨_, rfl⟩
  obtain ⟨b1, hb1⟩ : ∃ b, b = w.heap.size := ⟨_, rfl⟩
  obtain ⟨b2, hb2⟩ : ∃ b, b = w.heap.size + 1 := ⟨_, rfl⟩
  have hs1 : (w.alloc (.cells #[.string ⟨#[]⟩, .int .i64 0, .int .i64 0] 24)).heap.size = w.heap.size + 1 := heap_alloc_size w _
  have H2 : Hid (RowW w2 b1 zeroW ∧ RowW w2 b2 zeroW ∧ Below w.heap.size w w2 ∧ w.heap.size = b1 ∧ b2 = b1 + 1) := by
    have k1 := (Below.refl _ w).alloc (Nat.le_refl _) (.cells #[.string ⟨#[]⟩, .int .i64 0, .int .i64 0] 24)
    have k2 := (Below.refl _ (w.alloc (.cells #[.string ⟨#[]⟩, .int .i64 0, .int .i64 0] 24))).alloc (Nat.le_refl _) (.cells #[.string ⟨#[]⟩, .int .i64 0, .int .i64 0] 24)
    refine Lib.hid ⟨?_, ?_, ?_, hb1.symm, by omega⟩
    · rw [hw2, hb1]
      exact RowW.below (heap_alloc_new w _) k2
    · rw [hw2, hb2, ← hs1]
      exact heap_alloc_new _ _
    · rw [hw2]
      exact k1.trans (k2.mono k1.size)
  go_enter Try.func6, Try.ntmps6
  go_upto_region 1 with (fail)
  refine wp_region_lit ?_
  iterate 12 go_step
  rw [← hw2, ← hb2, ← hb1]
  clear hw2 hb1 hb2 hs1
  refine wpList_store_row rfl _ _ _ rfl b1 wA.cells rfl rfl 24 zeroW.cells H2.out.1 window_size rfl (window_one wA) ?_
  obtain ⟨w3, hw3⟩ : ∃ W, W = w2.setRow b1 wA.cells := ⟨_, rfl⟩
  have H3 : Hid (RowW w3 b1 wA ∧ RowW w3 b2 zeroW ∧ Below w.heap.size w w3 ∧ w.heap.size = b1 ∧ b2 = b1 + 1) := by
    obtain ⟨k1, k2, k3, k4, k5⟩ := H2.out
    have hg := grown_setRow w2 b1 wA.cells
    rw [hw3]
    exact Lib.hid ⟨k1.reset wA, k2.grown hg (by simp; omega), k3.trans ⟨hg.os, hg.tape, hg.output, hg.size, fun k hk => hg.block k (by have := k3.size; omega) (by simp; omega)⟩, k4, k5⟩
  rw [← hw3]
  clear hw3 H2
  refine wpList_store_row rfl _ _ _ rfl b2 wB.cells rfl rfl 24 zeroW.cells H3.out.2.1 window_size rfl (window_one wB) ?_
  obtain ⟨w4, hw4⟩ : ∃ W, W = w3.setRow b2 wB.cells := ⟨_, rfl⟩
  have H4 : Hid (RowW w4 b1 wA ∧ RowW w4 b2 wB ∧ Below w.heap.size w w4) := by
    obtain ⟨k1, k2, k3, k4, k5⟩ := H3.out
    have hg := grown_setRow w3 b2 wB.cells
    rw [hw4]
    exact Lib.hid ⟨k1.grown hg (by simp; omega), k2.reset wB, k3.trans ⟨hg.os, hg.tape, hg.output, hg.size, fun k hk => hg.block k (by have := k3.size; omega) (by simp; omega)⟩⟩
  rw [← hw4]
  clear hw4 H3
  obtain ⟨d0, d1, d2⟩ : D3 w4 b1 kA 5 10 := H4.out.1.d3
  go_upto_region 2 with (fail)
  refine wp_region_lit ?_
  iterate 3 go_step
  refine wpList_slice1_W rfl (.tmp 9) rfl wA rfl ?_
  obtain ⟨w5, hw5⟩ : ∃ W, W = w4.alloc (.cells wA.cells 24) := ⟨_, rfl⟩
  obtain ⟨gb, hgb⟩ : ∃ b, b = w4.heap.size := ⟨_, rfl⟩
  have H5 : Hid (RowW w5 b1 wA ∧ RowW w5 b2 wB ∧ Below w.heap.size w w5 ∧ WinsAt w5 (some ⟨gb, 0, none⟩) [wA]) := by
    obtain ⟨k1, k2, k3⟩ := H4.out
    have hB : Below w4.heap.size w4 w5 := by rw [hw5]; exact (Below.refl _ w4).alloc (Nat.le_refl _) _
    refine Lib.hid ⟨k1.below hB, k2.below hB, k3.trans (hB.mono k3.size), WinsAt.one fun j z hz => ?_⟩
    rw [hw5, hgb, cell_of_row _ _ _ _ _ _ (heap_alloc_new w4 _)]
    exact hz
  rw [← hw5, ← hgb]
  clear hw5 hgb d0 d1 d2 H4
  obtain ⟨d0, d1, d2⟩ : D3 w5 b2 kA 10 12 := H5.out.2.1.d3
  iterate 3 go_step
  have HCt : Hid (Calls Try.prog 11 #[.slice (some ⟨gb, 0, none⟩) 1 1, .agg #[Sv kA, .int .i64 10, .int .i64 12]] w5 (TakeEnd w5 [wC] wC [0])) := by
    have h := stake_any w5 (some ⟨gb, 0, none⟩) 1 [wA] wB H5.out.2.2.2 (by simp [wA, kA]) (by decide) (by decide)
    rw [wAB_take] at h
    exact Lib.hid h
  refine wpList_plain rfl fun K hK => ?_
  go_step
  refine HCt.out.mono ?_
  rintro e w6 ⟨v, u, rfl, k1, k2, hB⟩
  refine hK _ _ ?_
  clear hK d0 d1 d2
  obtain ⟨lb, lc, rfl, _⟩ := World.ownsRow.form k1 (by decide)
  obtain ⟨ub, uc, rfl, _⟩ := World.ownsRow.form k2 (by decide)
  have H6 : Hid (RowW w6 b1 wA ∧ RowW w6 b2 wB ∧ Below w.heap.size w w6 ∧ WinsAt w6 (some ⟨lb, 0, none⟩) [wC] ∧ w6.cell? ⟨ub, 0, none⟩ = some (.int .i64 0)) := by
    obtain ⟨j1, j2, j3, j4⟩ := H5.out
    refine Lib.hid ⟨j1.below hB, j2.below hB, j3.trans (hB.mono j3.size), ?_, World.ownsRow.cellAt k2 0 (by decide)⟩
    obtain ⟨a, c, e, _, hW⟩ := k1.form
    cases e
    exact hW
  clear k1 k2 hB H5 HCt
  rw [show [wC].length = 1 from rfl, show (natsV [0]).length = 1 from rfl]
  iterate 18 go_step
  refine wpList_store_row rfl _ _ _ rfl w6.heap.size wC.cells rfl rfl 24 zeroW.cells (heap_alloc_new w6 _) window_size rfl (window_one wC) ?_
  obtain ⟨W1, hw1⟩ : ∃ W, W = (w6.alloc (Obj.cells #[.string ⟨#[]⟩, .int .i64 0, .int .i64 0] 24)).setRow w6.heap.size wC.cells := ⟨_, rfl⟩
  obtain ⟨b4, hb4⟩ : ∃ b, b = w6.heap.size := ⟨_, rfl⟩
  have H7 : Hid (RowW W1 b1 wA ∧ RowW W1 b2 wB ∧ RowW W1 b4 wC ∧ Below w.heap.size w W1 ∧ WinsAt W1 (some ⟨lb, 0, none⟩) [wC] ∧ W1.cell? ⟨ub, 0, none⟩ = some (.int .i64 0)) := by
    obtain ⟨k1, k2⟩ := stored_window w6 wC
    obtain ⟨j1, j2, j3, j4, j5⟩ := H6.out
    rw [hw1, hb4]
    exact Lib.hid ⟨j1.below k2, j2.below k2, k1, j3.trans (k2.mono j3.size), j4.below k2, (k2.cell (block_lt_of_cell j5)).trans j5⟩
  rw [← hw1, ← hb4]
  clear hw1 hb4 H6
  have HR : Hid (∀ w', Below W1.heap.size W1 w' → D3 w' b1 kA 5 10 ∧ D3 w' b2 kA 10 12 ∧ D3 w' b4 kA 5 12 ∧ D3 w' lb kA 5 12 ∧ w'.cell? ⟨ub, 0, none⟩ = some (.int .i64 0)) := by
    refine Lib.hid (fun w' h => ?_)
    obtain ⟨k1, k2, k3, _, k5, k6⟩ := H7.out
    refine ⟨(k1.below h).d3, (k2.below h).d3, (k3.below h).d3, ?_, (h.cell (block_lt_of_cell k6)).trans k6⟩
    obtain ⟨x, b, o, e1, e2, e3, e4, e5⟩ := (k5.below h).get (t := 0) (by decide)
    cases e1
    cases e2
    exact ⟨e3, e4, e5⟩
  have HW : Hid (Below w.heap.size w W1) := Lib.hid H7.out.2.2.2.1
  have HG0 : Hid (Below W1.heap.size W1 W1.drew) := (Below.refl _ W1).drew
  obtain ⟨VA, hVA⟩ : ∃ V, V = Value.agg wA.cells := ⟨_, rfl⟩
  obtain ⟨VB, hVB⟩ : ∃ V, V = Value.agg wB.cells := ⟨_, rfl⟩
  obtain ⟨VC, hVC⟩ : ∃ V, V = Value.agg wC.cells := ⟨_, rfl⟩
  have HV : Hid (VA = Value.agg wA.cells ∧ VB = Value.agg wB.cells ∧ VC = Value.agg wC.cells ∧ (∀ w, (binOp .eql 24 VC VC).run Try.prog w = .ok (.bool true) w) ∧ ∀ w op o1 o2, (eqGuard op 24 o1 o2 VC VC).run Try.prog w = .ok () w) := by
    refine Lib.hid ⟨hVA, hVB, hVC, ?_, ?_⟩
    · intro w; rw [hVC, run_eql_window, (sameW_iff _ _).2 rfl]
    · intro w op o1 o2; rw [hVC]; exact run_guard_window w op o1 o2 _ _
  have HJ : Hid (∀ w', Calls Try.prog 8 #[VA, VB] w' (Below0 w' (.bool true))) := by
    rw [hVA, hVB]
    refine Lib.hid (fun w' => ?_)
    have h := sJoins_any w' wA wB (by decide) (by decide)
    rw [wAB_joins] at h
    exact h
  have HS1 : Hid (∀ w' gb, WinsAt w' (some ⟨gb, 0, none⟩) [wA] → Calls Try.prog 12 #[.slice (some ⟨gb, 0, none⟩) 1 1] w' (Below0 w' (.bool true))) := Lib.hid (fun w' gb h => by
    have h := sSettled_any w' _ 1 [wA] h (by simp [wA, kA]) (by decide)
    rw [decide_eq_true wA_settled] at h
    exact h)
  have HS2 : Hid (∀ w' gb, WinsAt w' (some ⟨gb, 0, none⟩) [wA, wB] → Calls Try.prog 12 #[.slice (some ⟨gb, 0, none⟩) 2 2] w' (Below0 w' (.bool false))) := Lib.hid (fun w' gb h => by
    have h := sSettled_any w' _ 2 [wA, wB] h (by simp [wA, wB, kA]) (by decide)
    rw [decide_eq_false wAB_settled] at h
    exact h)
  have HAl : Hid (∀ w' gb, WinsAt w' (some ⟨gb, 0, none⟩) [wB, wA] → Calls Try.prog 16 #[.slice (some ⟨gb, 0, none⟩) 2 2] w' (WinsNew w' [wC])) := Lib.hid (fun w' gb h => by
    have h := sAll_any w' _ 2 [wB, wA] h (by simp [wA, wB, kA]) (by decide)
    rw [wBA_all] at h
    exact h)
  clear hVA hVB hVC H7
  go_upto_region 3 with (fail)
  refine wp_region_skip_frame (fun i => ([] : List Nat).contains i) (by kernel_rfl) [none, none, none, none, none, none, none, none, none, none, none, none, none, none, none, none, none, none, none, none, none, none, none, none, none, none, none, none, none, none, none, none, none, none, none, none, none, none, none, none, none, none, none, none, none, none, none, none, none, none, none, none, none, none, none, none, none] [] (V4 (VA :: VB :: (Value.bool true) :: (Value.bool true) :: VA :: undef :: (Value.bool true) :: (Value.bool true) :: (Value.bool true) :: VA :: VB :: undef :: (Value.bool false) :: (Value.bool true) :: (Value.bool true) :: (Value.bool true) :: (Value.slice (some ⟨lb, 0, none⟩) 1 lc) :: (Value.int .i64 1) :: (Value.bool true) :: (Value.bool true) :: (Value.bool true) :: (Value.slice (some ⟨lb, 0, none⟩) 1 lc) :: (Value.pointer (some ⟨lb, 0, none⟩)) :: VC :: VC :: (Value.bool true) :: (Value.bool true) :: (Value.bool true) :: (Value.pointer (some ⟨b4, 1, none⟩)) :: (Value.int .i64 5) :: (Value.bool true) :: (Value.bool true) :: (Value.bool true) :: (Value.pointer (some ⟨b4, 2, none⟩)) :: (Value.int .i64 12) :: (Value.bool true) :: (Value.bool true) :: (Value.bool true) :: (Value.slice (some ⟨ub, 0, none⟩) 1 uc) :: (Value.int .i64 1) :: (Value.bool true) :: (Value.bool true) :: (Value.bool true) :: (Value.slice (some ⟨ub, 0, none⟩) 1 uc) :: (Value.pointer (some ⟨ub, 0, none⟩)) :: (Value.int .i64 0) :: (Value.bool true) :: (Value.bool true) :: (Value.bool true) :: VB :: VA :: undef :: undef :: (Value.int .i64 1) :: (Value.bool true) :: (Value.bool true) :: (Value.bool true) :: ([] : List Value)) 5 (fun _ w' v => ∃ gb, v = .slice (some ⟨gb, 0, none⟩) 1 1 ∧ WinsAt w' (some ⟨gb, 0, none⟩) [wA]) 11 (fun _ w' v => ∃ gb, v = .slice (some ⟨gb, 0, none⟩) 2 2 ∧ WinsAt w' (some ⟨gb, 0, none⟩) [wA, wB]) 51 (fun _ w' v => ∃ gb, v = .slice (some ⟨gb, 0, none⟩) 2 2 ∧ WinsAt w' (some ⟨gb, 0, none⟩) [wB, wA]) 52 (fun _ _ v => ∃ a c, v = .slice a 1 c)) (fun _ w' => Below W1.heap.size W1 w') (fun w w' => Below w.heap.size w w') (V4_le _ (fun _ _ _ _ h ⟨gb, h1, h2⟩ => ⟨gb, h1, h2.below h⟩) (fun _ _ _ _ h ⟨gb, h1, h2⟩ => ⟨gb, h1, h2.below h⟩) (fun _ _ _ _ h ⟨gb, h1, h2⟩ => ⟨gb, h1, h2.below h⟩) (fun _ _ _ _ _ h => h)) (by kernel_rfl) (by kernel_rfl) (by kernel_rfl) HG0.out (fun _ => ⟨rfl, rfl, rfl, rfl, fun _ _ h => .inl h, fun _ _ h => .inl h, fun _ _ h => .inl h, rfl, rfl, fun _ _ h => .inl h, fun _ _ h => .inl h, fun _ _ h => .inl h, fun _ _ h => .inl h, fun _ _ h => .inl h, rfl, rfl, fun _ _ h => .inl h, fun _ _ h => .inl h, fun _ _ h => .inl h, rfl, rfl, fun _ _ h => .inl h, fun _ _ h => .inl h, fun _ _ h => .inl h, fun _ _ h => .inl h, fun _ _ h => .inl h, rfl, rfl, fun _ _ h => .inl h, fun _ _ h => .inl h, fun _ _ h => .inl h, rfl, rfl, fun _ _ h => .inl h, fun _ _ h => .inl h, fun _ _ h => .inl h, rfl, rfl, fun _ _ h => .inl h, fun _ _ h => .inl h, fun _ _ h => .inl h, rfl, rfl, fun _ _ h => .inl h, fun _ _ h => .inl h, fun _ _ h => .inl h, fun _ _ h => .inl h, rfl, rfl, fun _ _ h => .inl h, fun _ _ h => .inl h, fun _ _ h => .inl h, fun _ _ h => .inl h, fun _ _ h => .inl h, fun _ _ h => .inl h, rfl, rfl, trivial⟩) (fun _ h => by simp at h) ?_ ?_
  · refine ⟨?_, ?_, ?_, ?_, ?_, ?_, ?_, ?_, ?_, ?_, ?_, ?_, ?_, ?_, ?_, ?_, ?_, ?_, ?_, ?_, ?_, ?_, ?_, ?_, ?_, ?_, ?_, ?_, ?_, ?_, ?_, ?_, ?_, ?_, ?_, ?_, ?_, ?_, ?_, ?_, ?_, ?_, ?_, ?_, ?_, ?_, ?_, ?_, ?_, ?_, ?_, ?_, ?_, ?_, ?_, ?_, ?_, trivial⟩
    · intro _ _ a w' hG hout hpre K hK
      have q1 := ev_of ((hout 1 rfl).trans (show _ = .pointer (some ⟨b1, 0, none⟩) from rfl))
      obtain ⟨d0, d1, d2⟩ := (HR.out w' hG).1
      clear hout hpre
      go_step
      exact hK _ _ HV.out.1.symm hG (Below.refl _ _)
    · intro _ _ a w' hG hout hpre K hK
      have q2 := ev_of ((hout 2 rfl).trans (show _ = .pointer (some ⟨b2, 0, none⟩) from rfl))
      obtain ⟨d0, d1, d2⟩ := (HR.out w' hG).2.1
      clear hout hpre
      go_step
      exact hK _ _ HV.out.2.1.symm hG (Below.refl _ _)
    · intro _ _ a w' hG hout hpre K hK
      obtain ⟨p0, p1, _⟩ := hpre
      have q16 := ev_of (show a.eval (.tmp 16) = VA from p0)
      have q17 := ev_of (show a.eval (.tmp 17) = VB from p1)
      have HS := Lib.hid (HJ.out w')
      clear hout p0 p1
      go_step
      refine HS.out.mono ?_
      rintro e w3 ⟨rfl, hB⟩
      exact hK _ _ rfl (hG.trans (hB.mono hG.size)) hB
    · intro _ _ a w' hG hout hpre K hK
      obtain ⟨p0, _⟩ := hpre
      have q18 := ev_of (show a.eval (.tmp 18) = .bool true from p0)
      clear hout p0
      go_step
      exact hK _ _ rfl hG (Below.refl _ _)
    · intro _ _ a w' hG hout hpre K hK
      have q1 := ev_of ((hout 1 rfl).trans (show _ = .pointer (some ⟨b1, 0, none⟩) from rfl))
      obtain ⟨d0, d1, d2⟩ := (HR.out w' hG).1
      clear hout hpre
      go_step
      exact hK _ _ HV.out.1.symm hG (Below.refl _ _)
    · intro _ _ a w' hG hout hpre K hK
      obtain ⟨p0, _⟩ := hpre
      have qa := (show a.eval (.tmp 20) = VA from p0)
      clear hout p0
      rw [HV.out.1] at qa
      refine wp_slice1_W (.tmp 20) rfl wA qa ?_
      have hB : Below w'.heap.size w' (w'.alloc (.cells wA.cells 24)) := (Below.refl _ w').alloc (Nat.le_refl _) _
      exact hK _ _ ⟨w'.heap.size, rfl, WinsAt.one fun j z hz => by rw [cell_of_row _ _ _ _ _ _ (heap_alloc_new w' _)]; exact hz⟩ (hG.trans (hB.mono hG.size)) hB
    · intro _ _ a w' hG hout hpre K hK
      obtain ⟨p0, _⟩ := hpre
      obtain ⟨gb, hv, hw⟩ := (show ∃ gb, a.eval (.tmp 21) = .slice (some ⟨gb, 0, none⟩) 1 1 ∧ WinsAt w' (some ⟨gb, 0, none⟩) [wA] from p0)
      have q := ev_of hv
      have HS := Lib.hid (HS1.out w' gb hw)
      clear hout p0 hv hw
      go_step
      refine HS.out.mono ?_
      rintro e w3 ⟨rfl, hB⟩
      exact hK _ _ rfl (hG.trans (hB.mono hG.size)) hB
    · intro _ _ a w' hG hout hpre K hK
      obtain ⟨p0, p1, _⟩ := hpre
      have q19 := ev_of (show a.eval (.tmp 19) = .bool true from p0)
      have q22 := ev_of (show a.eval (.tmp 22) = .bool true from p1)
      clear hout p0 p1
      go_step
      exact hK _ _ rfl hG (Below.refl _ _)
    · intro _ _ a w' hG hout hpre K hK
      obtain ⟨p0, _⟩ := hpre
      have q23 := ev_of (show a.eval (.tmp 23) = .bool true from p0)
      clear hout p0
      go_step
      exact hK _ _ rfl hG (Below.refl _ _)
    · intro _ _ a w' hG hout hpre K hK
      have q1 := ev_of ((hout 1 rfl).trans (show _ = .pointer (some ⟨b1, 0, none⟩) from rfl))
      obtain ⟨d0, d1, d2⟩ := (HR.out w' hG).1
      clear hout hpre
      go_step
      exact hK _ _ HV.out.1.symm hG (Below.refl _ _)
    · intro _ _ a w' hG hout hpre K hK
      have q2 := ev_of ((hout 2 rfl).trans (show _ = .pointer (some ⟨b2, 0, none⟩) from rfl))
      obtain ⟨d0, d1, d2⟩ := (HR.out w' hG).2.1
      clear hout hpre
      go_step
      exact hK _ _ HV.out.2.1.symm hG (Below.refl _ _)
    · intro _ _ a w' hG hout hpre K hK
      obtain ⟨p0, p1, _⟩ := hpre
      have qa := (show a.eval (.tmp 25) = VA from p0)
      have qb := (show a.eval (.tmp 26) = VB from p1)
      clear hout p0 p1
      rw [HV.out.1] at qa
      rw [HV.out.2.1] at qb
      refine wp_slice2_W (.tmp 25) (.tmp 26) rfl wA wB qa qb ?_
      have hB : Below w'.heap.size w' (w'.alloc (.cells (wA.cells ++ wB.cells) 24)) := (Below.refl _ w').alloc (Nat.le_refl _) _
      exact hK _ _ ⟨w'.heap.size, rfl, WinsAt.two (heap_alloc_new w' _)⟩ (hG.trans (hB.mono hG.size)) hB
    · intro _ _ a w' hG hout hpre K hK
      obtain ⟨p0, _⟩ := hpre
      obtain ⟨gb, hv, hw⟩ := (show ∃ gb, a.eval (.tmp 27) = .slice (some ⟨gb, 0, none⟩) 2 2 ∧ WinsAt w' (some ⟨gb, 0, none⟩) [wA, wB] from p0)
      have q := ev_of hv
      have HS := Lib.hid (HS2.out w' gb hw)
      clear hout p0 hv hw
      go_step
      refine HS.out.mono ?_
      rintro e w3 ⟨rfl, hB⟩
      exact hK _ _ rfl (hG.trans (hB.mono hG.size)) hB
    · intro _ _ a w' hG hout hpre K hK
      obtain ⟨p0, _⟩ := hpre
      have q28 := ev_of (show a.eval (.tmp 28) = .bool false from p0)
      clear hout p0
      go_step
      exact hK _ _ rfl hG (Below.refl _ _)
    · intro _ _ a w' hG hout hpre K hK
      obtain ⟨p0, p1, _⟩ := hpre
      have q24 := ev_of (show a.eval (.tmp 24) = .bool true from p0)
      have q29 := ev_of (show a.eval (.tmp 29) = .bool true from p1)
      clear hout p0 p1
      go_step
      exact hK _ _ rfl hG (Below.refl _ _)
    · intro _ _ a w' hG hout hpre K hK
      obtain ⟨p0, _⟩ := hpre
      have q30 := ev_of (show a.eval (.tmp 30) = .bool true from p0)
      clear hout p0
      go_step
      exact hK _ _ rfl hG (Below.refl _ _)
    · intro _ _ a w' hG hout hpre K hK
      have q3 := ev_of ((hout 3 rfl).trans (show _ = .slice (some ⟨lb, 0, none⟩) 1 lc from rfl))
      clear hout hpre
      go_step
      exact hK _ _ rfl hG (Below.refl _ _)
    · intro _ _ a w' hG hout hpre K hK
      obtain ⟨p0, _⟩ := hpre
      have q32 := ev_of (show a.eval (.tmp 32) = .slice (some ⟨lb, 0, none⟩) 1 lc from p0)
      clear hout p0
      go_step
      exact hK _ _ rfl hG (Below.refl _ _)
    · intro _ _ a w' hG hout hpre K hK
      obtain ⟨p0, _⟩ := hpre
      have q33 := ev_of (show a.eval (.tmp 33) = .int .i64 1 from p0)
      clear hout p0
      go_step
      exact hK _ _ rfl hG (Below.refl _ _)
    · intro _ _ a w' hG hout hpre K hK
      obtain ⟨p0, p1, _⟩ := hpre
      have q31 := ev_of (show a.eval (.tmp 31) = .bool true from p0)
      have q34 := ev_of (show a.eval (.tmp 34) = .bool true from p1)
      clear hout p0 p1
      go_step
      exact hK _ _ rfl hG (Below.refl _ _)
    · intro _ _ a w' hG hout hpre K hK
      obtain ⟨p0, _⟩ := hpre
      have q35 := ev_of (show a.eval (.tmp 35) = .bool true from p0)
      clear hout p0
      go_step
      exact hK _ _ rfl hG (Below.refl _ _)
    · intro _ _ a w' hG hout hpre K hK
      have q3 := ev_of ((hout 3 rfl).trans (show _ = .slice (some ⟨lb, 0, none⟩) 1 lc from rfl))
      clear hout hpre
      go_step
      exact hK _ _ rfl hG (Below.refl _ _)
    · intro _ _ a w' hG hout hpre K hK
      obtain ⟨p0, _⟩ := hpre
      have q37 := ev_of (show a.eval (.tmp 37) = .slice (some ⟨lb, 0, none⟩) 1 lc from p0)
      clear hout p0
      go_step
      exact hK _ _ rfl hG (Below.refl _ _)
    · intro _ _ a w' hG hout hpre K hK
      obtain ⟨p0, _⟩ := hpre
      have q38 := ev_of (show a.eval (.tmp 38) = .pointer (some ⟨lb, 0, none⟩) from p0)
      obtain ⟨d0, d1, d2⟩ := (HR.out w' hG).2.2.2.1
      clear hout p0
      go_step
      exact hK _ _ HV.out.2.2.1.symm hG (Below.refl _ _)
    · intro _ _ a w' hG hout hpre K hK
      have q4 := ev_of ((hout 4 rfl).trans (show _ = .pointer (some ⟨b4, 0, none⟩) from rfl))
      obtain ⟨d0, d1, d2⟩ := (HR.out w' hG).2.2.1
      clear hout hpre
      go_step
      exact hK _ _ HV.out.2.2.1.symm hG (Below.refl _ _)
    · intro _ _ a w' hG hout hpre K hK
      obtain ⟨p0, p1, _⟩ := hpre
      have q39 := ev_of (show a.eval (.tmp 39) = VC from p0)
      have q40 := ev_of (show a.eval (.tmp 40) = VC from p1)
      have he := HV.out.2.2.2.1
      have hgd := HV.out.2.2.2.2
      clear hout p0 p1
      go_step
      exact hK _ _ rfl hG (Below.refl _ _)
    · intro _ _ a w' hG hout hpre K hK
      obtain ⟨p0, p1, _⟩ := hpre
      have q36 := ev_of (show a.eval (.tmp 36) = .bool true from p0)
      have q41 := ev_of (show a.eval (.tmp 41) = .bool true from p1)
      clear hout p0 p1
      go_step
      exact hK _ _ rfl hG (Below.refl _ _)
    · intro _ _ a w' hG hout hpre K hK
      obtain ⟨p0, _⟩ := hpre
      have q42 := ev_of (show a.eval (.tmp 42) = .bool true from p0)
      clear hout p0
      go_step
      exact hK _ _ rfl hG (Below.refl _ _)
    · intro _ _ a w' hG hout hpre K hK
      have q4 := ev_of ((hout 4 rfl).trans (show _ = .pointer (some ⟨b4, 0, none⟩) from rfl))
      clear hout hpre
      go_step
      exact hK _ _ rfl hG (Below.refl _ _)
    · intro _ _ a w' hG hout hpre K hK
      obtain ⟨p0, _⟩ := hpre
      have q44 := ev_of (show a.eval (.tmp 44) = .pointer (some ⟨b4, 1, none⟩) from p0)
      obtain ⟨d0, d1, d2⟩ := (HR.out w' hG).2.2.1
      clear hout p0
      go_step
      exact hK _ _ rfl hG (Below.refl _ _)
    · intro _ _ a w' hG hout hpre K hK
      obtain ⟨p0, _⟩ := hpre
      have q45 := ev_of (show a.eval (.tmp 45) = .int .i64 5 from p0)
      clear hout p0
      go_step
      exact hK _ _ rfl hG (Below.refl _ _)
    · intro _ _ a w' hG hout hpre K hK
      obtain ⟨p0, p1, _⟩ := hpre
      have q43 := ev_of (show a.eval (.tmp 43) = .bool true from p0)
      have q46 := ev_of (show a.eval (.tmp 46) = .bool true from p1)
      clear hout p0 p1
      go_step
      exact hK _ _ rfl hG (Below.refl _ _)
    · intro _ _ a w' hG hout hpre K hK
      obtain ⟨p0, _⟩ := hpre
      have q47 := ev_of (show a.eval (.tmp 47) = .bool true from p0)
      clear hout p0
      go_step
      exact hK _ _ rfl hG (Below.refl _ _)
    · intro _ _ a w' hG hout hpre K hK
      have q4 := ev_of ((hout 4 rfl).trans (show _ = .pointer (some ⟨b4, 0, none⟩) from rfl))
      clear hout hpre
      go_step
      exact hK _ _ rfl hG (Below.refl _ _)
    · intro _ _ a w' hG hout hpre K hK
      obtain ⟨p0, _⟩ := hpre
      have q49 := ev_of (show a.eval (.tmp 49) = .pointer (some ⟨b4, 2, none⟩) from p0)
      obtain ⟨d0, d1, d2⟩ := (HR.out w' hG).2.2.1
      clear hout p0
      go_step
      exact hK _ _ rfl hG (Below.refl _ _)
    · intro _ _ a w' hG hout hpre K hK
      obtain ⟨p0, _⟩ := hpre
      have q50 := ev_of (show a.eval (.tmp 50) = .int .i64 12 from p0)
      clear hout p0
      go_step
      exact hK _ _ rfl hG (Below.refl _ _)
    · intro _ _ a w' hG hout hpre K hK
      obtain ⟨p0, p1, _⟩ := hpre
      have q48 := ev_of (show a.eval (.tmp 48) = .bool true from p0)
      have q51 := ev_of (show a.eval (.tmp 51) = .bool true from p1)
      clear hout p0 p1
      go_step
      exact hK _ _ rfl hG (Below.refl _ _)
    · intro _ _ a w' hG hout hpre K hK
      obtain ⟨p0, _⟩ := hpre
      have q52 := ev_of (show a.eval (.tmp 52) = .bool true from p0)
      clear hout p0
      go_step
      exact hK _ _ rfl hG (Below.refl _ _)
    · intro _ _ a w' hG hout hpre K hK
      have q5 := ev_of ((hout 5 rfl).trans (show _ = .slice (some ⟨ub, 0, none⟩) 1 uc from rfl))
      clear hout hpre
      go_step
      exact hK _ _ rfl hG (Below.refl _ _)
    · intro _ _ a w' hG hout hpre K hK
      obtain ⟨p0, _⟩ := hpre
      have q54 := ev_of (show a.eval (.tmp 54) = .slice (some ⟨ub, 0, none⟩) 1 uc from p0)
      clear hout p0
      go_step
      exact hK _ _ rfl hG (Below.refl _ _)
    · intro _ _ a w' hG hout hpre K hK
      obtain ⟨p0, _⟩ := hpre
      have q55 := ev_of (show a.eval (.tmp 55) = .int .i64 1 from p0)
      clear hout p0
      go_step
      exact hK _ _ rfl hG (Below.refl _ _)
    · intro _ _ a w' hG hout hpre K hK
      obtain ⟨p0, p1, _⟩ := hpre
      have q53 := ev_of (show a.eval (.tmp 53) = .bool true from p0)
      have q56 := ev_of (show a.eval (.tmp 56) = .bool true from p1)
      clear hout p0 p1
      go_step
      exact hK _ _ rfl hG (Below.refl _ _)
    · intro _ _ a w' hG hout hpre K hK
      obtain ⟨p0, _⟩ := hpre
      have q57 := ev_of (show a.eval (.tmp 57) = .bool true from p0)
      clear hout p0
      go_step
      exact hK _ _ rfl hG (Below.refl _ _)
    · intro _ _ a w' hG hout hpre K hK
      have q5 := ev_of ((hout 5 rfl).trans (show _ = .slice (some ⟨ub, 0, none⟩) 1 uc from rfl))
      clear hout hpre
      go_step
      exact hK _ _ rfl hG (Below.refl _ _)
    · intro _ _ a w' hG hout hpre K hK
      obtain ⟨p0, _⟩ := hpre
      have q59 := ev_of (show a.eval (.tmp 59) = .slice (some ⟨ub, 0, none⟩) 1 uc from p0)
      clear hout p0
      go_step
      exact hK _ _ rfl hG (Below.refl _ _)
    · intro _ _ a w' hG hout hpre K hK
      obtain ⟨p0, _⟩ := hpre
      have q60 := ev_of (show a.eval (.tmp 60) = .pointer (some ⟨ub, 0, none⟩) from p0)
      have d0 := (HR.out w' hG).2.2.2.2
      clear hout p0
      go_step
      exact hK _ _ rfl hG (Below.refl _ _)
    · intro _ _ a w' hG hout hpre K hK
      obtain ⟨p0, _⟩ := hpre
      have q61 := ev_of (show a.eval (.tmp 61) = .int .i64 0 from p0)
      clear hout p0
      go_step
      exact hK _ _ rfl hG (Below.refl _ _)
    · intro _ _ a w' hG hout hpre K hK
      obtain ⟨p0, p1, _⟩ := hpre
      have q58 := ev_of (show a.eval (.tmp 58) = .bool true from p0)
      have q62 := ev_of (show a.eval (.tmp 62) = .bool true from p1)
      clear hout p0 p1
      go_step
      exact hK _ _ rfl hG (Below.refl _ _)
    · intro _ _ a w' hG hout hpre K hK
      obtain ⟨p0, _⟩ := hpre
      have q63 := ev_of (show a.eval (.tmp 63) = .bool true from p0)
      clear hout p0
      go_step
      exact hK _ _ rfl hG (Below.refl _ _)
    · intro _ _ a w' hG hout hpre K hK
      have q2 := ev_of ((hout 2 rfl).trans (show _ = .pointer (some ⟨b2, 0, none⟩) from rfl))
      obtain ⟨d0, d1, d2⟩ := (HR.out w' hG).2.1
      clear hout hpre
      go_step
      exact hK _ _ HV.out.2.1.symm hG (Below.refl _ _)
    · intro _ _ a w' hG hout hpre K hK
      have q1 := ev_of ((hout 1 rfl).trans (show _ = .pointer (some ⟨b1, 0, none⟩) from rfl))
      obtain ⟨d0, d1, d2⟩ := (HR.out w' hG).1
      clear hout hpre
      go_step
      exact hK _ _ HV.out.1.symm hG (Below.refl _ _)
    · intro _ _ a w' hG hout hpre K hK
      obtain ⟨p0, p1, _⟩ := hpre
      have qa := (show a.eval (.tmp 65) = VB from p0)
      have qb := (show a.eval (.tmp 66) = VA from p1)
      clear hout p0 p1
      rw [HV.out.2.1] at qa
      rw [HV.out.1] at qb
      refine wp_slice2_W (.tmp 65) (.tmp 66) rfl wB wA qa qb ?_
      have hB : Below w'.heap.size w' (w'.alloc (.cells (wB.cells ++ wA.cells) 24)) := (Below.refl _ w').alloc (Nat.le_refl _) _
      exact hK _ _ ⟨w'.heap.size, rfl, WinsAt.two (heap_alloc_new w' _)⟩ (hG.trans (hB.mono hG.size)) hB
    · intro _ _ a w' hG hout hpre K hK
      obtain ⟨p0, _⟩ := hpre
      obtain ⟨gb, hv, hw⟩ := (show ∃ gb, a.eval (.tmp 67) = .slice (some ⟨gb, 0, none⟩) 2 2 ∧ WinsAt w' (some ⟨gb, 0, none⟩) [wB, wA] from p0)
      have q := ev_of hv
      have HS := Lib.hid (HAl.out w' gb hw)
      clear hout p0 hv hw
      go_step
      refine HS.out.mono ?_
      rintro e w3 ⟨v, rfl, k1, hB⟩
      obtain ⟨a', c', rfl, _⟩ := k1.form
      exact hK _ _ ⟨a', c', rfl⟩ (hG.trans (hB.mono hG.size)) hB
    · intro _ _ a w' hG hout hpre K hK
      obtain ⟨p0, _⟩ := hpre
      obtain ⟨a', c', hv⟩ := (show ∃ a' c', a.eval (.tmp 68) = .slice a' 1 c' from p0)
      have q := ev_of hv
      clear hout hv p0
      go_step
      exact hK _ _ rfl hG (Below.refl _ _)
    · intro _ _ a w' hG hout hpre K hK
      obtain ⟨p0, _⟩ := hpre
      have q69 := ev_of (show a.eval (.tmp 69) = .int .i64 1 from p0)
      clear hout p0
      go_step
      exact hK _ _ rfl hG (Below.refl _ _)
    · intro _ _ a w' hG hout hpre K hK
      obtain ⟨p0, p1, _⟩ := hpre
      have q64 := ev_of (show a.eval (.tmp 64) = .bool true from p0)
      have q70 := ev_of (show a.eval (.tmp 70) = .bool true from p1)
      clear hout p0 p1
      go_step
      exact hK _ _ rfl hG (Below.refl _ _)
    · intro _ _ a w' hG hout hpre K hK
      obtain ⟨p0, _⟩ := hpre
      have q71 := ev_of (show a.eval (.tmp 71) = .bool true from p0)
      clear hout p0
      go_step
      exact hK _ _ rfl hG (Below.refl _ _)
  · intro vs w2 hG hlen hV
    match vs, hlen, hV with
    | v0 :: v1 :: v2 :: v3 :: v4 :: v5 :: v6 :: v7 :: v8 :: v9 :: v10 :: v11 :: v12 :: v13 :: v14 :: v15 :: v16 :: v17 :: v18 :: v19 :: v20 :: v21 :: v22 :: v23 :: v24 :: v25 :: v26 :: v27 :: v28 :: v29 :: v30 :: v31 :: v32 :: v33 :: v34 :: v35 :: v36 :: v37 :: v38 :: v39 :: v40 :: v41 :: v42 :: v43 :: v44 :: v45 :: v46 :: v47 :: v48 :: v49 :: v50 :: v51 :: v52 :: v53 :: v54 :: v55 :: v56 :: [], _, hV =>
      obtain rfl : v56 = .bool true := (hV 56 0 v56 rfl rfl)
      clear hV
      simp only [putsL, List.tail_cons, List.headD_cons]
      simp only [Act.put, List.setIfInBounds_toArray, List.set_cons_succ, List.set_cons_zero]
      have HZ : Hid (Below w.heap.size w w2) := Lib.hid (HW.out.trans (hG.mono HW.out.size))
      clear hG
      go_wp2_with (fail)
      go_ret
      exact ⟨rfl, HZ.out⟩
end Go.Proofs.Ytbfioekbahcicaa
namespace Go.Proofs.Ytbfioekbahcicaa
open Go Go.RowKit

def weighW (l : List WindowL) : Nat := (l.map fun x => 20 + x.key.length).sum
theorem weighW_append (l m : List WindowL) : weighW (l ++ m) = weighW l + weighW m := by simp [weighW]
theorem weighW_one (x : WindowL) : weighW [x] = 20 + x.key.length := by simp [weighW]
theorem weighW_take {l : List WindowL} {j : Nat} {x : WindowL} (h : l[j]? = some x) : weighW (l.take (j + 1)) = weighW (l.take j) + (20 + x.key.length) := by
  rw [List.take_add_one, h, weighW_append]
  exact congrArg _ (weighW_one x)
theorem weighW_le {l : List WindowL} {B : Nat} (h : ∀ x ∈ l, x.key.length ≤ B) : weighW l ≤ l.length * (20 + B) := by
  induction l with
  | nil => simp [weighW]
  | cons x l ih =>
    have h1 := h x (by simp)
    have h2 := ih fun y hy => h y (by simp [hy])
    have e : weighW (x :: l) = 20 + x.key.length + weighW l := by simp [weighW]
    rw [e, List.length_cons, Nat.succ_mul]
    omega
theorem weighW_len (l : List WindowL) : l.length * 20 ≤ weighW l := by
  induction l with
  | nil => simp [weighW]
  | cons x l ih =>
    have e : weighW (x :: l) = 20 + x.key.length + weighW l := by simp [weighW]
    rw [e, List.length_cons]
    omega
theorem weighW_mem {l : List WindowL} {x : WindowL} (h : x ∈ l) : x.key.length ≤ weighW l := by
  induction l with
  | nil => cases h
  | cons y l ih =>
    have e : weighW (y :: l) = 20 + y.key.length + weighW l := by simp [weighW]
    rw [e]
    rcases List.mem_cons.1 h with rfl | h
    · omega
    · have := ih h
      omega
def GRel (w : World) (l : List WindowL) (s i : Value) (wr : World) : Prop := ∃ j : Nat, j ≤ l.length ∧ i = .int .i64 (j : Int) ∧ s = .int .i64 (weighW (l.take j) : Int) ∧ Below w.heap.size w wr
set_option maxRecDepth 100000 in
set_option maxHeartbeats 2000000 in
theorem sgreat_any (w : World) (sa : Option Addr) (sc : Nat) (l : List WindowL) (hA : WinsAt w sa l) (hk : ∀ x ∈ l, x.key.length ≤ 1048576) (hn : l.length ≤ 1048576) :
    Calls Try.prog 7 #[.slice sa l.length sc] w (Below0 w (.bool (decide (1200 < weighW l)))) := by
  obtain ⟨n, hN⟩ : ∃ n, n = l.length := ⟨_, rfl⟩
  obtain ⟨P, hP⟩ : ∃ P, P = Below0 w (.bool (decide (1200 < weighW l))) := ⟨_, rfl⟩
  rw [← hP, ← hN]
  have HN : Hid (n = l.length ∧ n ≤ 1048576) := Lib.hid ⟨hN, by omega⟩
  have hn6 : n ≤ 1048576 := by omega
  have HA := Lib.hid hA
  have HP := Lib.hid hP
  have HK := Lib.hid hk
  clear hN hA hk hn hP
  go_enter Try.func7, Try.ntmps7
  go_wp2_with (fail)
  go_loopw [3, 8] (GRel w l) (fun _ i _ => n - (intOf i).toNat)
  case atStart => exact ⟨0, Nat.zero_le _, rfl, rfl, Below.refl _ _⟩
  case round =>
    obtain ⟨j, hj, rfl, hs, hB⟩ := hrel
    rw [← HN.out.1] at hj
    obtain ⟨W, hW⟩ : ∃ W, W = weighW (l.take j) := ⟨_, rfl⟩
    rw [← hW] at hs
    subst hs
    have hWb : W ≤ 1048576 * (20 + 1048576) := by
      rw [hW]
      refine Nat.le_trans (weighW_le (B := 1048576) fun x hx => HK.out x (List.mem_of_mem_take hx)) (Nat.mul_le_mul_right _ ?_)
      rw [List.length_take]
      omega
    have HWe := Lib.hid (And.intro hW hB)
    clear hW hB
    by_cases hlt : j < n
    · have hi0 : (0 : Int) ≤ (j : Int) ∧ (j : Int) < (n : Int) := by omega
      obtain ⟨x, pa, po, hx, hsa, c0, c1, c2⟩ := (HA.out.below HWe.out.2).get (t := j) (by rw [← HN.out.1]; exact hlt)
      subst hsa
      have hxk := HK.out x (List.mem_of_getElem? hx)
      have HO := Lib.hid (And.intro (weighW_take hx) (And.intro hlt hxk))
      obtain ⟨xk, xl, xh⟩ := x
      simp only at c0 c1 c2 hxk
      clear hx hj hlt
      go_upto_region 4 with (fail)
      refine wp_region_lit ?_
      iterate 9 go_step
      refine wpList_store_row rfl _ _ _ rfl wr.heap.size (WindowL.mk xk xl xh).cells rfl rfl 24 zeroW.cells (heap_alloc_new wr _) window_size rfl (window_one _) ?_
      obtain ⟨W1, hwx⟩ : ∃ W, W = (wr.alloc (Obj.cells #[.string ⟨#[]⟩, .int .i64 0, .int .i64 0] 24)).setRow wr.heap.size (WindowL.mk xk xl xh).cells := ⟨_, rfl⟩
      obtain ⟨xb, hxb⟩ : ∃ b, b = wr.heap.size := ⟨_, rfl⟩
      have Hwx : Hid (RowW W1 xb (WindowL.mk xk xl xh) ∧ Below wr.heap.size wr W1) := by
        obtain ⟨k1, k2⟩ := stored_window wr (WindowL.mk xk xl xh)
        rw [hwx, hxb]
        exact Lib.hid ⟨k1, k2⟩
      rw [← hwx, ← hxb]
      clear hwx hxb
      clear c0 c1 c2
      obtain ⟨K, hK⟩ : ∃ k, k = xk.length := ⟨_, rfl⟩
      have HKe := Lib.hid hK
      have hlen : ∀ w ty, (Builtin.len_ #[9] ty #[Sv xk]).run Try.prog w = .ok (.int .i64 (K : Int)) w := by
        rw [hK]
        exact fun w ty => run_len_Sv w ty xk
      rw [← hK] at hxk
      clear hK
      have hs1 : -9223372036854775808 ≤ (20 : Int) + (K : Int) ∧ (20 : Int) + (K : Int) ≤ 9223372036854775807 := by omega
      have hs2 : -9223372036854775808 ≤ (W : Int) + (20 + (K : Int)) ∧ (W : Int) + (20 + (K : Int)) ≤ 9223372036854775807 := by omega
      obtain ⟨e0, e1, e2⟩ := Hwx.out.1.d3
      simp only at e0 e1 e2
      have HZ : Hid (GRel w l (.int .i64 ((W : Int) + (20 + (K : Int)))) (.int .i64 ((j : Int) + 1)) W1) := by
        refine Lib.hid ⟨j + 1, by have := HO.out.2.1; have := HN.out.1; omega, by go_num, ?_, HWe.out.2.trans (Hwx.out.2.mono HWe.out.2.size)⟩
        rw [HO.out.1, ← HWe.out.1, HKe.out]
        congr 1
      have HJn := Lib.hid HO.out.2.1
      go_wp2_with (fail)
      go_roundw
      case rel => exact HZ.out
      case measure => have := HJn.out; simp [intOf]; omega
    · obtain rfl : j = n := by omega
      have HZ : Hid (∀ b : Bool, b = decide ((1200 : Int) < (W : Int)) → P (.returned (.bool b)) wr) := by
        refine Lib.hid (fun b hb => ?_)
        rw [HP.out, hb]
        have h := HWe.out.1
        rw [HN.out.1, List.take_length] at h
        rw [← h]
        refine ⟨?_, HWe.out.2⟩
        congr 2
        exact decide_eq_decide.2 (by omega)
      clear hlt hj
      by_cases hg : (1200 : Int) < (W : Int)
      · have HZ' := Lib.hid (HZ.out true (by rw [decide_eq_true hg]))
        go_wp2_with (fail)
        exact HZ'.out
      · have HZ' := Lib.hid (HZ.out false (by rw [decide_eq_false hg]))
        go_wp2_with (fail)
        exact HZ'.out
end Go.Proofs.Ytbfioekbahcicaa
