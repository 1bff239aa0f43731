/-
  Part 48 of 53 of what the proof leans on.
-/
import Derived.Test.YtjeeghafachebaaGreatG44
import Derived.Test.YtjeeghafachebaaGreatG46
import Derived.Test.YtjeeghafachebaaGreatG47
import Derived.Test.YtjeeghafachebaaGreatG45
import Derived.Test.YtjeeghafachebaaGreatG5
import Derived.Test.YtjeeghafachebaaGreatG36
import Derived.Test.YtjeeghafachebaaGreatG38
namespace Go.Proofs.YtjeeghafachebaaGreat
open Go Go.RowKit
theorem step_of {w : World} {q : QueryL} {m : Int} {pv : Value} {s : StateL} {x : ItemL} (h : HasS w (.agg #[.int .i64 m, pv]) s) (hc : comeOk q s.panes 256) (hk : x.key.length ≤ 1000000) :
    Calls Tryz.prog 15 #[.agg q.cells, .agg #[.int .i64 m, pv], .agg x.cells] w (ComeEnd w (runQ q s [x]).s (runQ q s [x]).outs (runQ q s [x]).e) := by
  obtain ⟨p1, l1, e1, a1, b1, d1⟩ := h
  have f1 : m = s.mark ∧ pv = p1 := by simpa using e1
  obtain ⟨rfl, rfl⟩ := f1; have hs := ostep1_any w q s.mark pv x l1 a1 b1 (fit_of hc d1) hk; rw [← d1] at hs; exact hs
theorem right_of {w : World} {q : QueryL} {m : Int} {pv : Value} {s : StateL} (h : HasS w (.agg #[.int .i64 m, pv]) s) (hc : comeOk q s.panes 256) :
    Calls Tryz.prog 17 #[.agg q.cells, .agg #[.int .i64 m, pv]] w (Below0 w (.bool (rightS q s))) := by
  obtain ⟨p1, l1, e1, a1, b1, d1⟩ := h
  have f1 : m = s.mark ∧ pv = p1 := by simpa using e1
  obtain ⟨rfl, rfl⟩ := f1; have hs := oright_any w q s.mark pv l1 a1 b1 (fit_of hc d1); rw [← d1] at hs; exact hs
theorem stored_item (w : World) (x : ItemL) : RowX ((w.alloc (Obj.cells #[.int .i64 0, .string ⟨#[]⟩, .int .i64 0, .int .i64 0] 42)).setRow w.heap.size x.cells) w.heap.size x ∧ Below w.heap.size w ((w.alloc (Obj.cells #[.int .i64 0, .string ⟨#[]⟩, .int .i64 0, .int .i64 0] 42)).setRow w.heap.size x.cells) :=
  ⟨setRow_heap _ _ _ _ _ _ (heap_alloc_new w _), ((Below.refl _ w).alloc (Nat.le_refl _) _).trans ⟨rfl, rfl, rfl, by simp [World.setRow], fun k hk => setRow_other _ _ _ _ (by omega)⟩⟩
theorem HasO.open {w : World} {v : Value} {o : List OutE} (h : HasO w v o) : ∃ a c l, v = .slice a l.length c ∧ l.length = o.length ∧ OutsAt w a l ∧ (∀ x ∈ l, GoodO w x) ∧ o = l.map OutV.o := by
  obtain ⟨a, c, l, h1, _, h3, h4, h5⟩ := h
  exact ⟨a, c, l, h1, by rw [h5, List.length_map], h3, h4, h5⟩
theorem HasS.open {w : World} {m : Int} {pv : Value} {s : StateL} (h : HasS w (.agg #[.int .i64 m, pv]) s) : m = s.mark ∧ ∃ a c l, pv = .slice a l.length c ∧ PanesAt w a l ∧ (∀ x ∈ l, GoodP w x) ∧ s.panes = l.map PaneV.p := by
  obtain ⟨p1, l1, e1, a1, b1, d1⟩ := h
  have f1 : m = s.mark ∧ pv = p1 := by simpa using e1
  obtain ⟨rfl, rfl⟩ := f1; obtain ⟨a, c, rfl, _, h⟩ := a1.form; exact ⟨rfl, a, c, l1, rfl, h, b1, d1⟩
end Go.Proofs.YtjeeghafachebaaGreat
namespace Go.Proofs.YtjeeghafachebaaGreat
open Go Go.RowKit
def kF : List (BitVec 8) := [97]
def qS : QueryL := ⟨1, 10, 0, 0, 2, 0⟩
def eS : ItemL := ⟨1, kF, 3, 5⟩
def mS : ItemL := ⟨2, [], 10, 0⟩
def wF : WindowL := ⟨kF, 0, 10⟩
def o1S : OutE := ⟨false, zeroI, wF, 1, [10]⟩
def o2S : OutE := ⟨true, eS, zeroW, 0, []⟩
def sS : StateL := ⟨10, []⟩
theorem run_first : runQ qS newS [eS, eS, mS, eS] = ⟨sS, [o1S, o2S], 4, 0⟩ := by kernel_rfl
theorem run_zero : runQ qS sS [zeroI] = ⟨sS, [], 0, 2⟩ := by kernel_rfl
theorem right_first : rightS qS sS = true := by kernel_rfl
theorem wp_slice4_I {o : Oper} {a : Act} {w : World} {K : Act → World → Prop} {Q : Exit → Act → World → Prop} (y1 y2 y3 y4 : Operand) (ho : o.op = .buildSlice 24 4 #[(0, y1), (1, y2), (2, y3), (3, y4)]) (x1 x2 x3 x4 : ItemL) (h1 : a.eval y1 = .agg x1.cells) (h2 : a.eval y2 = .agg x2.cells) (h3 : a.eval y3 = .agg x3.cells) (h4 : a.eval y4 = .agg x4.cells)
    (h : K (a.put o.dst (.slice (some ⟨w.heap.size, 0, none⟩) 4 4)) (w.alloc (.cells (x1.cells ++ x2.cells ++ x3.cells ++ x4.cells) 42))) : o.wp Tryz.prog a w K Q := by
  have hF : Instr.fill (fun i => some (i * 4, 4)) ((Array.range (4 * 4)).map ((Value.agg #[.int .i64 0, .string ⟨#[]⟩, .int .i64 0, .int .i64 0]).cells[· % (Value.agg #[.int .i64 0, .string ⟨#[]⟩, .int .i64 0, .int .i64 0]).cells.size]!)) [(0, .agg x1.cells), (1, .agg x2.cells), (2, .agg x3.cells), (3, .agg x4.cells)] = some (x1.cells ++ x2.cells ++ x3.cells ++ x4.cells) := by kernel_rfl
  obtain ⟨i, hi, hz0, hz1, hz2⟩ := info_parts item_parts1
  refine wp_buildSlice 24 42 4 _ ho (x1.cells ++ x2.cells ++ x3.cells ++ x4.cells) i _ Tryz.underlying24 hi hz0 (by rw [hz1]; decide) (by rw [hz1]; decide) ?_ h
  rw [hz1]; simp only [List.map_toArray, List.map_cons, List.map_nil, h1, h2, h3, h4]; exact hF
theorem ItemsAt.four {w : World} {g : Nat} {x1 x2 x3 x4 : ItemL} (h : w.heap[g]? = some (.cells (x1.cells ++ x2.cells ++ x3.cells ++ x4.cells) 42 (0, 0))) : ItemsAt w (some ⟨g, 0, none⟩) [x1, x2, x3, x4] := by
  refine .inr ⟨g, 0, rfl, fun i u hu j v hv => ?_⟩
  have hj : j < 4 := by
    have := (Array.getElem?_eq_some_iff.1 hv).1
    simpa [ItemL.cells] using this
  have e : x1.cells ++ x2.cells ++ x3.cells ++ x4.cells = #[.int .i64 x1.kind, Sv x1.key, .int .i64 x1.time, .int .i64 x1.value, .int .i64 x2.kind, Sv x2.key, .int .i64 x2.time, .int .i64 x2.value, .int .i64 x3.kind, Sv x3.key, .int .i64 x3.time, .int .i64 x3.value, .int .i64 x4.kind, Sv x4.key, .int .i64 x4.time, .int .i64 x4.value] := rfl; rw [cell_of_row _ _ _ _ _ _ h, e]
  match i, hu with
  | 0, hu =>
    simp only [List.getElem?_cons_zero, Option.some.injEq] at hu; subst hu
    match j, hv with
    | 0, hv => exact hv
    | 1, hv => exact hv
    | 2, hv => exact hv
    | 3, hv => exact hv
    | j + 4, _ => omega
  | 1, hu =>
    simp only [List.getElem?_cons_succ, List.getElem?_cons_zero, Option.some.injEq] at hu; subst hu
    match j, hv with
    | 0, hv => exact hv
    | 1, hv => exact hv
    | 2, hv => exact hv
    | 3, hv => exact hv
    | j + 4, _ => omega
  | 2, hu =>
    simp only [List.getElem?_cons_succ, List.getElem?_cons_zero, Option.some.injEq] at hu; subst hu
    match j, hv with
    | 0, hv => exact hv
    | 1, hv => exact hv
    | 2, hv => exact hv
    | 3, hv => exact hv
    | j + 4, _ => omega
  | 3, hu =>
    simp only [List.getElem?_cons_succ, List.getElem?_cons_zero, Option.some.injEq] at hu; subst hu
    match j, hv with
    | 0, hv => exact hv
    | 1, hv => exact hv
    | 2, hv => exact hv
    | 3, hv => exact hv
    | j + 4, _ => omega
  | i + 4, hu => simp at hu
theorem items_keep {w w' : World} {g b : Nat} {x1 x2 x3 x4 : ItemL} (h : ItemsAt w (some ⟨g, 0, none⟩) [x1, x2, x3, x4]) (hb : RowS w b 0 nilV) (hg : w.grownBy w' (some b)) : ItemsAt w' (some ⟨g, 0, none⟩) [x1, x2, x3, x4] := by
  rcases h with h | ⟨b', o, ha, h⟩
  · cases h
  · cases ha
    have hc := h 0 x1 rfl 1 _ rfl; have hlt := block_lt_of_cell hc
    have hne : g ≠ b := by
      rintro rfl; have e : some nilV = some (Sv x1.key) := hb.d2.2.symm.trans hc; simp [Sv, nilV] at e
    have hbl := hg.block g hlt (by simpa using hne)
    refine .inr ⟨g, 0, rfl, fun i x hx j v hv => ?_⟩; rw [← h i x hx j v hv]; unfold World.cell?; simp only [hbl]
theorem HasS.empty {w : World} {v : Value} {m : Int} (h : HasS w v ⟨m, []⟩) : ∃ a c, v = .agg #[.int .i64 m, .slice a 0 c] := by
  obtain ⟨pv, l, rfl, ⟨a, c, rfl, _⟩, _, he⟩ := h; have : l = [] := List.map_eq_nil_iff.1 he.symm; subst this; exact ⟨a, c, rfl⟩
theorem first_outs {w : World} {v : Value} (h : HasO w v [o1S, o2S]) : ∃ b o c vb vo vc tz, v = .slice (some ⟨b, o, none⟩) 2 c ∧
    (w.cell? ⟨b, o + 5, none⟩ = some (Sv kF) ∧ w.cell? ⟨b, o + 6, none⟩ = some (.int .i64 0) ∧ w.cell? ⟨b, o + 7, none⟩ = some (.int .i64 10) ∧ w.cell? ⟨b, o + 8, none⟩ = some (.int .i64 1) ∧ w.cell? ⟨b, o + 9, none⟩ = some (.slice (some ⟨vb, vo, none⟩) 1 vc) ∧ w.cell? ⟨vb, vo, none⟩ = some (.int .i64 10)) ∧
    w.cell? ⟨b, o + 10, none⟩ = some (.bool true) ∧ w.cell? ⟨b, o + 11, none⟩ = some (.int .i64 1) ∧ w.cell? ⟨b, o + 12, none⟩ = some (Sv kF) ∧ w.cell? ⟨b, o + 13, none⟩ = some (.int .i64 3) ∧ w.cell? ⟨b, o + 14, none⟩ = some (.int .i64 5) ∧ w.cell? ⟨b, o + 19, none⟩ = some tz := by
  obtain ⟨a, c, l, rfl, _, hA, hG, he⟩ := h
  have hlen : l.length = 2 := by
    have := congrArg List.length he
    simpa using this.symm
  obtain ⟨x, y, rfl⟩ : ∃ x y, l = [x, y] := by
    match l, hlen with
    | [x, y], _ => exact ⟨x, y, rfl⟩
  · simp only [List.map_cons, List.map_nil, List.cons.injEq, and_true] at he; obtain ⟨h1, h2⟩ := he
    obtain ⟨x', b, o, e1, rfl, c0, c1, c2, c3, c4, c5, c6, c7, c8, c9⟩ := hA.get (t := 0) (by simp)
    simp only [List.getElem?_cons_zero, Option.some.injEq] at e1; subst e1
    obtain ⟨y', b', o', e1, e2, d0, d1, d2, d3, d4, d5, d6, d7, d8, d9⟩ := hA.get (t := 1) (by simp)
    simp only [List.getElem?_cons_succ, List.getElem?_cons_zero, Option.some.injEq] at e1; subst e1
    cases e2
    obtain ⟨z, vb, vo, vc, e3, e4, c10⟩ := (hG x (by simp)).get (t := 0) (by rw [← h1]; decide)
    rw [← h1] at c5 c6 c7 c8 e3 e4; rw [← h2] at d0 d1 d2 d3 d4
    cases e3
    rw [e4] at c9; simp only [Nat.zero_mul, Nat.add_zero, Nat.one_mul] at c5 c6 c7 c8 c9 c10 d0 d1 d2 d3 d4 d9; exact ⟨b, o, c, vb, vo, vc, y.tv, rfl, ⟨c5, c6, c7, c8, c9, c10⟩, d0, d1, d2, d3, d4, d9⟩
set_option maxRecDepth 100000 in
set_option maxHeartbeats 8000000 in
theorem ofirst_any (w : World) : Calls Tryz.prog 6 #[] w (Below0 w (.bool true)) := by
  have mixed : Tryz.prog.follows .mixedOrders = true := by kernel_rfl
  go_enter Tryz.func6, Tryz.ntmps6
  go_upto_region 1 with (fail)
  refine wp_region_lit ?_
  iterate 6 go_step
  refine wpList_store_row rfl _ _ _ rfl w.heap.size qS.cells rfl rfl 23 #[.int .i64 0, .int .i64 0, .int .i64 0, .int .i64 0, .int .i64 0, .int .i64 0] (heap_alloc_new w _) query_size rfl (query_one _) ?_; obtain ⟨w1, hw1⟩ : ∃ W, W = (w.alloc (Obj.cells #[.int .i64 0, .int .i64 0, .int .i64 0, .int .i64 0, .int .i64 0, .int .i64 0] 23)).setRow w.heap.size qS.cells := ⟨_, rfl⟩; obtain ⟨qb, hqb⟩ : ∃ b, b = w.heap.size := ⟨_, rfl⟩
  have H1 : Hid (RowQ w1 qb qS ∧ Below w.heap.size w w1) := by
    obtain ⟨k1, k2⟩ := stored_query w qS; rw [hw1, hqb]; exact Lib.hid ⟨k1, k2⟩
  rw [← hw1, ← hqb]; clear hw1 hqb; obtain ⟨w2, hw2⟩ : ∃ W, W = (w1.alloc (.cells #[.int .i64 0, .string ⟨#[]⟩, .int .i64 0, .int .i64 0] 42)).alloc (.cells #[.int .i64 0, .string ⟨#[]⟩, .int .i64 0, .int .i64 0] 42) := ⟨_, rfl⟩; obtain ⟨eb, hb1⟩ : ∃ b, b = w1.heap.size := ⟨_, rfl⟩; obtain ⟨mb, hb2⟩ : ∃ b, b = w1.heap.size + 1 := ⟨_, rfl⟩; have hs1 : (w1.alloc (.cells #[.int .i64 0, .string ⟨#[]⟩, .int .i64 0, .int .i64 0] 42)).heap.size = w1.heap.size + 1 := heap_alloc_size w1 _
  have H2 : Hid (RowX w2 eb zeroI ∧ RowX w2 mb zeroI ∧ Below w1.heap.size w1 w2 ∧ w1.heap.size = eb ∧ mb = eb + 1) := by
    have k1 := (Below.refl _ w1).alloc (Nat.le_refl _) (.cells #[.int .i64 0, .string ⟨#[]⟩, .int .i64 0, .int .i64 0] 42); have k2 := (Below.refl _ (w1.alloc (.cells #[.int .i64 0, .string ⟨#[]⟩, .int .i64 0, .int .i64 0] 42))).alloc (Nat.le_refl _) (.cells #[.int .i64 0, .string ⟨#[]⟩, .int .i64 0, .int .i64 0] 42)
    refine Lib.hid ⟨?_, ?_, ?_, hb1.symm, by omega⟩
    · rw [hw2, hb1]; exact RowX.below (heap_alloc_new w1 _) k2
    · rw [hw2, hb2, ← hs1]; exact heap_alloc_new _ _
    · rw [hw2]; exact k1.trans (k2.mono k1.size)
  go_upto_region 2 with (fail)
  refine wp_region_lit ?_
  iterate 12 go_step
  rw [← hw2, ← hb2, ← hb1]; clear hw2 hb1 hb2 hs1; refine wpList_store_row rfl _ _ _ rfl eb eS.cells rfl rfl 42 zeroI.cells H2.out.1 item_size rfl (item_one eS) ?_; obtain ⟨w3, hw3⟩ : ∃ W, W = w2.setRow eb eS.cells := ⟨_, rfl⟩
  have H3 : Hid (RowX w3 eb eS ∧ RowX w3 mb zeroI ∧ Below w1.heap.size w1 w3 ∧ w1.heap.size = eb ∧ mb = eb + 1) := by
    obtain ⟨k1, k2, k3, k4, k5⟩ := H2.out; have hg := grown_setRow w2 eb eS.cells; rw [hw3]
    exact Lib.hid ⟨setRow_heap w2 eb _ _ _ _ k1, (hg.block mb k2.lt (by simp; omega)).trans k2, k3.trans ⟨hg.os, hg.tape, hg.output, hg.size, fun k hk => hg.block k (by have := k3.size; omega) (by simp; omega)⟩, k4, k5⟩
  rw [← hw3]; clear hw3 H2; refine wpList_store_row rfl _ _ _ rfl mb mS.cells rfl rfl 42 zeroI.cells H3.out.2.1 item_size rfl (item_one mS) ?_; obtain ⟨w4, hw4⟩ : ∃ W, W = w3.setRow mb mS.cells := ⟨_, rfl⟩
  have H4 : Hid (RowQ w4 qb qS ∧ RowX w4 eb eS ∧ RowX w4 mb mS ∧ Below w.heap.size w w4) := by
    obtain ⟨k1, k2, k3, k4, k5⟩ := H3.out; have hg := grown_setRow w3 mb mS.cells
    have hB : Below w1.heap.size w1 (w3.setRow mb mS.cells) := k3.trans ⟨hg.os, hg.tape, hg.output, hg.size, fun k hk => hg.block k (by have := k3.size; omega) (by simp; omega)⟩
    rw [hw4]
    exact Lib.hid ⟨H1.out.1.below hB, (hg.block eb k1.lt (by simp; omega)).trans k1, setRow_heap w3 mb _ _ _ _ k2, H1.out.2.trans (hB.mono H1.out.2.size)⟩
  rw [← hw4]; clear hw4 H3 H1; have HRow : Hid (∀ w', Below w4.heap.size w4 w' → D6 w' qb 1 10 0 0 2 0 ∧ DX w' eb 1 kF 3 5 ∧ DX w' mb 2 [] 10 0) := Lib.hid (fun w' h => ⟨(H4.out.1.below h).d6, (H4.out.2.1.below h).dx, (H4.out.2.2.1.below h).dx⟩); have HG0 : Hid (Below w4.heap.size w4 w4.drew) := (Below.refl _ w4).drew; have HNew : Hid (∀ w', Calls Tryz.prog 9 #[] w' (fun e w'' => e = .returned (.agg #[.int .i64 (-1), nilV]) ∧ Below w'.heap.size w' w'')) := Lib.hid (fun w' => onew_any w')
  have HRun : Hid (∀ w' g, ItemsAt w' (some ⟨g, 0, none⟩) [eS, eS, mS, eS] → Calls Tryz.prog 8 #[.agg #[.int .i64 1, .int .i64 10, .int .i64 0, .int .i64 0, .int .i64 2, .int .i64 0], .agg #[.int .i64 (-1), .slice none 0 0], .slice (some ⟨g, 0, none⟩) 4 4] w' (RunEnd w' ⟨sS, [o1S, o2S], 4, 0⟩)) := by
    refine Lib.hid (fun w' g hI => ?_)
    have h := orun_any w' qS (-1) (.slice none 0 0) [] (some ⟨g, 0, none⟩) 4 [eS, eS, mS, eS] (PanesIn.nil _) (fun y hy => by simp at hy) ⟨fun x hx => by simp at hx, by simp⟩ hI (by decide) (by decide)
    rw [show (⟨-1, ([] : List PaneV).map PaneV.p⟩ : StateL) = newS from rfl, run_first] at h; exact h
  obtain ⟨VE, hVE⟩ : ∃ V, V = Value.agg eS.cells := ⟨_, rfl⟩; obtain ⟨VM, hVM⟩ : ∃ V, V = Value.agg mS.cells := ⟨_, rfl⟩; have HV : Hid (VE = Value.agg eS.cells ∧ VM = Value.agg mS.cells) := Lib.hid ⟨hVE, hVM⟩; clear hVE hVM
  go_upto_region 3 with (fail)
  refine wp_region_skipA (fun i => ([] : List Nat).contains i) (by kernel_rfl) [none, none, none, none, none, none, none, none, none, none, none, none, none, some 0, some 1, none, none, none] [13, 14] (VLs ((Value.agg #[.int .i64 1, .int .i64 10, .int .i64 0, .int .i64 0, .int .i64 2, .int .i64 0]) :: (Value.agg #[.int .i64 (-1), .slice none 0 0]) :: VE :: VE :: VM :: VE :: undef :: undef :: undef :: undef :: undef :: (Value.int .i64 4) :: (Value.int .i64 0) :: undef :: undef :: undef :: (Value.int .i64 4) :: (Value.int .i64 0) :: ([] : List Value)) ((6, fun _ w v => ∃ g, v = Value.slice (some ⟨g, 0, none⟩) 4 4 ∧ ItemsAt w (some ⟨g, 0, none⟩) [eS, eS, mS, eS]) :: RuL 7 w4.heap.size (RunL.mk sS [o1S, o2S] 4 0))) (fun _ w' => Below w4.heap.size w4 w') (fun w w' => Below w.heap.size w w') (VLs_le _ _ (List.forall_mem_cons.2 ⟨fun k w w' v hB h => (by obtain ⟨gg, h1, h2⟩ := h; exact ⟨gg, h1, h2.below hB⟩), RuL_le⟩)) (by kernel_rfl) (by kernel_rfl) (by kernel_rfl) HG0.out (fun _ => ⟨rfl, rfl, rfl, rfl, rfl, rfl, rfl, rfl, rfl, rfl, rfl, rfl, rfl, rfl, rfl, rfl, rfl, rfl, trivial⟩) (fun _ h => by simp at h) ?_ ?_
  · refine ⟨?_, ?_, ?_, ?_, ?_, ?_, ?_, ?_, ?_, ?_, ?_, ?_, ?_, ?_, ?_, ?_, ?_, ?_, trivial⟩
    · intro _ _ a w' hG hout hpre K hK; have q1 := ev_of ((hout 1 rfl).trans (show _ = .pointer (some ⟨qb, 0, none⟩) from rfl)); obtain ⟨⟨d0, d1, d2, d3, d4, d5⟩, _, _⟩ := HRow.out w' hG; clear hout hpre; go_step; exact hK _ _ rfl hG (Below.refl _ _)
    · intro _ _ a w' hG hout hpre K hK; clear hout hpre; have HS := Lib.hid (HNew.out w'); go_step; refine HS.out.mono ?_; rintro e w3_ ⟨rfl, hB⟩; exact hK _ _ rfl (hG.trans (hB.mono hG.size)) hB
    · intro _ _ a w' hG hout hpre K hK; have q2 := ev_of ((hout 2 rfl).trans (show _ = .pointer (some ⟨eb, 0, none⟩) from rfl)); obtain ⟨_, ⟨d0, d1, d2, d3⟩, _⟩ := HRow.out w' hG; clear hout hpre; go_step; exact hK _ _ HV.out.1.symm hG (Below.refl _ _)
    · intro _ _ a w' hG hout hpre K hK; have q2 := ev_of ((hout 2 rfl).trans (show _ = .pointer (some ⟨eb, 0, none⟩) from rfl)); obtain ⟨_, ⟨d0, d1, d2, d3⟩, _⟩ := HRow.out w' hG; clear hout hpre; go_step; exact hK _ _ HV.out.1.symm hG (Below.refl _ _)
    · intro _ _ a w' hG hout hpre K hK; have q3 := ev_of ((hout 3 rfl).trans (show _ = .pointer (some ⟨mb, 0, none⟩) from rfl)); obtain ⟨_, _, ⟨d0, d1, d2, d3⟩⟩ := HRow.out w' hG; clear hout hpre; go_step; exact hK _ _ HV.out.2.symm hG (Below.refl _ _)
    · intro _ _ a w' hG hout hpre K hK; have q2 := ev_of ((hout 2 rfl).trans (show _ = .pointer (some ⟨eb, 0, none⟩) from rfl)); obtain ⟨_, ⟨d0, d1, d2, d3⟩, _⟩ := HRow.out w' hG; clear hout hpre; go_step; exact hK _ _ HV.out.1.symm hG (Below.refl _ _)
    · intro _ _ a w' hG hout hpre K hK; obtain ⟨p0, p1, p2, p3, _⟩ := hpre; have q0 := (show a.eval (.tmp 17) = VE from p0); have q1 := (show a.eval (.tmp 18) = VE from p1); have q2 := (show a.eval (.tmp 19) = VM from p2); have q3 := (show a.eval (.tmp 20) = VE from p3); clear hout p0 p1 p2 p3; rw [HV.out.1] at q0; rw [HV.out.1] at q1; rw [HV.out.2] at q2; rw [HV.out.1] at q3; refine wp_slice4_I (.tmp 17) (.tmp 18) (.tmp 19) (.tmp 20) rfl eS eS mS eS q0 q1 q2 q3 ?_; have hB : Below w'.heap.size w' (w'.alloc (.cells (eS.cells ++ eS.cells ++ mS.cells ++ eS.cells) 42)) := (Below.refl _ w').alloc (Nat.le_refl _) _; exact hK _ _ ⟨w'.heap.size, rfl, ItemsAt.four (heap_alloc_new w' _)⟩ (hG.trans (hB.mono hG.size)) hB
    · intro _ _ a w' hG hout hpre K hK; obtain ⟨p0, p1, p2, _⟩ := hpre; have q15 := ev_of (show a.eval (.tmp 15) = .agg #[.int .i64 1, .int .i64 10, .int .i64 0, .int .i64 0, .int .i64 2, .int .i64 0] from p0); have q16 := ev_of (show a.eval (.tmp 16) = .agg #[.int .i64 (-1), .slice none 0 0] from p1); obtain ⟨gg, hv, hI⟩ := (show ∃ g, a.eval (.tmp 21) = Value.slice (some ⟨g, 0, none⟩) 4 4 ∧ ItemsAt w' (some ⟨g, 0, none⟩) [eS, eS, mS, eS] from p2); have q21 := ev_of hv; clear hout p0 p1; have HS := Lib.hid (HRun.out w' gg hI); clear hv hI; go_step; refine HS.out.mono ?_; rintro e w3_ ⟨sv, ov, rfl, hS, hO, hB⟩; exact hK _ _ ⟨sv, ov, rfl, hS, hO⟩ (hG.trans (hB.mono hG.size)) hB
    · intro _ _ a w' hG hout hpre K hK; obtain ⟨p0, _⟩ := hpre; obtain ⟨sv, ov, hv, hS, hO⟩ := (show RuT (RunL.mk sS [o1S, o2S] 4 0) w' (a.eval (.tmp 22)) from p0); have q22 := ev_of hv; clear hout ; clear hv; go_step; exact hK _ _ ⟨sv, ov, rfl, hS, hO⟩ hG (Below.refl _ _)
    · intro _ _ a w' hG hout hpre K hK; obtain ⟨p0, _⟩ := hpre; obtain ⟨sv, ov, hv, hS, hO⟩ := (show RuT (RunL.mk sS [o1S, o2S] 4 0) w' (a.eval (.tmp 14)) from p0); have q14 := ev_of hv; clear hout ; clear hv; go_step; exact hK _ _ hS hG (Below.refl _ _)
    · intro _ _ a w' hG hout hpre K hK; obtain ⟨p0, _⟩ := hpre; obtain ⟨sv, ov, hv, hS, hO⟩ := (show RuT (RunL.mk sS [o1S, o2S] 4 0) w' (a.eval (.tmp 14)) from p0); have q14 := ev_of hv; clear hout ; clear hv; go_step; exact hK _ _ hO hG (Below.refl _ _)
    · intro _ _ a w' hG hout hpre K hK; obtain ⟨p0, _⟩ := hpre; obtain ⟨sv, ov, hv, hS, hO⟩ := (show RuT (RunL.mk sS [o1S, o2S] 4 0) w' (a.eval (.tmp 14)) from p0); have q14 := ev_of hv; clear hout ; clear hv; go_step; exact hK _ _ rfl hG (Below.refl _ _)
    · intro _ _ a w' hG hout hpre K hK; obtain ⟨p0, _⟩ := hpre; obtain ⟨sv, ov, hv, hS, hO⟩ := (show RuT (RunL.mk sS [o1S, o2S] 4 0) w' (a.eval (.tmp 14)) from p0); have q14 := ev_of hv; clear hout ; clear hv; go_step; exact hK _ _ rfl hG (Below.refl _ _)
    · intro _ a w' hG hout hpre K hK; clear hout hpre; go_step
      exact hK _ _ ⟨_, rfl, hG.size, by rw [if_pos (by decide)]; exact heap_alloc_new w' _⟩ (hG.trans (((Below.refl _ w').alloc (Nat.le_refl _) _).mono hG.size)) (VLs_keep _ (List.forall_mem_cons.2 ⟨.inr fun d _ h => (by obtain ⟨gg, h1, h2⟩ := h; exact ⟨gg, h1, h2.below ((Below.refl _ w').alloc (Nat.le_refl _) _)⟩), RuL_keep0 ((Below.refl _ w').alloc (Nat.le_refl _) _)⟩))
    · intro _ a w' hG hout hpre K hK; obtain ⟨p0, p1, _⟩ := hpre; obtain ⟨b, hv, hbB, hrow⟩ := (show RuR w4.heap.size (RunL.mk sS [o1S, o2S] 4 0) 1 w' (a.eval (.tmp 4)) from p0); obtain ⟨pv, l, hv2, hPI, hPG, hPm⟩ := (show HasS w' (a.eval (.tmp 23)) sS from p1)
      rw [if_pos (by decide)] at hrow
      refine wp_store_row _ (.tmp 4) (.tmp 23) rfl b #[.int .i64 sS.mark, pv] hv hv2 _ _ hrow state_size rfl (state_one hPI.one) ?_; have hg : w'.grownBy (w'.setRow b #[.int .i64 sS.mark, pv]) (some b) := grown_setRow _ _ _
      exact hK _ _ rfl (hG.trans ⟨hg.os, hg.tape, hg.output, hg.size, fun k hk => hg.block k (by have := hG.size; omega) (by simp; omega)⟩) (VLs_keep _ (List.forall_mem_cons.2 ⟨.inr fun d _ h => (by obtain ⟨gg, h1, h2⟩ := h; exact ⟨gg, h1, items_keep h2 hrow hg⟩), RuL_keep rfl hv hrow hbB hg (hrow.reset _ _) (HasS.store ⟨pv, l, rfl, hPI, hPG, hPm⟩ hrow hg)⟩))
    · intro _ _ a w' hG hout hpre K hK; obtain ⟨p0, _⟩ := hpre; obtain hO := (show HasO w' (a.eval (.tmp 24)) [o1S, o2S] from p0); clear hout ; obtain ⟨vo, hvo⟩ : ∃ v, a.eval (.tmp 24) = v := ⟨_, rfl⟩; rw [hvo] at hO; have q24 := ev_of hvo; go_step; exact hK _ _ hO hG (Below.refl _ _)
    · intro _ _ a w' hG hout hpre K hK; obtain ⟨p0, _⟩ := hpre; have q25 := ev_of (show a.eval (.tmp 25) = .int .i64 4 from p0); clear hout p0; go_step; exact hK _ _ rfl hG (Below.refl _ _)
    · intro _ _ a w' hG hout hpre K hK; obtain ⟨p0, _⟩ := hpre; have q26 := ev_of (show a.eval (.tmp 26) = .int .i64 0 from p0); clear hout p0; go_step; exact hK _ _ rfl hG (Below.refl _ _)
  · intro vs w5 hG hlen hV
    match vs, hlen, hV with
    | [v0, v1, v2, v3, v4, v5, v6, v7, v8, v9, v10, v11, v12, v13, v14, v15, v16, v17], _, hV =>
      obtain ⟨tb, hvb, hTB, hrow⟩ := (show RuR w4.heap.size (RunL.mk sS [o1S, o2S] 4 0) 2 w5 v13 from hV 13 4 v13 rfl rfl)
      rw [if_neg (by decide)] at hrow
      obtain ⟨m1, pv1, hrow, hS⟩ := hrow; have hO := (show HasO w5 v15 [o1S, o2S] from hV 15 5 v15 rfl rfl); obtain rfl : v16 = .int .i64 4 := hV 16 6 v16 rfl rfl; obtain rfl : v17 = .int .i64 0 := hV 17 7 v17 rfl rfl; subst hvb; clear hV; obtain ⟨b1, o1, c1, vb, vo, vc, tz, hv1, hc1⟩ := first_outs hO; obtain ⟨pa, pc, hp1⟩ := hS.empty
      have hp2 : m1 = 10 ∧ pv1 = .slice pa 0 pc := by simpa using hp1
      obtain ⟨rfl, rfl⟩ := hp2; clear hp1; subst hv1; have H5 : Hid (RowQ w5 qb qS ∧ RowX w5 eb eS ∧ Below w.heap.size w w5 ∧ RowS w5 tb 10 (.slice pa 0 pc) ∧ HasS w5 (.agg #[.int .i64 10, .slice pa 0 pc]) sS ∧ HasO w5 (.slice (some ⟨b1, o1, none⟩) 2 c1) [o1S, o2S]) := Lib.hid ⟨H4.out.1.below hG, H4.out.2.1.below hG, H4.out.2.2.2.trans (hG.mono H4.out.2.2.2.size), hrow, hS, hO⟩; clear hrow hS hO hG hTB hc1; simp only [putsL, List.tail_cons, List.headD_cons]; simp only [Act.put, List.setIfInBounds_toArray, List.set_cons_succ, List.set_cons_zero]; clear H4 HRow HG0 HNew HRun; obtain ⟨d0, d1, d2, d3, d4, d5⟩ := H5.out.1.d6; obtain ⟨e0, e1⟩ := H5.out.2.2.2.1.d2
      go_upto_region 4 with (fail)
      refine wp_region_lit ?_
      iterate 9 go_step
      have HSt : Hid (Calls Tryz.prog 15 #[.agg #[.int .i64 1, .int .i64 10, .int .i64 0, .int .i64 0, .int .i64 2, .int .i64 0], .agg #[.int .i64 10, .slice pa 0 pc], .agg #[.int .i64 0, .string ⟨#[]⟩, .int .i64 0, .int .i64 0]] w5 (ComeEnd w5 sS [] 2)) := by
        obtain ⟨pv, l, e1, e2, e3, e4⟩ := H5.out.2.2.2.2.1; obtain rfl : l = [] := List.map_eq_nil_iff.1 e4.symm
        have e5 : (10 : Int) = sS.mark ∧ Value.slice pa 0 pc = pv := by simpa using e1
        obtain ⟨_, rfl⟩ := e5
        have h := ostep1_any w5 qS 10 (.slice pa 0 pc) zeroI [] e2 (fun y hy => by simp at hy) ⟨fun x hx => by simp at hx, by simp⟩ (by decide)
        rw [show (⟨10, ([] : List PaneV).map PaneV.p⟩ : StateL) = sS from rfl, run_zero] at h; exact Lib.hid h
      refine wpList_plain rfl fun K hK => ?_; go_step; refine HSt.out.mono ?_; rintro e w6 ⟨sv, ov, rfl, hS, hO, hB⟩; refine hK _ _ ?_; clear hK HSt d0 d1 d2 d3 d4 d5 e0 e1; obtain ⟨qa, qc, hp1⟩ := hS.empty; subst hp1; obtain ⟨oa, oc, l0, hov, _, _, _, hl0⟩ := hO; obtain rfl : l0 = [] := List.map_eq_nil_iff.1 hl0.symm; clear hl0; subst hov
      have H6 : Hid (RowQ w6 qb qS ∧ RowX w6 eb eS ∧ Below w.heap.size w w6 ∧ RowS w6 tb 10 (.slice pa 0 pc) ∧ HasS w6 (.agg #[.int .i64 10, .slice pa 0 pc]) sS ∧ HasO w6 (.slice (some ⟨b1, o1, none⟩) 2 c1) [o1S, o2S] ∧ HasS w6 (.agg #[.int .i64 10, .slice qa 0 qc]) sS) := by
        obtain ⟨k1, k2, k3, k4, k5, k6⟩ := H5.out; exact Lib.hid ⟨k1.below hB, k2.below hB, k3.trans (hB.mono k3.size), k4.below hB, k5.below hB, k6.below hB, hS⟩
      clear H5 hS hB; rw [show ([] : List OutV).length = 0 from rfl]
      iterate 15 go_step
      refine wpList_store_row rfl _ _ _ rfl w6.heap.size #[.int .i64 10, .slice qa 0 qc] rfl rfl 29 #[.int .i64 0, nilV] (heap_alloc_new w6 _) state_size rfl (state_one rfl) ?_; obtain ⟨w7, hw7⟩ : ∃ W, W = (w6.alloc (Obj.cells #[.int .i64 0, .slice none 0 0] 29)).setRow w6.heap.size #[.int .i64 10, .slice qa 0 qc] := ⟨_, rfl⟩; obtain ⟨ub, hub⟩ : ∃ b, b = w6.heap.size := ⟨_, rfl⟩
      have H7 : Hid (RowQ w7 qb qS ∧ RowX w7 eb eS ∧ Below w.heap.size w w7 ∧ RowS w7 tb 10 (.slice pa 0 pc) ∧ HasS w7 (.agg #[.int .i64 10, .slice pa 0 pc]) sS ∧ HasO w7 (.slice (some ⟨b1, o1, none⟩) 2 c1) [o1S, o2S] ∧ HasS w7 (.agg #[.int .i64 10, .slice qa 0 qc]) sS ∧ RowS w7 ub 10 (.slice qa 0 qc)) := by
        obtain ⟨k1, k2, k3, k4, k5, k6, k7⟩ := H6.out; obtain ⟨j1, hB⟩ := stored_state w6 10 (.slice qa 0 qc); have e : w7 = (w6.alloc (Obj.cells #[.int .i64 0, nilV] 29)).setRow w6.heap.size #[.int .i64 10, .slice qa 0 qc] := hw7; rw [← e, ← hub] at j1; rw [← e] at hB; exact Lib.hid ⟨k1.below hB, k2.below hB, k3.trans (hB.mono k3.size), k4.below hB, k5.below hB, k6.below hB, k7.below hB, j1⟩
      rw [← hw7, ← hub]; clear hw7 hub H6; obtain ⟨b2, o2, c2, vb2, vo2, vc2, tz2, hv1, hc1⟩ := first_outs H7.out.2.2.2.2.2.1
      have hv1' : (b1 = b2 ∧ o1 = o2) ∧ c1 = c2 := by simpa using hv1
      obtain ⟨⟨rfl, rfl⟩, rfl⟩ := hv1'; clear hv1
      have HC : Hid (∀ w', Below w7.heap.size w7 w' → (w'.cell? ⟨b1, o1 + 5, none⟩ = some (Sv kF) ∧ w'.cell? ⟨b1, o1 + 6, none⟩ = some (.int .i64 0) ∧ w'.cell? ⟨b1, o1 + 7, none⟩ = some (.int .i64 10) ∧ w'.cell? ⟨b1, o1 + 8, none⟩ = some (.int .i64 1) ∧ w'.cell? ⟨b1, o1 + 9, none⟩ = some (.slice (some ⟨vb2, vo2, none⟩) 1 vc2) ∧ w'.cell? ⟨vb2, vo2, none⟩ = some (.int .i64 10)) ∧
          w'.cell? ⟨b1, o1 + 10, none⟩ = some (.bool true) ∧ w'.cell? ⟨b1, o1 + 11, none⟩ = some (.int .i64 1) ∧ w'.cell? ⟨b1, o1 + 12, none⟩ = some (Sv kF) ∧ w'.cell? ⟨b1, o1 + 13, none⟩ = some (.int .i64 3) ∧ w'.cell? ⟨b1, o1 + 14, none⟩ = some (.int .i64 5)) := by
        obtain ⟨⟨k1, k2, k3, k4, k5, k6⟩, k7, k8, k9, k10, k11, _⟩ := hc1; have f : ∀ {p : Addr} {v : Value} {w' : World}, Below w7.heap.size w7 w' → w7.cell? p = some v → w'.cell? p = some v := fun hB h => (hB.cell (block_lt_of_cell h)).trans h; exact Lib.hid (fun w' h => ⟨⟨f h k1, f h k2, f h k3, f h k4, f h k5, f h k6⟩, f h k7, f h k8, f h k9, f h k10, f h k11⟩)
      clear hc1; have HR : Hid (∀ w', Below w7.heap.size w7 w' → D6 w' qb 1 10 0 0 2 0 ∧ DX w' eb 1 kF 3 5 ∧ D2 w' tb 10 (.slice pa 0 pc) ∧ D2 w' ub 10 (.slice qa 0 qc)) := Lib.hid (fun w' h => ⟨(H7.out.1.below h).d6, (H7.out.2.1.below h).dx, (H7.out.2.2.2.1.below h).d2, (H7.out.2.2.2.2.2.2.2.below h).d2⟩); have HG7 : Hid (Below w7.heap.size w7 w7.drew) := (Below.refl _ w7).drew
      have hfO : outsFit [o1S, o2S] := by
        intro x hx; simp only [List.mem_cons, List.not_mem_nil, or_false] at hx
        rcases hx with rfl | rfl <;> decide
      have hfS : comeOk qS sS.panes 256 := newS_ok qS
      have HSa : Hid (∀ w', Below w7.heap.size w7 w' → Calls Tryz.prog 16 #[.agg #[.int .i64 10, .slice pa 0 pc], .agg #[.int .i64 10, .slice qa 0 qc]] w' (Below0 w' (.bool true))) := by
        refine Lib.hid (fun w' hB => ?_); have h := same_of (H7.out.2.2.2.2.1.below hB) (H7.out.2.2.2.2.2.2.1.below hB) hfS hfS; rw [decide_eq_true rfl] at h; exact h
      have HSo : Hid (∀ w', Below w7.heap.size w7 w' → Calls Tryz.prog 13 #[.slice (some ⟨b1, o1, none⟩) 2 c1, .slice (some ⟨b1, o1, none⟩) 2 c1] w' (Below0 w' (.bool true))) := by
        refine Lib.hid (fun w' hB => ?_)
        have h := sameOuts_of (H7.out.2.2.2.2.2.1.below hB) (H7.out.2.2.2.2.2.1.below hB) hfO hfO (by decide) (by decide)
        rw [decide_eq_true rfl] at h; exact h
      have HRi : Hid (∀ w', Below w7.heap.size w7 w' → Calls Tryz.prog 17 #[.agg #[.int .i64 1, .int .i64 10, .int .i64 0, .int .i64 0, .int .i64 2, .int .i64 0], .agg #[.int .i64 10, .slice pa 0 pc]] w' (Below0 w' (.bool true))) := by
        refine Lib.hid (fun w' hB => ?_); obtain ⟨pv, l, e1, e2, e3, e4⟩ := H7.out.2.2.2.2.1.below hB; obtain rfl : l = [] := List.map_eq_nil_iff.1 e4.symm
        have e5 : (10 : Int) = sS.mark ∧ Value.slice pa 0 pc = pv := by simpa using e1
        obtain ⟨_, rfl⟩ := e5
        have h := oright_any w' qS 10 (.slice pa 0 pc) [] e2 (fun y hy => by simp at hy) ⟨fun x hx => by simp at hx, by simp⟩
        rw [show (⟨10, ([] : List PaneV).map PaneV.p⟩ : StateL) = sS from rfl, right_first] at h; exact h
      have HNw : Hid (∀ w', Calls Tryz.prog 9 #[] w' (fun e w'' => e = .returned (.agg #[.int .i64 (-1), nilV]) ∧ Below w'.heap.size w' w'')) := Lib.hid (fun w' => onew_any w'); obtain ⟨VW, hVW⟩ : ∃ V, V = Value.agg wF.cells := ⟨_, rfl⟩
      have HVW : Hid (VW = Value.agg wF.cells ∧ (∀ w, (binOp .eql 47 VW VW).run Tryz.prog w = .ok (.bool true) w) ∧ ∀ w op o1 o2, (eqGuard op 47 o1 o2 VW VW).run Tryz.prog w = .ok () w) := by
        refine Lib.hid ⟨hVW, ?_, ?_⟩
        · intro w; rw [hVW, run_eql_window, (sameW_iff _ _).2 rfl]
        · intro w op o1 o2; rw [hVW]; exact run_guard_window w op o1 o2 _ _
      have HVX : Hid (VE = Value.agg eS.cells ∧ (∀ w, (binOp .eql 42 VE VE).run Tryz.prog w = .ok (.bool true) w) ∧ ∀ w op o1 o2, (eqGuard op 42 o1 o2 VE VE).run Tryz.prog w = .ok () w) := by
        refine Lib.hid ⟨HV.out.1, ?_, ?_⟩
        · intro w; rw [HV.out.1, run_eql_item, (sameI_iff _ _).2 rfl]
        · intro w op o1 o2; rw [HV.out.1]; exact run_guard_item w op o1 o2 _ _
      clear hVW HV
      go_upto_region 5 with (fail)
      refine wp_region_skip_frame (fun i => ([] : List Nat).contains i) (by kernel_rfl) [none, none, none, none, none, none, none, none, none, none, none, none, none, none, none, none, none, none, none, none, none, none, none, none, none, none, none, none, none, none, none, none, none, none, none, none, none, none, none, none, none, none, none, none, none, none, none, none, none, none, none, none, none, none, none, none, none, none, none, none, none, none, none, none, none, none, none, none, none, none, none, none, none, none, none, none, none, none, none, none, none, none, none, none, none, none, none, none, none, none, none, none, none, none, none, none, none, none] [] (fun i_ _ _ v_ => v_ = (((Value.int .i64 0) :: (Value.bool true) :: (Value.bool true) :: (Value.int .i64 4) :: (Value.bool true) :: (Value.bool true) :: (Value.bool true) :: (Value.slice (some ⟨b1, o1, none⟩) 2 c1) :: (Value.int .i64 2) :: (Value.bool true) :: (Value.bool true) :: (Value.bool true) :: (Value.slice (some ⟨b1, o1, none⟩) 2 c1) :: (Value.pointer (some ⟨b1, o1, none⟩)) :: (Value.pointer (some ⟨b1, o1 + 5, none⟩)) :: VW :: VW :: (Value.bool true) :: (Value.bool true) :: (Value.bool true) :: (Value.slice (some ⟨b1, o1, none⟩) 2 c1) :: (Value.pointer (some ⟨b1, o1, none⟩)) :: (Value.pointer (some ⟨b1, o1 + 8, none⟩)) :: (Value.int .i64 1) :: (Value.bool true) :: (Value.bool true) :: (Value.bool true) :: (Value.slice (some ⟨b1, o1, none⟩) 2 c1) :: (Value.pointer (some ⟨b1, o1, none⟩)) :: (Value.pointer (some ⟨b1, o1 + 9, none⟩)) :: (Value.slice (some ⟨vb2, vo2, none⟩) 1 vc2) :: (Value.int .i64 1) :: (Value.bool true) :: (Value.bool true) :: (Value.bool true) :: (Value.slice (some ⟨b1, o1, none⟩) 2 c1) :: (Value.pointer (some ⟨b1, o1, none⟩)) :: (Value.pointer (some ⟨b1, o1 + 9, none⟩)) :: (Value.slice (some ⟨vb2, vo2, none⟩) 1 vc2) :: (Value.pointer (some ⟨vb2, vo2, none⟩)) :: (Value.int .i64 10) :: (Value.bool true) :: (Value.bool true) :: (Value.bool true) :: (Value.slice (some ⟨b1, o1, none⟩) 2 c1) :: (Value.pointer (some ⟨b1, o1 + 10, none⟩)) :: (Value.pointer (some ⟨b1, o1 + 10, none⟩)) :: (Value.bool true) :: (Value.bool true) :: (Value.bool true) :: (Value.slice (some ⟨b1, o1, none⟩) 2 c1) :: (Value.pointer (some ⟨b1, o1 + 10, none⟩)) :: (Value.pointer (some ⟨b1, o1 + 11, none⟩)) :: VE :: VE :: (Value.bool true) :: (Value.bool true) :: (Value.bool true) :: (Value.pointer (some ⟨tb, 0, none⟩)) :: (Value.int .i64 10) :: (Value.bool true) :: (Value.bool true) :: (Value.bool true) :: (Value.pointer (some ⟨tb, 1, none⟩)) :: (Value.slice pa 0 pc) :: (Value.int .i64 0) :: (Value.bool true) :: (Value.bool true) :: (Value.bool true) :: (Value.int .i64 2) :: (Value.bool true) :: (Value.bool true) :: (Value.bool true) :: (Value.slice oa 0 oc) :: (Value.int .i64 0) :: (Value.bool true) :: (Value.bool true) :: (Value.bool true) :: (Value.agg #[.int .i64 10, .slice pa 0 pc]) :: (Value.agg #[.int .i64 10, .slice qa 0 qc]) :: (Value.bool true) :: (Value.bool true) :: (Value.bool true) :: (Value.agg #[.int .i64 1, .int .i64 10, .int .i64 0, .int .i64 0, .int .i64 2, .int .i64 0]) :: (Value.agg #[.int .i64 10, .slice pa 0 pc]) :: (Value.bool true) :: (Value.bool true) :: (Value.bool true) :: (Value.slice (some ⟨b1, o1, none⟩) 2 c1) :: (Value.slice (some ⟨b1, o1, none⟩) 2 c1) :: (Value.bool true) :: (Value.bool true) :: (Value.bool true) :: (Value.agg #[.int .i64 (-1), .slice none 0 0]) :: (Value.int .i64 (-1)) :: (Value.bool true) :: (Value.bool true) :: (Value.bool true) :: ([] : List Value))).getD i_ undef) (fun _ w' => Below w7.heap.size w7 w') (fun w w' => Below w.heap.size w w') (fun _ _ _ _ _ _ h => h) (by kernel_rfl) (by kernel_rfl) (by kernel_rfl) HG7.out (fun _ => ⟨rfl, rfl, rfl, fun _ _ h => .inl h, fun _ _ h => .inl h, rfl, rfl, fun _ _ h => .inl h, fun _ _ h => .inl h, fun _ _ h => .inl h, rfl, rfl, fun _ _ h => .inl h, fun _ _ h => .inl h, fun _ _ h => .inl h, fun _ _ h => .inl h, fun _ _ h => .inl h, fun _ _ h => .inl h, rfl, rfl, fun _ _ h => .inl h, fun _ _ h => .inl h, fun _ _ h => .inl h, fun _ _ h => .inl h, fun _ _ h => .inl h, rfl, rfl, fun _ _ h => .inl h, fun _ _ h => .inl h, fun _ _ h => .inl h, fun _ _ h => .inl h, fun _ _ h => .inl h, fun _ _ h => .inl h, rfl, rfl, fun _ _ h => .inl h, fun _ _ h => .inl h, fun _ _ h => .inl h, fun _ _ h => .inl h, fun _ _ h => .inl h, fun _ _ h => .inl h, fun _ _ h => .inl h, rfl, rfl, fun _ _ h => .inl h, fun _ _ h => .inl h, fun _ _ h => .inl h, fun _ _ h => .inl h, rfl, rfl, fun _ _ h => .inl h, fun _ _ h => .inl h, fun _ _ h => .inl h, fun _ _ h => .inl h, fun _ _ h => .inl h, fun _ _ h => .inl h, rfl, rfl, fun _ _ h => .inl h, fun _ _ h => .inl h, fun _ _ h => .inl h, rfl, rfl, fun _ _ h => .inl h, fun _ _ h => .inl h, fun _ _ h => .inl h, fun _ _ h => .inl h, rfl, rfl, fun _ _ h => .inl h, fun _ _ h => .inl h, rfl, rfl, fun _ _ h => .inl h, fun _ _ h => .inl h, fun _ _ h => .inl h, rfl, rfl, fun _ _ h => .inl h, fun _ _ h => .inl h, fun _ _ h => .inl h, rfl, rfl, fun _ _ h => .inl h, fun _ _ h => .inl h, fun _ _ h => .inl h, rfl, rfl, fun _ _ h => .inl h, fun _ _ h => .inl h, fun _ _ h => .inl h, rfl, rfl, fun _ _ h => .inl h, fun _ _ h => .inl h, fun _ _ h => .inl h, rfl, rfl, trivial⟩) (fun _ h => by simp at h) ?_ ?_
      · refine ⟨?_, ?_, ?_, ?_, ?_, ?_, ?_, ?_, ?_, ?_, ?_, ?_, ?_, ?_, ?_, ?_, ?_, ?_, ?_, ?_, ?_, ?_, ?_, ?_, ?_, ?_, ?_, ?_, ?_, ?_, ?_, ?_, ?_, ?_, ?_, ?_, ?_, ?_, ?_, ?_, ?_, ?_, ?_, ?_, ?_, ?_, ?_, ?_, ?_, ?_, ?_, ?_, ?_, ?_, ?_, ?_, ?_, ?_, ?_, ?_, ?_, ?_, ?_, ?_, ?_, ?_, ?_, ?_, ?_, ?_, ?_, ?_, ?_, ?_, ?_, ?_, ?_, ?_, ?_, ?_, ?_, ?_, ?_, ?_, ?_, ?_, ?_, ?_, ?_, ?_, ?_, ?_, ?_, ?_, ?_, ?_, ?_, ?_, trivial⟩
        · intro _ _ a w' hG hout hpre K hK; have q7 := ev_of ((hout 7 rfl).trans (show _ = .int .i64 0 from rfl)); clear hout hpre; go_step; exact hK _ _ rfl hG (Below.refl _ _)
        · intro _ _ a w' hG hout hpre K hK; obtain ⟨p0, _⟩ := hpre; have q35 := ev_of (show a.eval (.tmp 35) = .int .i64 0 from p0); clear hout p0; go_step; exact hK _ _ rfl hG (Below.refl _ _)
        · intro _ _ a w' hG hout hpre K hK; obtain ⟨p0, _⟩ := hpre; have q36 := ev_of (show a.eval (.tmp 36) = .bool true from p0); clear hout p0; go_step; exact hK _ _ rfl hG (Below.refl _ _)
        · intro _ _ a w' hG hout hpre K hK; have q6 := ev_of ((hout 6 rfl).trans (show _ = .int .i64 4 from rfl)); clear hout hpre; go_step; exact hK _ _ rfl hG (Below.refl _ _)
        · intro _ _ a w' hG hout hpre K hK; obtain ⟨p0, _⟩ := hpre; have q38 := ev_of (show a.eval (.tmp 38) = .int .i64 4 from p0); clear hout p0; go_step; exact hK _ _ rfl hG (Below.refl _ _)
        · intro _ _ a w' hG hout hpre K hK; obtain ⟨p0, p1, _⟩ := hpre; have q37 := ev_of (show a.eval (.tmp 37) = .bool true from p0); have q39 := ev_of (show a.eval (.tmp 39) = .bool true from p1); clear hout p0 p1; go_step; exact hK _ _ rfl hG (Below.refl _ _)
        · intro _ _ a w' hG hout hpre K hK; obtain ⟨p0, _⟩ := hpre; have q40 := ev_of (show a.eval (.tmp 40) = .bool true from p0); clear hout p0; go_step; exact hK _ _ rfl hG (Below.refl _ _)
        · intro _ _ a w' hG hout hpre K hK; have q5 := ev_of ((hout 5 rfl).trans (show _ = .slice (some ⟨b1, o1, none⟩) 2 c1 from rfl)); clear hout hpre; go_step; exact hK _ _ rfl hG (Below.refl _ _)
        · intro _ _ a w' hG hout hpre K hK; obtain ⟨p0, _⟩ := hpre; have q42 := ev_of (show a.eval (.tmp 42) = .slice (some ⟨b1, o1, none⟩) 2 c1 from p0); clear hout p0; go_step; exact hK _ _ rfl hG (Below.refl _ _)
        · intro _ _ a w' hG hout hpre K hK; obtain ⟨p0, _⟩ := hpre; have q43 := ev_of (show a.eval (.tmp 43) = .int .i64 2 from p0); clear hout p0; go_step; exact hK _ _ rfl hG (Below.refl _ _)
        · intro _ _ a w' hG hout hpre K hK; obtain ⟨p0, p1, _⟩ := hpre; have q41 := ev_of (show a.eval (.tmp 41) = .bool true from p0); have q44 := ev_of (show a.eval (.tmp 44) = .bool true from p1); clear hout p0 p1; go_step; exact hK _ _ rfl hG (Below.refl _ _)
        · intro _ _ a w' hG hout hpre K hK; obtain ⟨p0, _⟩ := hpre; have q45 := ev_of (show a.eval (.tmp 45) = .bool true from p0); clear hout p0; go_step; exact hK _ _ rfl hG (Below.refl _ _)
        · intro _ _ a w' hG hout hpre K hK; have q5 := ev_of ((hout 5 rfl).trans (show _ = .slice (some ⟨b1, o1, none⟩) 2 c1 from rfl)); clear hout hpre; go_step; exact hK _ _ rfl hG (Below.refl _ _)
        · intro _ _ a w' hG hout hpre K hK; obtain ⟨p0, _⟩ := hpre; have q47 := ev_of (show a.eval (.tmp 47) = .slice (some ⟨b1, o1, none⟩) 2 c1 from p0); clear hout p0; go_step; exact hK _ _ rfl hG (Below.refl _ _)
        · intro _ _ a w' hG hout hpre K hK; obtain ⟨p0, _⟩ := hpre; have q48 := ev_of (show a.eval (.tmp 48) = .pointer (some ⟨b1, o1, none⟩) from p0); clear hout p0; go_step; exact hK _ _ rfl hG (Below.refl _ _)
        · intro _ _ a w' hG hout hpre K hK; obtain ⟨p0, _⟩ := hpre; have q49 := ev_of (show a.eval (.tmp 49) = .pointer (some ⟨b1, o1 + 5, none⟩) from p0); obtain ⟨⟨d0, d1, d2, _⟩, _⟩ := HC.out w' hG; clear hout p0; go_step; exact hK _ _ HVW.out.1.symm hG (Below.refl _ _)
        · intro _ _ a w' hG hout hpre K hK; clear hout hpre; go_step; exact hK _ _ HVW.out.1.symm hG (Below.refl _ _)
        · intro _ _ a w' hG hout hpre K hK; obtain ⟨p0, p1, _⟩ := hpre; have q50 := ev_of (show a.eval (.tmp 50) = VW from p0); have q51 := ev_of (show a.eval (.tmp 51) = VW from p1); have he := HVW.out.2.1; have hgd := HVW.out.2.2; clear hout p0 p1; go_step; exact hK _ _ rfl hG (Below.refl _ _)
        · intro _ _ a w' hG hout hpre K hK; obtain ⟨p0, p1, _⟩ := hpre; have q46 := ev_of (show a.eval (.tmp 46) = .bool true from p0); have q52 := ev_of (show a.eval (.tmp 52) = .bool true from p1); clear hout p0 p1; go_step; exact hK _ _ rfl hG (Below.refl _ _)
        · intro _ _ a w' hG hout hpre K hK; obtain ⟨p0, _⟩ := hpre; have q53 := ev_of (show a.eval (.tmp 53) = .bool true from p0); clear hout p0; go_step; exact hK _ _ rfl hG (Below.refl _ _)
        · intro _ _ a w' hG hout hpre K hK; have q5 := ev_of ((hout 5 rfl).trans (show _ = .slice (some ⟨b1, o1, none⟩) 2 c1 from rfl)); clear hout hpre; go_step; exact hK _ _ rfl hG (Below.refl _ _)
        · intro _ _ a w' hG hout hpre K hK; obtain ⟨p0, _⟩ := hpre; have q55 := ev_of (show a.eval (.tmp 55) = .slice (some ⟨b1, o1, none⟩) 2 c1 from p0); clear hout p0; go_step; exact hK _ _ rfl hG (Below.refl _ _)
        · intro _ _ a w' hG hout hpre K hK; obtain ⟨p0, _⟩ := hpre; have q56 := ev_of (show a.eval (.tmp 56) = .pointer (some ⟨b1, o1, none⟩) from p0); clear hout p0; go_step; exact hK _ _ rfl hG (Below.refl _ _)
        · intro _ _ a w' hG hout hpre K hK; obtain ⟨p0, _⟩ := hpre; have q57 := ev_of (show a.eval (.tmp 57) = .pointer (some ⟨b1, o1 + 8, none⟩) from p0); have d0 := (HC.out w' hG).1.2.2.2.1; clear hout p0; go_step; exact hK _ _ rfl hG (Below.refl _ _)
        · intro _ _ a w' hG hout hpre K hK; obtain ⟨p0, _⟩ := hpre; have q58 := ev_of (show a.eval (.tmp 58) = .int .i64 1 from p0); clear hout p0; go_step; exact hK _ _ rfl hG (Below.refl _ _)
        · intro _ _ a w' hG hout hpre K hK; obtain ⟨p0, p1, _⟩ := hpre; have q54 := ev_of (show a.eval (.tmp 54) = .bool true from p0); have q59 := ev_of (show a.eval (.tmp 59) = .bool true from p1); clear hout p0 p1; go_step; exact hK _ _ rfl hG (Below.refl _ _)
        · intro _ _ a w' hG hout hpre K hK; obtain ⟨p0, _⟩ := hpre; have q60 := ev_of (show a.eval (.tmp 60) = .bool true from p0); clear hout p0; go_step; exact hK _ _ rfl hG (Below.refl _ _)
        · intro _ _ a w' hG hout hpre K hK; have q5 := ev_of ((hout 5 rfl).trans (show _ = .slice (some ⟨b1, o1, none⟩) 2 c1 from rfl)); clear hout hpre; go_step; exact hK _ _ rfl hG (Below.refl _ _)
        · intro _ _ a w' hG hout hpre K hK; obtain ⟨p0, _⟩ := hpre; have q62 := ev_of (show a.eval (.tmp 62) = .slice (some ⟨b1, o1, none⟩) 2 c1 from p0); clear hout p0; go_step; exact hK _ _ rfl hG (Below.refl _ _)
        · intro _ _ a w' hG hout hpre K hK; obtain ⟨p0, _⟩ := hpre; have q63 := ev_of (show a.eval (.tmp 63) = .pointer (some ⟨b1, o1, none⟩) from p0); clear hout p0; go_step; exact hK _ _ rfl hG (Below.refl _ _)
        · intro _ _ a w' hG hout hpre K hK; obtain ⟨p0, _⟩ := hpre; have q64 := ev_of (show a.eval (.tmp 64) = .pointer (some ⟨b1, o1 + 9, none⟩) from p0); have d0 := (HC.out w' hG).1.2.2.2.2.1; clear hout p0; go_step; exact hK _ _ rfl hG (Below.refl _ _)
        · intro _ _ a w' hG hout hpre K hK; obtain ⟨p0, _⟩ := hpre; have q65 := ev_of (show a.eval (.tmp 65) = .slice (some ⟨vb2, vo2, none⟩) 1 vc2 from p0); clear hout p0; go_step; exact hK _ _ rfl hG (Below.refl _ _)
        · intro _ _ a w' hG hout hpre K hK; obtain ⟨p0, _⟩ := hpre; have q66 := ev_of (show a.eval (.tmp 66) = .int .i64 1 from p0); clear hout p0; go_step; exact hK _ _ rfl hG (Below.refl _ _)
        · intro _ _ a w' hG hout hpre K hK; obtain ⟨p0, p1, _⟩ := hpre; have q61 := ev_of (show a.eval (.tmp 61) = .bool true from p0); have q67 := ev_of (show a.eval (.tmp 67) = .bool true from p1); clear hout p0 p1; go_step; exact hK _ _ rfl hG (Below.refl _ _)
        · intro _ _ a w' hG hout hpre K hK; obtain ⟨p0, _⟩ := hpre; have q68 := ev_of (show a.eval (.tmp 68) = .bool true from p0); clear hout p0; go_step; exact hK _ _ rfl hG (Below.refl _ _)
        · intro _ _ a w' hG hout hpre K hK; have q5 := ev_of ((hout 5 rfl).trans (show _ = .slice (some ⟨b1, o1, none⟩) 2 c1 from rfl)); clear hout hpre; go_step; exact hK _ _ rfl hG (Below.refl _ _)
        · intro _ _ a w' hG hout hpre K hK; obtain ⟨p0, _⟩ := hpre; have q70 := ev_of (show a.eval (.tmp 70) = .slice (some ⟨b1, o1, none⟩) 2 c1 from p0); clear hout p0; go_step; exact hK _ _ rfl hG (Below.refl _ _)
        · intro _ _ a w' hG hout hpre K hK; obtain ⟨p0, _⟩ := hpre; have q71 := ev_of (show a.eval (.tmp 71) = .pointer (some ⟨b1, o1, none⟩) from p0); clear hout p0; go_step; exact hK _ _ rfl hG (Below.refl _ _)
        · intro _ _ a w' hG hout hpre K hK; obtain ⟨p0, _⟩ := hpre; have q72 := ev_of (show a.eval (.tmp 72) = .pointer (some ⟨b1, o1 + 9, none⟩) from p0); have d0 := (HC.out w' hG).1.2.2.2.2.1; clear hout p0; go_step; exact hK _ _ rfl hG (Below.refl _ _)
        · intro _ _ a w' hG hout hpre K hK; obtain ⟨p0, _⟩ := hpre; have q73 := ev_of (show a.eval (.tmp 73) = .slice (some ⟨vb2, vo2, none⟩) 1 vc2 from p0); clear hout p0; go_step; exact hK _ _ rfl hG (Below.refl _ _)
        · intro _ _ a w' hG hout hpre K hK; obtain ⟨p0, _⟩ := hpre; have q74 := ev_of (show a.eval (.tmp 74) = .pointer (some ⟨vb2, vo2, none⟩) from p0); have d0 := (HC.out w' hG).1.2.2.2.2.2; clear hout p0; go_step; exact hK _ _ rfl hG (Below.refl _ _)
        · intro _ _ a w' hG hout hpre K hK; obtain ⟨p0, _⟩ := hpre; have q75 := ev_of (show a.eval (.tmp 75) = .int .i64 10 from p0); clear hout p0; go_step; exact hK _ _ rfl hG (Below.refl _ _)
        · intro _ _ a w' hG hout hpre K hK; obtain ⟨p0, p1, _⟩ := hpre; have q69 := ev_of (show a.eval (.tmp 69) = .bool true from p0); have q76 := ev_of (show a.eval (.tmp 76) = .bool true from p1); clear hout p0 p1; go_step; exact hK _ _ rfl hG (Below.refl _ _)
        · intro _ _ a w' hG hout hpre K hK; obtain ⟨p0, _⟩ := hpre; have q77 := ev_of (show a.eval (.tmp 77) = .bool true from p0); clear hout p0; go_step; exact hK _ _ rfl hG (Below.refl _ _)
        · intro _ _ a w' hG hout hpre K hK; have q5 := ev_of ((hout 5 rfl).trans (show _ = .slice (some ⟨b1, o1, none⟩) 2 c1 from rfl)); clear hout hpre; go_step; exact hK _ _ rfl hG (Below.refl _ _)
        · intro _ _ a w' hG hout hpre K hK; obtain ⟨p0, _⟩ := hpre; have q79 := ev_of (show a.eval (.tmp 79) = .slice (some ⟨b1, o1, none⟩) 2 c1 from p0); clear hout p0; go_step; exact hK _ _ rfl hG (Below.refl _ _)
        · intro _ _ a w' hG hout hpre K hK; obtain ⟨p0, _⟩ := hpre; have q80 := ev_of (show a.eval (.tmp 80) = .pointer (some ⟨b1, o1 + 10, none⟩) from p0); clear hout p0; go_step; exact hK _ _ rfl hG (Below.refl _ _)
        · intro _ _ a w' hG hout hpre K hK; obtain ⟨p0, _⟩ := hpre; have q81 := ev_of (show a.eval (.tmp 81) = .pointer (some ⟨b1, o1 + 10, none⟩) from p0); have d0 := (HC.out w' hG).2.1; clear hout p0; go_step; exact hK _ _ rfl hG (Below.refl _ _)
        · intro _ _ a w' hG hout hpre K hK; obtain ⟨p0, p1, _⟩ := hpre; have q78 := ev_of (show a.eval (.tmp 78) = .bool true from p0); have q82 := ev_of (show a.eval (.tmp 82) = .bool true from p1); clear hout p0 p1; go_step; exact hK _ _ rfl hG (Below.refl _ _)
        · intro _ _ a w' hG hout hpre K hK; obtain ⟨p0, _⟩ := hpre; have q83 := ev_of (show a.eval (.tmp 83) = .bool true from p0); clear hout p0; go_step; exact hK _ _ rfl hG (Below.refl _ _)
        · intro _ _ a w' hG hout hpre K hK; have q5 := ev_of ((hout 5 rfl).trans (show _ = .slice (some ⟨b1, o1, none⟩) 2 c1 from rfl)); clear hout hpre; go_step; exact hK _ _ rfl hG (Below.refl _ _)
        · intro _ _ a w' hG hout hpre K hK; obtain ⟨p0, _⟩ := hpre; have q85 := ev_of (show a.eval (.tmp 85) = .slice (some ⟨b1, o1, none⟩) 2 c1 from p0); clear hout p0; go_step; exact hK _ _ rfl hG (Below.refl _ _)
        · intro _ _ a w' hG hout hpre K hK; obtain ⟨p0, _⟩ := hpre; have q86 := ev_of (show a.eval (.tmp 86) = .pointer (some ⟨b1, o1 + 10, none⟩) from p0); clear hout p0; go_step; exact hK _ _ rfl hG (Below.refl _ _)
        · intro _ _ a w' hG hout hpre K hK; obtain ⟨p0, _⟩ := hpre; have q87 := ev_of (show a.eval (.tmp 87) = .pointer (some ⟨b1, o1 + 11, none⟩) from p0); obtain ⟨_, _, d0, d1, d2, d3⟩ := HC.out w' hG; clear hout p0; go_step; exact hK _ _ HVX.out.1.symm hG (Below.refl _ _)
        · intro _ _ a w' hG hout hpre K hK; have q2 := ev_of ((hout 2 rfl).trans (show _ = .pointer (some ⟨eb, 0, none⟩) from rfl)); obtain ⟨_, ⟨d0, d1, d2, d3⟩, _⟩ := HR.out w' hG; clear hout hpre; go_step; exact hK _ _ HVX.out.1.symm hG (Below.refl _ _)
        · intro _ _ a w' hG hout hpre K hK; obtain ⟨p0, p1, _⟩ := hpre; have q88 := ev_of (show a.eval (.tmp 88) = VE from p0); have q89 := ev_of (show a.eval (.tmp 89) = VE from p1); have he := HVX.out.2.1; have hgd := HVX.out.2.2; clear hout p0 p1; go_step; exact hK _ _ rfl hG (Below.refl _ _)
        · intro _ _ a w' hG hout hpre K hK; obtain ⟨p0, p1, _⟩ := hpre; have q84 := ev_of (show a.eval (.tmp 84) = .bool true from p0); have q90 := ev_of (show a.eval (.tmp 90) = .bool true from p1); clear hout p0 p1; go_step; exact hK _ _ rfl hG (Below.refl _ _)
        · intro _ _ a w' hG hout hpre K hK; obtain ⟨p0, _⟩ := hpre; have q91 := ev_of (show a.eval (.tmp 91) = .bool true from p0); clear hout p0; go_step; exact hK _ _ rfl hG (Below.refl _ _)
        · intro _ _ a w' hG hout hpre K hK; have q4 := ev_of ((hout 4 rfl).trans (show _ = .pointer (some ⟨tb, 0, none⟩) from rfl)); clear hout hpre; go_step; exact hK _ _ rfl hG (Below.refl _ _)
        · intro _ _ a w' hG hout hpre K hK; obtain ⟨p0, _⟩ := hpre; have q93 := ev_of (show a.eval (.tmp 93) = .pointer (some ⟨tb, 0, none⟩) from p0); obtain ⟨_, _, ⟨d0, d1⟩, _⟩ := HR.out w' hG; clear hout p0; go_step; exact hK _ _ rfl hG (Below.refl _ _)
        · intro _ _ a w' hG hout hpre K hK; obtain ⟨p0, _⟩ := hpre; have q94 := ev_of (show a.eval (.tmp 94) = .int .i64 10 from p0); clear hout p0; go_step; exact hK _ _ rfl hG (Below.refl _ _)
        · intro _ _ a w' hG hout hpre K hK; obtain ⟨p0, p1, _⟩ := hpre; have q92 := ev_of (show a.eval (.tmp 92) = .bool true from p0); have q95 := ev_of (show a.eval (.tmp 95) = .bool true from p1); clear hout p0 p1; go_step; exact hK _ _ rfl hG (Below.refl _ _)
        · intro _ _ a w' hG hout hpre K hK; obtain ⟨p0, _⟩ := hpre; have q96 := ev_of (show a.eval (.tmp 96) = .bool true from p0); clear hout p0; go_step; exact hK _ _ rfl hG (Below.refl _ _)
        · intro _ _ a w' hG hout hpre K hK; have q4 := ev_of ((hout 4 rfl).trans (show _ = .pointer (some ⟨tb, 0, none⟩) from rfl)); clear hout hpre; go_step; exact hK _ _ rfl hG (Below.refl _ _)
        · intro _ _ a w' hG hout hpre K hK; obtain ⟨p0, _⟩ := hpre; have q98 := ev_of (show a.eval (.tmp 98) = .pointer (some ⟨tb, 1, none⟩) from p0); obtain ⟨_, _, ⟨d0, d1⟩, _⟩ := HR.out w' hG; clear hout p0; go_step; exact hK _ _ rfl hG (Below.refl _ _)
        · intro _ _ a w' hG hout hpre K hK; obtain ⟨p0, _⟩ := hpre; have q99 := ev_of (show a.eval (.tmp 99) = .slice pa 0 pc from p0); clear hout p0; go_step; exact hK _ _ rfl hG (Below.refl _ _)
        · intro _ _ a w' hG hout hpre K hK; obtain ⟨p0, _⟩ := hpre; have q100 := ev_of (show a.eval (.tmp 100) = .int .i64 0 from p0); clear hout p0; go_step; exact hK _ _ rfl hG (Below.refl _ _)
        · intro _ _ a w' hG hout hpre K hK; obtain ⟨p0, p1, _⟩ := hpre; have q97 := ev_of (show a.eval (.tmp 97) = .bool true from p0); have q101 := ev_of (show a.eval (.tmp 101) = .bool true from p1); clear hout p0 p1; go_step; exact hK _ _ rfl hG (Below.refl _ _)
        · intro _ _ a w' hG hout hpre K hK; obtain ⟨p0, _⟩ := hpre; have q102 := ev_of (show a.eval (.tmp 102) = .bool true from p0); clear hout p0; go_step; exact hK _ _ rfl hG (Below.refl _ _)
        · intro _ _ a w' hG hout hpre K hK; have q10 := ev_of ((hout 10 rfl).trans (show _ = .int .i64 2 from rfl)); clear hout hpre; go_step; exact hK _ _ rfl hG (Below.refl _ _)
        · intro _ _ a w' hG hout hpre K hK; obtain ⟨p0, _⟩ := hpre; have q104 := ev_of (show a.eval (.tmp 104) = .int .i64 2 from p0); clear hout p0; go_step; exact hK _ _ rfl hG (Below.refl _ _)
        · intro _ _ a w' hG hout hpre K hK; obtain ⟨p0, p1, _⟩ := hpre; have q103 := ev_of (show a.eval (.tmp 103) = .bool true from p0); have q105 := ev_of (show a.eval (.tmp 105) = .bool true from p1); clear hout p0 p1; go_step; exact hK _ _ rfl hG (Below.refl _ _)
        · intro _ _ a w' hG hout hpre K hK; obtain ⟨p0, _⟩ := hpre; have q106 := ev_of (show a.eval (.tmp 106) = .bool true from p0); clear hout p0; go_step; exact hK _ _ rfl hG (Below.refl _ _)
        · intro _ _ a w' hG hout hpre K hK; have q9 := ev_of ((hout 9 rfl).trans (show _ = .slice oa 0 oc from rfl)); clear hout hpre; go_step; exact hK _ _ rfl hG (Below.refl _ _)
        · intro _ _ a w' hG hout hpre K hK; obtain ⟨p0, _⟩ := hpre; have q108 := ev_of (show a.eval (.tmp 108) = .slice oa 0 oc from p0); clear hout p0; go_step; exact hK _ _ rfl hG (Below.refl _ _)
        · intro _ _ a w' hG hout hpre K hK; obtain ⟨p0, _⟩ := hpre; have q109 := ev_of (show a.eval (.tmp 109) = .int .i64 0 from p0); clear hout p0; go_step; exact hK _ _ rfl hG (Below.refl _ _)
        · intro _ _ a w' hG hout hpre K hK; obtain ⟨p0, p1, _⟩ := hpre; have q107 := ev_of (show a.eval (.tmp 107) = .bool true from p0); have q110 := ev_of (show a.eval (.tmp 110) = .bool true from p1); clear hout p0 p1; go_step; exact hK _ _ rfl hG (Below.refl _ _)
        · intro _ _ a w' hG hout hpre K hK; obtain ⟨p0, _⟩ := hpre; have q111 := ev_of (show a.eval (.tmp 111) = .bool true from p0); clear hout p0; go_step; exact hK _ _ rfl hG (Below.refl _ _)
        · intro _ _ a w' hG hout hpre K hK; have q4 := ev_of ((hout 4 rfl).trans (show _ = .pointer (some ⟨tb, 0, none⟩) from rfl)); obtain ⟨_, _, ⟨d0, d1⟩, _⟩ := HR.out w' hG; clear hout hpre; go_step; exact hK _ _ rfl hG (Below.refl _ _)
        · intro _ _ a w' hG hout hpre K hK; have q8 := ev_of ((hout 8 rfl).trans (show _ = .pointer (some ⟨ub, 0, none⟩) from rfl)); obtain ⟨_, _, _, ⟨d0, d1⟩⟩ := HR.out w' hG; clear hout hpre; go_step; exact hK _ _ rfl hG (Below.refl _ _)
        · intro _ _ a w' hG hout hpre K hK; obtain ⟨p0, p1, _⟩ := hpre; have q113 := ev_of (show a.eval (.tmp 113) = .agg #[.int .i64 10, .slice pa 0 pc] from p0); have q114 := ev_of (show a.eval (.tmp 114) = .agg #[.int .i64 10, .slice qa 0 qc] from p1); have HS := Lib.hid (HSa.out w' hG); clear hout p0 p1; go_step; refine HS.out.mono ?_; rintro e w3 ⟨rfl, hB⟩; exact hK _ _ rfl (hG.trans (hB.mono hG.size)) hB
        · intro _ _ a w' hG hout hpre K hK; obtain ⟨p0, p1, _⟩ := hpre; have q112 := ev_of (show a.eval (.tmp 112) = .bool true from p0); have q115 := ev_of (show a.eval (.tmp 115) = .bool true from p1); clear hout p0 p1; go_step; exact hK _ _ rfl hG (Below.refl _ _)
        · intro _ _ a w' hG hout hpre K hK; obtain ⟨p0, _⟩ := hpre; have q116 := ev_of (show a.eval (.tmp 116) = .bool true from p0); clear hout p0; go_step; exact hK _ _ rfl hG (Below.refl _ _)
        · intro _ _ a w' hG hout hpre K hK; have q1 := ev_of ((hout 1 rfl).trans (show _ = .pointer (some ⟨qb, 0, none⟩) from rfl)); obtain ⟨⟨d0, d1, d2, d3, d4, d5⟩, _⟩ := HR.out w' hG; clear hout hpre; go_step; exact hK _ _ rfl hG (Below.refl _ _)
        · intro _ _ a w' hG hout hpre K hK; have q4 := ev_of ((hout 4 rfl).trans (show _ = .pointer (some ⟨tb, 0, none⟩) from rfl)); obtain ⟨_, _, ⟨d0, d1⟩, _⟩ := HR.out w' hG; clear hout hpre; go_step; exact hK _ _ rfl hG (Below.refl _ _)
        · intro _ _ a w' hG hout hpre K hK; obtain ⟨p0, p1, _⟩ := hpre; have q118 := ev_of (show a.eval (.tmp 118) = .agg #[.int .i64 1, .int .i64 10, .int .i64 0, .int .i64 0, .int .i64 2, .int .i64 0] from p0); have q119 := ev_of (show a.eval (.tmp 119) = .agg #[.int .i64 10, .slice pa 0 pc] from p1); have HS := Lib.hid (HRi.out w' hG); clear hout p0 p1; go_step; refine HS.out.mono ?_; rintro e w3 ⟨rfl, hB⟩; exact hK _ _ rfl (hG.trans (hB.mono hG.size)) hB
        · intro _ _ a w' hG hout hpre K hK; obtain ⟨p0, p1, _⟩ := hpre; have q117 := ev_of (show a.eval (.tmp 117) = .bool true from p0); have q120 := ev_of (show a.eval (.tmp 120) = .bool true from p1); clear hout p0 p1; go_step; exact hK _ _ rfl hG (Below.refl _ _)
        · intro _ _ a w' hG hout hpre K hK; obtain ⟨p0, _⟩ := hpre; have q121 := ev_of (show a.eval (.tmp 121) = .bool true from p0); clear hout p0; go_step; exact hK _ _ rfl hG (Below.refl _ _)
        · intro _ _ a w' hG hout hpre K hK; have q5 := ev_of ((hout 5 rfl).trans (show _ = .slice (some ⟨b1, o1, none⟩) 2 c1 from rfl)); clear hout hpre; go_step; exact hK _ _ rfl hG (Below.refl _ _)
        · intro _ _ a w' hG hout hpre K hK; have q5 := ev_of ((hout 5 rfl).trans (show _ = .slice (some ⟨b1, o1, none⟩) 2 c1 from rfl)); clear hout hpre; go_step; exact hK _ _ rfl hG (Below.refl _ _)
        · intro _ _ a w' hG hout hpre K hK; obtain ⟨p0, p1, _⟩ := hpre; have q123 := ev_of (show a.eval (.tmp 123) = .slice (some ⟨b1, o1, none⟩) 2 c1 from p0); have q124 := ev_of (show a.eval (.tmp 124) = .slice (some ⟨b1, o1, none⟩) 2 c1 from p1); have HS := Lib.hid (HSo.out w' hG); clear hout p0 p1; go_step; refine HS.out.mono ?_; rintro e w3 ⟨rfl, hB⟩; exact hK _ _ rfl (hG.trans (hB.mono hG.size)) hB
        · intro _ _ a w' hG hout hpre K hK; obtain ⟨p0, p1, _⟩ := hpre; have q122 := ev_of (show a.eval (.tmp 122) = .bool true from p0); have q125 := ev_of (show a.eval (.tmp 125) = .bool true from p1); clear hout p0 p1; go_step; exact hK _ _ rfl hG (Below.refl _ _)
        · intro _ _ a w' hG hout hpre K hK; obtain ⟨p0, _⟩ := hpre; have q126 := ev_of (show a.eval (.tmp 126) = .bool true from p0); clear hout p0; go_step; exact hK _ _ rfl hG (Below.refl _ _)
        · intro _ _ a w' hG hout hpre K hK; have HS := Lib.hid (HNw.out w'); clear hout hpre; go_step; refine HS.out.mono ?_; rintro e w3 ⟨rfl, hB⟩; exact hK _ _ rfl (hG.trans (hB.mono hG.size)) hB
        · intro _ _ a w' hG hout hpre K hK; obtain ⟨p0, _⟩ := hpre; have q128 := ev_of (show a.eval (.tmp 128) = .agg #[.int .i64 (-1), .slice none 0 0] from p0); clear hout p0; go_step; exact hK _ _ rfl hG (Below.refl _ _)
        · intro _ _ a w' hG hout hpre K hK; obtain ⟨p0, _⟩ := hpre; have q129 := ev_of (show a.eval (.tmp 129) = .int .i64 (-1) from p0); clear hout p0; go_step; exact hK _ _ rfl hG (Below.refl _ _)
        · intro _ _ a w' hG hout hpre K hK; obtain ⟨p0, p1, _⟩ := hpre; have q127 := ev_of (show a.eval (.tmp 127) = .bool true from p0); have q130 := ev_of (show a.eval (.tmp 130) = .bool true from p1); clear hout p0 p1; go_step; exact hK _ _ rfl hG (Below.refl _ _)
        · intro _ _ a w' hG hout hpre K hK; obtain ⟨p0, _⟩ := hpre; have q131 := ev_of (show a.eval (.tmp 131) = .bool true from p0); clear hout p0; go_step; exact hK _ _ rfl hG (Below.refl _ _)
      · intro vs w2 hG hlen hV
        match vs, hlen, hV with
        | v0 :: v1 :: v2 :: v3 :: v4 :: v5 :: v6 :: v7 :: v8 :: v9 :: v10 :: v11 :: v12 :: v13 :: v14 :: v15 :: v16 :: v17 :: v18 :: v19 :: v20 :: v21 :: v22 :: v23 :: v24 :: v25 :: v26 :: v27 :: v28 :: v29 :: v30 :: v31 :: v32 :: v33 :: v34 :: v35 :: v36 :: v37 :: v38 :: v39 :: v40 :: v41 :: v42 :: v43 :: v44 :: v45 :: v46 :: v47 :: v48 :: v49 :: v50 :: v51 :: v52 :: v53 :: v54 :: v55 :: v56 :: v57 :: v58 :: v59 :: v60 :: v61 :: v62 :: v63 :: v64 :: v65 :: v66 :: v67 :: v68 :: v69 :: v70 :: v71 :: v72 :: v73 :: v74 :: v75 :: v76 :: v77 :: v78 :: v79 :: v80 :: v81 :: v82 :: v83 :: v84 :: v85 :: v86 :: v87 :: v88 :: v89 :: v90 :: v91 :: v92 :: v93 :: v94 :: v95 :: v96 :: v97 :: [], _, hV =>
          obtain rfl : v97 = .bool true := (hV 97 0 v97 rfl rfl); clear hV; simp only [putsL, List.append_eq, List.cons_append, List.nil_append, List.tail_cons, List.headD_cons]; simp only [Act.put, List.setIfInBounds_toArray, List.set_cons_succ, List.set_cons_zero]; have HZ : Hid (Below w.heap.size w w2) := Lib.hid (H7.out.2.2.1.trans (hG.mono H7.out.2.2.1.size)); clear hG; go_wp2_with (fail); go_ret; exact ⟨rfl, HZ.out⟩
end Go.Proofs.YtjeeghafachebaaGreat
