/-
  What each statement of layer 8 asks first.
-/
import Derived.Test.YtkgmcjeficgciaaDoorWinsOwn
import Derived.Test.YtkgmcjeficgciaaDoorPenPen
import Derived.Test.YtkgmcjeficgciaaDoorStage
namespace Go.Proofs.YtkgmcjeficgciaaDoor
open Go Go.RowKit

def qW : QueryL := ⟨2, 10, 5, 3, 2, 0⟩
def kAnn : List (BitVec 8) := [97, 110, 110]
def wS : WindowL := ⟨kAnn, 5, 15⟩
def wX : WindowL := ⟨kAnn, 10, 20⟩
def sW : List (BitVec 8) := [97, 110, 110, 32, 53, 46, 46, 49, 53]
def bW : List (BitVec 8) := wS.bytes
theorem wS_right : wS.rightB = true := by decide
theorem itoa_w5 : Lib.itoa 5 = [53] := by simp [Lib.itoa, Lib.decDigits]
theorem itoa_w15 : Lib.itoa 15 = [49, 53] := by simp [Lib.itoa, Lib.decDigits]
theorem wS_text : wS.text = sW := by
  have e : wS.text = kAnn ++ bBlank ++ itoaL 5 ++ bDots ++ itoaL 15 := rfl
  rw [e, itoaL_bv, itoaL_bv, itoa_w5, itoa_w15]
  decide
theorem wS_told : wS.told = sW := by rw [WindowL.told, wS_right, if_pos rfl, wS_text]
theorem sW_parse : parseW sW = (wS, true) := by rw [← wS_text]; exact parseW_text wS_right
theorem wS_get : (TapeL.mk bW 0).window = (wS, ⟨[], 0⟩) := by
  have h := window_back wS_right []
  rw [List.append_nil] at h
  exact h
theorem qW_of : ofW qW kAnn 12 = [wS, wX] := by decide
set_option maxRecDepth 100000 in
set_option maxHeartbeats 4000000 in
theorem wfirst_any (w : World) (hI : WinsIn w) : Calls Tryd.prog 8 #[] w (Below0 w (.bool true)) := by
  have HI : Hid (∀ w', Below w.heap.size w w' → WinsIn w') := Lib.hid (fun w' h => hI.below h)
  have HPs : Hid (∀ w', Below w.heap.size w w' → Calls Tryd.prog 27 #[.string ⟨#[97, 110, 110, 32, 53, 46, 46, 49, 53]⟩] w' (Below0 w' (.tuple #[.agg wS.cells, .bool true]))) := by
    refine Lib.hid (fun w' h => ?_)
    have h := wparse_any w' sW (by decide) (hI.below h)
    rw [sW_parse] at h
    exact h
  have HOf : Hid (∀ w', Calls Tryd.prog 9 #[.agg #[.int .i64 2, .int .i64 10, .int .i64 5, .int .i64 3, .int .i64 2, .int .i64 0], .string ⟨#[97, 110, 110]⟩, .int .i64 12] w' (WinsEnd w' [wS, wX])) := by
    refine Lib.hid (fun w' => ?_)
    have h := wof_any w' qW kAnn 12 (by decide)
    rw [qW_of] at h
    exact h
  clear hI
  go_enter Tryd.func8, Tryd.ntmps8
  go_upto_region 1 with (fail)
  refine wp_region_lit ?_
  first
    | (iterate 1 go_step
       refine wpList_store_row rfl _ _ _ rfl w.heap.size #[.int .i64 2, .int .i64 10, .int .i64 5, .int .i64 3, .int .i64 2, .int .i64 0] rfl rfl 23 zeroQ.cells (heap_alloc_new w _) query_size rfl (query_one qW) ?_)
    | (iterate 2 go_step
       refine wpList_store_row rfl _ _ _ rfl w.heap.size #[.int .i64 2, .int .i64 10, .int .i64 5, .int .i64 3, .int .i64 2, .int .i64 0] rfl rfl 23 zeroQ.cells (heap_alloc_new w _) query_size rfl (query_one qW) ?_)
    | (iterate 3 go_step
       refine wpList_store_row rfl _ _ _ rfl w.heap.size #[.int .i64 2, .int .i64 10, .int .i64 5, .int .i64 3, .int .i64 2, .int .i64 0] rfl rfl 23 zeroQ.cells (heap_alloc_new w _) query_size rfl (query_one qW) ?_)
    | (iterate 4 go_step
       refine wpList_store_row rfl _ _ _ rfl w.heap.size #[.int .i64 2, .int .i64 10, .int .i64 5, .int .i64 3, .int .i64 2, .int .i64 0] rfl rfl 23 zeroQ.cells (heap_alloc_new w _) query_size rfl (query_one qW) ?_)
    | (iterate 5 go_step
       refine wpList_store_row rfl _ _ _ rfl w.heap.size #[.int .i64 2, .int .i64 10, .int .i64 5, .int .i64 3, .int .i64 2, .int .i64 0] rfl rfl 23 zeroQ.cells (heap_alloc_new w _) query_size rfl (query_one qW) ?_)
    | (iterate 6 go_step
       refine wpList_store_row rfl _ _ _ rfl w.heap.size #[.int .i64 2, .int .i64 10, .int .i64 5, .int .i64 3, .int .i64 2, .int .i64 0] rfl rfl 23 zeroQ.cells (heap_alloc_new w _) query_size rfl (query_one qW) ?_)
    | (iterate 7 go_step
       refine wpList_store_row rfl _ _ _ rfl w.heap.size #[.int .i64 2, .int .i64 10, .int .i64 5, .int .i64 3, .int .i64 2, .int .i64 0] rfl rfl 23 zeroQ.cells (heap_alloc_new w _) query_size rfl (query_one qW) ?_)
  obtain ⟨w1, hw⟩ : ∃ W, W = (w.alloc (Obj.cells #[.int .i64 0, .int .i64 0, .int .i64 0, .int .i64 0, .int .i64 0, .int .i64 0] 23)).setRow w.heap.size #[.int .i64 2, .int .i64 10, .int .i64 5, .int .i64 3, .int .i64 2, .int .i64 0] := ⟨_, rfl⟩
  obtain ⟨b1, hb⟩ : ∃ b, b = w.heap.size := ⟨_, rfl⟩
  have H1 : Hid (RowQ w1 b1 qW ∧ Below w.heap.size w w1) := by
    obtain ⟨k1, k2⟩ := stored_query w qW
    rw [hw, hb]
    exact Lib.hid ⟨k1, k2⟩
  rw [← hw, ← hb]
  clear hw hb
  obtain ⟨d0, d1, d2, d3, d4, d5⟩ : D6 w1 b1 2 10 5 3 2 0 := H1.out.1.d6
  go_wp2_with (fail)
  refine (HOf.out w1).mono ?_
  rintro e w2 ⟨la, lc, rfl, hcap, hL, hB⟩
  obtain ⟨lb, lo, rfl, hL2⟩ : ∃ b o, la = some ⟨b, o, none⟩ ∧ ∀ i x, [wS, wX][i]? = some x → ∀ j v, x.cells[j]? = some v → w2.cell? ⟨b, o + i * 3 + j, none⟩ = some v := by
    rcases hL with h | h
    · cases h
    · exact h
  have H2 : Hid (RowQ w2 b1 qW ∧ (∀ w', Below w2.heap.size w2 w' → (w'.cell? ⟨lb, lo, none⟩ = some (Sv kAnn) ∧ w'.cell? ⟨lb, lo + 1, none⟩ = some (.int .i64 5) ∧ w'.cell? ⟨lb, lo + 2, none⟩ = some (.int .i64 15)) ∧ (w'.cell? ⟨lb, lo + 3, none⟩ = some (Sv kAnn) ∧ w'.cell? ⟨lb, lo + 4, none⟩ = some (.int .i64 10) ∧ w'.cell? ⟨lb, lo + 5, none⟩ = some (.int .i64 20))) ∧ Below w.heap.size w w2) := by
    refine Lib.hid ⟨H1.out.1.below hB, fun w' h => ?_, H1.out.2.trans (hB.mono H1.out.2.size)⟩
    have at_ : ∀ i x, [wS, wX][i]? = some x → ∀ j v, x.cells[j]? = some v → w'.cell? ⟨lb, lo + i * 3 + j, none⟩ = some v := fun i x hx j v hv => (h.cell (block_lt_of_cell (hL2 i x hx j v hv))).trans (hL2 i x hx j v hv)
    exact ⟨⟨at_ 0 _ rfl 0 _ rfl, at_ 0 _ rfl 1 _ rfl, at_ 0 _ rfl 2 _ rfl⟩, ⟨at_ 1 _ rfl 0 _ rfl, at_ 1 _ rfl 1 _ rfl, at_ 1 _ rfl 2 _ rfl⟩⟩
  rw [show [wS, wX].length = 2 from rfl]
  clear hcap hL hL2 hB d0 d1 d2 d3 d4 d5
  dsimp only
  go_wp2_with (fail)
  refine (HPs.out w2 H2.out.2.2).mono ?_
  rintro e v3 ⟨rfl, hB⟩
  have B3 : Hid (Below w2.heap.size w2 v3) := Lib.hid hB
  clear hB
  dsimp only
  first
    | (refine wpList_store_row rfl _ _ _ rfl v3.heap.size wS.cells rfl rfl 31 zeroW.cells (heap_alloc_new v3 _) window_size rfl (window_one _) ?_)
    | (iterate 1 go_step
       refine wpList_store_row rfl _ _ _ rfl v3.heap.size wS.cells rfl rfl 31 zeroW.cells (heap_alloc_new v3 _) window_size rfl (window_one _) ?_)
    | (iterate 2 go_step
       refine wpList_store_row rfl _ _ _ rfl v3.heap.size wS.cells rfl rfl 31 zeroW.cells (heap_alloc_new v3 _) window_size rfl (window_one _) ?_)
    | (iterate 3 go_step
       refine wpList_store_row rfl _ _ _ rfl v3.heap.size wS.cells rfl rfl 31 zeroW.cells (heap_alloc_new v3 _) window_size rfl (window_one _) ?_)
    | (iterate 4 go_step
       refine wpList_store_row rfl _ _ _ rfl v3.heap.size wS.cells rfl rfl 31 zeroW.cells (heap_alloc_new v3 _) window_size rfl (window_one _) ?_)
    | (iterate 5 go_step
       refine wpList_store_row rfl _ _ _ rfl v3.heap.size wS.cells rfl rfl 31 zeroW.cells (heap_alloc_new v3 _) window_size rfl (window_one _) ?_)
    | (iterate 6 go_step
       refine wpList_store_row rfl _ _ _ rfl v3.heap.size wS.cells rfl rfl 31 zeroW.cells (heap_alloc_new v3 _) window_size rfl (window_one _) ?_)
    | (iterate 7 go_step
       refine wpList_store_row rfl _ _ _ rfl v3.heap.size wS.cells rfl rfl 31 zeroW.cells (heap_alloc_new v3 _) window_size rfl (window_one _) ?_)
    | (iterate 8 go_step
       refine wpList_store_row rfl _ _ _ rfl v3.heap.size wS.cells rfl rfl 31 zeroW.cells (heap_alloc_new v3 _) window_size rfl (window_one _) ?_)
    | (iterate 9 go_step
       refine wpList_store_row rfl _ _ _ rfl v3.heap.size wS.cells rfl rfl 31 zeroW.cells (heap_alloc_new v3 _) window_size rfl (window_one _) ?_)
    | (iterate 10 go_step
       refine wpList_store_row rfl _ _ _ rfl v3.heap.size wS.cells rfl rfl 31 zeroW.cells (heap_alloc_new v3 _) window_size rfl (window_one _) ?_)
    | (iterate 11 go_step
       refine wpList_store_row rfl _ _ _ rfl v3.heap.size wS.cells rfl rfl 31 zeroW.cells (heap_alloc_new v3 _) window_size rfl (window_one _) ?_)
    | (iterate 12 go_step
       refine wpList_store_row rfl _ _ _ rfl v3.heap.size wS.cells rfl rfl 31 zeroW.cells (heap_alloc_new v3 _) window_size rfl (window_one _) ?_)
    | (iterate 13 go_step
       refine wpList_store_row rfl _ _ _ rfl v3.heap.size wS.cells rfl rfl 31 zeroW.cells (heap_alloc_new v3 _) window_size rfl (window_one _) ?_)
    | (iterate 14 go_step
       refine wpList_store_row rfl _ _ _ rfl v3.heap.size wS.cells rfl rfl 31 zeroW.cells (heap_alloc_new v3 _) window_size rfl (window_one _) ?_)
    | (iterate 15 go_step
       refine wpList_store_row rfl _ _ _ rfl v3.heap.size wS.cells rfl rfl 31 zeroW.cells (heap_alloc_new v3 _) window_size rfl (window_one _) ?_)
    | (iterate 16 go_step
       refine wpList_store_row rfl _ _ _ rfl v3.heap.size wS.cells rfl rfl 31 zeroW.cells (heap_alloc_new v3 _) window_size rfl (window_one _) ?_)
    | (iterate 17 go_step
       refine wpList_store_row rfl _ _ _ rfl v3.heap.size wS.cells rfl rfl 31 zeroW.cells (heap_alloc_new v3 _) window_size rfl (window_one _) ?_)
    | (iterate 18 go_step
       refine wpList_store_row rfl _ _ _ rfl v3.heap.size wS.cells rfl rfl 31 zeroW.cells (heap_alloc_new v3 _) window_size rfl (window_one _) ?_)
    | (iterate 19 go_step
       refine wpList_store_row rfl _ _ _ rfl v3.heap.size wS.cells rfl rfl 31 zeroW.cells (heap_alloc_new v3 _) window_size rfl (window_one _) ?_)
    | (iterate 20 go_step
       refine wpList_store_row rfl _ _ _ rfl v3.heap.size wS.cells rfl rfl 31 zeroW.cells (heap_alloc_new v3 _) window_size rfl (window_one _) ?_)
    | (iterate 21 go_step
       refine wpList_store_row rfl _ _ _ rfl v3.heap.size wS.cells rfl rfl 31 zeroW.cells (heap_alloc_new v3 _) window_size rfl (window_one _) ?_)
  obtain ⟨w3, hw⟩ : ∃ W, W = (v3.alloc (Obj.cells #[.string ⟨#[]⟩, .int .i64 0, .int .i64 0] 31)).setRow v3.heap.size wS.cells := ⟨_, rfl⟩
  obtain ⟨b3, hb⟩ : ∃ b, b = v3.heap.size := ⟨_, rfl⟩
  have H3 : Hid (RowW w3 b3 wS ∧ Below w2.heap.size w2 w3) := by
    obtain ⟨k1, k2⟩ := stored_window v3 wS
    rw [hw, hb]
    exact Lib.hid ⟨k1, B3.out.trans (k2.mono B3.out.size)⟩
  rw [← hw, ← hb]
  clear hw hb B3
  go_upto_region 5 with (fail)
  obtain ⟨w4, hw⟩ : ∃ W, W = w3.alloc (.cells #[.slice none 0 0] 45) := ⟨_, rfl⟩
  obtain ⟨pb, hb⟩ : ∃ b, b = w3.heap.size := ⟨_, rfl⟩
  have H4 : Hid ((RowW w4 b3 wS ∧ b3 < pb) ∧ PenAt (fun k => k < pb) w4 pb [] ∧ pb < w4.heap.size ∧ w2.heap.size ≤ pb ∧ Below w2.heap.size w2 w4) := by
    have hB : Below w3.heap.size w3 w4 := by rw [hw]; exact (Below.refl _ w3).alloc (Nat.le_refl _) _
    obtain ⟨k1, k2⟩ := H3.out
    refine Lib.hid ⟨⟨k1.below hB, by rw [hb]; exact k1.lt⟩, by rw [hw, hb]; exact PenAt.new _ w3, by rw [hw, hb, heap_alloc_size]; omega, by rw [hb]; exact k2.size, k2.trans (hB.mono k2.size)⟩
  rw [← hw, ← hb]
  clear hw hb
  have HPut : Hid (Calls Tryd.prog 29 #[.pointer (some ⟨pb, 0, none⟩), .agg #[Sv kAnn, .int .i64 5, .int .i64 15]] w4 (fun e w' => e = .returned (.bool true) ∧ RowW w' b3 wS ∧ PenAt (fun k => k < pb) w' pb bW ∧ Below w2.heap.size w2 w')) := by
    obtain ⟨⟨k1, k0⟩, k2, k4, k5, k6⟩ := H4.out
    have h := wput_yes w4 (fun k => k < pb) pb [] wS wS_right k2 (fun k hk => Nat.lt_trans hk k4) (by decide)
    rw [List.nil_append] at h
    refine Lib.hid (h.mono ?_)
    rintro e w' ⟨rfl, hp, hk⟩
    exact ⟨rfl, hk.row k1 (by decide) (by omega), hp, k6.trans (hk.below (B := w2.heap.size) (fun k hk => by omega) k5 k6.size)⟩
  obtain ⟨d0, d1, d2⟩ : D3 w4 b3 kAnn 5 15 := H4.out.1.1.d3
  go_wp2_with (fail)
  refine HPut.out.mono ?_
  rintro e W0 ⟨rfl, h1, h2, h3⟩
  have H5 := Lib.hid (And.intro h1 (And.intro h2 h3))
  clear h1 h2 h3 d0 d1 d2 HPut
  dsimp only
  go_upto_region 6 with (fail)
  have HW : Hid (Below w.heap.size w W0) := Lib.hid (H2.out.2.2.trans (H5.out.2.2.mono H2.out.2.2.size))
  have HG0 : Hid (Below W0.heap.size W0 W0.drew) := (Below.refl _ W0).drew
  obtain ⟨VW, hVW⟩ : ∃ V, V = Value.agg wS.cells := ⟨_, rfl⟩
  obtain ⟨VQ, hVQ⟩ : ∃ V, V = Value.agg qW.cells := ⟨_, rfl⟩
  obtain ⟨VX, hVX⟩ : ∃ V, V = Value.agg wX.cells := ⟨_, rfl⟩
  have HV : Hid (VW = Value.agg wS.cells ∧ VQ = Value.agg qW.cells ∧ VX = Value.agg wX.cells ∧ (∀ w, (binOp .eql 31 VW VW).run Tryd.prog w = .ok (.bool true) w) ∧ ∀ w op o1 o2, (eqGuard op 31 o1 o2 VW VW).run Tryd.prog w = .ok () w) := by
    refine Lib.hid ⟨hVW, hVQ, hVX, ?_, ?_⟩
    · intro w; rw [hVW, run_eql_window, (sameW_iff _ _).2 rfl]
    · intro w op o1 o2; rw [hVW]; exact run_guard_window w op o1 o2 _ _
  have HR : Hid (∀ w', Below W0.heap.size W0 w' → RowQ w' b1 qW ∧ RowW w' b3 wS ∧ PenAt (fun k => k < pb) w' pb bW ∧ (w'.cell? ⟨lb, lo, none⟩ = some (Sv kAnn) ∧ w'.cell? ⟨lb, lo + 1, none⟩ = some (.int .i64 5) ∧ w'.cell? ⟨lb, lo + 2, none⟩ = some (.int .i64 15)) ∧ (w'.cell? ⟨lb, lo + 3, none⟩ = some (Sv kAnn) ∧ w'.cell? ⟨lb, lo + 4, none⟩ = some (.int .i64 10) ∧ w'.cell? ⟨lb, lo + 5, none⟩ = some (.int .i64 20))) := by
    refine Lib.hid (fun w' h => ?_)
    obtain ⟨k1, k2, k3⟩ := H5.out
    have hB2 := k3.trans (h.mono k3.size)
    exact ⟨H2.out.1.below hB2, k1.below h, k2.below h, H2.out.2.1 w' hB2⟩
  have HCl : Hid ((∀ w', Calls Tryd.prog 12 #[VW, .int .i64 15] w' (Below0 w' (.bool true))) ∧ (∀ w', Calls Tryd.prog 13 #[VQ, VW, .int .i64 17] w' (Below0 w' (.bool false))) ∧ (∀ w', Calls Tryd.prog 13 #[VQ, VW, .int .i64 18] w' (Below0 w' (.bool true))) ∧
      (∀ w', Calls Tryd.prog 23 #[VW, .int .i64 14] w' (Below0 w' (.bool true))) ∧ (∀ w', Calls Tryd.prog 23 #[VW, .int .i64 15] w' (Below0 w' (.bool false))) ∧ (∀ w', Calls Tryd.prog 19 #[VW, VX] w' (Below0 w' (.int .i64 (-1)))) ∧
      (∀ w', Calls Tryd.prog 21 #[VW, VX] w' (Below0 w' (.int .i64 (-1)))) ∧ (∀ w', Calls Tryd.prog 17 #[VW] w' (Below0 w' (.bool true)))) := by
    rw [hVW, hVQ, hVX]
    refine Lib.hid ⟨fun w' => ?_, fun w' => ?_, fun w' => ?_, fun w' => ?_, fun w' => ?_, fun w' => ?_, fun w' => ?_, fun w' => ?_⟩
    · have h := wripe_any w' wS 15 (by decide); rw [show ripeW wS 15 = true by decide] at h; exact h
    · have h := wgone_any w' qW wS 17 (by decide); rw [show goneW qW wS 17 = false by decide] at h; exact h
    · have h := wgone_any w' qW wS 18 (by decide); rw [show goneW qW wS 18 = true by decide] at h; exact h
    · have h := whas_any w' wS 14 (by decide); rw [show hasW wS 14 = true by decide] at h; exact h
    · have h := whas_any w' wS 15 (by decide); rw [show hasW wS 15 = false by decide] at h; exact h
    · have h := wcompare_any w' wS wX; rw [show cmpW wS wX = -1 by decide] at h; exact h
    · have h := wplace_any w' wS wX; rw [show placeW wS wX = -1 from by rw [placeW, show ordS wS.key wX.key = 0 from ordS_self kAnn]; decide] at h; exact h
    · have h := wright_any w' wS (by decide); rw [wS_right] at h; exact h
  have HTx : Hid (∀ w', Below W0.heap.size W0 w' → Calls Tryd.prog 18 #[VW] w' (Below0 w' (Sv sW))) := by
    rw [hVW, ← wS_told]
    exact Lib.hid (fun w' h => wtext_any w' wS (by decide) (HI.out w' (HW.out.trans (h.mono HW.out.size))))
  have HEq : Hid (∀ w, (binOp .eql 9 (Sv sW) (.string ⟨#[97, 110, 110, 32, 53, 46, 46, 49, 53]⟩)).run Tryd.prog w = .ok (.bool true) w) := Lib.hid (fun w => by
    have h := run_eql_Sv w sW sW
    rwa [decide_eq_true rfl] at h)
  clear hVW hVQ hVX
  refine wp_region_stage_frame (by kernel_rfl) [none, none, none, none, none, none, none, none, none, none, none, none, none, none, none, none, none, none, none, none, none, none, none, none, none, some 0, some 1, some 2, none, none, none, none, none, none, none, none, none, none, none, none, none, none, none, none, none, none, none, none, none, none, none, none, none, none, none, none, none, none, none, none, none, none, none, none, none, none, none, none, none, none, none, none, none, none, none, none, none, none, none, none, none] [25, 26, 27] (VY ((Value.slice (some ⟨lb, lo, none⟩) 2 lc) :: (Value.int .i64 2) :: (Value.bool true) :: (Value.bool true) :: (Value.slice (some ⟨lb, lo, none⟩) 2 lc) :: (Value.pointer (some ⟨lb, lo, none⟩)) :: VW :: VW :: (Value.bool true) :: (Value.bool true) :: (Value.bool true) :: (Value.slice (some ⟨lb, lo, none⟩) 2 lc) :: (Value.pointer (some ⟨lb, lo + 3, none⟩)) :: (Value.pointer (some ⟨lb, lo + 4, none⟩)) :: (Value.int .i64 10) :: (Value.bool true) :: (Value.bool true) :: (Value.bool true) :: (Value.bool true) :: (Value.bool true) :: (Value.bool true) :: (Value.bool true) :: (Value.bool true) :: (Value.bool true) :: (Value.pointer (some ⟨pb, 0, none⟩)) :: undef :: undef :: VW :: VW :: (Value.bool true) :: (Value.bool true) :: (Value.bool true) :: VW :: (Value.bool true) :: (Value.bool true) :: (Value.bool true) :: VQ :: VW :: (Value.bool false) :: (Value.bool true) :: (Value.bool true) :: (Value.bool true) :: VQ :: VW :: (Value.bool true) :: (Value.bool true) :: (Value.bool true) :: VW :: (Value.bool true) :: (Value.bool true) :: (Value.bool true) :: VW :: (Value.bool false) :: (Value.bool true) :: (Value.bool true) :: (Value.bool true) :: VW :: (Value.slice (some ⟨lb, lo, none⟩) 2 lc) :: (Value.pointer (some ⟨lb, lo + 3, none⟩)) :: VX :: (Value.int .i64 (-1)) :: (Value.bool true) :: (Value.bool true) :: (Value.bool true) :: VW :: (Value.slice (some ⟨lb, lo, none⟩) 2 lc) :: (Value.pointer (some ⟨lb, lo + 3, none⟩)) :: VX :: (Value.int .i64 (-1)) :: (Value.bool true) :: (Value.bool true) :: (Value.bool true) :: VW :: Sv sW :: (Value.bool true) :: (Value.bool true) :: (Value.bool true) :: VW :: (Value.bool true) :: (Value.bool true) :: (Value.bool true) :: ([] : List Value)) 25 1 (fun w v => ∃ sa sc, v = .slice sa bW.length sc ∧ (sa = none → sc = 0) ∧ SrcP w sa bW.length bW) 26 2 (fun w v => ∃ rb base, v = .pointer (some ⟨rb, 0, none⟩) ∧ W0.heap.size ≤ rb ∧ base ≤ w.heap.size ∧ RdAt base w rb ⟨bW, 0⟩)) (fun _ w' => Below W0.heap.size W0 w') (fun w w' => Below w.heap.size w w') (VY_st _ _ _ _ _ _ _ _ (fun w w' v h ⟨sa, sc, h1, h2, h3⟩ => ⟨sa, sc, h1, h2, h3.below h⟩) (fun w w' v h ⟨rb, base, h1, h2, h3, h4⟩ => ⟨rb, base, h1, h2, Nat.le_trans h3 h.size, h4.below h⟩)) (by kernel_rfl) (by kernel_rfl) (by kernel_rfl) HG0.out (fun _ => ⟨trivial, trivial, trivial, trivial, fun _ _ h => h, fun _ _ h => h, fun _ _ h => h, fun _ _ h => h, fun _ _ h => h, trivial, trivial, fun _ _ h => h, fun _ _ h => h, fun _ _ h => h, fun _ _ h => h, fun _ _ h => h, trivial, trivial, fun _ _ h => h, trivial, trivial, fun _ _ h => h, trivial, trivial, fun _ _ h => h, fun _ _ h => h, fun _ _ h => h, fun _ _ h => h, fun _ _ h => h, fun _ _ h => h, trivial, trivial, fun _ _ h => h, fun _ _ h => h, trivial, trivial, fun _ _ h => h, fun _ _ h => h, fun _ _ h => h, fun _ _ h => h, trivial, trivial, fun _ _ h => h, fun _ _ h => h, fun _ _ h => h, trivial, trivial, fun _ _ h => h, fun _ _ h => h, trivial, trivial, fun _ _ h => h, fun _ _ h => h, fun _ _ h => h, trivial, trivial, fun _ _ h => h, fun _ _ h => h, fun _ _ h => h, fun _ _ h => h, fun _ _ h => h, fun _ _ h => h, trivial, trivial, fun _ _ h => h, fun _ _ h => h, fun _ _ h => h, fun _ _ h => h, fun _ _ h => h, fun _ _ h => h, trivial, trivial, fun _ _ h => h, fun _ _ h => h, fun _ _ h => h, trivial, trivial, fun _ _ h => h, fun _ _ h => h, trivial, trivial, trivial⟩) ?_ ?_
  · refine ⟨?_, ?_, ?_, ?_, ?_, ?_, ?_, ?_, ?_, ?_, ?_, ?_, ?_, ?_, ?_, ?_, ?_, ?_, ?_, ?_, ?_, ?_, ?_, ?_, ?_, ?_, ?_, ?_, ?_, ?_, ?_, ?_, ?_, ?_, ?_, ?_, ?_, ?_, ?_, ?_, ?_, ?_, ?_, ?_, ?_, ?_, ?_, ?_, ?_, ?_, ?_, ?_, ?_, ?_, ?_, ?_, ?_, ?_, ?_, ?_, ?_, ?_, ?_, ?_, ?_, ?_, ?_, ?_, ?_, ?_, ?_, ?_, ?_, ?_, ?_, ?_, ?_, ?_, ?_, ?_, ?_, trivial⟩
    · intro k a w' hG hout hpre K hK
      have q2 := ev_of ((hout 2 rfl).trans (show _ = .slice (some ⟨lb, lo, none⟩) 2 lc from rfl))
      clear hout hpre
      go_step
      exact hK _ _ rfl hG (Below.refl _ _)
    · intro k a w' hG hout hpre K hK
      obtain ⟨p0, _⟩ := hpre
      have q19 := ev_of (show a.eval (.tmp 19) = .slice (some ⟨lb, lo, none⟩) 2 lc from p0)
      clear hout p0
      go_step
      exact hK _ _ rfl hG (Below.refl _ _)
    · intro k a w' hG hout hpre K hK
      obtain ⟨p0, _⟩ := hpre
      have q20 := ev_of (show a.eval (.tmp 20) = .int .i64 2 from p0)
      clear hout p0
      go_step
      exact hK _ _ rfl hG (Below.refl _ _)
    · intro k a w' hG hout hpre K hK
      obtain ⟨p0, _⟩ := hpre
      have q21 := ev_of (show a.eval (.tmp 21) = .bool true from p0)
      clear hout p0
      go_step
      exact hK _ _ rfl hG (Below.refl _ _)
    · intro k a w' hG hout hpre K hK
      have q2 := ev_of ((hout 2 rfl).trans (show _ = .slice (some ⟨lb, lo, none⟩) 2 lc from rfl))
      clear hout hpre
      go_step
      exact hK _ _ rfl hG (Below.refl _ _)
    · intro k a w' hG hout hpre K hK
      obtain ⟨p0, _⟩ := hpre
      have q23 := ev_of (show a.eval (.tmp 23) = .slice (some ⟨lb, lo, none⟩) 2 lc from p0)
      clear hout p0
      go_step
      exact hK _ _ rfl hG (Below.refl _ _)
    · intro k a w' hG hout hpre K hK
      obtain ⟨p0, _⟩ := hpre
      have q24 := ev_of (show a.eval (.tmp 24) = .pointer (some ⟨lb, lo, none⟩) from p0)
      obtain ⟨d0, d1, d2⟩ := (HR.out w' hG).2.2.2.1
      clear hout p0
      go_step
      exact hK _ _ HV.out.1.symm hG (Below.refl _ _)
    · intro k a w' hG hout hpre K hK
      have q3 := ev_of ((hout 3 rfl).trans (show _ = .pointer (some ⟨b3, 0, none⟩) from rfl))
      obtain ⟨d0, d1, d2⟩ := (HR.out w' hG).2.1.d3
      clear hout hpre
      go_step
      exact hK _ _ HV.out.1.symm hG (Below.refl _ _)
    · intro k a w' hG hout hpre K hK
      obtain ⟨p0, p1, _⟩ := hpre
      have q25 := ev_of (show a.eval (.tmp 25) = VW from p0)
      have q26 := ev_of (show a.eval (.tmp 26) = VW from p1)
      have he := HV.out.2.2.2.1
      have hgd := HV.out.2.2.2.2
      clear hout p0 p1
      go_step
      exact hK _ _ rfl hG (Below.refl _ _)
    · intro k a w' hG hout hpre K hK
      obtain ⟨p0, p1, _⟩ := hpre
      have q22 := ev_of (show a.eval (.tmp 22) = .bool true from p0)
      have q27 := ev_of (show a.eval (.tmp 27) = .bool true from p1)
      clear hout p0 p1
      go_step
      exact hK _ _ rfl hG (Below.refl _ _)
    · intro k a w' hG hout hpre K hK
      obtain ⟨p0, _⟩ := hpre
      have q28 := ev_of (show a.eval (.tmp 28) = .bool true from p0)
      clear hout p0
      go_step
      exact hK _ _ rfl hG (Below.refl _ _)
    · intro k a w' hG hout hpre K hK
      have q2 := ev_of ((hout 2 rfl).trans (show _ = .slice (some ⟨lb, lo, none⟩) 2 lc from rfl))
      clear hout hpre
      go_step
      exact hK _ _ rfl hG (Below.refl _ _)
    · intro k a w' hG hout hpre K hK
      obtain ⟨p0, _⟩ := hpre
      have q30 := ev_of (show a.eval (.tmp 30) = .slice (some ⟨lb, lo, none⟩) 2 lc from p0)
      clear hout p0
      go_step
      exact hK _ _ rfl hG (Below.refl _ _)
    · intro k a w' hG hout hpre K hK
      obtain ⟨p0, _⟩ := hpre
      have q31 := ev_of (show a.eval (.tmp 31) = .pointer (some ⟨lb, lo + 3, none⟩) from p0)
      clear hout p0
      go_step
      exact hK _ _ rfl hG (Below.refl _ _)
    · intro k a w' hG hout hpre K hK
      obtain ⟨p0, _⟩ := hpre
      have q32 := ev_of (show a.eval (.tmp 32) = .pointer (some ⟨lb, lo + 4, none⟩) from p0)
      obtain ⟨d0, d1, d2⟩ := (HR.out w' hG).2.2.2.2
      clear hout p0
      go_step
      exact hK _ _ rfl hG (Below.refl _ _)
    · intro k a w' hG hout hpre K hK
      obtain ⟨p0, _⟩ := hpre
      have q33 := ev_of (show a.eval (.tmp 33) = .int .i64 10 from p0)
      clear hout p0
      go_step
      exact hK _ _ rfl hG (Below.refl _ _)
    · intro k a w' hG hout hpre K hK
      obtain ⟨p0, p1, _⟩ := hpre
      have q29 := ev_of (show a.eval (.tmp 29) = .bool true from p0)
      have q34 := ev_of (show a.eval (.tmp 34) = .bool true from p1)
      clear hout p0 p1
      go_step
      exact hK _ _ rfl hG (Below.refl _ _)
    · intro k a w' hG hout hpre K hK
      obtain ⟨p0, _⟩ := hpre
      have q35 := ev_of (show a.eval (.tmp 35) = .bool true from p0)
      clear hout p0
      go_step
      exact hK _ _ rfl hG (Below.refl _ _)
    · intro k a w' hG hout hpre K hK
      have q4 := ev_of ((hout 4 rfl).trans (show _ = .bool true from rfl))
      clear hout hpre
      go_step
      exact hK _ _ rfl hG (Below.refl _ _)
    · intro k a w' hG hout hpre K hK
      obtain ⟨p0, p1, _⟩ := hpre
      have q36 := ev_of (show a.eval (.tmp 36) = .bool true from p0)
      have q37 := ev_of (show a.eval (.tmp 37) = .bool true from p1)
      clear hout p0 p1
      go_step
      exact hK _ _ rfl hG (Below.refl _ _)
    · intro k a w' hG hout hpre K hK
      obtain ⟨p0, _⟩ := hpre
      have q38 := ev_of (show a.eval (.tmp 38) = .bool true from p0)
      clear hout p0
      go_step
      exact hK _ _ rfl hG (Below.refl _ _)
    · intro k a w' hG hout hpre K hK
      have q6 := ev_of ((hout 6 rfl).trans (show _ = .bool true from rfl))
      clear hout hpre
      go_step
      exact hK _ _ rfl hG (Below.refl _ _)
    · intro k a w' hG hout hpre K hK
      obtain ⟨p0, p1, _⟩ := hpre
      have q39 := ev_of (show a.eval (.tmp 39) = .bool true from p0)
      have q40 := ev_of (show a.eval (.tmp 40) = .bool true from p1)
      clear hout p0 p1
      go_step
      exact hK _ _ rfl hG (Below.refl _ _)
    · intro k a w' hG hout hpre K hK
      obtain ⟨p0, _⟩ := hpre
      have q41 := ev_of (show a.eval (.tmp 41) = .bool true from p0)
      clear hout p0
      go_step
      exact hK _ _ rfl hG (Below.refl _ _)
    · intro k a w' hG hout hpre K hK
      have q5 := ev_of ((hout 5 rfl).trans (show _ = .pointer (some ⟨pb, 0, none⟩) from rfl))
      clear hout hpre
      go_step
      exact hK _ _ rfl hG (Below.refl _ _)
    · intro a w' hG hout hpre K hK
      obtain ⟨p0, _⟩ := hpre
      have q43 := ev_of (show a.eval (.tmp 43) = .pointer (some ⟨pb, 0, none⟩) from p0)
      have HS := Lib.hid (pbytes_any w' (fun k => k < pb) pb bW (HR.out w' hG).2.2.1 (by decide))
      clear hout p0
      go_step
      refine HS.out.mono ?_
      rintro e w3 ⟨sa, sc, rfl, k1, k2, k3, k4, k5⟩
      exact hK _ _ (fun _ => ⟨sa, sc, rfl, k3, k4.srcP⟩) (hG.trans (k5.mono hG.size)) (VY_next (by decide) (by decide))
    · intro a w' hG hout hpre K hK
      obtain ⟨p0, _⟩ := hpre
      obtain ⟨sa, sc, hv, k3, k4⟩ := (show (1 = 1) → (∃ sa sc, a.eval (.tmp 44) = .slice sa bW.length sc ∧ (sa = none → sc = 0) ∧ SrcP w' sa bW.length bW) from p0) rfl
      have q := ev_of hv
      have HS := Lib.hid (rread_any w' sa sc bW.length bW rfl k4 k3 (by decide))
      clear hout p0 hv k3 k4
      go_step
      refine HS.out.mono ?_
      rintro e w3 ⟨rb, rfl, k1, k2, k3⟩
      exact hK _ _ (fun _ => ⟨rb, w3.heap.size, rfl, Nat.le_trans hG.size k2, Nat.le_refl _, k1⟩) (hG.trans (k3.mono hG.size)) (VY_next (by decide) (by decide))
    · intro a w' hG hout hpre K hK
      obtain ⟨p0, _⟩ := hpre
      obtain ⟨rb, base, hv, k1, k2, k3⟩ := (show (2 = 2) → (∃ rb base, a.eval (.tmp 45) = .pointer (some ⟨rb, 0, none⟩) ∧ W0.heap.size ≤ rb ∧ base ≤ w'.heap.size ∧ RdAt base w' rb ⟨bW, 0⟩) from p0) rfl
      have q := ev_of hv
      have HS : Hid (Calls Tryd.prog 31 #[.pointer (some ⟨rb, 0, none⟩)] w' (RdEnd base w' rb ⟨[], 0⟩ VW)) := by
        have h := wget_any w' base rb ⟨bW, 0⟩ k3 k2
        rw [wS_get] at h
        rw [HV.out.1]
        exact Lib.hid h
      have k4 := Lib.hid k1
      clear hout p0 hv k1 k2 k3
      go_step
      refine HS.out.mono ?_
      rintro e w3 ⟨rfl, _, k5⟩
      exact hK _ _ rfl (hG.trans ⟨k5.os, k5.tape, k5.output, k5.size, fun j hj => k5.block j (by have := hG.size; omega) (by have := k4.out; simp; omega)⟩) (VY_next (by decide) (by decide))
    · intro k a w' hG hout hpre K hK
      have q3 := ev_of ((hout 3 rfl).trans (show _ = .pointer (some ⟨b3, 0, none⟩) from rfl))
      obtain ⟨d0, d1, d2⟩ := (HR.out w' hG).2.1.d3
      clear hout hpre
      go_step
      exact hK _ _ HV.out.1.symm hG (Below.refl _ _)
    · intro k a w' hG hout hpre K hK
      obtain ⟨p0, p1, _⟩ := hpre
      have q46 := ev_of (show a.eval (.tmp 46) = VW from p0)
      have q47 := ev_of (show a.eval (.tmp 47) = VW from p1)
      have he := HV.out.2.2.2.1
      have hgd := HV.out.2.2.2.2
      clear hout p0 p1
      go_step
      exact hK _ _ rfl hG (Below.refl _ _)
    · intro k a w' hG hout hpre K hK
      obtain ⟨p0, p1, _⟩ := hpre
      have q42 := ev_of (show a.eval (.tmp 42) = .bool true from p0)
      have q48 := ev_of (show a.eval (.tmp 48) = .bool true from p1)
      clear hout p0 p1
      go_step
      exact hK _ _ rfl hG (Below.refl _ _)
    · intro k a w' hG hout hpre K hK
      obtain ⟨p0, _⟩ := hpre
      have q49 := ev_of (show a.eval (.tmp 49) = .bool true from p0)
      clear hout p0
      go_step
      exact hK _ _ rfl hG (Below.refl _ _)
    · intro k a w' hG hout hpre K hK
      have q3 := ev_of ((hout 3 rfl).trans (show _ = .pointer (some ⟨b3, 0, none⟩) from rfl))
      obtain ⟨d0, d1, d2⟩ := (HR.out w' hG).2.1.d3
      clear hout hpre
      go_step
      exact hK _ _ HV.out.1.symm hG (Below.refl _ _)
    · intro k a w' hG hout hpre K hK
      obtain ⟨p0, _⟩ := hpre
      have q51 := ev_of (show a.eval (.tmp 51) = VW from p0)
      have HS := Lib.hid (HCl.out.1 w')
      clear hout p0
      go_step
      refine HS.out.mono ?_
      rintro e w3 ⟨rfl, hB⟩
      exact hK _ _ rfl (hG.trans (hB.mono hG.size)) hB
    · intro k a w' hG hout hpre K hK
      obtain ⟨p0, p1, _⟩ := hpre
      have q50 := ev_of (show a.eval (.tmp 50) = .bool true from p0)
      have q52 := ev_of (show a.eval (.tmp 52) = .bool true from p1)
      clear hout p0 p1
      go_step
      exact hK _ _ rfl hG (Below.refl _ _)
    · intro k a w' hG hout hpre K hK
      obtain ⟨p0, _⟩ := hpre
      have q53 := ev_of (show a.eval (.tmp 53) = .bool true from p0)
      clear hout p0
      go_step
      exact hK _ _ rfl hG (Below.refl _ _)
    · intro k a w' hG hout hpre K hK
      have q1 := ev_of ((hout 1 rfl).trans (show _ = .pointer (some ⟨b1, 0, none⟩) from rfl))
      obtain ⟨d0, d1, d2, d3, d4, d5⟩ := (HR.out w' hG).1.d6
      clear hout hpre
      go_step
      exact hK _ _ HV.out.2.1.symm hG (Below.refl _ _)
    · intro k a w' hG hout hpre K hK
      have q3 := ev_of ((hout 3 rfl).trans (show _ = .pointer (some ⟨b3, 0, none⟩) from rfl))
      obtain ⟨d0, d1, d2⟩ := (HR.out w' hG).2.1.d3
      clear hout hpre
      go_step
      exact hK _ _ HV.out.1.symm hG (Below.refl _ _)
    · intro k a w' hG hout hpre K hK
      obtain ⟨p0, p1, _⟩ := hpre
      have q55 := ev_of (show a.eval (.tmp 55) = VQ from p0)
      have q56 := ev_of (show a.eval (.tmp 56) = VW from p1)
      have HS := Lib.hid (HCl.out.2.1 w')
      clear hout p0 p1
      go_step
      refine HS.out.mono ?_
      rintro e w3 ⟨rfl, hB⟩
      exact hK _ _ rfl (hG.trans (hB.mono hG.size)) hB
    · intro k a w' hG hout hpre K hK
      obtain ⟨p0, _⟩ := hpre
      have q57 := ev_of (show a.eval (.tmp 57) = .bool false from p0)
      clear hout p0
      go_step
      exact hK _ _ rfl hG (Below.refl _ _)
    · intro k a w' hG hout hpre K hK
      obtain ⟨p0, p1, _⟩ := hpre
      have q54 := ev_of (show a.eval (.tmp 54) = .bool true from p0)
      have q58 := ev_of (show a.eval (.tmp 58) = .bool true from p1)
      clear hout p0 p1
      go_step
      exact hK _ _ rfl hG (Below.refl _ _)
    · intro k a w' hG hout hpre K hK
      obtain ⟨p0, _⟩ := hpre
      have q59 := ev_of (show a.eval (.tmp 59) = .bool true from p0)
      clear hout p0
      go_step
      exact hK _ _ rfl hG (Below.refl _ _)
    · intro k a w' hG hout hpre K hK
      have q1 := ev_of ((hout 1 rfl).trans (show _ = .pointer (some ⟨b1, 0, none⟩) from rfl))
      obtain ⟨d0, d1, d2, d3, d4, d5⟩ := (HR.out w' hG).1.d6
      clear hout hpre
      go_step
      exact hK _ _ HV.out.2.1.symm hG (Below.refl _ _)
    · intro k a w' hG hout hpre K hK
      have q3 := ev_of ((hout 3 rfl).trans (show _ = .pointer (some ⟨b3, 0, none⟩) from rfl))
      obtain ⟨d0, d1, d2⟩ := (HR.out w' hG).2.1.d3
      clear hout hpre
      go_step
      exact hK _ _ HV.out.1.symm hG (Below.refl _ _)
    · intro k a w' hG hout hpre K hK
      obtain ⟨p0, p1, _⟩ := hpre
      have q61 := ev_of (show a.eval (.tmp 61) = VQ from p0)
      have q62 := ev_of (show a.eval (.tmp 62) = VW from p1)
      have HS := Lib.hid (HCl.out.2.2.1 w')
      clear hout p0 p1
      go_step
      refine HS.out.mono ?_
      rintro e w3 ⟨rfl, hB⟩
      exact hK _ _ rfl (hG.trans (hB.mono hG.size)) hB
    · intro k a w' hG hout hpre K hK
      obtain ⟨p0, p1, _⟩ := hpre
      have q60 := ev_of (show a.eval (.tmp 60) = .bool true from p0)
      have q63 := ev_of (show a.eval (.tmp 63) = .bool true from p1)
      clear hout p0 p1
      go_step
      exact hK _ _ rfl hG (Below.refl _ _)
    · intro k a w' hG hout hpre K hK
      obtain ⟨p0, _⟩ := hpre
      have q64 := ev_of (show a.eval (.tmp 64) = .bool true from p0)
      clear hout p0
      go_step
      exact hK _ _ rfl hG (Below.refl _ _)
    · intro k a w' hG hout hpre K hK
      have q3 := ev_of ((hout 3 rfl).trans (show _ = .pointer (some ⟨b3, 0, none⟩) from rfl))
      obtain ⟨d0, d1, d2⟩ := (HR.out w' hG).2.1.d3
      clear hout hpre
      go_step
      exact hK _ _ HV.out.1.symm hG (Below.refl _ _)
    · intro k a w' hG hout hpre K hK
      obtain ⟨p0, _⟩ := hpre
      have q66 := ev_of (show a.eval (.tmp 66) = VW from p0)
      have HS := Lib.hid (HCl.out.2.2.2.1 w')
      clear hout p0
      go_step
      refine HS.out.mono ?_
      rintro e w3 ⟨rfl, hB⟩
      exact hK _ _ rfl (hG.trans (hB.mono hG.size)) hB
    · intro k a w' hG hout hpre K hK
      obtain ⟨p0, p1, _⟩ := hpre
      have q65 := ev_of (show a.eval (.tmp 65) = .bool true from p0)
      have q67 := ev_of (show a.eval (.tmp 67) = .bool true from p1)
      clear hout p0 p1
      go_step
      exact hK _ _ rfl hG (Below.refl _ _)
    · intro k a w' hG hout hpre K hK
      obtain ⟨p0, _⟩ := hpre
      have q68 := ev_of (show a.eval (.tmp 68) = .bool true from p0)
      clear hout p0
      go_step
      exact hK _ _ rfl hG (Below.refl _ _)
    · intro k a w' hG hout hpre K hK
      have q3 := ev_of ((hout 3 rfl).trans (show _ = .pointer (some ⟨b3, 0, none⟩) from rfl))
      obtain ⟨d0, d1, d2⟩ := (HR.out w' hG).2.1.d3
      clear hout hpre
      go_step
      exact hK _ _ HV.out.1.symm hG (Below.refl _ _)
    · intro k a w' hG hout hpre K hK
      obtain ⟨p0, _⟩ := hpre
      have q70 := ev_of (show a.eval (.tmp 70) = VW from p0)
      have HS := Lib.hid (HCl.out.2.2.2.2.1 w')
      clear hout p0
      go_step
      refine HS.out.mono ?_
      rintro e w3 ⟨rfl, hB⟩
      exact hK _ _ rfl (hG.trans (hB.mono hG.size)) hB
    · intro k a w' hG hout hpre K hK
      obtain ⟨p0, _⟩ := hpre
      have q71 := ev_of (show a.eval (.tmp 71) = .bool false from p0)
      clear hout p0
      go_step
      exact hK _ _ rfl hG (Below.refl _ _)
    · intro k a w' hG hout hpre K hK
      obtain ⟨p0, p1, _⟩ := hpre
      have q69 := ev_of (show a.eval (.tmp 69) = .bool true from p0)
      have q72 := ev_of (show a.eval (.tmp 72) = .bool true from p1)
      clear hout p0 p1
      go_step
      exact hK _ _ rfl hG (Below.refl _ _)
    · intro k a w' hG hout hpre K hK
      obtain ⟨p0, _⟩ := hpre
      have q73 := ev_of (show a.eval (.tmp 73) = .bool true from p0)
      clear hout p0
      go_step
      exact hK _ _ rfl hG (Below.refl _ _)
    · intro k a w' hG hout hpre K hK
      have q3 := ev_of ((hout 3 rfl).trans (show _ = .pointer (some ⟨b3, 0, none⟩) from rfl))
      obtain ⟨d0, d1, d2⟩ := (HR.out w' hG).2.1.d3
      clear hout hpre
      go_step
      exact hK _ _ HV.out.1.symm hG (Below.refl _ _)
    · intro k a w' hG hout hpre K hK
      have q2 := ev_of ((hout 2 rfl).trans (show _ = .slice (some ⟨lb, lo, none⟩) 2 lc from rfl))
      clear hout hpre
      go_step
      exact hK _ _ rfl hG (Below.refl _ _)
    · intro k a w' hG hout hpre K hK
      obtain ⟨p0, _⟩ := hpre
      have q76 := ev_of (show a.eval (.tmp 76) = .slice (some ⟨lb, lo, none⟩) 2 lc from p0)
      clear hout p0
      go_step
      exact hK _ _ rfl hG (Below.refl _ _)
    · intro k a w' hG hout hpre K hK
      obtain ⟨p0, _⟩ := hpre
      have q77 := ev_of (show a.eval (.tmp 77) = .pointer (some ⟨lb, lo + 3, none⟩) from p0)
      obtain ⟨d0, d1, d2⟩ := (HR.out w' hG).2.2.2.2
      clear hout p0
      go_step
      exact hK _ _ HV.out.2.2.1.symm hG (Below.refl _ _)
    · intro k a w' hG hout hpre K hK
      obtain ⟨p0, p1, _⟩ := hpre
      have q75 := ev_of (show a.eval (.tmp 75) = VW from p0)
      have q78 := ev_of (show a.eval (.tmp 78) = VX from p1)
      have HS := Lib.hid (HCl.out.2.2.2.2.2.1 w')
      clear hout p0 p1
      go_step
      refine HS.out.mono ?_
      rintro e w3 ⟨rfl, hB⟩
      exact hK _ _ rfl (hG.trans (hB.mono hG.size)) hB
    · intro k a w' hG hout hpre K hK
      obtain ⟨p0, _⟩ := hpre
      have q79 := ev_of (show a.eval (.tmp 79) = .int .i64 (-1) from p0)
      clear hout p0
      go_step
      exact hK _ _ rfl hG (Below.refl _ _)
    · intro k a w' hG hout hpre K hK
      obtain ⟨p0, p1, _⟩ := hpre
      have q74 := ev_of (show a.eval (.tmp 74) = .bool true from p0)
      have q80 := ev_of (show a.eval (.tmp 80) = .bool true from p1)
      clear hout p0 p1
      go_step
      exact hK _ _ rfl hG (Below.refl _ _)
    · intro k a w' hG hout hpre K hK
      obtain ⟨p0, _⟩ := hpre
      have q81 := ev_of (show a.eval (.tmp 81) = .bool true from p0)
      clear hout p0
      go_step
      exact hK _ _ rfl hG (Below.refl _ _)
    · intro k a w' hG hout hpre K hK
      have q3 := ev_of ((hout 3 rfl).trans (show _ = .pointer (some ⟨b3, 0, none⟩) from rfl))
      obtain ⟨d0, d1, d2⟩ := (HR.out w' hG).2.1.d3
      clear hout hpre
      go_step
      exact hK _ _ HV.out.1.symm hG (Below.refl _ _)
    · intro k a w' hG hout hpre K hK
      have q2 := ev_of ((hout 2 rfl).trans (show _ = .slice (some ⟨lb, lo, none⟩) 2 lc from rfl))
      clear hout hpre
      go_step
      exact hK _ _ rfl hG (Below.refl _ _)
    · intro k a w' hG hout hpre K hK
      obtain ⟨p0, _⟩ := hpre
      have q84 := ev_of (show a.eval (.tmp 84) = .slice (some ⟨lb, lo, none⟩) 2 lc from p0)
      clear hout p0
      go_step
      exact hK _ _ rfl hG (Below.refl _ _)
    · intro k a w' hG hout hpre K hK
      obtain ⟨p0, _⟩ := hpre
      have q85 := ev_of (show a.eval (.tmp 85) = .pointer (some ⟨lb, lo + 3, none⟩) from p0)
      obtain ⟨d0, d1, d2⟩ := (HR.out w' hG).2.2.2.2
      clear hout p0
      go_step
      exact hK _ _ HV.out.2.2.1.symm hG (Below.refl _ _)
    · intro k a w' hG hout hpre K hK
      obtain ⟨p0, p1, _⟩ := hpre
      have q83 := ev_of (show a.eval (.tmp 83) = VW from p0)
      have q86 := ev_of (show a.eval (.tmp 86) = VX from p1)
      have HS := Lib.hid (HCl.out.2.2.2.2.2.2.1 w')
      clear hout p0 p1
      go_step
      refine HS.out.mono ?_
      rintro e w3 ⟨rfl, hB⟩
      exact hK _ _ rfl (hG.trans (hB.mono hG.size)) hB
    · intro k a w' hG hout hpre K hK
      obtain ⟨p0, _⟩ := hpre
      have q87 := ev_of (show a.eval (.tmp 87) = .int .i64 (-1) from p0)
      clear hout p0
      go_step
      exact hK _ _ rfl hG (Below.refl _ _)
    · intro k a w' hG hout hpre K hK
      obtain ⟨p0, p1, _⟩ := hpre
      have q82 := ev_of (show a.eval (.tmp 82) = .bool true from p0)
      have q88 := ev_of (show a.eval (.tmp 88) = .bool true from p1)
      clear hout p0 p1
      go_step
      exact hK _ _ rfl hG (Below.refl _ _)
    · intro k a w' hG hout hpre K hK
      obtain ⟨p0, _⟩ := hpre
      have q89 := ev_of (show a.eval (.tmp 89) = .bool true from p0)
      clear hout p0
      go_step
      exact hK _ _ rfl hG (Below.refl _ _)
    · intro k a w' hG hout hpre K hK
      have q3 := ev_of ((hout 3 rfl).trans (show _ = .pointer (some ⟨b3, 0, none⟩) from rfl))
      obtain ⟨d0, d1, d2⟩ := (HR.out w' hG).2.1.d3
      clear hout hpre
      go_step
      exact hK _ _ HV.out.1.symm hG (Below.refl _ _)
    · intro k a w' hG hout hpre K hK
      obtain ⟨p0, _⟩ := hpre
      have q91 := ev_of (show a.eval (.tmp 91) = VW from p0)
      have HS := Lib.hid (HTx.out w' hG)
      clear hout p0
      go_step
      refine HS.out.mono ?_
      rintro e w3 ⟨rfl, hB⟩
      exact hK _ _ rfl (hG.trans (hB.mono hG.size)) hB
    · intro k a w' hG hout hpre K hK
      obtain ⟨p0, _⟩ := hpre
      have q92 := ev_of (show a.eval (.tmp 92) = Sv sW from p0)
      have he := HEq.out
      clear hout p0
      go_step
      exact hK _ _ rfl hG (Below.refl _ _)
    · intro k a w' hG hout hpre K hK
      obtain ⟨p0, p1, _⟩ := hpre
      have q90 := ev_of (show a.eval (.tmp 90) = .bool true from p0)
      have q93 := ev_of (show a.eval (.tmp 93) = .bool true from p1)
      clear hout p0 p1
      go_step
      exact hK _ _ rfl hG (Below.refl _ _)
    · intro k a w' hG hout hpre K hK
      obtain ⟨p0, _⟩ := hpre
      have q94 := ev_of (show a.eval (.tmp 94) = .bool true from p0)
      clear hout p0
      go_step
      exact hK _ _ rfl hG (Below.refl _ _)
    · intro k a w' hG hout hpre K hK
      have q3 := ev_of ((hout 3 rfl).trans (show _ = .pointer (some ⟨b3, 0, none⟩) from rfl))
      obtain ⟨d0, d1, d2⟩ := (HR.out w' hG).2.1.d3
      clear hout hpre
      go_step
      exact hK _ _ HV.out.1.symm hG (Below.refl _ _)
    · intro k a w' hG hout hpre K hK
      obtain ⟨p0, _⟩ := hpre
      have q96 := ev_of (show a.eval (.tmp 96) = VW from p0)
      have HS := Lib.hid (HCl.out.2.2.2.2.2.2.2 w')
      clear hout p0
      go_step
      refine HS.out.mono ?_
      rintro e w3 ⟨rfl, hB⟩
      exact hK _ _ rfl (hG.trans (hB.mono hG.size)) hB
    · intro k a w' hG hout hpre K hK
      obtain ⟨p0, p1, _⟩ := hpre
      have q95 := ev_of (show a.eval (.tmp 95) = .bool true from p0)
      have q97 := ev_of (show a.eval (.tmp 97) = .bool true from p1)
      clear hout p0 p1
      go_step
      exact hK _ _ rfl hG (Below.refl _ _)
    · intro k a w' hG hout hpre K hK
      obtain ⟨p0, _⟩ := hpre
      have q98 := ev_of (show a.eval (.tmp 98) = .bool true from p0)
      clear hout p0
      go_step
      exact hK _ _ rfl hG (Below.refl _ _)
  · intro vs w2 hG hlen hV
    match vs, hlen, hV with
    | v0 :: v1 :: v2 :: v3 :: v4 :: v5 :: v6 :: v7 :: v8 :: v9 :: v10 :: v11 :: v12 :: v13 :: v14 :: v15 :: v16 :: v17 :: v18 :: v19 :: v20 :: v21 :: v22 :: v23 :: v24 :: v25 :: v26 :: v27 :: v28 :: v29 :: v30 :: v31 :: v32 :: v33 :: v34 :: v35 :: v36 :: v37 :: v38 :: v39 :: v40 :: v41 :: v42 :: v43 :: v44 :: v45 :: v46 :: v47 :: v48 :: v49 :: v50 :: v51 :: v52 :: v53 :: v54 :: v55 :: v56 :: v57 :: v58 :: v59 :: v60 :: v61 :: v62 :: v63 :: v64 :: v65 :: v66 :: v67 :: v68 :: v69 :: v70 :: v71 :: v72 :: v73 :: v74 :: v75 :: v76 :: v77 :: v78 :: v79 :: v80 :: [], _, hV =>
      obtain rfl : v80 = .bool true := (hV 80 0 v80 rfl rfl)
      clear hV
      simp only [putsL, List.append_eq, List.cons_append, List.nil_append, List.tail_cons, List.headD_cons]
      simp only [Act.put, List.setIfInBounds_toArray, List.set_cons_succ, List.set_cons_zero]
      have HZ : Hid (Below w.heap.size w w2) := HW.out.trans (hG.mono HW.out.size)
      clear hG
      go_wp2_with (fail)
      go_ret
      exact ⟨rfl, HZ.out⟩
end Go.Proofs.YtkgmcjeficgciaaDoor
