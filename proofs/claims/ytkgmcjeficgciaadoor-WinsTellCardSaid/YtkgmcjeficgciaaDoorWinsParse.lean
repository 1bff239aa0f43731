/-
  The contract of package wins's Parse.
-/
import Derived.Test.YtkgmcjeficgciaaDoorWinsCut
import Derived.Test.YtkgmcjeficgciaaDoorWinsText
namespace Go.Proofs.YtkgmcjeficgciaaDoor
open Go Go.RowKit

def PX (w : World) (xb : Nat) (x : WindowL) (w' : World) : Prop :=
  Below w.heap.size w w' ∧ w'.heap[w.heap.size]? = some (.cells zeroW.cells 31 (0, 0)) ∧ w'.heap[xb]? = some (.cells x.cells 31 (0, 0)) ∧ w.heap.size < xb
theorem PX.below {w w' w3 : World} {xb : Nat} {x : WindowL} (h : PX w xb x w') (hB : Below w'.heap.size w' w3) : PX w xb x w3 :=
  ⟨h.1.trans (hB.mono h.1.size), (hB.block _ (Array.getElem?_eq_some_iff.1 h.2.1).1).trans h.2.1, (hB.block _ (Array.getElem?_eq_some_iff.1 h.2.2.1).1).trans h.2.2.1, h.2.2.2⟩
theorem PX.cell {w w' : World} {xb : Nat} {x : WindowL} (h : PX w xb x w') (i : Nat) {v : Value} (hi : x.cells[i]? = some v) : w'.cell? ⟨xb, i, none⟩ = some v := by
  rw [cell_of_row _ _ _ _ _ _ h.2.2.1]
  exact hi
theorem PX.fro {w w' : World} {xb : Nat} {x : WindowL} (h : PX w xb x w') (i : Nat) : w'.frozen? ⟨xb, i, none⟩ = false := frozen_of_row _ _ _ _ _ h.2.2.1
theorem PX.set {w w' : World} {xb : Nat} {x y : WindowL} (h : PX w xb x w') (i : Nat) (v : Value) (hy : y.cells = x.cells.setIfInBounds i v) : PX w xb y (w'.setCell ⟨xb, i, none⟩ v) := by
  obtain ⟨h1, h2, h3, h4⟩ := h
  refine ⟨h1.trans ⟨rfl, rfl, rfl, by simp [World.setCell], fun k hk => heap_setCell_other _ _ _ _ (by show k ≠ xb; omega)⟩, (heap_setCell_other _ _ _ _ (by show w.heap.size ≠ xb; omega)).trans h2, ?_, h4⟩
  rw [hy]
  exact heap_setCell_same _ _ _ _ _ _ h3
theorem PX.fin {w w' : World} {xb : Nat} {x : WindowL} (h : PX w xb x w') (cs : Array Value) : Below w.heap.size w (w'.setRow w.heap.size cs) ∧ (w'.setRow w.heap.size cs).heap[w.heap.size]? = some (.cells cs 31 (0, 0)) :=
  ⟨h.1.trans ⟨rfl, rfl, rfl, by simp [World.setRow], fun k hk => setRow_other _ _ _ _ (by omega)⟩, setRow_heap _ _ _ _ _ _ h.2.1⟩
set_option maxRecDepth 100000 in
set_option maxHeartbeats 2000000 in
theorem wparseP_any (w : World) (s : List (BitVec 8)) (hl : s.length ≤ 900) (hI : PowTab w ∧ ErrsIn w ∧ MaxIn w) :
    Calls Tryd.prog 27 #[Sv s] w (Below0 w (.tuple #[.agg (parseW s).1.cells, .bool (parseW s).2])) := by
  obtain ⟨w0, hw0⟩ : ∃ W, W = w.alloc (.cells #[.string ⟨#[]⟩, .int .i64 0, .int .i64 0] 31) := ⟨_, rfl⟩
  have H0 : Hid (Below w.heap.size w w0 ∧ w0.heap[w.heap.size]? = some (.cells zeroW.cells 31 (0, 0))) := by
    rw [hw0]
    exact Lib.hid ⟨(Below.refl _ w).alloc (Nat.le_refl _) _, heap_alloc_new w _⟩
  have HC1 := Lib.hid (qcut_any w0 s (by omega) (hI.2.2.below H0.out.1))
  obtain ⟨P, hP⟩ : ∃ P, P = Below0 w (.tuple #[.agg (parseW s).1.cells, .bool (parseW s).2]) := ⟨_, rfl⟩
  rw [← hP]
  have HP := Lib.hid hP
  obtain ⟨x, hx⟩ : ∃ x, x = candW s := ⟨_, rfl⟩
  have HX : Hid (parseW s = if x.rightB = true ∧ x.text = s then (x, true) else (zeroW, false)) := by
    rw [hx]
    exact Lib.hid (cand_parse s)
  obtain ⟨times, htimes⟩ : ∃ x, x = (cutL s).2 := ⟨_, rfl⟩
  obtain ⟨fw, hfw⟩ : ∃ x, x = (cutD times).1 := ⟨_, rfl⟩
  obtain ⟨tw, htw⟩ : ∃ x, x = (cutD times).2 := ⟨_, rfl⟩
  obtain ⟨z1, hz1⟩ : ∃ x, x = cutB s := ⟨_, rfl⟩
  have hlen := cutL_len s
  have hd := cutD_len times
  rw [← htimes] at hlen
  rw [← hfw, ← htw] at hd
  have hkl : x.key.length ≤ 1000000 := by
    rw [hx]
    show (cutL s).1.length ≤ _
    omega
  have hxe : x = ⟨x.key, numL fw, numL tw⟩ := by rw [hx, hfw, htw, htimes]; rfl
  have hxk : (cutL s).1 = x.key := by rw [hx]; rfl
  have HC2 : Hid (∀ w', Below w.heap.size w w' → Calls Tryd.prog 50 #[Sv times, .string ⟨#[46, 46]⟩] w' fun e w2 => (∃ z, e = .returned (.tuple #[Sv fw, Sv tw, .bool z])) ∧ ∃ n, w2 = w'.drewN n) := by
    rw [hfw, htw]
    exact Lib.hid (fun w' hB => wcutD_any w' times (by omega) (hI.2.2.below hB))
  have HNu : Hid ((∀ w', Below w.heap.size w w' → Calls Tryd.prog 51 #[Sv fw] w' (Below0 w' (.int .i64 (numL fw)))) ∧ (∀ w', Below w.heap.size w w' → Calls Tryd.prog 51 #[Sv tw] w' (Below0 w' (.int .i64 (numL tw))))) :=
    Lib.hid ⟨fun w' hB => wnumber_any w' fw (by omega) (hI.2.1.below hB), fun w' hB => wnumber_any w' tw (by omega) (hI.2.1.below hB)⟩
  rw [hxk, ← htimes, ← hz1] at HC1
  obtain ⟨r, hr⟩ : ∃ r, r = x.rightB := ⟨_, rfl⟩
  have HRr : Hid (∀ w', Calls Tryd.prog 17 #[.agg x.cells] w' (Below0 w' (.bool r))) := by
    rw [hr]
    exact Lib.hid (fun w' => wright_any w' x hkl)
  have Hr := Lib.hid hr
  clear hr
  have HT : Hid (r = true → ∀ w', Below w.heap.size w w' → Calls Tryd.prog 18 #[.agg x.cells] w' (Below0 w' (Sv x.text))) :=
    Lib.hid (fun h w' hB => wtext_yes w' x (by rw [← Hr.out, h]) (hI.1.below hB))
  have HCl : Hid (∀ w', Calls Tryd.prog 52 #[Sv x.key] w' (Below0 w' (Sv x.key))) := Lib.hid (fun w' => wclone_any w' x.key hkl)
  obtain ⟨T, hT⟩ : ∃ T, T = x.text := ⟨_, rfl⟩
  rw [← hT] at HT
  have HTe := Lib.hid hT
  clear hT hlen hd hkl hxk hI hl hP hx htimes hfw htw hz1
  obtain ⟨key, lo, hi⟩ := x
  simp only [WindowL.mk.injEq, true_and] at hxe
  obtain ⟨rfl, rfl⟩ := hxe
  obtain ⟨lo, hlo⟩ : ∃ n, n = numL fw := ⟨_, rfl⟩
  obtain ⟨hi, hhi⟩ : ∃ n, n = numL tw := ⟨_, rfl⟩
  rw [← hlo, ← hhi] at HNu HX Hr HRr HT HTe
  clear hlo hhi
  unfold WindowL.cells at HRr HT
  simp only at HCl HC1
  go_enter Tryd.func27, Tryd.ntmps27
  go_upto_region 1 with (fail)
  rw [← hw0]
  clear hw0
  go_wp2_with (fail)
  refine HC1.out.mono ?_
  rintro e w1 ⟨rfl, n, rfl⟩
  have HA1 : Hid (Below w0.heap.size w0 (w0.drewN n)) := ⟨rfl, rfl, rfl, Nat.le_refl _, fun _ _ => rfl⟩
  obtain ⟨wa, hwa⟩ : ∃ W, W = w0.drewN n := ⟨_, rfl⟩
  rw [← hwa] at HA1 ⊢
  clear hwa
  have HB1 : Hid (Below w.heap.size w wa) := Lib.hid (H0.out.1.trans (HA1.out.mono H0.out.1.size))
  dsimp only
  go_wp2_with (fail)
  refine (HC2.out wa HB1.out).mono ?_
  rintro e w1 ⟨⟨z2, rfl⟩, n2, rfl⟩
  have HA2 : Hid (Below wa.heap.size wa (wa.drewN n2)) := ⟨rfl, rfl, rfl, Nat.le_refl _, fun _ _ => rfl⟩
  obtain ⟨wb, hwb⟩ : ∃ W, W = wa.drewN n2 := ⟨_, rfl⟩
  rw [← hwb] at HA2 ⊢
  clear hwb
  have HB2 : Hid (Below w.heap.size w wb) := Lib.hid (HB1.out.trans (HA2.out.mono HB1.out.size))
  dsimp only
  go_wp2_with (fail)
  refine (HNu.out.1 wb HB2.out).mono ?_
  rintro e wc ⟨rfl, hB⟩
  have HB3 : Hid (Below w.heap.size w wc) := Lib.hid (HB2.out.trans (hB.mono HB2.out.size))
  have HA3 := Lib.hid hB
  clear hB
  dsimp only
  iterate 6 go_step
  refine (HNu.out.2 wc HB3.out).mono ?_
  rintro e w2 ⟨rfl, hB2⟩
  obtain ⟨xb, hxb⟩ : ∃ x, x = w2.heap.size := ⟨_, rfl⟩
  have H2 : Hid (Below w.heap.size w w2 ∧ w2.heap[w.heap.size]? = some (.cells zeroW.cells 31 (0, 0)) ∧ w.heap.size < w2.heap.size) := by
    have r1 := (HA1.out.block _ (Array.getElem?_eq_some_iff.1 H0.out.2).1).trans H0.out.2
    have r2 := (HA2.out.block _ (Array.getElem?_eq_some_iff.1 r1).1).trans r1
    have r3 := (HA3.out.block _ (Array.getElem?_eq_some_iff.1 r2).1).trans r2
    have r4 := (hB2.block _ (Array.getElem?_eq_some_iff.1 r3).1).trans r3
    exact Lib.hid ⟨HB3.out.trans (hB2.mono HB3.out.size), r4, (Array.getElem?_eq_some_iff.1 r4).1⟩
  clear hB2
  dsimp only
  have hbuilt := built_window key lo hi
  iterate 1 go_step
  refine wpList_build_on rfl _ _ rfl (WindowL.mk key lo hi).cells (by simp only [List.map_toArray, List.map_cons, List.map_nil]; exact hbuilt) ?_
  clear hbuilt
  iterate 3 go_step
  refine wpList_store_row rfl _ _ _ rfl w2.heap.size (WindowL.mk key lo hi).cells rfl rfl 31 zeroW.cells (heap_alloc_new w2 _) window_size rfl (window_one _) ?_
  obtain ⟨w3, hw3⟩ : ∃ W, W = (w2.alloc (Obj.cells #[.string ⟨#[]⟩, .int .i64 0, .int .i64 0] 31)).setRow w2.heap.size (WindowL.mk key lo hi).cells := ⟨_, rfl⟩
  rw [← hw3]
  have S3 : Hid (PX w xb (WindowL.mk key lo hi) w3) := by
    have ha : Below w2.heap.size w2 (w2.alloc (Obj.cells #[.string ⟨#[]⟩, .int .i64 0, .int .i64 0] 31)) := (Below.refl _ w2).alloc (Nat.le_refl _) _
    have hb2 : Below w2.heap.size w2 w3 := by
      rw [hw3]
      exact ha.trans ⟨rfl, rfl, rfl, by simp [World.setRow], fun i hi => setRow_other _ _ _ _ (by omega)⟩
    have h2 := H2.out
    refine Lib.hid ⟨h2.1.trans (hb2.mono h2.1.size), (hb2.block _ h2.2.2).trans h2.2.1, ?_, by omega⟩
    rw [hw3, hxb]
    exact setRow_heap _ _ _ _ _ _ (heap_alloc_new w2 _)
  rw [← hxb]
  clear hw3 hxb
  have d0 : w3.cell? ⟨xb, 0, none⟩ = _ := S3.out.cell 0 rfl
  have d1 : w3.cell? ⟨xb, 1, none⟩ = _ := S3.out.cell 1 rfl
  have d2 : w3.cell? ⟨xb, 2, none⟩ = _ := S3.out.cell 2 rfl
  cases r with
  | false =>
    go_wp2_with (fail)
    refine (HRr.out _).mono ?_
    rintro e w4 ⟨rfl, hB⟩
    have S4 := Lib.hid (S3.out.below hB)
    clear hB d0 d1 d2
    have HF : Hid (∀ wz, Below w.heap.size w wz → P (.returned (.tuple #[.agg zeroW.cells, .bool false])) wz) := by
      refine Lib.hid (fun wz h => ?_)
      rw [HP.out, HX.out, if_neg (by rw [← Hr.out]; simp)]
      exact ⟨rfl, h⟩
    dsimp only
    go_upto_region 5 with (fail)
    refine wp_region_lit ?_
    first
      | (iterate 1 go_step
         refine wpList_store_row rfl _ _ _ rfl w.heap.size (zeroW).cells rfl rfl 31 zeroW.cells S4.out.2.1 window_size rfl (window_one _) ?_)
      | (iterate 2 go_step
         refine wpList_store_row rfl _ _ _ rfl w.heap.size (zeroW).cells rfl rfl 31 zeroW.cells S4.out.2.1 window_size rfl (window_one _) ?_)
      | (iterate 3 go_step
         refine wpList_store_row rfl _ _ _ rfl w.heap.size (zeroW).cells rfl rfl 31 zeroW.cells S4.out.2.1 window_size rfl (window_one _) ?_)
      | (iterate 4 go_step
         refine wpList_store_row rfl _ _ _ rfl w.heap.size (zeroW).cells rfl rfl 31 zeroW.cells S4.out.2.1 window_size rfl (window_one _) ?_)
      | (iterate 5 go_step
         refine wpList_store_row rfl _ _ _ rfl w.heap.size (zeroW).cells rfl rfl 31 zeroW.cells S4.out.2.1 window_size rfl (window_one _) ?_)
      | (iterate 6 go_step
         refine wpList_store_row rfl _ _ _ rfl w.heap.size (zeroW).cells rfl rfl 31 zeroW.cells S4.out.2.1 window_size rfl (window_one _) ?_)
      | (iterate 7 go_step
         refine wpList_store_row rfl _ _ _ rfl w.heap.size (zeroW).cells rfl rfl 31 zeroW.cells S4.out.2.1 window_size rfl (window_one _) ?_)
      | (iterate 8 go_step
         refine wpList_store_row rfl _ _ _ rfl w.heap.size (zeroW).cells rfl rfl 31 zeroW.cells S4.out.2.1 window_size rfl (window_one _) ?_)
    have HZ := Lib.hid (S4.out.fin (zeroW).cells)
    obtain ⟨wz, hwz⟩ : ∃ W, W = w4.setRow w.heap.size (zeroW).cells := ⟨_, rfl⟩
    rw [← hwz] at HZ ⊢
    clear hwz
    go_wp2_with (fail)
    exact bodyPost_ret (v := .tuple #[.agg (zeroW).cells, .bool false]) ((results_cell_row_tmp (p := 2) (u := 3) (ty := 31) rfl _ _ w.heap.size 31 (zeroW).cells (0, 0) _ rfl HZ.out.2 Tryd.underlying31 rfl window_size).trans rfl) rfl (HF.out _ HZ.out.1)
  | true =>
    go_wp2_with (fail)
    refine (HRr.out _).mono ?_
    rintro e w4 ⟨rfl, hB⟩
    have S4 := Lib.hid (S3.out.below hB)
    clear hB d0 d1 d2
    have d0 : w4.cell? ⟨xb, 0, none⟩ = _ := S4.out.cell 0 rfl
    have d1 : w4.cell? ⟨xb, 1, none⟩ = _ := S4.out.cell 1 rfl
    have d2 : w4.cell? ⟨xb, 2, none⟩ = _ := S4.out.cell 2 rfl
    obtain ⟨q, hq⟩ : ∃ q, q = decide (T = s) := ⟨_, rfl⟩
    have hne : ∀ w, (binOp .neq 9 (Sv T) (Sv s)).run Tryd.prog w = .ok (.bool (!q)) w := fun w => by rw [hq]; exact run_neq_Sv w T s
    have Hq := Lib.hid hq
    clear hq
    cases q with
    | false =>
      have HF : Hid (∀ wz, Below w.heap.size w wz → P (.returned (.tuple #[.agg zeroW.cells, .bool false])) wz) := by
        refine Lib.hid (fun wz h => ?_)
        have hTs : ¬ T = s := of_decide_eq_false Hq.out.symm
        rw [HP.out, HX.out, if_neg (fun h' => hTs (HTe.out.trans h'.2))]
        exact ⟨rfl, h⟩
      dsimp only
      go_wp2_with (fail)
      refine (HT.out (by trivial) _ S4.out.1).mono ?_
      rintro e w5 ⟨rfl, hB⟩
      have S5 := Lib.hid (S4.out.below hB)
      clear hB d0 d1 d2
      dsimp only
      go_upto_region 5 with (fail)
      refine wp_region_lit ?_
      first
        | (iterate 1 go_step
           refine wpList_store_row rfl _ _ _ rfl w.heap.size (zeroW).cells rfl rfl 31 zeroW.cells S5.out.2.1 window_size rfl (window_one _) ?_)
        | (iterate 2 go_step
           refine wpList_store_row rfl _ _ _ rfl w.heap.size (zeroW).cells rfl rfl 31 zeroW.cells S5.out.2.1 window_size rfl (window_one _) ?_)
        | (iterate 3 go_step
           refine wpList_store_row rfl _ _ _ rfl w.heap.size (zeroW).cells rfl rfl 31 zeroW.cells S5.out.2.1 window_size rfl (window_one _) ?_)
        | (iterate 4 go_step
           refine wpList_store_row rfl _ _ _ rfl w.heap.size (zeroW).cells rfl rfl 31 zeroW.cells S5.out.2.1 window_size rfl (window_one _) ?_)
        | (iterate 5 go_step
           refine wpList_store_row rfl _ _ _ rfl w.heap.size (zeroW).cells rfl rfl 31 zeroW.cells S5.out.2.1 window_size rfl (window_one _) ?_)
        | (iterate 6 go_step
           refine wpList_store_row rfl _ _ _ rfl w.heap.size (zeroW).cells rfl rfl 31 zeroW.cells S5.out.2.1 window_size rfl (window_one _) ?_)
        | (iterate 7 go_step
           refine wpList_store_row rfl _ _ _ rfl w.heap.size (zeroW).cells rfl rfl 31 zeroW.cells S5.out.2.1 window_size rfl (window_one _) ?_)
        | (iterate 8 go_step
           refine wpList_store_row rfl _ _ _ rfl w.heap.size (zeroW).cells rfl rfl 31 zeroW.cells S5.out.2.1 window_size rfl (window_one _) ?_)
      have HZ := Lib.hid (S5.out.fin (zeroW).cells)
      obtain ⟨wz, hwz⟩ : ∃ W, W = w5.setRow w.heap.size (zeroW).cells := ⟨_, rfl⟩
      rw [← hwz] at HZ ⊢
      clear hwz
      go_wp2_with (fail)
      exact bodyPost_ret (v := .tuple #[.agg (zeroW).cells, .bool false]) ((results_cell_row_tmp (p := 2) (u := 3) (ty := 31) rfl _ _ w.heap.size 31 (zeroW).cells (0, 0) _ rfl HZ.out.2 Tryd.underlying31 rfl window_size).trans rfl) rfl (HF.out _ HZ.out.1)
    | true =>
      have HF : Hid (∀ wz, Below w.heap.size w wz → P (.returned (.tuple #[.agg (WindowL.mk key lo hi).cells, .bool true])) wz) := by
        refine Lib.hid (fun wz h => ?_)
        have hTs : T = s := of_decide_eq_true Hq.out.symm
        rw [HP.out, HX.out, if_pos ⟨Hr.out.symm, HTe.out.symm.trans hTs⟩]
        exact ⟨rfl, h⟩
      dsimp only
      go_wp2_with (fail)
      refine (HT.out (by trivial) _ S4.out.1).mono ?_
      rintro e w5 ⟨rfl, hB⟩
      have S5 := Lib.hid (S4.out.below hB)
      clear hB d0 d1 d2
      have d0 : w5.cell? ⟨xb, 0, none⟩ = _ := S5.out.cell 0 rfl
      dsimp only
      go_wp2_with (fail)
      refine (HCl.out w5).mono ?_
      rintro e w6 ⟨rfl, hB⟩
      have S6 := Lib.hid (S5.out.below hB)
      clear hB d0
      have f1 := S6.out.fro 0
      have g1 : w6.cell? ⟨xb, 0, none⟩ = _ := S6.out.cell 0 rfl
      have hst : (storeCells ⟨xb, 0, none⟩ [Sv key]).run Tryd.prog w6 = .ok () (w6.setCell ⟨xb, 0, none⟩ (Sv key)) := by
        rw [run_storeCells_Sv]
        simp [stored, f1, g1]
      dsimp only
      go_wp2_with (fail)
      rw [hst]
      clear hst f1 g1
      obtain ⟨w7, hw7⟩ : ∃ W, W = w6.setCell ⟨xb, 0, none⟩ (Sv key) := ⟨_, rfl⟩
      rw [← hw7]
      have S7 : Hid (PX w xb (WindowL.mk key lo hi) w7) := by rw [hw7]; exact Lib.hid (S6.out.set 0 (Sv key) rfl)
      clear hw7
      have d0 : w7.cell? ⟨xb, 0, none⟩ = _ := S7.out.cell 0 rfl
      have d1 : w7.cell? ⟨xb, 1, none⟩ = _ := S7.out.cell 1 rfl
      have d2 : w7.cell? ⟨xb, 2, none⟩ = _ := S7.out.cell 2 rfl
      go_upto_region 7 with (fail)
      refine wp_region_lit ?_
      first
        | (iterate 1 go_step
           refine wpList_store_row rfl _ _ _ rfl w.heap.size (WindowL.mk key lo hi).cells rfl rfl 31 zeroW.cells S7.out.2.1 window_size rfl (window_one _) ?_)
        | (iterate 2 go_step
           refine wpList_store_row rfl _ _ _ rfl w.heap.size (WindowL.mk key lo hi).cells rfl rfl 31 zeroW.cells S7.out.2.1 window_size rfl (window_one _) ?_)
        | (iterate 3 go_step
           refine wpList_store_row rfl _ _ _ rfl w.heap.size (WindowL.mk key lo hi).cells rfl rfl 31 zeroW.cells S7.out.2.1 window_size rfl (window_one _) ?_)
        | (iterate 4 go_step
           refine wpList_store_row rfl _ _ _ rfl w.heap.size (WindowL.mk key lo hi).cells rfl rfl 31 zeroW.cells S7.out.2.1 window_size rfl (window_one _) ?_)
        | (iterate 5 go_step
           refine wpList_store_row rfl _ _ _ rfl w.heap.size (WindowL.mk key lo hi).cells rfl rfl 31 zeroW.cells S7.out.2.1 window_size rfl (window_one _) ?_)
        | (iterate 6 go_step
           refine wpList_store_row rfl _ _ _ rfl w.heap.size (WindowL.mk key lo hi).cells rfl rfl 31 zeroW.cells S7.out.2.1 window_size rfl (window_one _) ?_)
        | (iterate 7 go_step
           refine wpList_store_row rfl _ _ _ rfl w.heap.size (WindowL.mk key lo hi).cells rfl rfl 31 zeroW.cells S7.out.2.1 window_size rfl (window_one _) ?_)
        | (iterate 8 go_step
           refine wpList_store_row rfl _ _ _ rfl w.heap.size (WindowL.mk key lo hi).cells rfl rfl 31 zeroW.cells S7.out.2.1 window_size rfl (window_one _) ?_)
      have HZ := Lib.hid (S7.out.fin (WindowL.mk key lo hi).cells)
      obtain ⟨wz, hwz⟩ : ∃ W, W = w7.setRow w.heap.size (WindowL.mk key lo hi).cells := ⟨_, rfl⟩
      rw [← hwz] at HZ ⊢
      clear hwz
      go_wp2_with (fail)
      exact bodyPost_ret (v := .tuple #[.agg (WindowL.mk key lo hi).cells, .bool true]) ((results_cell_row_tmp (p := 2) (u := 3) (ty := 31) rfl _ _ w.heap.size 31 (WindowL.mk key lo hi).cells (0, 0) _ rfl HZ.out.2 Tryd.underlying31 rfl window_size).trans rfl) rfl (HF.out _ HZ.out.1)
end Go.Proofs.YtkgmcjeficgciaaDoor
