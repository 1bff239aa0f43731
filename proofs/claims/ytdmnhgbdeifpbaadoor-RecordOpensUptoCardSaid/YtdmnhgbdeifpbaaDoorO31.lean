/-
  Part 31 of 42 of what the proof leans on.
-/
import Derived.Test.YtdmnhgbdeifpbaaDoorO12
import Derived.Test.YtdmnhgbdeifpbaaDoorO29
import Derived.Test.YtdmnhgbdeifpbaaDoorO7
namespace Go.Proofs.YtdmnhgbdeifpbaaDoor
open Go Go.RowKit
def GtSt (b xb : Nat) (w w' : World) (t : TapeL) (x : ItemL) : Prop :=
  TapeAt w' b t ∧ w.grownBy w' (some b) ∧ w'.heap[w.heap.size]? = some (.cells zeroI.cells 53 (0, 0)) ∧ w'.heap[xb]? = some (.cells x.cells 53 (0, 0)) ∧ w.heap.size < xb ∧ b < w.heap.size
theorem TapeAt.lt {w : World} {b : Nat} {t : TapeL} (h : TapeAt w b t) : b < w.heap.size := (Array.getElem?_eq_some_iff.1 h).1
theorem TapeAt.far {w w' : World} {b : Nat} {t : TapeL} (h : TapeAt w b t) (hB : Below w.heap.size w w') : TapeAt w' b t := (hB.block _ h.lt).trans h
theorem GtSt.cell {b xb : Nat} {w w' : World} {t : TapeL} {x : ItemL} (h : GtSt b xb w w' t x) (i : Nat) {v : Value} (hi : x.cells[i]? = some v) : w'.cell? ⟨xb, i, none⟩ = some v := by
  rw [cell_of_row _ _ _ _ _ _ h.2.2.2.1]; exact hi
theorem GtSt.fro {b xb : Nat} {w w' : World} {t : TapeL} {x : ItemL} (h : GtSt b xb w w' t x) (i : Nat) : w'.frozen? ⟨xb, i, none⟩ = false := frozen_of_row _ _ _ _ _ h.2.2.2.1
theorem GtSt.rd {b xb : Nat} {w w' w2 : World} {t t2 : TapeL} {x : ItemL} (h : GtSt b xb w w' t x) (hr : TapeAt w2 b t2) (hg : w'.grownBy w2 (some b)) : GtSt b xb w w2 t2 x := by
  obtain ⟨h1, h2, h3, h4, h5, h6⟩ := h
  exact ⟨hr, grown_trans h2 hg, (hg.block _ (Array.getElem?_eq_some_iff.1 h3).1 (by simp; omega)).trans h3, (hg.block _ (Array.getElem?_eq_some_iff.1 h4).1 (by simp; omega)).trans h4, h5, h6⟩
theorem GtSt.below {b xb : Nat} {w w' w2 : World} {t : TapeL} {x : ItemL} (h : GtSt b xb w w' t x) (hB : Below w'.heap.size w' w2) : GtSt b xb w w2 t x := h.rd (h.1.far hB) (below_gb hB)
theorem GtSt.set {b xb : Nat} {w w' : World} {t : TapeL} {x y : ItemL} (h : GtSt b xb w w' t x) (i : Nat) (v : Value) (hy : y.cells = x.cells.setIfInBounds i v) : GtSt b xb w (w'.setCell ⟨xb, i, none⟩ v) t y := by
  obtain ⟨h1, h2, h3, h4, h5, h6⟩ := h
  refine ⟨(heap_setCell_other _ _ _ _ (by show b ≠ xb; omega)).trans h1, ⟨h2.os, h2.tape, h2.output, by simpa [World.setCell] using h2.size, fun k hk hne => (heap_setCell_other _ _ _ _ (by show k ≠ xb; omega)).trans (h2.block k hk hne)⟩,
    (heap_setCell_other _ _ _ _ (by show w.heap.size ≠ xb; omega)).trans h3, ?_, h5, h6⟩
  rw [hy]; exact heap_setCell_same _ _ _ _ _ _ h4
theorem GtSt.fin {b xb : Nat} {w w' : World} {t : TapeL} {x : ItemL} (h : GtSt b xb w w' t x) (cs : Array Value) :
    (w'.setRow w.heap.size cs).heap[w.heap.size]? = some (.cells cs 53 (0, 0)) ∧ TapeAt (w'.setRow w.heap.size cs) b t ∧ w.grownBy (w'.setRow w.heap.size cs) (some b) := by
  obtain ⟨h1, h2, h3, h4, h5, h6⟩ := h
  exact ⟨setRow_heap _ _ _ _ _ _ h3, (setRow_other _ _ _ _ (by omega)).trans h1, ⟨h2.os, h2.tape, h2.output, by simpa [World.setRow] using h2.size, fun k hk hne => (setRow_other _ _ _ _ (by omega)).trans (h2.block k hk hne)⟩⟩
set_option maxRecDepth 100000 in
set_option maxHeartbeats 2000000 in
theorem erGet_any (w : World) (b : Nat) (t : TapeL) (h : TapeAt w b t) :
    Calls Tryd.prog 37 #[.pointer (some ⟨b, 0, none⟩)] w (TapeEnd w b t.item.2 (.agg t.item.1.cells)) := by
  have hbl := h.lt; obtain ⟨w0, hw0⟩ : ∃ W, W = w.alloc (.cells #[.int .i64 0, .string ⟨#[]⟩, .int .i64 0, .int .i64 0] 53) := ⟨_, rfl⟩
  have HB0 : Hid (Below w.heap.size w w0 ∧ w0.heap[w.heap.size]? = some (.cells zeroI.cells 53 (0, 0))) := by
    rw [hw0]; exact Lib.hid ⟨(Below.refl _ w).alloc (Nat.le_refl _) _, heap_alloc_new w _⟩
  have HN := Lib.hid (rtNumber_any w0 b t 9223372036854775807 (h.far HB0.out.1)); have HH := Lib.hid hbl; clear hbl h; obtain ⟨k, hk⟩ : ∃ k, k = (t.number 9223372036854775807).1 := ⟨_, rfl⟩; obtain ⟨t1, ht1⟩ : ∃ k, k = (t.number 9223372036854775807).2 := ⟨_, rfl⟩; rw [← hk, ← ht1] at HN; obtain ⟨P, hP⟩ : ∃ P, P = TapeEnd w b t.item.2 (.agg t.item.1.cells) := ⟨_, rfl⟩; rw [← hP]; have HP := Lib.hid hP; have HK := Lib.hid (And.intro hk ht1); clear hk ht1 hP
  go_enter Tryd.func37, Tryd.ntmps37
  go_upto_region 1 with (fail)
  rw [← hw0]; clear hw0; go_wp2_with (fail); refine HN.out.mono ?_; rintro e w1 ⟨rfl, h1, h2⟩; have H1 := Lib.hid (And.intro h1 h2); clear h1 h2; dsimp only
  iterate 7 go_step
  refine wpList_store_row rfl _ _ _ rfl w1.heap.size (ItemL.mk k [] 0 0).cells rfl rfl 53 zeroI.cells (heap_alloc_new w1 _) item_size rfl (item_one _) ?_; obtain ⟨xb, hxb⟩ : ∃ x, x = w1.heap.size := ⟨_, rfl⟩; obtain ⟨w2, hw2⟩ : ∃ W, W = (w1.alloc (Obj.cells #[.int .i64 0, .string ⟨#[]⟩, .int .i64 0, .int .i64 0] 53)).setRow w1.heap.size (ItemL.mk k [] 0 0).cells := ⟨_, rfl⟩; rw [← hw2, ← hxb]
  have S2 : Hid (GtSt b xb w w2 t1 ⟨k, [], 0, 0⟩) := by
    have g1 : w.grownBy w1 (some b) := grown_trans (below_gb HB0.out.1) H1.out.2; have hs0 : w.heap.size < w0.heap.size := (Array.getElem?_eq_some_iff.1 HB0.out.2).1; have hs1 : w0.heap.size ≤ w1.heap.size := H1.out.2.size; have hbl := HH.out; have ha : Below w1.heap.size w1 (w1.alloc (Obj.cells #[.int .i64 0, .string ⟨#[]⟩, .int .i64 0, .int .i64 0] 53)) := (Below.refl _ w1).alloc (Nat.le_refl _) _
    have hb2 : Below w1.heap.size w1 w2 := by
      rw [hw2]
      exact ha.trans ⟨rfl, rfl, rfl, by simp [World.setRow], fun i hi => setRow_other _ _ _ _ (by omega)⟩
    refine Lib.hid ⟨H1.out.1.far hb2, grown_trans g1 (below_gb hb2), (hb2.block _ (by omega)).trans ((H1.out.2.block _ hs0 (by simp; omega)).trans HB0.out.2), ?_, by omega, hbl⟩
    rw [hw2, hxb]; exact setRow_heap _ _ _ _ _ _ (heap_alloc_new w1 _)
  clear hw2 hxb; have d0 : w2.cell? ⟨xb, 0, none⟩ = some (.int .i64 k) := S2.out.cell 0 rfl
  by_cases k1 : k = 1
  · subst k1; go_wp2_with (fail); refine (rtText_any w2 b t1 16 S2.out.1).mono ?_; rintro e w3 ⟨rfl, h1, h2⟩; have S3 := Lib.hid (S2.out.rd h1 h2); obtain ⟨key, hkey⟩ : ∃ x, x = (t1.text 16).1 := ⟨_, rfl⟩; obtain ⟨t2, ht2⟩ : ∃ x, x = (t1.text 16).2 := ⟨_, rfl⟩; rw [← hkey]; rw [← ht2] at S3
    have HLn : Hid (key.length ≤ 1000000) := Lib.hid (Nat.le_trans (by rw [hkey]; exact text16_len t1) (by decide))
    have HKy := Lib.hid (And.intro hkey ht2); clear h1 h2 hkey ht2 d0; have f1 := S3.out.fro 1; have g1 : w3.cell? ⟨xb, 1, none⟩ = _ := S3.out.cell 1 rfl
    have hst : (storeCells ⟨xb, 1, none⟩ [Sv key]).run Tryd.prog w3 = .ok () (w3.setCell ⟨xb, 1, none⟩ (Sv key)) := by
      rw [run_storeCells_Sv]; simp [stored, f1, g1]
    dsimp only; go_wp2_with (fail); rw [hst]; clear hst f1 g1
    go_upto_region 4 with (fail)
    obtain ⟨w4, hw4⟩ : ∃ W, W = w3.setCell ⟨xb, 1, none⟩ (Sv key) := ⟨_, rfl⟩; rw [← hw4]
    have S4 : Hid (GtSt b xb w w4 t2 ⟨1, key, 0, 0⟩) := by rw [hw4]; exact Lib.hid (S3.out.set 1 (Sv key) rfl)
    clear hw4; go_wp2_with (fail); refine (rtNumber_any w4 b t2 1099511627776 S4.out.1).mono ?_; rintro e w5 ⟨rfl, h1, h2⟩; have S5 := Lib.hid (S4.out.rd h1 h2); obtain ⟨tm, htm⟩ : ∃ x, x = (t2.number 1099511627776).1 := ⟨_, rfl⟩; obtain ⟨t3, ht3⟩ : ∃ x, x = (t2.number 1099511627776).2 := ⟨_, rfl⟩; rw [← ht3] at S5; rw [← htm]; have HTm := Lib.hid (And.intro htm ht3); clear h1 h2 htm ht3; have f2 := S5.out.fro 2; have g2 : w5.cell? ⟨xb, 2, none⟩ = _ := S5.out.cell 2 rfl; dsimp only
    go_upto_region 5 with (fail)
    obtain ⟨w6, hw6⟩ : ∃ W, W = w5.setCell ⟨xb, 2, none⟩ (.int .i64 tm) := ⟨_, rfl⟩; rw [← hw6]
    have S6 : Hid (GtSt b xb w w6 t3 ⟨1, key, tm, 0⟩) := by rw [hw6]; exact Lib.hid (S5.out.set 2 (.int .i64 tm) rfl)
    clear hw6 f2 g2; go_wp2_with (fail); refine (rtSigned_any w6 b t3 S6.out.1).mono ?_; rintro e w7 ⟨rfl, h1, h2⟩; have S7 := Lib.hid (S6.out.rd h1 h2); obtain ⟨va, hva⟩ : ∃ x, x = t3.signed.1 := ⟨_, rfl⟩; obtain ⟨t4, ht4⟩ : ∃ x, x = t3.signed.2 := ⟨_, rfl⟩; rw [← ht4] at S7; rw [← hva]; have HVa := Lib.hid (And.intro hva ht4); clear h1 h2 hva ht4; have f3 := S7.out.fro 3; have g3 : w7.cell? ⟨xb, 3, none⟩ = _ := S7.out.cell 3 rfl; dsimp only
    go_upto_region 6 with (fail)
    obtain ⟨w8, hw8⟩ : ∃ W, W = w7.setCell ⟨xb, 3, none⟩ (.int .i64 va) := ⟨_, rfl⟩; rw [← hw8]
    have S8 : Hid (GtSt b xb w w8 t4 ⟨1, key, tm, va⟩) := by rw [hw8]; exact Lib.hid (S7.out.set 3 (.int .i64 va) rfl)
    clear hw8 f3 g3
    have HI : Hid (t.item0 = (⟨1, key, tm, va⟩, t4)) := by
      rw [TapeL.item0, ← HK.out.1, ← HK.out.2, if_pos rfl, ← HKy.out.1, ← HKy.out.2, ← HTm.out.1, ← HTm.out.2, ← HVa.out.1, ← HVa.out.2]; exact Lib.hid rfl
    have d0 : w8.cell? ⟨xb, 0, none⟩ = some (.int .i64 1) := S8.out.cell 0 rfl
    go_upto_region 8 with (fail)
    clear d0
    have HI2 : Hid (∀ tz, tz = TapeL.last (ItemL.mk 1 key tm va) (t4) → t.item = (if tz.e = 0 then (ItemL.mk 1 key tm va) else zeroI, tz)) := by
      refine Lib.hid ?_; rintro tz rfl; rw [TapeL.item, HI.out]
    have HI3 := HI2; clear HI2; obtain ⟨c0, c1, f0, f1⟩ := S8.out.1.cells; clear c0 f0 f1; obtain ⟨q, hq⟩ : ∃ q, q = (t4).e := ⟨_, rfl⟩; rw [← hq] at c1
    by_cases hq0 : q = 0
    · obtain ⟨r, hr⟩ : ∃ r, r = (ItemL.mk 1 key tm va).rightB := ⟨_, rfl⟩
      have HRt : Hid (Calls Tryd.prog 24 #[.agg (ItemL.mk 1 key tm va).cells] w8 (Below0 w8 (.bool r))) := by
        rw [hr]; exact erRight_any w8 _ HLn.out
      unfold ItemL.cells at HRt; subst hq0; have d0 : w8.cell? ⟨xb, 0, none⟩ = _ := S8.out.cell 0 rfl; have d1 : w8.cell? ⟨xb, 1, none⟩ = _ := S8.out.cell 1 rfl; have d2 : w8.cell? ⟨xb, 2, none⟩ = _ := S8.out.cell 2 rfl; have d3 : w8.cell? ⟨xb, 3, none⟩ = _ := S8.out.cell 3 rfl
      cases r with
      | true =>
        obtain ⟨tz, htz⟩ : ∃ z, z = t4 := ⟨_, rfl⟩
        have HI2 := Lib.hid (HI3.out tz (by rw [htz, TapeL.last, ← hr]; rfl))
        have HF : Hid (∀ wz, TapeAt wz b tz → w.grownBy wz (some b) → P (.returned (.agg (ItemL.mk 1 key tm va).cells)) wz) := by
          refine Lib.hid (fun wz k1 k2 => ?_)
          rw [HP.out, HI2.out, if_pos (by rw [htz]; exact hq.symm)]
          exact ⟨rfl, k1, k2⟩
        have HE0 : Hid (tz.e = 0) := Lib.hid (by rw [htz]; exact hq.symm)
        rw [← htz] at S8; clear hr hq htz; go_wp2_with (fail); refine HRt.out.mono ?_; rintro e wr ⟨rfl, hBR⟩; have SR := Lib.hid (S8.out.below hBR); clear hBR d0 d1 d2 d3 c1; obtain ⟨c0, c1, f0, f1⟩ := SR.out.1.cells; rw [show tz.e = 0 from HE0.out] at c1; clear c0 f0 f1; have d0 : wr.cell? ⟨xb, 0, none⟩ = _ := SR.out.cell 0 rfl; have d1 : wr.cell? ⟨xb, 1, none⟩ = _ := SR.out.cell 1 rfl; have d2 : wr.cell? ⟨xb, 2, none⟩ = _ := SR.out.cell 2 rfl; have d3 : wr.cell? ⟨xb, 3, none⟩ = _ := SR.out.cell 3 rfl; dsimp only
        go_upto_region 12 with (fail)
        refine wp_region_lit ?_
        first
          | (iterate 1 go_step
             refine wpList_store_row rfl _ _ _ rfl w.heap.size (ItemL.mk 1 key tm va).cells rfl rfl 53 zeroI.cells SR.out.2.2.1 item_size rfl (item_one _) ?_)
          | (iterate 2 go_step
             refine wpList_store_row rfl _ _ _ rfl w.heap.size (ItemL.mk 1 key tm va).cells rfl rfl 53 zeroI.cells SR.out.2.2.1 item_size rfl (item_one _) ?_)
          | (iterate 3 go_step
             refine wpList_store_row rfl _ _ _ rfl w.heap.size (ItemL.mk 1 key tm va).cells rfl rfl 53 zeroI.cells SR.out.2.2.1 item_size rfl (item_one _) ?_)
          | (iterate 4 go_step
             refine wpList_store_row rfl _ _ _ rfl w.heap.size (ItemL.mk 1 key tm va).cells rfl rfl 53 zeroI.cells SR.out.2.2.1 item_size rfl (item_one _) ?_)
          | (iterate 5 go_step
             refine wpList_store_row rfl _ _ _ rfl w.heap.size (ItemL.mk 1 key tm va).cells rfl rfl 53 zeroI.cells SR.out.2.2.1 item_size rfl (item_one _) ?_)
          | (iterate 6 go_step
             refine wpList_store_row rfl _ _ _ rfl w.heap.size (ItemL.mk 1 key tm va).cells rfl rfl 53 zeroI.cells SR.out.2.2.1 item_size rfl (item_one _) ?_)
          | (iterate 7 go_step
             refine wpList_store_row rfl _ _ _ rfl w.heap.size (ItemL.mk 1 key tm va).cells rfl rfl 53 zeroI.cells SR.out.2.2.1 item_size rfl (item_one _) ?_)
          | (iterate 8 go_step
             refine wpList_store_row rfl _ _ _ rfl w.heap.size (ItemL.mk 1 key tm va).cells rfl rfl 53 zeroI.cells SR.out.2.2.1 item_size rfl (item_one _) ?_)
        have HZ := Lib.hid (SR.out.fin (ItemL.mk 1 key tm va).cells); obtain ⟨wz, hwz⟩ : ∃ W, W = wr.setRow w.heap.size (ItemL.mk 1 key tm va).cells := ⟨_, rfl⟩; rw [← hwz] at HZ ⊢; clear hwz; go_wp2_with (fail); exact bodyPost_ret (v := .agg (ItemL.mk 1 key tm va).cells) (results_cell_row rfl _ _ w.heap.size 53 (ItemL.mk 1 key tm va).cells (0, 0) _ rfl HZ.out.1 Tryd.underlying53 rfl item_size) rfl (HF.out _ HZ.out.2.1 HZ.out.2.2)
      | false =>
        obtain ⟨tz, htz⟩ : ∃ z, z = (t4).fail 11 := ⟨_, rfl⟩
        have he11 : tz.e = 11 := by rw [htz, TapeL.fail, if_pos ⟨hq.symm, by decide⟩]
        have HI2 := Lib.hid (HI3.out tz (by rw [htz, TapeL.last, ← hr]; rfl))
        have HF : Hid (∀ wz, TapeAt wz b tz → w.grownBy wz (some b) → P (.returned (.agg (zeroI).cells)) wz) := by
          refine Lib.hid (fun wz k1 k2 => ?_)
          rw [HP.out, HI2.out, if_neg (by rw [he11]; decide)]
          exact ⟨rfl, k1, k2⟩
        have HE0 : Hid (tz.e = 11 ∧ tz = (t4).fail 11) := Lib.hid ⟨he11, htz⟩; clear hr hq htz he11; go_wp2_with (fail); refine HRt.out.mono ?_; rintro e wr ⟨rfl, hBR⟩; have SR := Lib.hid (S8.out.below hBR); clear hBR d0 d1 d2 d3 c1; dsimp only; go_wp2_with (fail); refine (rtFail_any wr b (t4) 11 SR.out.1).mono ?_; rintro e wf ⟨rfl, hf1, hf2⟩; rw [← HE0.out.2] at hf1; have SF := Lib.hid (SR.out.rd hf1 hf2); clear hf1 hf2; obtain ⟨c0, c1, f0, f1⟩ := SF.out.1.cells; rw [show tz.e = 11 from HE0.out.1] at c1; clear c0 f0 f1; dsimp only
        go_upto_region 11 with (fail)
        refine wp_region_lit ?_
        first
          | (iterate 1 go_step
             refine wpList_store_row rfl _ _ _ rfl w.heap.size (zeroI).cells rfl rfl 53 zeroI.cells SF.out.2.2.1 item_size rfl (item_one _) ?_)
          | (iterate 2 go_step
             refine wpList_store_row rfl _ _ _ rfl w.heap.size (zeroI).cells rfl rfl 53 zeroI.cells SF.out.2.2.1 item_size rfl (item_one _) ?_)
          | (iterate 3 go_step
             refine wpList_store_row rfl _ _ _ rfl w.heap.size (zeroI).cells rfl rfl 53 zeroI.cells SF.out.2.2.1 item_size rfl (item_one _) ?_)
          | (iterate 4 go_step
             refine wpList_store_row rfl _ _ _ rfl w.heap.size (zeroI).cells rfl rfl 53 zeroI.cells SF.out.2.2.1 item_size rfl (item_one _) ?_)
          | (iterate 5 go_step
             refine wpList_store_row rfl _ _ _ rfl w.heap.size (zeroI).cells rfl rfl 53 zeroI.cells SF.out.2.2.1 item_size rfl (item_one _) ?_)
          | (iterate 6 go_step
             refine wpList_store_row rfl _ _ _ rfl w.heap.size (zeroI).cells rfl rfl 53 zeroI.cells SF.out.2.2.1 item_size rfl (item_one _) ?_)
          | (iterate 7 go_step
             refine wpList_store_row rfl _ _ _ rfl w.heap.size (zeroI).cells rfl rfl 53 zeroI.cells SF.out.2.2.1 item_size rfl (item_one _) ?_)
          | (iterate 8 go_step
             refine wpList_store_row rfl _ _ _ rfl w.heap.size (zeroI).cells rfl rfl 53 zeroI.cells SF.out.2.2.1 item_size rfl (item_one _) ?_)
        have HZ := Lib.hid (SF.out.fin (zeroI).cells); obtain ⟨wz, hwz⟩ : ∃ W, W = wf.setRow w.heap.size (zeroI).cells := ⟨_, rfl⟩; rw [← hwz] at HZ ⊢; clear hwz; go_wp2_with (fail); exact bodyPost_ret (v := .agg (zeroI).cells) (results_cell_row rfl _ _ w.heap.size 53 (zeroI).cells (0, 0) _ rfl HZ.out.1 Tryd.underlying53 rfl item_size) rfl (HF.out _ HZ.out.2.1 HZ.out.2.2)
    · have e1 : (q == 0) = false := by simpa using hq0
      have e2 : (q != 0) = true := by simpa using hq0
      obtain ⟨tz, htz⟩ : ∃ z, z = t4 := ⟨_, rfl⟩
      have HI2 := Lib.hid (HI3.out tz (by
        rw [htz, TapeL.last]
        split
        · rfl
        · exact (fail_err (by rw [← hq]; exact hq0) 11).symm))
      have HF : Hid (∀ wz, TapeAt wz b tz → w.grownBy wz (some b) → P (.returned (.agg (zeroI).cells)) wz) := by
        refine Lib.hid (fun wz k1 k2 => ?_)
        rw [HP.out, HI2.out, if_neg (by rw [htz, ← hq]; exact hq0)]
        exact ⟨rfl, k1, k2⟩
      rw [← htz] at S8; clear hq htz hq0
      go_upto_region 11 with (fail)
      refine wp_region_lit ?_
      first
        | (iterate 1 go_step
           refine wpList_store_row rfl _ _ _ rfl w.heap.size (zeroI).cells rfl rfl 53 zeroI.cells S8.out.2.2.1 item_size rfl (item_one _) ?_)
        | (iterate 2 go_step
           refine wpList_store_row rfl _ _ _ rfl w.heap.size (zeroI).cells rfl rfl 53 zeroI.cells S8.out.2.2.1 item_size rfl (item_one _) ?_)
        | (iterate 3 go_step
           refine wpList_store_row rfl _ _ _ rfl w.heap.size (zeroI).cells rfl rfl 53 zeroI.cells S8.out.2.2.1 item_size rfl (item_one _) ?_)
        | (iterate 4 go_step
           refine wpList_store_row rfl _ _ _ rfl w.heap.size (zeroI).cells rfl rfl 53 zeroI.cells S8.out.2.2.1 item_size rfl (item_one _) ?_)
        | (iterate 5 go_step
           refine wpList_store_row rfl _ _ _ rfl w.heap.size (zeroI).cells rfl rfl 53 zeroI.cells S8.out.2.2.1 item_size rfl (item_one _) ?_)
        | (iterate 6 go_step
           refine wpList_store_row rfl _ _ _ rfl w.heap.size (zeroI).cells rfl rfl 53 zeroI.cells S8.out.2.2.1 item_size rfl (item_one _) ?_)
        | (iterate 7 go_step
           refine wpList_store_row rfl _ _ _ rfl w.heap.size (zeroI).cells rfl rfl 53 zeroI.cells S8.out.2.2.1 item_size rfl (item_one _) ?_)
        | (iterate 8 go_step
           refine wpList_store_row rfl _ _ _ rfl w.heap.size (zeroI).cells rfl rfl 53 zeroI.cells S8.out.2.2.1 item_size rfl (item_one _) ?_)
      have HZ := Lib.hid (S8.out.fin (zeroI).cells); obtain ⟨wz, hwz⟩ : ∃ W, W = w8.setRow w.heap.size (zeroI).cells := ⟨_, rfl⟩; rw [← hwz] at HZ ⊢; clear hwz; go_wp2_with (fail); exact bodyPost_ret (v := .agg (zeroI).cells) (results_cell_row rfl _ _ w.heap.size 53 (zeroI).cells (0, 0) _ rfl HZ.out.1 Tryd.underlying53 rfl item_size) rfl (HF.out _ HZ.out.2.1 HZ.out.2.2)
  · by_cases k2 : k = 2
    · subst k2; go_wp2_with (fail); refine (rtNumber_any w2 b t1 1099511627776 S2.out.1).mono ?_; rintro e w5 ⟨rfl, h1, h2⟩; have S5 := Lib.hid (S2.out.rd h1 h2); obtain ⟨tm, htm⟩ : ∃ x, x = (t1.number 1099511627776).1 := ⟨_, rfl⟩; obtain ⟨t3, ht3⟩ : ∃ x, x = (t1.number 1099511627776).2 := ⟨_, rfl⟩; rw [← ht3] at S5; rw [← htm]; have HTm := Lib.hid (And.intro htm ht3); clear h1 h2 htm ht3 d0 k1; have f2 := S5.out.fro 2; have g2 : w5.cell? ⟨xb, 2, none⟩ = _ := S5.out.cell 2 rfl; dsimp only
      go_upto_region 8 with (fail)
      obtain ⟨w6, hw6⟩ : ∃ W, W = w5.setCell ⟨xb, 2, none⟩ (.int .i64 tm) := ⟨_, rfl⟩; rw [← hw6]
      have S6 : Hid (GtSt b xb w w6 t3 ⟨2, [], tm, 0⟩) := by rw [hw6]; exact Lib.hid (S5.out.set 2 (.int .i64 tm) rfl)
      clear hw6 f2 g2
      have HI : Hid (t.item0 = (⟨2, [], tm, 0⟩, t3)) := by
        rw [TapeL.item0, ← HK.out.1, ← HK.out.2, if_neg (by decide), if_pos rfl, ← HTm.out.1, ← HTm.out.2]
        exact Lib.hid rfl
      have HLn : Hid (([] : List (BitVec 8)).length ≤ 1000000) := Lib.hid (by decide)
      have HI2 : Hid (∀ tz, tz = TapeL.last (ItemL.mk 2 [] tm 0) (t3) → t.item = (if tz.e = 0 then (ItemL.mk 2 [] tm 0) else zeroI, tz)) := by
        refine Lib.hid ?_; rintro tz rfl; rw [TapeL.item, HI.out]
      have HI3 := HI2; clear HI2; obtain ⟨c0, c1, f0, f1⟩ := S6.out.1.cells; clear c0 f0 f1; obtain ⟨q, hq⟩ : ∃ q, q = (t3).e := ⟨_, rfl⟩; rw [← hq] at c1
      by_cases hq0 : q = 0
      · obtain ⟨r, hr⟩ : ∃ r, r = (ItemL.mk 2 [] tm 0).rightB := ⟨_, rfl⟩
        have HRt : Hid (Calls Tryd.prog 24 #[.agg (ItemL.mk 2 [] tm 0).cells] w6 (Below0 w6 (.bool r))) := by
          rw [hr]; exact erRight_any w6 _ HLn.out
        unfold ItemL.cells at HRt; subst hq0; have d0 : w6.cell? ⟨xb, 0, none⟩ = _ := S6.out.cell 0 rfl; have d1 : w6.cell? ⟨xb, 1, none⟩ = _ := S6.out.cell 1 rfl; have d2 : w6.cell? ⟨xb, 2, none⟩ = _ := S6.out.cell 2 rfl; have d3 : w6.cell? ⟨xb, 3, none⟩ = _ := S6.out.cell 3 rfl
        cases r with
        | true =>
          obtain ⟨tz, htz⟩ : ∃ z, z = t3 := ⟨_, rfl⟩
          have HI2 := Lib.hid (HI3.out tz (by rw [htz, TapeL.last, ← hr]; rfl))
          have HF : Hid (∀ wz, TapeAt wz b tz → w.grownBy wz (some b) → P (.returned (.agg (ItemL.mk 2 [] tm 0).cells)) wz) := by
            refine Lib.hid (fun wz k1 k2 => ?_)
            rw [HP.out, HI2.out, if_pos (by rw [htz]; exact hq.symm)]
            exact ⟨rfl, k1, k2⟩
          have HE0 : Hid (tz.e = 0) := Lib.hid (by rw [htz]; exact hq.symm)
          rw [← htz] at S6; clear hr hq htz; go_wp2_with (fail); refine HRt.out.mono ?_; rintro e wr ⟨rfl, hBR⟩; have SR := Lib.hid (S6.out.below hBR); clear hBR d0 d1 d2 d3 c1; obtain ⟨c0, c1, f0, f1⟩ := SR.out.1.cells; rw [show tz.e = 0 from HE0.out] at c1; clear c0 f0 f1; have d0 : wr.cell? ⟨xb, 0, none⟩ = _ := SR.out.cell 0 rfl; have d1 : wr.cell? ⟨xb, 1, none⟩ = _ := SR.out.cell 1 rfl; have d2 : wr.cell? ⟨xb, 2, none⟩ = _ := SR.out.cell 2 rfl; have d3 : wr.cell? ⟨xb, 3, none⟩ = _ := SR.out.cell 3 rfl; dsimp only
          go_upto_region 12 with (fail)
          refine wp_region_lit ?_
          first
            | (iterate 1 go_step
               refine wpList_store_row rfl _ _ _ rfl w.heap.size (ItemL.mk 2 [] tm 0).cells rfl rfl 53 zeroI.cells SR.out.2.2.1 item_size rfl (item_one _) ?_)
            | (iterate 2 go_step
               refine wpList_store_row rfl _ _ _ rfl w.heap.size (ItemL.mk 2 [] tm 0).cells rfl rfl 53 zeroI.cells SR.out.2.2.1 item_size rfl (item_one _) ?_)
            | (iterate 3 go_step
               refine wpList_store_row rfl _ _ _ rfl w.heap.size (ItemL.mk 2 [] tm 0).cells rfl rfl 53 zeroI.cells SR.out.2.2.1 item_size rfl (item_one _) ?_)
            | (iterate 4 go_step
               refine wpList_store_row rfl _ _ _ rfl w.heap.size (ItemL.mk 2 [] tm 0).cells rfl rfl 53 zeroI.cells SR.out.2.2.1 item_size rfl (item_one _) ?_)
            | (iterate 5 go_step
               refine wpList_store_row rfl _ _ _ rfl w.heap.size (ItemL.mk 2 [] tm 0).cells rfl rfl 53 zeroI.cells SR.out.2.2.1 item_size rfl (item_one _) ?_)
            | (iterate 6 go_step
               refine wpList_store_row rfl _ _ _ rfl w.heap.size (ItemL.mk 2 [] tm 0).cells rfl rfl 53 zeroI.cells SR.out.2.2.1 item_size rfl (item_one _) ?_)
            | (iterate 7 go_step
               refine wpList_store_row rfl _ _ _ rfl w.heap.size (ItemL.mk 2 [] tm 0).cells rfl rfl 53 zeroI.cells SR.out.2.2.1 item_size rfl (item_one _) ?_)
            | (iterate 8 go_step
               refine wpList_store_row rfl _ _ _ rfl w.heap.size (ItemL.mk 2 [] tm 0).cells rfl rfl 53 zeroI.cells SR.out.2.2.1 item_size rfl (item_one _) ?_)
          have HZ := Lib.hid (SR.out.fin (ItemL.mk 2 [] tm 0).cells); obtain ⟨wz, hwz⟩ : ∃ W, W = wr.setRow w.heap.size (ItemL.mk 2 [] tm 0).cells := ⟨_, rfl⟩; rw [← hwz] at HZ ⊢; clear hwz; go_wp2_with (fail); exact bodyPost_ret (v := .agg (ItemL.mk 2 [] tm 0).cells) (results_cell_row rfl _ _ w.heap.size 53 (ItemL.mk 2 [] tm 0).cells (0, 0) _ rfl HZ.out.1 Tryd.underlying53 rfl item_size) rfl (HF.out _ HZ.out.2.1 HZ.out.2.2)
        | false =>
          obtain ⟨tz, htz⟩ : ∃ z, z = (t3).fail 11 := ⟨_, rfl⟩
          have he11 : tz.e = 11 := by rw [htz, TapeL.fail, if_pos ⟨hq.symm, by decide⟩]
          have HI2 := Lib.hid (HI3.out tz (by rw [htz, TapeL.last, ← hr]; rfl))
          have HF : Hid (∀ wz, TapeAt wz b tz → w.grownBy wz (some b) → P (.returned (.agg (zeroI).cells)) wz) := by
            refine Lib.hid (fun wz k1 k2 => ?_)
            rw [HP.out, HI2.out, if_neg (by rw [he11]; decide)]
            exact ⟨rfl, k1, k2⟩
          have HE0 : Hid (tz.e = 11 ∧ tz = (t3).fail 11) := Lib.hid ⟨he11, htz⟩; clear hr hq htz he11; go_wp2_with (fail); refine HRt.out.mono ?_; rintro e wr ⟨rfl, hBR⟩; have SR := Lib.hid (S6.out.below hBR); clear hBR d0 d1 d2 d3 c1; dsimp only; go_wp2_with (fail); refine (rtFail_any wr b (t3) 11 SR.out.1).mono ?_; rintro e wf ⟨rfl, hf1, hf2⟩; rw [← HE0.out.2] at hf1; have SF := Lib.hid (SR.out.rd hf1 hf2); clear hf1 hf2; obtain ⟨c0, c1, f0, f1⟩ := SF.out.1.cells; rw [show tz.e = 11 from HE0.out.1] at c1; clear c0 f0 f1; dsimp only
          go_upto_region 11 with (fail)
          refine wp_region_lit ?_
          first
            | (iterate 1 go_step
               refine wpList_store_row rfl _ _ _ rfl w.heap.size (zeroI).cells rfl rfl 53 zeroI.cells SF.out.2.2.1 item_size rfl (item_one _) ?_)
            | (iterate 2 go_step
               refine wpList_store_row rfl _ _ _ rfl w.heap.size (zeroI).cells rfl rfl 53 zeroI.cells SF.out.2.2.1 item_size rfl (item_one _) ?_)
            | (iterate 3 go_step
               refine wpList_store_row rfl _ _ _ rfl w.heap.size (zeroI).cells rfl rfl 53 zeroI.cells SF.out.2.2.1 item_size rfl (item_one _) ?_)
            | (iterate 4 go_step
               refine wpList_store_row rfl _ _ _ rfl w.heap.size (zeroI).cells rfl rfl 53 zeroI.cells SF.out.2.2.1 item_size rfl (item_one _) ?_)
            | (iterate 5 go_step
               refine wpList_store_row rfl _ _ _ rfl w.heap.size (zeroI).cells rfl rfl 53 zeroI.cells SF.out.2.2.1 item_size rfl (item_one _) ?_)
            | (iterate 6 go_step
               refine wpList_store_row rfl _ _ _ rfl w.heap.size (zeroI).cells rfl rfl 53 zeroI.cells SF.out.2.2.1 item_size rfl (item_one _) ?_)
            | (iterate 7 go_step
               refine wpList_store_row rfl _ _ _ rfl w.heap.size (zeroI).cells rfl rfl 53 zeroI.cells SF.out.2.2.1 item_size rfl (item_one _) ?_)
            | (iterate 8 go_step
               refine wpList_store_row rfl _ _ _ rfl w.heap.size (zeroI).cells rfl rfl 53 zeroI.cells SF.out.2.2.1 item_size rfl (item_one _) ?_)
          have HZ := Lib.hid (SF.out.fin (zeroI).cells); obtain ⟨wz, hwz⟩ : ∃ W, W = wf.setRow w.heap.size (zeroI).cells := ⟨_, rfl⟩; rw [← hwz] at HZ ⊢; clear hwz; go_wp2_with (fail); exact bodyPost_ret (v := .agg (zeroI).cells) (results_cell_row rfl _ _ w.heap.size 53 (zeroI).cells (0, 0) _ rfl HZ.out.1 Tryd.underlying53 rfl item_size) rfl (HF.out _ HZ.out.2.1 HZ.out.2.2)
      · have e1 : (q == 0) = false := by simpa using hq0
        have e2 : (q != 0) = true := by simpa using hq0
        obtain ⟨tz, htz⟩ : ∃ z, z = t3 := ⟨_, rfl⟩
        have HI2 := Lib.hid (HI3.out tz (by
          rw [htz, TapeL.last]
          split
          · rfl
          · exact (fail_err (by rw [← hq]; exact hq0) 11).symm))
        have HF : Hid (∀ wz, TapeAt wz b tz → w.grownBy wz (some b) → P (.returned (.agg (zeroI).cells)) wz) := by
          refine Lib.hid (fun wz k1 k2 => ?_)
          rw [HP.out, HI2.out, if_neg (by rw [htz, ← hq]; exact hq0)]
          exact ⟨rfl, k1, k2⟩
        rw [← htz] at S6; clear hq htz hq0
        go_upto_region 11 with (fail)
        refine wp_region_lit ?_
        first
          | (iterate 1 go_step
             refine wpList_store_row rfl _ _ _ rfl w.heap.size (zeroI).cells rfl rfl 53 zeroI.cells S6.out.2.2.1 item_size rfl (item_one _) ?_)
          | (iterate 2 go_step
             refine wpList_store_row rfl _ _ _ rfl w.heap.size (zeroI).cells rfl rfl 53 zeroI.cells S6.out.2.2.1 item_size rfl (item_one _) ?_)
          | (iterate 3 go_step
             refine wpList_store_row rfl _ _ _ rfl w.heap.size (zeroI).cells rfl rfl 53 zeroI.cells S6.out.2.2.1 item_size rfl (item_one _) ?_)
          | (iterate 4 go_step
             refine wpList_store_row rfl _ _ _ rfl w.heap.size (zeroI).cells rfl rfl 53 zeroI.cells S6.out.2.2.1 item_size rfl (item_one _) ?_)
          | (iterate 5 go_step
             refine wpList_store_row rfl _ _ _ rfl w.heap.size (zeroI).cells rfl rfl 53 zeroI.cells S6.out.2.2.1 item_size rfl (item_one _) ?_)
          | (iterate 6 go_step
             refine wpList_store_row rfl _ _ _ rfl w.heap.size (zeroI).cells rfl rfl 53 zeroI.cells S6.out.2.2.1 item_size rfl (item_one _) ?_)
          | (iterate 7 go_step
             refine wpList_store_row rfl _ _ _ rfl w.heap.size (zeroI).cells rfl rfl 53 zeroI.cells S6.out.2.2.1 item_size rfl (item_one _) ?_)
          | (iterate 8 go_step
             refine wpList_store_row rfl _ _ _ rfl w.heap.size (zeroI).cells rfl rfl 53 zeroI.cells S6.out.2.2.1 item_size rfl (item_one _) ?_)
        have HZ := Lib.hid (S6.out.fin (zeroI).cells); obtain ⟨wz, hwz⟩ : ∃ W, W = w6.setRow w.heap.size (zeroI).cells := ⟨_, rfl⟩; rw [← hwz] at HZ ⊢; clear hwz; go_wp2_with (fail); exact bodyPost_ret (v := .agg (zeroI).cells) (results_cell_row rfl _ _ w.heap.size 53 (zeroI).cells (0, 0) _ rfl HZ.out.1 Tryd.underlying53 rfl item_size) rfl (HF.out _ HZ.out.2.1 HZ.out.2.2)
    · have HI : Hid (t.item0 = (⟨k, [], 0, 0⟩, t1)) := by
        rw [TapeL.item0, ← HK.out.1, ← HK.out.2, if_neg k1, if_neg k2]; exact Lib.hid rfl
      have HLn : Hid (([] : List (BitVec 8)).length ≤ 1000000) := Lib.hid (by decide)
      have e1 : (k == 1) = false := by simpa using k1
      have e2 : (k == 2) = false := by simpa using k2
      clear k1 k2
      go_upto_region 8 with (fail)
      clear d0 e1 e2
      have HI2 : Hid (∀ tz, tz = TapeL.last (ItemL.mk k [] 0 0) (t1) → t.item = (if tz.e = 0 then (ItemL.mk k [] 0 0) else zeroI, tz)) := by
        refine Lib.hid ?_; rintro tz rfl; rw [TapeL.item, HI.out]
      have HI3 := HI2; clear HI2; obtain ⟨c0, c1, f0, f1⟩ := S2.out.1.cells; clear c0 f0 f1; obtain ⟨q, hq⟩ : ∃ q, q = (t1).e := ⟨_, rfl⟩; rw [← hq] at c1
      by_cases hq0 : q = 0
      · obtain ⟨r, hr⟩ : ∃ r, r = (ItemL.mk k [] 0 0).rightB := ⟨_, rfl⟩
        have HRt : Hid (Calls Tryd.prog 24 #[.agg (ItemL.mk k [] 0 0).cells] w2 (Below0 w2 (.bool r))) := by
          rw [hr]; exact erRight_any w2 _ HLn.out
        unfold ItemL.cells at HRt; subst hq0; have d0 : w2.cell? ⟨xb, 0, none⟩ = _ := S2.out.cell 0 rfl; have d1 : w2.cell? ⟨xb, 1, none⟩ = _ := S2.out.cell 1 rfl; have d2 : w2.cell? ⟨xb, 2, none⟩ = _ := S2.out.cell 2 rfl; have d3 : w2.cell? ⟨xb, 3, none⟩ = _ := S2.out.cell 3 rfl
        cases r with
        | true =>
          obtain ⟨tz, htz⟩ : ∃ z, z = t1 := ⟨_, rfl⟩
          have HI2 := Lib.hid (HI3.out tz (by rw [htz, TapeL.last, ← hr]; rfl))
          have HF : Hid (∀ wz, TapeAt wz b tz → w.grownBy wz (some b) → P (.returned (.agg (ItemL.mk k [] 0 0).cells)) wz) := by
            refine Lib.hid (fun wz k1 k2 => ?_)
            rw [HP.out, HI2.out, if_pos (by rw [htz]; exact hq.symm)]
            exact ⟨rfl, k1, k2⟩
          have HE0 : Hid (tz.e = 0) := Lib.hid (by rw [htz]; exact hq.symm)
          rw [← htz] at S2; clear hr hq htz; go_wp2_with (fail); refine HRt.out.mono ?_; rintro e wr ⟨rfl, hBR⟩; have SR := Lib.hid (S2.out.below hBR); clear hBR d0 d1 d2 d3 c1; obtain ⟨c0, c1, f0, f1⟩ := SR.out.1.cells; rw [show tz.e = 0 from HE0.out] at c1; clear c0 f0 f1; have d0 : wr.cell? ⟨xb, 0, none⟩ = _ := SR.out.cell 0 rfl; have d1 : wr.cell? ⟨xb, 1, none⟩ = _ := SR.out.cell 1 rfl; have d2 : wr.cell? ⟨xb, 2, none⟩ = _ := SR.out.cell 2 rfl; have d3 : wr.cell? ⟨xb, 3, none⟩ = _ := SR.out.cell 3 rfl; dsimp only
          go_upto_region 12 with (fail)
          refine wp_region_lit ?_
          first
            | (iterate 1 go_step
               refine wpList_store_row rfl _ _ _ rfl w.heap.size (ItemL.mk k [] 0 0).cells rfl rfl 53 zeroI.cells SR.out.2.2.1 item_size rfl (item_one _) ?_)
            | (iterate 2 go_step
               refine wpList_store_row rfl _ _ _ rfl w.heap.size (ItemL.mk k [] 0 0).cells rfl rfl 53 zeroI.cells SR.out.2.2.1 item_size rfl (item_one _) ?_)
            | (iterate 3 go_step
               refine wpList_store_row rfl _ _ _ rfl w.heap.size (ItemL.mk k [] 0 0).cells rfl rfl 53 zeroI.cells SR.out.2.2.1 item_size rfl (item_one _) ?_)
            | (iterate 4 go_step
               refine wpList_store_row rfl _ _ _ rfl w.heap.size (ItemL.mk k [] 0 0).cells rfl rfl 53 zeroI.cells SR.out.2.2.1 item_size rfl (item_one _) ?_)
            | (iterate 5 go_step
               refine wpList_store_row rfl _ _ _ rfl w.heap.size (ItemL.mk k [] 0 0).cells rfl rfl 53 zeroI.cells SR.out.2.2.1 item_size rfl (item_one _) ?_)
            | (iterate 6 go_step
               refine wpList_store_row rfl _ _ _ rfl w.heap.size (ItemL.mk k [] 0 0).cells rfl rfl 53 zeroI.cells SR.out.2.2.1 item_size rfl (item_one _) ?_)
            | (iterate 7 go_step
               refine wpList_store_row rfl _ _ _ rfl w.heap.size (ItemL.mk k [] 0 0).cells rfl rfl 53 zeroI.cells SR.out.2.2.1 item_size rfl (item_one _) ?_)
            | (iterate 8 go_step
               refine wpList_store_row rfl _ _ _ rfl w.heap.size (ItemL.mk k [] 0 0).cells rfl rfl 53 zeroI.cells SR.out.2.2.1 item_size rfl (item_one _) ?_)
          have HZ := Lib.hid (SR.out.fin (ItemL.mk k [] 0 0).cells); obtain ⟨wz, hwz⟩ : ∃ W, W = wr.setRow w.heap.size (ItemL.mk k [] 0 0).cells := ⟨_, rfl⟩; rw [← hwz] at HZ ⊢; clear hwz; go_wp2_with (fail); exact bodyPost_ret (v := .agg (ItemL.mk k [] 0 0).cells) (results_cell_row rfl _ _ w.heap.size 53 (ItemL.mk k [] 0 0).cells (0, 0) _ rfl HZ.out.1 Tryd.underlying53 rfl item_size) rfl (HF.out _ HZ.out.2.1 HZ.out.2.2)
        | false =>
          obtain ⟨tz, htz⟩ : ∃ z, z = (t1).fail 11 := ⟨_, rfl⟩
          have he11 : tz.e = 11 := by rw [htz, TapeL.fail, if_pos ⟨hq.symm, by decide⟩]
          have HI2 := Lib.hid (HI3.out tz (by rw [htz, TapeL.last, ← hr]; rfl))
          have HF : Hid (∀ wz, TapeAt wz b tz → w.grownBy wz (some b) → P (.returned (.agg (zeroI).cells)) wz) := by
            refine Lib.hid (fun wz k1 k2 => ?_)
            rw [HP.out, HI2.out, if_neg (by rw [he11]; decide)]
            exact ⟨rfl, k1, k2⟩
          have HE0 : Hid (tz.e = 11 ∧ tz = (t1).fail 11) := Lib.hid ⟨he11, htz⟩; clear hr hq htz he11; go_wp2_with (fail); refine HRt.out.mono ?_; rintro e wr ⟨rfl, hBR⟩; have SR := Lib.hid (S2.out.below hBR); clear hBR d0 d1 d2 d3 c1; dsimp only; go_wp2_with (fail); refine (rtFail_any wr b (t1) 11 SR.out.1).mono ?_; rintro e wf ⟨rfl, hf1, hf2⟩; rw [← HE0.out.2] at hf1; have SF := Lib.hid (SR.out.rd hf1 hf2); clear hf1 hf2; obtain ⟨c0, c1, f0, f1⟩ := SF.out.1.cells; rw [show tz.e = 11 from HE0.out.1] at c1; clear c0 f0 f1; dsimp only
          go_upto_region 11 with (fail)
          refine wp_region_lit ?_
          first
            | (iterate 1 go_step
               refine wpList_store_row rfl _ _ _ rfl w.heap.size (zeroI).cells rfl rfl 53 zeroI.cells SF.out.2.2.1 item_size rfl (item_one _) ?_)
            | (iterate 2 go_step
               refine wpList_store_row rfl _ _ _ rfl w.heap.size (zeroI).cells rfl rfl 53 zeroI.cells SF.out.2.2.1 item_size rfl (item_one _) ?_)
            | (iterate 3 go_step
               refine wpList_store_row rfl _ _ _ rfl w.heap.size (zeroI).cells rfl rfl 53 zeroI.cells SF.out.2.2.1 item_size rfl (item_one _) ?_)
            | (iterate 4 go_step
               refine wpList_store_row rfl _ _ _ rfl w.heap.size (zeroI).cells rfl rfl 53 zeroI.cells SF.out.2.2.1 item_size rfl (item_one _) ?_)
            | (iterate 5 go_step
               refine wpList_store_row rfl _ _ _ rfl w.heap.size (zeroI).cells rfl rfl 53 zeroI.cells SF.out.2.2.1 item_size rfl (item_one _) ?_)
            | (iterate 6 go_step
               refine wpList_store_row rfl _ _ _ rfl w.heap.size (zeroI).cells rfl rfl 53 zeroI.cells SF.out.2.2.1 item_size rfl (item_one _) ?_)
            | (iterate 7 go_step
               refine wpList_store_row rfl _ _ _ rfl w.heap.size (zeroI).cells rfl rfl 53 zeroI.cells SF.out.2.2.1 item_size rfl (item_one _) ?_)
            | (iterate 8 go_step
               refine wpList_store_row rfl _ _ _ rfl w.heap.size (zeroI).cells rfl rfl 53 zeroI.cells SF.out.2.2.1 item_size rfl (item_one _) ?_)
          have HZ := Lib.hid (SF.out.fin (zeroI).cells); obtain ⟨wz, hwz⟩ : ∃ W, W = wf.setRow w.heap.size (zeroI).cells := ⟨_, rfl⟩; rw [← hwz] at HZ ⊢; clear hwz; go_wp2_with (fail); exact bodyPost_ret (v := .agg (zeroI).cells) (results_cell_row rfl _ _ w.heap.size 53 (zeroI).cells (0, 0) _ rfl HZ.out.1 Tryd.underlying53 rfl item_size) rfl (HF.out _ HZ.out.2.1 HZ.out.2.2)
      · have e1 : (q == 0) = false := by simpa using hq0
        have e2 : (q != 0) = true := by simpa using hq0
        obtain ⟨tz, htz⟩ : ∃ z, z = t1 := ⟨_, rfl⟩
        have HI2 := Lib.hid (HI3.out tz (by
          rw [htz, TapeL.last]
          split
          · rfl
          · exact (fail_err (by rw [← hq]; exact hq0) 11).symm))
        have HF : Hid (∀ wz, TapeAt wz b tz → w.grownBy wz (some b) → P (.returned (.agg (zeroI).cells)) wz) := by
          refine Lib.hid (fun wz k1 k2 => ?_)
          rw [HP.out, HI2.out, if_neg (by rw [htz, ← hq]; exact hq0)]
          exact ⟨rfl, k1, k2⟩
        rw [← htz] at S2; clear hq htz hq0
        go_upto_region 11 with (fail)
        refine wp_region_lit ?_
        first
          | (iterate 1 go_step
             refine wpList_store_row rfl _ _ _ rfl w.heap.size (zeroI).cells rfl rfl 53 zeroI.cells S2.out.2.2.1 item_size rfl (item_one _) ?_)
          | (iterate 2 go_step
             refine wpList_store_row rfl _ _ _ rfl w.heap.size (zeroI).cells rfl rfl 53 zeroI.cells S2.out.2.2.1 item_size rfl (item_one _) ?_)
          | (iterate 3 go_step
             refine wpList_store_row rfl _ _ _ rfl w.heap.size (zeroI).cells rfl rfl 53 zeroI.cells S2.out.2.2.1 item_size rfl (item_one _) ?_)
          | (iterate 4 go_step
             refine wpList_store_row rfl _ _ _ rfl w.heap.size (zeroI).cells rfl rfl 53 zeroI.cells S2.out.2.2.1 item_size rfl (item_one _) ?_)
          | (iterate 5 go_step
             refine wpList_store_row rfl _ _ _ rfl w.heap.size (zeroI).cells rfl rfl 53 zeroI.cells S2.out.2.2.1 item_size rfl (item_one _) ?_)
          | (iterate 6 go_step
             refine wpList_store_row rfl _ _ _ rfl w.heap.size (zeroI).cells rfl rfl 53 zeroI.cells S2.out.2.2.1 item_size rfl (item_one _) ?_)
          | (iterate 7 go_step
             refine wpList_store_row rfl _ _ _ rfl w.heap.size (zeroI).cells rfl rfl 53 zeroI.cells S2.out.2.2.1 item_size rfl (item_one _) ?_)
          | (iterate 8 go_step
             refine wpList_store_row rfl _ _ _ rfl w.heap.size (zeroI).cells rfl rfl 53 zeroI.cells S2.out.2.2.1 item_size rfl (item_one _) ?_)
        have HZ := Lib.hid (S2.out.fin (zeroI).cells); obtain ⟨wz, hwz⟩ : ∃ W, W = w2.setRow w.heap.size (zeroI).cells := ⟨_, rfl⟩; rw [← hwz] at HZ ⊢; clear hwz; go_wp2_with (fail); exact bodyPost_ret (v := .agg (zeroI).cells) (results_cell_row rfl _ _ w.heap.size 53 (zeroI).cells (0, 0) _ rfl HZ.out.1 Tryd.underlying53 rfl item_size) rfl (HF.out _ HZ.out.2.1 HZ.out.2.2)
end Go.Proofs.YtdmnhgbdeifpbaaDoor
namespace Go.Proofs.YtdmnhgbdeifpbaaDoor
open Go Go.RowKit
theorem number_stay {t : TapeL} (h : t.e ≠ 0) (most : Int) : t.number most = (0, t) := by
  have hw : t.word = (0, t) := if_pos h; rw [TapeL.number, hw]; simp only
  rw [if_neg (by omega), if_neg (fun h' => h h'.1)]
  rfl
theorem item_stay {t : TapeL} (h : t.e ≠ 0) : t.item.2 = t := by
  have h0 : t.item0 = (⟨0, [], 0, 0⟩, t) := by
    rw [TapeL.item0, number_stay h]; simp only
    rw [if_neg (by decide), if_neg (by decide)]
  rw [TapeL.item, h0]; simp only [TapeL.last]
  split
  · rfl
  · exact fail_err h 11
theorem itemsN_stay (t : TapeL) (k : Nat) (h : (itemsN k t).2.e ≠ 0) : ∀ j, (itemsN (k + j) t).2 = (itemsN k t).2
  | 0 => rfl
  | j + 1 => by
    have ih := itemsN_stay t k h j
    rw [show k + (j + 1) = (k + j) + 1 by omega, itemsN, ih]
    exact item_stay h
theorem done_err {t : TapeL} (h : t.e ≠ 0) : t.done = t.e := by
  rw [TapeL.done, if_neg (fun h' => h h'.1)]
end Go.Proofs.YtdmnhgbdeifpbaaDoor
