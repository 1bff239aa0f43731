/-
  The contract of the reference's Get: a window off a tape.
-/
import Derived.Test.YtkgmcjeficgciaaDoorRefW
import Derived.Test.YtkgmcjeficgciaaDoorRefTapes
namespace Go.Proofs.YtkgmcjeficgciaaDoor
open Go Go.RowKit

theorem TapeAt.ltW {w : World} {b : Nat} {t : TapeL} (h : TapeAt w b t) : b < w.heap.size := (Array.getElem?_eq_some_iff.1 h).1
theorem TapeAt.farW {w w' : World} {b : Nat} {t : TapeL} (h : TapeAt w b t) (hB : Below w.heap.size w w') : TapeAt w' b t := (hB.block _ h.ltW).trans h
def GtW (b : Nat) (w w' : World) (t : TapeL) : Prop :=
  TapeAt w' b t ∧ w.grownBy w' (some b) ∧ w'.heap[w.heap.size]? = some (.cells zeroW.cells 31 (0, 0)) ∧ b < w.heap.size
theorem GtW.rd {b : Nat} {w w' w2 : World} {t t2 : TapeL} (h : GtW b w w' t) (hr : TapeAt w2 b t2) (hg : w'.grownBy w2 (some b)) : GtW b w w2 t2 := by
  obtain ⟨h1, h2, h3, h4⟩ := h
  exact ⟨hr, grown_trans h2 hg, (hg.block _ (Array.getElem?_eq_some_iff.1 h3).1 (by simp; omega)).trans h3, h4⟩
theorem GtW.below {b : Nat} {w w' w2 : World} {t : TapeL} (h : GtW b w w' t) (hB : Below w'.heap.size w' w2) : GtW b w w2 t := h.rd (h.1.farW hB) (below_gb hB)
theorem GtW.fin {b : Nat} {w w' : World} {t : TapeL} (h : GtW b w w' t) (cs : Array Value) :
    (w'.setRow w.heap.size cs).heap[w.heap.size]? = some (.cells cs 31 (0, 0)) ∧ TapeAt (w'.setRow w.heap.size cs) b t ∧ w.grownBy (w'.setRow w.heap.size cs) (some b) := by
  obtain ⟨h1, h2, h3, h4⟩ := h
  exact ⟨setRow_heap _ _ _ _ _ _ h3, (setRow_other _ _ _ _ (by omega)).trans h1, ⟨h2.os, h2.tape, h2.output, by simpa [World.setRow] using h2.size, fun k hk hne => (setRow_other _ _ _ _ (by omega)).trans (h2.block k hk hne)⟩⟩
set_option maxRecDepth 100000 in
set_option maxHeartbeats 2000000 in
theorem rwGet_any (w : World) (b : Nat) (t0 : TapeL) (h : TapeAt w b t0) :
    Calls Tryd.prog 32 #[.pointer (some ⟨b, 0, none⟩)] w (TapeEnd w b t0.window.2 (.agg t0.window.1.cells)) := by
  have hbl := h.ltW
  obtain ⟨w0, hw0⟩ : ∃ W, W = w.alloc (.cells #[.string ⟨#[]⟩, .int .i64 0, .int .i64 0] 31) := ⟨_, rfl⟩
  have S0 : Hid (GtW b w w0 t0) := by
    have h1 : Below w.heap.size w w0 := by rw [hw0]; exact (Below.refl _ w).alloc (Nat.le_refl _) _
    refine Lib.hid ⟨h.farW h1, below_gb h1, ?_, hbl⟩
    rw [hw0]
    exact heap_alloc_new _ _
  obtain ⟨P, hP⟩ : ∃ P, P = TapeEnd w b t0.window.2 (.agg t0.window.1.cells) := ⟨_, rfl⟩
  rw [← hP]
  have HP := Lib.hid hP
  obtain ⟨key, hkey⟩ : ∃ x, x = (t0.text 16).1 := ⟨_, rfl⟩
  obtain ⟨t1, ht1⟩ : ∃ x, x = (t0.text 16).2 := ⟨_, rfl⟩
  obtain ⟨na, hna⟩ : ∃ x, x = (t1.number 9223372036854775807).1 := ⟨_, rfl⟩
  obtain ⟨t2, ht2⟩ : ∃ x, x = (t1.number 9223372036854775807).2 := ⟨_, rfl⟩
  obtain ⟨nn, hnn⟩ : ∃ x, x = (t2.number 9223372036854775807).1 := ⟨_, rfl⟩
  obtain ⟨t3, ht3⟩ : ∃ x, x = (t2.number 9223372036854775807).2 := ⟨_, rfl⟩
  obtain ⟨V, hV⟩ : ∃ V, V = Sv key := ⟨_, rfl⟩
  have HV := Lib.hid hV
  have HT1 : Hid (∀ w', TapeAt w' b t0 → Calls Tryd.prog 61 #[.pointer (some ⟨b, 0, none⟩), .int .i64 16] w' (TapeEnd w' b t1 V)) := by
    rw [ht1, hV, hkey]
    exact Lib.hid (fun w' h => rtText_any w' b t0 16 h)
  have HT2 : Hid (∀ w', TapeAt w' b t1 → Calls Tryd.prog 62 #[.pointer (some ⟨b, 0, none⟩), .int .i64 9223372036854775807] w' (TapeEnd w' b t2 (.int .i64 na))) := by
    rw [ht2, hna]
    exact Lib.hid (fun w' h => rtNumber_any w' b t1 9223372036854775807 h)
  have HT3 : Hid (∀ w', TapeAt w' b t2 → Calls Tryd.prog 62 #[.pointer (some ⟨b, 0, none⟩), .int .i64 9223372036854775807] w' (TapeEnd w' b t3 (.int .i64 nn))) := by
    rw [ht3, hnn]
    exact Lib.hid (fun w' h => rtNumber_any w' b t2 9223372036854775807 h)
  have HQ : Hid (∀ tz, tz = TapeL.lastW (WindowL.mk key na (na + nn)) t3 → t0.window = (if tz.e = 0 then (WindowL.mk key na (na + nn)) else zeroW, tz)) := by
    refine Lib.hid ?_
    rintro tz rfl
    have e : t0.win0 = ((WindowL.mk key na (na + nn)), t3) := by
      rw [ht3, hnn, ht2, hna, ht1, hkey]
      rfl
    rw [TapeL.window, e]
  have HBd : Hid ((0 ≤ na ∧ na ≤ 9223372036854775807) ∧ (0 ≤ nn ∧ nn ≤ 9223372036854775807) ∧ key.length ≤ 16) := by
    rw [hnn, hna, hkey]
    exact Lib.hid ⟨number_range t1 _ (by omega), number_range t2 _ (by omega), text16_len t0⟩
  clear hbl h hP hV hkey ht1 hna ht2 hnn ht3
  go_enter Tryd.func32, Tryd.ntmps32
  go_upto_region 1 with (fail)
  rw [← hw0]
  clear hw0
  go_wp2_with (fail)
  refine (HT1.out _ S0.out.1).mono ?_
  rintro e w1 ⟨rfl, h1, h2⟩
  have S1 := Lib.hid (S0.out.rd h1 h2)
  clear h1 h2
  dsimp only
  go_wp2_with (fail)
  refine (HT2.out _ S1.out.1).mono ?_
  rintro e w2 ⟨rfl, h1, h2⟩
  have S2 := Lib.hid (S1.out.rd h1 h2)
  clear h1 h2
  dsimp only
  go_wp2_with (fail)
  refine (HT3.out _ S2.out.1).mono ?_
  rintro e w3 ⟨rfl, h1, h2⟩
  have S3 := Lib.hid (S2.out.rd h1 h2)
  clear h1 h2
  dsimp only
  obtain ⟨c0, c1, f0, f1⟩ := S3.out.1.cells
  clear c0 f0 f1
  obtain ⟨q, hq⟩ : ∃ q, q = t3.e := ⟨_, rfl⟩
  rw [← hq] at c1
  have Hq := Lib.hid hq
  clear hq
  obtain ⟨⟨a0, a1⟩, ⟨b0, b1⟩, hk⟩ := HBd.out
  have Hk := Lib.hid hk
  clear hk
  by_cases hq0 : q = 0
  · subst hq0
    by_cases g1 : 1099511627776 < na
    · have Hr : Hid ((WindowL.mk key na (na + nn)).rightB = false) := by
        unfold WindowL.rightB
        rw [decide_eq_false (by simp only; omega), Bool.and_false]
        exact Lib.hid rfl
      have HF : Hid (∀ wz, TapeAt wz b (t3.fail 11) → w.grownBy wz (some b) → P (.returned (.agg zeroW.cells)) wz) := by
        refine Lib.hid (fun wz k1 k2 => ?_)
        rw [HP.out, HQ.out (t3.fail 11) (by rw [TapeL.lastW, Hr.out]; rfl), if_neg (by unfold TapeL.fail; rw [if_pos ⟨Hq.out.symm, by decide⟩]; exact (by decide : ¬ (11 : Int) = 0))]
        exact ⟨rfl, k1, k2⟩
      go_wp2_with (fail)
      refine (rtFail_any w3 b t3 11 S3.out.1).mono ?_
      rintro e w6 ⟨rfl, h1, h2⟩
      have S6 := Lib.hid (S3.out.rd h1 h2)
      clear h1 h2
      obtain ⟨c0, c1, f0, f1⟩ := S6.out.1.cells
      rw [show (t3.fail 11).e = 11 by unfold TapeL.fail; rw [if_pos ⟨Hq.out.symm, by decide⟩]] at c1
      clear c0 f0 f1
      dsimp only
      go_upto_region 7 with (fail)
      refine wp_region_lit ?_
      first
        | (refine wpList_store_row rfl _ _ _ rfl w.heap.size zeroW.cells rfl rfl 31 zeroW.cells S6.out.2.2.1 window_size rfl (window_one _) ?_)
        | (iterate 1 go_step
           refine wpList_store_row rfl _ _ _ rfl w.heap.size zeroW.cells rfl rfl 31 zeroW.cells S6.out.2.2.1 window_size rfl (window_one _) ?_)
        | (iterate 2 go_step
           refine wpList_store_row rfl _ _ _ rfl w.heap.size zeroW.cells rfl rfl 31 zeroW.cells S6.out.2.2.1 window_size rfl (window_one _) ?_)
        | (iterate 3 go_step
           refine wpList_store_row rfl _ _ _ rfl w.heap.size zeroW.cells rfl rfl 31 zeroW.cells S6.out.2.2.1 window_size rfl (window_one _) ?_)
        | (iterate 4 go_step
           refine wpList_store_row rfl _ _ _ rfl w.heap.size zeroW.cells rfl rfl 31 zeroW.cells S6.out.2.2.1 window_size rfl (window_one _) ?_)
        | (iterate 5 go_step
           refine wpList_store_row rfl _ _ _ rfl w.heap.size zeroW.cells rfl rfl 31 zeroW.cells S6.out.2.2.1 window_size rfl (window_one _) ?_)
        | (iterate 6 go_step
           refine wpList_store_row rfl _ _ _ rfl w.heap.size zeroW.cells rfl rfl 31 zeroW.cells S6.out.2.2.1 window_size rfl (window_one _) ?_)
        | (iterate 7 go_step
           refine wpList_store_row rfl _ _ _ rfl w.heap.size zeroW.cells rfl rfl 31 zeroW.cells S6.out.2.2.1 window_size rfl (window_one _) ?_)
      have HZ := Lib.hid (S6.out.fin zeroW.cells)
      obtain ⟨wz, hwz⟩ : ∃ W, W = w6.setRow w.heap.size zeroW.cells := ⟨_, rfl⟩
      rw [← hwz] at HZ ⊢
      clear hwz
      go_wp2_with (fail)
      exact bodyPost_ret (v := .agg zeroW.cells) (results_cell_row (p := 2) (ty := 31) rfl _ _ w.heap.size 31 zeroW.cells (0, 0) _ rfl HZ.out.1 Tryd.underlying31 rfl window_size) rfl (HF.out _ HZ.out.2.1 HZ.out.2.2)
    by_cases g2 : 4398046511104 < nn
    · have Hr : Hid ((WindowL.mk key na (na + nn)).rightB = false) := by
        unfold WindowL.rightB
        rw [decide_eq_false (by simp only; omega), Bool.and_false]
        exact Lib.hid rfl
      have HF : Hid (∀ wz, TapeAt wz b (t3.fail 11) → w.grownBy wz (some b) → P (.returned (.agg zeroW.cells)) wz) := by
        refine Lib.hid (fun wz k1 k2 => ?_)
        rw [HP.out, HQ.out (t3.fail 11) (by rw [TapeL.lastW, Hr.out]; rfl), if_neg (by unfold TapeL.fail; rw [if_pos ⟨Hq.out.symm, by decide⟩]; exact (by decide : ¬ (11 : Int) = 0))]
        exact ⟨rfl, k1, k2⟩
      go_wp2_with (fail)
      refine (rtFail_any w3 b t3 11 S3.out.1).mono ?_
      rintro e w6 ⟨rfl, h1, h2⟩
      have S6 := Lib.hid (S3.out.rd h1 h2)
      clear h1 h2
      obtain ⟨c0, c1, f0, f1⟩ := S6.out.1.cells
      rw [show (t3.fail 11).e = 11 by unfold TapeL.fail; rw [if_pos ⟨Hq.out.symm, by decide⟩]] at c1
      clear c0 f0 f1
      dsimp only
      go_upto_region 7 with (fail)
      refine wp_region_lit ?_
      first
        | (refine wpList_store_row rfl _ _ _ rfl w.heap.size zeroW.cells rfl rfl 31 zeroW.cells S6.out.2.2.1 window_size rfl (window_one _) ?_)
        | (iterate 1 go_step
           refine wpList_store_row rfl _ _ _ rfl w.heap.size zeroW.cells rfl rfl 31 zeroW.cells S6.out.2.2.1 window_size rfl (window_one _) ?_)
        | (iterate 2 go_step
           refine wpList_store_row rfl _ _ _ rfl w.heap.size zeroW.cells rfl rfl 31 zeroW.cells S6.out.2.2.1 window_size rfl (window_one _) ?_)
        | (iterate 3 go_step
           refine wpList_store_row rfl _ _ _ rfl w.heap.size zeroW.cells rfl rfl 31 zeroW.cells S6.out.2.2.1 window_size rfl (window_one _) ?_)
        | (iterate 4 go_step
           refine wpList_store_row rfl _ _ _ rfl w.heap.size zeroW.cells rfl rfl 31 zeroW.cells S6.out.2.2.1 window_size rfl (window_one _) ?_)
        | (iterate 5 go_step
           refine wpList_store_row rfl _ _ _ rfl w.heap.size zeroW.cells rfl rfl 31 zeroW.cells S6.out.2.2.1 window_size rfl (window_one _) ?_)
        | (iterate 6 go_step
           refine wpList_store_row rfl _ _ _ rfl w.heap.size zeroW.cells rfl rfl 31 zeroW.cells S6.out.2.2.1 window_size rfl (window_one _) ?_)
        | (iterate 7 go_step
           refine wpList_store_row rfl _ _ _ rfl w.heap.size zeroW.cells rfl rfl 31 zeroW.cells S6.out.2.2.1 window_size rfl (window_one _) ?_)
      have HZ := Lib.hid (S6.out.fin zeroW.cells)
      obtain ⟨wz, hwz⟩ : ∃ W, W = w6.setRow w.heap.size zeroW.cells := ⟨_, rfl⟩
      rw [← hwz] at HZ ⊢
      clear hwz
      go_wp2_with (fail)
      exact bodyPost_ret (v := .agg zeroW.cells) (results_cell_row (p := 2) (ty := 31) rfl _ _ w.heap.size 31 zeroW.cells (0, 0) _ rfl HZ.out.1 Tryd.underlying31 rfl window_size) rfl (HF.out _ HZ.out.2.1 HZ.out.2.2)
    obtain ⟨r, hr⟩ : ∃ r, r = (WindowL.mk key na (na + nn)).rightB := ⟨_, rfl⟩
    have HRt : Hid (∀ w', Calls Tryd.prog 15 #[.agg #[V, .int .i64 na, .int .i64 (na + nn)]] w' (Below0 w' (.bool r))) := by
      rw [hr, HV.out]
      exact Lib.hid (fun w' => rwRight_any w' (WindowL.mk key na (na + nn)) (Nat.le_trans Hk.out (by decide)))
    have Hr := Lib.hid hr
    clear hr
    have hbuilt : Tryd.prog.built 31 [(0, V), (1, .int .i64 na), (2, .int .i64 (na + nn))] = some #[V, .int .i64 na, .int .i64 (na + nn)] := by rw [HV.out]; kernel_rfl
    cases r with
    | true =>
      have HF : Hid (∀ wz, TapeAt wz b t3 → w.grownBy wz (some b) → P (.returned (.agg #[V, .int .i64 na, .int .i64 (na + nn)])) wz) := by
        refine Lib.hid (fun wz k1 k2 => ?_)
        rw [HV.out, HP.out, HQ.out t3 (by rw [TapeL.lastW, ← Hr.out]; rfl), if_pos Hq.out.symm]
        exact ⟨rfl, k1, k2⟩
      go_upto_region 4 with (fail)
      refine wp_region_lit ?_
      iterate 42 go_step
      refine wpList_build_on (by kernel_rfl) 31 _ rfl #[V, .int .i64 na, .int .i64 (na + nn)] (by simp only [List.map_toArray, List.map_cons, List.map_nil]; exact hbuilt) ?_
      go_wp2_with (fail)
      refine (HRt.out _).mono ?_
      rintro e w5 ⟨rfl, hB⟩
      have S5 := Lib.hid (S3.out.below hB)
      clear hB c1
      obtain ⟨c0, c1, f0, f1⟩ := S5.out.1.cells
      rw [← Hq.out] at c1
      clear c0 f0 f1
      dsimp only
      go_upto_region 8 with (fail)
      refine wp_region_lit ?_
      iterate 15 go_step
      refine wpList_build_on (by kernel_rfl) 31 _ rfl #[V, .int .i64 na, .int .i64 (na + nn)] (by simp only [List.map_toArray, List.map_cons, List.map_nil]; exact hbuilt) ?_
      first
        | (refine wpList_store_row rfl _ _ _ rfl w.heap.size #[V, .int .i64 na, .int .i64 (na + nn)] rfl rfl 31 zeroW.cells S5.out.2.2.1 window_size rfl (by rw [HV.out]; exact window_one (WindowL.mk key na (na + nn))) ?_)
        | (iterate 1 go_step
           refine wpList_store_row rfl _ _ _ rfl w.heap.size #[V, .int .i64 na, .int .i64 (na + nn)] rfl rfl 31 zeroW.cells S5.out.2.2.1 window_size rfl (by rw [HV.out]; exact window_one (WindowL.mk key na (na + nn))) ?_)
        | (iterate 2 go_step
           refine wpList_store_row rfl _ _ _ rfl w.heap.size #[V, .int .i64 na, .int .i64 (na + nn)] rfl rfl 31 zeroW.cells S5.out.2.2.1 window_size rfl (by rw [HV.out]; exact window_one (WindowL.mk key na (na + nn))) ?_)
        | (iterate 3 go_step
           refine wpList_store_row rfl _ _ _ rfl w.heap.size #[V, .int .i64 na, .int .i64 (na + nn)] rfl rfl 31 zeroW.cells S5.out.2.2.1 window_size rfl (by rw [HV.out]; exact window_one (WindowL.mk key na (na + nn))) ?_)
      have HZ := Lib.hid (S5.out.fin #[V, .int .i64 na, .int .i64 (na + nn)])
      obtain ⟨wz, hwz⟩ : ∃ W, W = w5.setRow w.heap.size #[V, .int .i64 na, .int .i64 (na + nn)] := ⟨_, rfl⟩
      rw [← hwz] at HZ ⊢
      clear hwz
      go_wp2_with (fail)
      exact bodyPost_ret (v := .agg #[V, .int .i64 na, .int .i64 (na + nn)]) (results_cell_row (p := 2) (ty := 31) rfl _ _ w.heap.size 31 #[V, .int .i64 na, .int .i64 (na + nn)] (0, 0) _ rfl HZ.out.1 Tryd.underlying31 rfl window_size) rfl (HF.out _ HZ.out.2.1 HZ.out.2.2)
    | false =>
      have HF : Hid (∀ wz, TapeAt wz b (t3.fail 11) → w.grownBy wz (some b) → P (.returned (.agg zeroW.cells)) wz) := by
        refine Lib.hid (fun wz k1 k2 => ?_)
        rw [HP.out, HQ.out (t3.fail 11) (by rw [TapeL.lastW, ← Hr.out]; rfl), if_neg (by unfold TapeL.fail; rw [if_pos ⟨Hq.out.symm, by decide⟩]; exact (by decide : ¬ (11 : Int) = 0))]
        exact ⟨rfl, k1, k2⟩
      go_upto_region 4 with (fail)
      refine wp_region_lit ?_
      iterate 42 go_step
      refine wpList_build_on (by kernel_rfl) 31 _ rfl #[V, .int .i64 na, .int .i64 (na + nn)] (by simp only [List.map_toArray, List.map_cons, List.map_nil]; exact hbuilt) ?_
      go_wp2_with (fail)
      refine (HRt.out _).mono ?_
      rintro e w5 ⟨rfl, hB⟩
      have S5 := Lib.hid (S3.out.below hB)
      clear hB c1
      dsimp only
      go_wp2_with (fail)
      refine (rtFail_any w5 b t3 11 S5.out.1).mono ?_
      rintro e w6 ⟨rfl, h1, h2⟩
      have S6 := Lib.hid (S5.out.rd h1 h2)
      clear h1 h2
      obtain ⟨c0, c1, f0, f1⟩ := S6.out.1.cells
      rw [show (t3.fail 11).e = 11 by unfold TapeL.fail; rw [if_pos ⟨Hq.out.symm, by decide⟩]] at c1
      clear c0 f0 f1
      dsimp only
      go_upto_region 7 with (fail)
      refine wp_region_lit ?_
      first
        | (refine wpList_store_row rfl _ _ _ rfl w.heap.size zeroW.cells rfl rfl 31 zeroW.cells S6.out.2.2.1 window_size rfl (window_one _) ?_)
        | (iterate 1 go_step
           refine wpList_store_row rfl _ _ _ rfl w.heap.size zeroW.cells rfl rfl 31 zeroW.cells S6.out.2.2.1 window_size rfl (window_one _) ?_)
        | (iterate 2 go_step
           refine wpList_store_row rfl _ _ _ rfl w.heap.size zeroW.cells rfl rfl 31 zeroW.cells S6.out.2.2.1 window_size rfl (window_one _) ?_)
        | (iterate 3 go_step
           refine wpList_store_row rfl _ _ _ rfl w.heap.size zeroW.cells rfl rfl 31 zeroW.cells S6.out.2.2.1 window_size rfl (window_one _) ?_)
        | (iterate 4 go_step
           refine wpList_store_row rfl _ _ _ rfl w.heap.size zeroW.cells rfl rfl 31 zeroW.cells S6.out.2.2.1 window_size rfl (window_one _) ?_)
        | (iterate 5 go_step
           refine wpList_store_row rfl _ _ _ rfl w.heap.size zeroW.cells rfl rfl 31 zeroW.cells S6.out.2.2.1 window_size rfl (window_one _) ?_)
        | (iterate 6 go_step
           refine wpList_store_row rfl _ _ _ rfl w.heap.size zeroW.cells rfl rfl 31 zeroW.cells S6.out.2.2.1 window_size rfl (window_one _) ?_)
        | (iterate 7 go_step
           refine wpList_store_row rfl _ _ _ rfl w.heap.size zeroW.cells rfl rfl 31 zeroW.cells S6.out.2.2.1 window_size rfl (window_one _) ?_)
      have HZ := Lib.hid (S6.out.fin zeroW.cells)
      obtain ⟨wz, hwz⟩ : ∃ W, W = w6.setRow w.heap.size zeroW.cells := ⟨_, rfl⟩
      rw [← hwz] at HZ ⊢
      clear hwz
      go_wp2_with (fail)
      exact bodyPost_ret (v := .agg zeroW.cells) (results_cell_row (p := 2) (ty := 31) rfl _ _ w.heap.size 31 zeroW.cells (0, 0) _ rfl HZ.out.1 Tryd.underlying31 rfl window_size) rfl (HF.out _ HZ.out.2.1 HZ.out.2.2)
  · have e1 : (q == 0) = false := by simpa using hq0
    have e2 : (q != 0) = true := by simpa using hq0
    have HF : Hid (∀ wz, TapeAt wz b t3 → w.grownBy wz (some b) → P (.returned (.agg zeroW.cells)) wz) := by
      refine Lib.hid (fun wz k1 k2 => ?_)
      rw [HP.out, HQ.out t3 (by unfold TapeL.lastW; rw [fail_err (by rw [← Hq.out]; exact hq0)]; split <;> rfl), if_neg (by rw [← Hq.out]; exact hq0)]
      exact ⟨rfl, k1, k2⟩
    clear hq0
    go_upto_region 7 with (fail)
    refine wp_region_lit ?_
    first
      | (refine wpList_store_row rfl _ _ _ rfl w.heap.size zeroW.cells rfl rfl 31 zeroW.cells S3.out.2.2.1 window_size rfl (window_one _) ?_)
      | (iterate 1 go_step
         refine wpList_store_row rfl _ _ _ rfl w.heap.size zeroW.cells rfl rfl 31 zeroW.cells S3.out.2.2.1 window_size rfl (window_one _) ?_)
      | (iterate 2 go_step
         refine wpList_store_row rfl _ _ _ rfl w.heap.size zeroW.cells rfl rfl 31 zeroW.cells S3.out.2.2.1 window_size rfl (window_one _) ?_)
      | (iterate 3 go_step
         refine wpList_store_row rfl _ _ _ rfl w.heap.size zeroW.cells rfl rfl 31 zeroW.cells S3.out.2.2.1 window_size rfl (window_one _) ?_)
      | (iterate 4 go_step
         refine wpList_store_row rfl _ _ _ rfl w.heap.size zeroW.cells rfl rfl 31 zeroW.cells S3.out.2.2.1 window_size rfl (window_one _) ?_)
      | (iterate 5 go_step
         refine wpList_store_row rfl _ _ _ rfl w.heap.size zeroW.cells rfl rfl 31 zeroW.cells S3.out.2.2.1 window_size rfl (window_one _) ?_)
      | (iterate 6 go_step
         refine wpList_store_row rfl _ _ _ rfl w.heap.size zeroW.cells rfl rfl 31 zeroW.cells S3.out.2.2.1 window_size rfl (window_one _) ?_)
      | (iterate 7 go_step
         refine wpList_store_row rfl _ _ _ rfl w.heap.size zeroW.cells rfl rfl 31 zeroW.cells S3.out.2.2.1 window_size rfl (window_one _) ?_)
    have HZ := Lib.hid (S3.out.fin zeroW.cells)
    obtain ⟨wz, hwz⟩ : ∃ W, W = w3.setRow w.heap.size zeroW.cells := ⟨_, rfl⟩
    rw [← hwz] at HZ ⊢
    clear hwz
    go_wp2_with (fail)
    exact bodyPost_ret (v := .agg zeroW.cells) (results_cell_row (p := 2) (ty := 31) rfl _ _ w.heap.size 31 zeroW.cells (0, 0) _ rfl HZ.out.1 Tryd.underlying31 rfl window_size) rfl (HF.out _ HZ.out.2.1 HZ.out.2.2)
end Go.Proofs.YtkgmcjeficgciaaDoor
