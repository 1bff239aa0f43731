/-
  The contract of package wins's Get.
-/
import Derived.Test.YtkgmcjeficgciaaDoorWinsRight
import Derived.Test.YtkgmcjeficgciaaDoorReadMore
namespace Go.Proofs.YtkgmcjeficgciaaDoor
open Go Go.RowKit

def GetW (base b xb : Nat) (w w' : World) (t : TapeL) (x : WindowL) : Prop :=
  RdAt base w' b t ∧ w.grownBy w' (some b) ∧ w'.heap[w.heap.size]? = some (.cells zeroW.cells 31 (0, 0)) ∧ w'.heap[xb]? = some (.cells x.cells 31 (0, 0)) ∧ w.heap.size < xb ∧ b < w.heap.size ∧ base ≤ w.heap.size
theorem GetW.cell {base b xb : Nat} {w w' : World} {t : TapeL} {x : WindowL} (h : GetW base b xb w w' t x) (i : Nat) {v : Value} (hi : x.cells[i]? = some v) : w'.cell? ⟨xb, i, none⟩ = some v := by
  rw [cell_of_row _ _ _ _ _ _ h.2.2.2.1]
  exact hi
theorem GetW.fro {base b xb : Nat} {w w' : World} {t : TapeL} {x : WindowL} (h : GetW base b xb w w' t x) (i : Nat) : w'.frozen? ⟨xb, i, none⟩ = false := frozen_of_row _ _ _ _ _ h.2.2.2.1
theorem GetW.rd {base b xb : Nat} {w w' w2 : World} {t t2 : TapeL} {x : WindowL} (h : GetW base b xb w w' t x) (hr : RdAt base w2 b t2) (hg : w'.grownBy w2 (some b)) : GetW base b xb w w2 t2 x := by
  obtain ⟨h1, h2, h3, h4, h5, h6, h7⟩ := h
  exact ⟨hr, grown_trans h2 hg, (hg.block _ (Array.getElem?_eq_some_iff.1 h3).1 (by simp; omega)).trans h3, (hg.block _ (Array.getElem?_eq_some_iff.1 h4).1 (by simp; omega)).trans h4, h5, h6, h7⟩
theorem GetW.below {base b xb : Nat} {w w' w2 : World} {t : TapeL} {x : WindowL} (h : GetW base b xb w w' t x) (hB : Below w'.heap.size w' w2) : GetW base b xb w w2 t x := h.rd (h.1.below hB) (below_gb hB)
theorem GetW.set {base b xb : Nat} {w w' : World} {t : TapeL} {x y : WindowL} (h : GetW base b xb w w' t x) (i : Nat) (v : Value) (hy : y.cells = x.cells.setIfInBounds i v) : GetW base b xb w (w'.setCell ⟨xb, i, none⟩ v) t y := by
  obtain ⟨h1, h2, h3, h4, h5, h6, h7⟩ := h
  refine ⟨h1.same (heap_setCell_other _ _ _ _ (by show b ≠ xb; omega)) (fun k hk _ _ => heap_setCell_other _ _ _ _ (by show k ≠ xb; omega)), ⟨h2.os, h2.tape, h2.output, by simpa [World.setCell] using h2.size, fun k hk hne => (heap_setCell_other _ _ _ _ (by show k ≠ xb; omega)).trans (h2.block k hk hne)⟩,
    (heap_setCell_other _ _ _ _ (by show w.heap.size ≠ xb; omega)).trans h3, ?_, h5, h6, h7⟩
  rw [hy]
  exact heap_setCell_same _ _ _ _ _ _ h4
theorem GetW.fin {base b xb : Nat} {w w' : World} {t : TapeL} {x : WindowL} (h : GetW base b xb w w' t x) (cs : Array Value) :
    (w'.setRow w.heap.size cs).heap[w.heap.size]? = some (.cells cs 31 (0, 0)) ∧ RdAt base (w'.setRow w.heap.size cs) b t ∧ w.grownBy (w'.setRow w.heap.size cs) (some b) := by
  obtain ⟨h1, h2, h3, h4, h5, h6, h7⟩ := h
  exact ⟨setRow_heap _ _ _ _ _ _ h3, h1.same (setRow_other _ _ _ _ (by omega)) (fun k hk _ _ => setRow_other _ _ _ _ (by omega)), ⟨h2.os, h2.tape, h2.output, by simpa [World.setRow] using h2.size, fun k hk hne => (setRow_other _ _ _ _ (by omega)).trans (h2.block k hk hne)⟩⟩
theorem fail_e (t : TapeL) : (t.fail 11).e ≠ 0 := by
  unfold TapeL.fail
  split
  · decide
  · rename_i h
    intro h0
    exact h ⟨h0, by decide⟩
/-- Both ends as they are read, and as the document's tape reads them. -/
theorem window_read (key : List (BitVec 8)) (lo n hi : Int) (t3 : TapeL) (h0 : 0 ≤ lo) (h1 : lo ≤ 9223372036854775807) (h2 : 0 ≤ n) (h3 : n ≤ 9223372036854775807) (hs : wrap64 (lo + n) = hi) :
    ∀ tz, tz = TapeL.lastW (WindowL.mk key lo hi) t3 →
      ((if (TapeL.lastW (WindowL.mk key lo (lo + n)) t3).e = 0 then WindowL.mk key lo (lo + n) else zeroW, TapeL.lastW (WindowL.mk key lo (lo + n)) t3) : WindowL × TapeL) = (if tz.e = 0 then WindowL.mk key lo hi else zeroW, tz) := by
  rintro tz rfl
  by_cases h : lo + n ≤ 9223372036854775807
  · rw [IntWalk.wrap64_in _ (by omega)] at hs
    rw [hs]
  · have hh : hi < lo := by
      rw [← hs, wrap64]
      omega
    have e1 : (WindowL.mk key lo hi).rightB = false := by
      rw [WindowL.rightB, decide_eq_false (by simp only; omega), Bool.and_false]
    have e2 : (WindowL.mk key lo (lo + n)).rightB = false := by
      rw [WindowL.rightB, decide_eq_false (by simp only; omega), Bool.and_false]
    have l1 : TapeL.lastW (WindowL.mk key lo hi) t3 = t3.fail 11 := by rw [TapeL.lastW, e1]; rfl
    have l2 : TapeL.lastW (WindowL.mk key lo (lo + n)) t3 = t3.fail 11 := by rw [TapeL.lastW, e2]; rfl
    rw [l1, l2, if_neg (fail_e t3), if_neg (fail_e t3)]
theorem built_window1 (k : List (BitVec 8)) : Tryd.prog.built 31 [(0, Sv k)] = some (WindowL.mk k 0 0).cells := by kernel_rfl
set_option maxRecDepth 100000 in
theorem wpart_any (w : World) (base b : Nat) (t : TapeL) (h : RdAt base w b t) :
    Calls Tryd.prog 58 #[.pointer (some ⟨b, 0, none⟩)] w (RdEnd base w b (t.number 9223372036854775807).2 (.int .i64 (t.number 9223372036854775807).1)) := by
  have HN := Lib.hid (rnumber_any w base b t 9223372036854775807 h)
  obtain ⟨v, hv⟩ : ∃ v, v = (t.number 9223372036854775807).1 := ⟨_, rfl⟩
  obtain ⟨t2, ht2⟩ : ∃ v, v = (t.number 9223372036854775807).2 := ⟨_, rfl⟩
  rw [← hv, ← ht2] at HN ⊢
  clear hv ht2 h
  go_enter Tryd.func58, Tryd.ntmps58
  go_wp2_with (fail)
  refine HN.out.mono ?_
  rintro e w3 ⟨rfl, h1, h2⟩
  have H3 := Lib.hid (And.intro h1 h2)
  clear h1 h2
  dsimp only
  go_wp2_with (fail)
  go_ret
  exact ⟨rfl, H3.out⟩
def GW3 (base b xb : Nat) (w : World) (t2 t3 : TapeL) (key : List (BitVec 8)) (lo hi : Int) (k : Nat) (w' : World) : Prop :=
  GetW base b xb w w' (if k = 0 then t2 else t3) ⟨key, lo, if k ≤ 1 then 0 else hi⟩
set_option maxRecDepth 100000 in
set_option maxHeartbeats 4000000 in
theorem wget_any (w : World) (base b : Nat) (t0 : TapeL) (h : RdAt base w b t0) (hb : base ≤ w.heap.size) :
    Calls Tryd.prog 31 #[.pointer (some ⟨b, 0, none⟩)] w (RdEnd base w b t0.window.2 (.agg t0.window.1.cells)) := by
  have hbl := h.lt
  obtain ⟨w0, hw0⟩ : ∃ W, W = w.alloc (.cells #[.string ⟨#[]⟩, .int .i64 0, .int .i64 0] 31) := ⟨_, rfl⟩
  have HB0 : Hid (Below w.heap.size w w0 ∧ w0.heap[w.heap.size]? = some (.cells zeroW.cells 31 (0, 0))) := by
    rw [hw0]
    exact Lib.hid ⟨(Below.refl _ w).alloc (Nat.le_refl _) _, heap_alloc_new w _⟩
  obtain ⟨wx, hwx⟩ : ∃ W, W = w0.alloc (.cells #[.string ⟨#[]⟩, .int .i64 0, .int .i64 0] 31) := ⟨_, rfl⟩
  obtain ⟨xb, hxb⟩ : ∃ x, x = w0.heap.size := ⟨_, rfl⟩
  have HBX : Hid (Below w0.heap.size w0 wx ∧ wx.heap[xb]? = some (.cells zeroW.cells 31 (0, 0))) := by
    rw [hwx, hxb]
    exact Lib.hid ⟨(Below.refl _ w0).alloc (Nat.le_refl _) _, heap_alloc_new w0 _⟩
  have HTx := Lib.hid (rtext_any wx base b t0 16 ((h.below HB0.out.1).below HBX.out.1))
  have HH := Lib.hid (And.intro hbl hb)
  clear hbl hb h
  obtain ⟨key, hkey⟩ : ∃ x, x = (t0.text 16).1 := ⟨_, rfl⟩
  obtain ⟨t1, ht1⟩ : ∃ x, x = (t0.text 16).2 := ⟨_, rfl⟩
  obtain ⟨lo, hlo⟩ : ∃ x, x = (t1.number 9223372036854775807).1 := ⟨_, rfl⟩
  obtain ⟨t2, ht2⟩ : ∃ x, x = (t1.number 9223372036854775807).2 := ⟨_, rfl⟩
  obtain ⟨n, hn⟩ : ∃ x, x = (t2.number 9223372036854775807).1 := ⟨_, rfl⟩
  obtain ⟨t3, ht3⟩ : ∃ x, x = (t2.number 9223372036854775807).2 := ⟨_, rfl⟩
  obtain ⟨hi, hhi⟩ : ∃ x, wrap64 (lo + n) = x := ⟨_, rfl⟩
  have HSm := Lib.hid hhi
  have hln : key.length ≤ 1000000 := Nat.le_trans (by rw [hkey]; exact text16_len t0) (by decide)
  have HQ : Hid (∀ tz, tz = TapeL.lastW (WindowL.mk key lo hi) t3 → t0.window = (if tz.e = 0 then WindowL.mk key lo hi else zeroW, tz)) := by
    have r1 := number_range t1 9223372036854775807 (by decide)
    have r2 := number_range t2 9223372036854775807 (by decide)
    rw [← hlo] at r1
    rw [← hn] at r2
    have e : t0.win0 = (WindowL.mk key lo (lo + n), t3) := by
      rw [hn, ht3, hlo, ht2, hkey, ht1]
      rfl
    have e2 : t0.window = ((if (TapeL.lastW (WindowL.mk key lo (lo + n)) t3).e = 0 then WindowL.mk key lo (lo + n) else zeroW, TapeL.lastW (WindowL.mk key lo (lo + n)) t3) : WindowL × TapeL) := by rw [TapeL.window, e]
    rw [e2]
    exact Lib.hid (window_read key lo n hi t3 r1.1 r1.2 r2.1 r2.2 hhi)
  have HRa : Hid (∀ w', RdAt base w' b t1 → Calls Tryd.prog 58 #[.pointer (some ⟨b, 0, none⟩)] w' (RdEnd base w' b t2 (.int .i64 lo))) := Lib.hid (fun w' h => by rw [ht2, hlo]; exact wpart_any w' base b t1 h)
  have HRC : Hid (∀ w', RdAt base w' b t2 → Calls Tryd.prog 58 #[.pointer (some ⟨b, 0, none⟩)] w' (RdEnd base w' b t3 (.int .i64 n))) := Lib.hid (fun w' h => by rw [ht3, hn]; exact wpart_any w' base b t2 h)
  have HK := Lib.hid (And.intro hkey ht1)
  have HL := Lib.hid hln
  obtain ⟨P, hP⟩ : ∃ P, P = RdEnd base w b t0.window.2 (.agg t0.window.1.cells) := ⟨_, rfl⟩
  rw [← hP]
  have HP := Lib.hid hP
  clear hkey ht1 hlo ht2 hn ht3 hhi hln hP
  go_enter Tryd.func31, Tryd.ntmps31
  go_upto_region 1 with (fail)
  rw [← hw0]
  clear hw0
  go_upto_region 2 with (fail)
  rw [← hwx, ← hxb]
  clear hwx
  go_wp2_with (fail)
  refine HTx.out.mono ?_
  rintro e w1 ⟨sa, sc, rfl, hsrc, h1, h2⟩
  rw [← HK.out.1] at hsrc ⊢
  rw [← HK.out.2] at h1
  have hcv : (convert 42 9 (.slice sa key.length sc)).run Tryd.prog w1 = .ok (Sv key) w1 := run_conv_str w1 sa sc key hsrc.srcP
  have S1 : Hid (GetW base b xb w w1 t1 zeroW) := by
    have g1 : w.grownBy w1 (some b) := grown_trans (below_gb HB0.out.1) (grown_trans (below_gb HBX.out.1) h2)
    have hs0 : w.heap.size < w0.heap.size := (Array.getElem?_eq_some_iff.1 HB0.out.2).1
    have hs1 : xb < wx.heap.size := (Array.getElem?_eq_some_iff.1 HBX.out.2).1
    have hbl := HH.out.1
    have hbs := HH.out.2
    exact Lib.hid ⟨h1, g1, (h2.block _ (by omega) (by simp; omega)).trans ((HBX.out.1.block _ hs0).trans HB0.out.2), (h2.block _ hs1 (by simp; omega)).trans HBX.out.2, by omega, hbl, hbs⟩
  clear hsrc h1 h2 hxb
  have f1 := S1.out.fro 0
  have g1 : w1.cell? ⟨xb, 0, none⟩ = _ := S1.out.cell 0 rfl
  have hst : (storeCells ⟨xb, 0, none⟩ [Sv key]).run Tryd.prog w1 = .ok () (w1.setCell ⟨xb, 0, none⟩ (Sv key)) := by
    rw [run_storeCells_Sv]
    simp [stored, f1, g1]
  dsimp only
  go_wp2_with (fail)
  rw [hst]
  clear hst f1 g1 hcv
  obtain ⟨w2, hw2⟩ : ∃ W, W = w1.setCell ⟨xb, 0, none⟩ (Sv key) := ⟨_, rfl⟩
  rw [← hw2]
  have S2 : Hid (GetW base b xb w w2 t1 ⟨key, 0, 0⟩) := by rw [hw2]; exact Lib.hid (S1.out.set 0 (Sv key) rfl)
  clear hw2
  go_wp2_with (fail)
  refine (HRa.out w2 S2.out.1).mono ?_
  rintro e w3 ⟨rfl, h1, h2⟩
  have S3 := Lib.hid (S2.out.rd h1 h2)
  clear h1 h2
  have f := S3.out.fro 1
  have g : w3.cell? ⟨xb, 1, none⟩ = _ := S3.out.cell 1 rfl
  dsimp only
  go_upto_region 4 with (fail)
  obtain ⟨w4, hw⟩ : ∃ W, W = w3.setCell ⟨xb, 1, none⟩ (.int .i64 lo) := ⟨_, rfl⟩
  rw [← hw]
  have S4 : Hid (GetW base b xb w w4 t2 ⟨key, lo, 0⟩) := by rw [hw]; exact Lib.hid (S3.out.set 1 _ rfl)
  clear hw f g
  have HG0 : Hid (GW3 base b xb w t2 t3 key lo hi 0 w4.drew) := Lib.hid (GetW.below S4.out (Below.refl _ w4).drew)
  refine wp_region_seq_frame (by kernel_rfl) [none, none, none, some 0, none, none, some 1] [3, 6] (vOfC [.pointer (some ⟨xb, 1, none⟩), .int .i64 lo, .pointer (some ⟨b, 0, none⟩), .int .i64 n, .int .i64 hi, .pointer (some ⟨xb, 2, none⟩), undef]) (GW3 base b xb w t2 t3 key lo hi) (fun _ _ => True) (fun _ _ _ _ _ h => h) (by kernel_rfl) (by kernel_rfl) (by kernel_rfl) HG0.out ⟨trivial, trivial, trivial, trivial, trivial, trivial, trivial, trivial⟩ ?_ ?_
  · refine ⟨?_, ?_, ?_, ?_, ?_, ?_, ?_, trivial⟩
    · intro k a w' hG hout hpre K hK
      have q3 := ev_of ((hout 3 rfl).trans (show _ = .pointer (some ⟨xb, 0, none⟩) from rfl))
      clear hout hpre
      go_step
      exact hK _ _ rfl hG trivial
    · intro k a w' hG hout hpre K hK
      obtain ⟨p0, _⟩ := hpre
      have q11 := ev_of (show a.eval (.tmp 11) = .pointer (some ⟨xb, 1, none⟩) from p0)
      have hc : w'.cell? ⟨xb, 1, none⟩ = some (.int .i64 lo) := GetW.cell hG 1 rfl
      clear hout p0
      go_step
      exact hK _ _ rfl hG trivial
    · intro k a w' hG hout hpre K hK
      have q0 := ev_of ((hout 0 rfl).trans (show _ = .pointer (some ⟨b, 0, none⟩) from rfl))
      clear hout hpre
      go_step
      exact hK _ _ rfl hG trivial
    · intro a w' hG hout hpre K hK
      obtain ⟨p0, _⟩ := hpre
      have q13 := ev_of (show a.eval (.tmp 13) = .pointer (some ⟨b, 0, none⟩) from p0)
      have HS := Lib.hid (HRC.out w' hG.1)
      clear hout p0
      go_step
      refine HS.out.mono ?_
      rintro e w3 ⟨rfl, hR, hg⟩
      exact hK _ _ rfl (GetW.rd hG hR hg) trivial
    · intro k a w' hG hout hpre K hK
      obtain ⟨p0, p1, _⟩ := hpre
      have q12 := ev_of (show a.eval (.tmp 12) = .int .i64 lo from p0)
      have q14 := ev_of (show a.eval (.tmp 14) = .int .i64 n from p1)
      clear hout p0 p1
      go_step
      exact hK _ _ (by rw [HSm.out]; rfl) hG trivial
    · intro k a w' hG hout hpre K hK
      have q3 := ev_of ((hout 3 rfl).trans (show _ = .pointer (some ⟨xb, 0, none⟩) from rfl))
      clear hout hpre
      go_step
      exact hK _ _ rfl hG trivial
    · intro a w' hG hout hpre K hK
      obtain ⟨p0, p1, _⟩ := hpre
      have q16 := ev_of (show a.eval (.tmp 16) = .pointer (some ⟨xb, 2, none⟩) from p0)
      have q15 := ev_of (show a.eval (.tmp 15) = .int .i64 hi from p1)
      have f := GetW.fro hG 2
      have gg : w'.cell? ⟨xb, 2, none⟩ = some (.int .i64 0) := GetW.cell hG 2 rfl
      clear hout p0 p1
      go_step
      exact hK _ _ rfl (GetW.set hG 2 _ rfl) trivial
  · intro vs w2 hG hlen hV
    match vs, hlen, hV with
    | [v0, v1, v2, v3, v4, v5, v6], _, hV =>
      clear hV
      simp only [putsL, List.tail_cons, List.headD_cons]
      simp only [Act.put, List.setIfInBounds_toArray, List.set_cons_succ, List.set_cons_zero]
      have S6 : Hid (GetW base b xb w w2 t3 (WindowL.mk key lo hi)) := hG
      clear hG
      obtain ⟨w6, hw6⟩ : ∃ x, x = w2 := ⟨_, rfl⟩
      rw [← hw6] at S6 ⊢
      clear hw6
      obtain ⟨r, hr⟩ : ∃ r, r = (WindowL.mk key lo hi).rightB := ⟨_, rfl⟩
      have HRt : Hid (Calls Tryd.prog 17 #[.agg (WindowL.mk key lo hi).cells] w6 (Below0 w6 (.bool r))) := by
        rw [hr]
        exact Lib.hid (wright_any w6 _ HL.out)
      unfold WindowL.cells at HRt
      have Hr := Lib.hid hr
      clear hr
      have d0 : w6.cell? ⟨xb, 0, none⟩ = _ := S6.out.cell 0 rfl
      have d1 : w6.cell? ⟨xb, 1, none⟩ = _ := S6.out.cell 1 rfl
      have d2 : w6.cell? ⟨xb, 2, none⟩ = _ := S6.out.cell 2 rfl
      cases r with
      | true =>
        go_wp2_with (fail)
        refine HRt.out.mono ?_
        rintro e wr ⟨rfl, hBR⟩
        have SR := Lib.hid (S6.out.below hBR)
        clear hBR d0 d1 d2
        dsimp only
        obtain ⟨tz, htz⟩ : ∃ z, z = t3 := ⟨_, rfl⟩
        rw [← htz] at SR
        have HI2 := Lib.hid (HQ.out tz (by rw [htz, TapeL.lastW, ← Hr.out]; rfl))
        obtain ⟨q, hq⟩ : ∃ q, q = tz.e := ⟨_, rfl⟩
        have HE : Hid (Calls Tryd.prog 60 #[.pointer (some ⟨b, 0, none⟩)] wr fun e w' => e = .returned (.int .i64 q) ∧ w' = wr) := by
          rw [hq]
          exact rerr_any wr base b tz SR.out.1
        clear htz
        by_cases hq0 : q = 0
        · have HF : Hid (∀ wz, RdAt base wz b tz → w.grownBy wz (some b) → P (.returned (.agg (WindowL.mk key lo hi).cells)) wz) := by
            refine Lib.hid (fun wz k1 k2 => ?_)
            rw [HP.out, HI2.out, if_pos (by rw [← hq]; exact hq0)]
            exact ⟨rfl, k1, k2⟩
          clear hq
          subst hq0
          go_wp2_with (fail)
          refine HE.out.mono ?_
          rintro e we ⟨rfl, hwe⟩
          subst we
          have d0 : wr.cell? ⟨xb, 0, none⟩ = _ := SR.out.cell 0 rfl
          have d1 : wr.cell? ⟨xb, 1, none⟩ = _ := SR.out.cell 1 rfl
          have d2 : wr.cell? ⟨xb, 2, none⟩ = _ := SR.out.cell 2 rfl
          dsimp only
          go_upto_region 9 with (fail)
          refine wp_region_lit ?_
          first
            | (refine wpList_store_row rfl _ _ _ rfl w.heap.size (WindowL.mk key lo hi).cells rfl rfl 31 zeroW.cells SR.out.2.2.1 window_size rfl (window_one _) ?_)
            | (iterate 1 go_step
               refine wpList_store_row rfl _ _ _ rfl w.heap.size (WindowL.mk key lo hi).cells rfl rfl 31 zeroW.cells SR.out.2.2.1 window_size rfl (window_one _) ?_)
            | (iterate 2 go_step
               refine wpList_store_row rfl _ _ _ rfl w.heap.size (WindowL.mk key lo hi).cells rfl rfl 31 zeroW.cells SR.out.2.2.1 window_size rfl (window_one _) ?_)
            | (iterate 3 go_step
               refine wpList_store_row rfl _ _ _ rfl w.heap.size (WindowL.mk key lo hi).cells rfl rfl 31 zeroW.cells SR.out.2.2.1 window_size rfl (window_one _) ?_)
            | (iterate 4 go_step
               refine wpList_store_row rfl _ _ _ rfl w.heap.size (WindowL.mk key lo hi).cells rfl rfl 31 zeroW.cells SR.out.2.2.1 window_size rfl (window_one _) ?_)
            | (iterate 5 go_step
               refine wpList_store_row rfl _ _ _ rfl w.heap.size (WindowL.mk key lo hi).cells rfl rfl 31 zeroW.cells SR.out.2.2.1 window_size rfl (window_one _) ?_)
            | (iterate 6 go_step
               refine wpList_store_row rfl _ _ _ rfl w.heap.size (WindowL.mk key lo hi).cells rfl rfl 31 zeroW.cells SR.out.2.2.1 window_size rfl (window_one _) ?_)
            | (iterate 7 go_step
               refine wpList_store_row rfl _ _ _ rfl w.heap.size (WindowL.mk key lo hi).cells rfl rfl 31 zeroW.cells SR.out.2.2.1 window_size rfl (window_one _) ?_)
            | (iterate 8 go_step
               refine wpList_store_row rfl _ _ _ rfl w.heap.size (WindowL.mk key lo hi).cells rfl rfl 31 zeroW.cells SR.out.2.2.1 window_size rfl (window_one _) ?_)
            | (iterate 9 go_step
               refine wpList_store_row rfl _ _ _ rfl w.heap.size (WindowL.mk key lo hi).cells rfl rfl 31 zeroW.cells SR.out.2.2.1 window_size rfl (window_one _) ?_)
          have HZ := Lib.hid (SR.out.fin (WindowL.mk key lo hi).cells)
          obtain ⟨wz, hwz⟩ : ∃ W, W = wr.setRow w.heap.size (WindowL.mk key lo hi).cells := ⟨_, rfl⟩
          rw [← hwz] at HZ ⊢
          clear hwz
          go_wp2_with (fail)
          exact bodyPost_ret (v := .agg (WindowL.mk key lo hi).cells) (results_cell_row (p := 2) (ty := 31) rfl _ _ w.heap.size 31 (WindowL.mk key lo hi).cells (0, 0) _ rfl HZ.out.1 Tryd.underlying31 rfl window_size) rfl (HF.out _ HZ.out.2.1 HZ.out.2.2)
        · have HF : Hid (∀ wz, RdAt base wz b tz → w.grownBy wz (some b) → P (.returned (.agg zeroW.cells)) wz) := by
            refine Lib.hid (fun wz k1 k2 => ?_)
            rw [HP.out, HI2.out, if_neg (by rw [← hq]; exact hq0)]
            exact ⟨rfl, k1, k2⟩
          have e1 : (q != 0) = true := by simpa using hq0
          clear hq hq0
          go_wp2_with (fail)
          refine HE.out.mono ?_
          rintro e we ⟨rfl, hwe⟩
          subst we
          dsimp only
          go_upto_region 8 with (fail)
          refine wp_region_lit ?_
          first
            | (refine wpList_store_row rfl _ _ _ rfl w.heap.size zeroW.cells rfl rfl 31 zeroW.cells SR.out.2.2.1 window_size rfl (window_one _) ?_)
            | (iterate 1 go_step
               refine wpList_store_row rfl _ _ _ rfl w.heap.size zeroW.cells rfl rfl 31 zeroW.cells SR.out.2.2.1 window_size rfl (window_one _) ?_)
            | (iterate 2 go_step
               refine wpList_store_row rfl _ _ _ rfl w.heap.size zeroW.cells rfl rfl 31 zeroW.cells SR.out.2.2.1 window_size rfl (window_one _) ?_)
            | (iterate 3 go_step
               refine wpList_store_row rfl _ _ _ rfl w.heap.size zeroW.cells rfl rfl 31 zeroW.cells SR.out.2.2.1 window_size rfl (window_one _) ?_)
            | (iterate 4 go_step
               refine wpList_store_row rfl _ _ _ rfl w.heap.size zeroW.cells rfl rfl 31 zeroW.cells SR.out.2.2.1 window_size rfl (window_one _) ?_)
            | (iterate 5 go_step
               refine wpList_store_row rfl _ _ _ rfl w.heap.size zeroW.cells rfl rfl 31 zeroW.cells SR.out.2.2.1 window_size rfl (window_one _) ?_)
            | (iterate 6 go_step
               refine wpList_store_row rfl _ _ _ rfl w.heap.size zeroW.cells rfl rfl 31 zeroW.cells SR.out.2.2.1 window_size rfl (window_one _) ?_)
            | (iterate 7 go_step
               refine wpList_store_row rfl _ _ _ rfl w.heap.size zeroW.cells rfl rfl 31 zeroW.cells SR.out.2.2.1 window_size rfl (window_one _) ?_)
            | (iterate 8 go_step
               refine wpList_store_row rfl _ _ _ rfl w.heap.size zeroW.cells rfl rfl 31 zeroW.cells SR.out.2.2.1 window_size rfl (window_one _) ?_)
            | (iterate 9 go_step
               refine wpList_store_row rfl _ _ _ rfl w.heap.size zeroW.cells rfl rfl 31 zeroW.cells SR.out.2.2.1 window_size rfl (window_one _) ?_)
          have HZ := Lib.hid (SR.out.fin zeroW.cells)
          obtain ⟨wz, hwz⟩ : ∃ W, W = wr.setRow w.heap.size zeroW.cells := ⟨_, rfl⟩
          rw [← hwz] at HZ ⊢
          clear hwz
          go_wp2_with (fail)
          exact bodyPost_ret (v := .agg zeroW.cells) (results_cell_row (p := 2) (ty := 31) rfl _ _ w.heap.size 31 zeroW.cells (0, 0) _ rfl HZ.out.1 Tryd.underlying31 rfl window_size) rfl (HF.out _ HZ.out.2.1 HZ.out.2.2)
      | false =>
        go_wp2_with (fail)
        refine HRt.out.mono ?_
        rintro e wr ⟨rfl, hBR⟩
        have SR := Lib.hid (S6.out.below hBR)
        clear hBR d0 d1 d2
        dsimp only
        go_wp2_with (fail)
        refine (rfail_any wr base b t3 11 SR.out.1).mono ?_
        rintro e wf ⟨rfl, hf1, hf2⟩
        have SF := Lib.hid (SR.out.rd hf1 hf2)
        clear hf1 hf2
        dsimp only
        obtain ⟨tz, htz⟩ : ∃ z, z = t3.fail 11 := ⟨_, rfl⟩
        rw [← htz] at SF
        have HI2 := Lib.hid (HQ.out tz (by rw [htz, TapeL.lastW, ← Hr.out]; rfl))
        obtain ⟨q, hq⟩ : ∃ q, q = tz.e := ⟨_, rfl⟩
        have HE : Hid (Calls Tryd.prog 60 #[.pointer (some ⟨b, 0, none⟩)] wf fun e w' => e = .returned (.int .i64 q) ∧ w' = wf) := by
          rw [hq]
          exact rerr_any wf base b tz SF.out.1
        clear htz
        by_cases hq0 : q = 0
        · have HF : Hid (∀ wz, RdAt base wz b tz → w.grownBy wz (some b) → P (.returned (.agg (WindowL.mk key lo hi).cells)) wz) := by
            refine Lib.hid (fun wz k1 k2 => ?_)
            rw [HP.out, HI2.out, if_pos (by rw [← hq]; exact hq0)]
            exact ⟨rfl, k1, k2⟩
          clear hq
          subst hq0
          go_wp2_with (fail)
          refine HE.out.mono ?_
          rintro e we ⟨rfl, hwe⟩
          subst we
          have d0 : wf.cell? ⟨xb, 0, none⟩ = _ := SF.out.cell 0 rfl
          have d1 : wf.cell? ⟨xb, 1, none⟩ = _ := SF.out.cell 1 rfl
          have d2 : wf.cell? ⟨xb, 2, none⟩ = _ := SF.out.cell 2 rfl
          dsimp only
          go_upto_region 9 with (fail)
          refine wp_region_lit ?_
          first
            | (refine wpList_store_row rfl _ _ _ rfl w.heap.size (WindowL.mk key lo hi).cells rfl rfl 31 zeroW.cells SF.out.2.2.1 window_size rfl (window_one _) ?_)
            | (iterate 1 go_step
               refine wpList_store_row rfl _ _ _ rfl w.heap.size (WindowL.mk key lo hi).cells rfl rfl 31 zeroW.cells SF.out.2.2.1 window_size rfl (window_one _) ?_)
            | (iterate 2 go_step
               refine wpList_store_row rfl _ _ _ rfl w.heap.size (WindowL.mk key lo hi).cells rfl rfl 31 zeroW.cells SF.out.2.2.1 window_size rfl (window_one _) ?_)
            | (iterate 3 go_step
               refine wpList_store_row rfl _ _ _ rfl w.heap.size (WindowL.mk key lo hi).cells rfl rfl 31 zeroW.cells SF.out.2.2.1 window_size rfl (window_one _) ?_)
            | (iterate 4 go_step
               refine wpList_store_row rfl _ _ _ rfl w.heap.size (WindowL.mk key lo hi).cells rfl rfl 31 zeroW.cells SF.out.2.2.1 window_size rfl (window_one _) ?_)
            | (iterate 5 go_step
               refine wpList_store_row rfl _ _ _ rfl w.heap.size (WindowL.mk key lo hi).cells rfl rfl 31 zeroW.cells SF.out.2.2.1 window_size rfl (window_one _) ?_)
            | (iterate 6 go_step
               refine wpList_store_row rfl _ _ _ rfl w.heap.size (WindowL.mk key lo hi).cells rfl rfl 31 zeroW.cells SF.out.2.2.1 window_size rfl (window_one _) ?_)
            | (iterate 7 go_step
               refine wpList_store_row rfl _ _ _ rfl w.heap.size (WindowL.mk key lo hi).cells rfl rfl 31 zeroW.cells SF.out.2.2.1 window_size rfl (window_one _) ?_)
            | (iterate 8 go_step
               refine wpList_store_row rfl _ _ _ rfl w.heap.size (WindowL.mk key lo hi).cells rfl rfl 31 zeroW.cells SF.out.2.2.1 window_size rfl (window_one _) ?_)
            | (iterate 9 go_step
               refine wpList_store_row rfl _ _ _ rfl w.heap.size (WindowL.mk key lo hi).cells rfl rfl 31 zeroW.cells SF.out.2.2.1 window_size rfl (window_one _) ?_)
          have HZ := Lib.hid (SF.out.fin (WindowL.mk key lo hi).cells)
          obtain ⟨wz, hwz⟩ : ∃ W, W = wf.setRow w.heap.size (WindowL.mk key lo hi).cells := ⟨_, rfl⟩
          rw [← hwz] at HZ ⊢
          clear hwz
          go_wp2_with (fail)
          exact bodyPost_ret (v := .agg (WindowL.mk key lo hi).cells) (results_cell_row (p := 2) (ty := 31) rfl _ _ w.heap.size 31 (WindowL.mk key lo hi).cells (0, 0) _ rfl HZ.out.1 Tryd.underlying31 rfl window_size) rfl (HF.out _ HZ.out.2.1 HZ.out.2.2)
        · have HF : Hid (∀ wz, RdAt base wz b tz → w.grownBy wz (some b) → P (.returned (.agg zeroW.cells)) wz) := by
            refine Lib.hid (fun wz k1 k2 => ?_)
            rw [HP.out, HI2.out, if_neg (by rw [← hq]; exact hq0)]
            exact ⟨rfl, k1, k2⟩
          have e1 : (q != 0) = true := by simpa using hq0
          clear hq hq0
          go_wp2_with (fail)
          refine HE.out.mono ?_
          rintro e we ⟨rfl, hwe⟩
          subst we
          dsimp only
          go_upto_region 8 with (fail)
          refine wp_region_lit ?_
          first
            | (refine wpList_store_row rfl _ _ _ rfl w.heap.size zeroW.cells rfl rfl 31 zeroW.cells SF.out.2.2.1 window_size rfl (window_one _) ?_)
            | (iterate 1 go_step
               refine wpList_store_row rfl _ _ _ rfl w.heap.size zeroW.cells rfl rfl 31 zeroW.cells SF.out.2.2.1 window_size rfl (window_one _) ?_)
            | (iterate 2 go_step
               refine wpList_store_row rfl _ _ _ rfl w.heap.size zeroW.cells rfl rfl 31 zeroW.cells SF.out.2.2.1 window_size rfl (window_one _) ?_)
            | (iterate 3 go_step
               refine wpList_store_row rfl _ _ _ rfl w.heap.size zeroW.cells rfl rfl 31 zeroW.cells SF.out.2.2.1 window_size rfl (window_one _) ?_)
            | (iterate 4 go_step
               refine wpList_store_row rfl _ _ _ rfl w.heap.size zeroW.cells rfl rfl 31 zeroW.cells SF.out.2.2.1 window_size rfl (window_one _) ?_)
            | (iterate 5 go_step
               refine wpList_store_row rfl _ _ _ rfl w.heap.size zeroW.cells rfl rfl 31 zeroW.cells SF.out.2.2.1 window_size rfl (window_one _) ?_)
            | (iterate 6 go_step
               refine wpList_store_row rfl _ _ _ rfl w.heap.size zeroW.cells rfl rfl 31 zeroW.cells SF.out.2.2.1 window_size rfl (window_one _) ?_)
            | (iterate 7 go_step
               refine wpList_store_row rfl _ _ _ rfl w.heap.size zeroW.cells rfl rfl 31 zeroW.cells SF.out.2.2.1 window_size rfl (window_one _) ?_)
            | (iterate 8 go_step
               refine wpList_store_row rfl _ _ _ rfl w.heap.size zeroW.cells rfl rfl 31 zeroW.cells SF.out.2.2.1 window_size rfl (window_one _) ?_)
            | (iterate 9 go_step
               refine wpList_store_row rfl _ _ _ rfl w.heap.size zeroW.cells rfl rfl 31 zeroW.cells SF.out.2.2.1 window_size rfl (window_one _) ?_)
          have HZ := Lib.hid (SF.out.fin zeroW.cells)
          obtain ⟨wz, hwz⟩ : ∃ W, W = wf.setRow w.heap.size zeroW.cells := ⟨_, rfl⟩
          rw [← hwz] at HZ ⊢
          clear hwz
          go_wp2_with (fail)
          exact bodyPost_ret (v := .agg zeroW.cells) (results_cell_row (p := 2) (ty := 31) rfl _ _ w.heap.size 31 zeroW.cells (0, 0) _ rfl HZ.out.1 Tryd.underlying31 rfl window_size) rfl (HF.out _ HZ.out.2.1 HZ.out.2.2)
end Go.Proofs.YtkgmcjeficgciaaDoor
