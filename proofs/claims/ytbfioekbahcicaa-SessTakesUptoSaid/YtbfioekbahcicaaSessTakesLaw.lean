/-
  SessTakes, whatever list and window it is called with, of bulk that is bounded.
-/
import Derived.Test.YtbfioekbahcicaaSessBegin
namespace Go.Proofs.Ytbfioekbahcicaa
open Go Go.RowKit

def CRel (w : World) (n : Nat) (i : Value) (wr : World) : Prop := ∃ j : Nat, j ≤ n ∧ i = .int .i64 (j : Int) ∧ Below w.heap.size w wr
theorem OwnN.form {w : World} {B : Nat} {v : Value} {l : List Nat} (h : OwnN w B v l) : ∃ a c, v = .slice a l.length c ∧ ∀ (t k : Nat), l[t]? = some k → ∃ b, a = some ⟨b, 0, none⟩ ∧ w.cell? ⟨b, t, none⟩ = some (.int .i64 (k : Int)) := by
  have hh := h
  unfold OwnN Own at hh
  have hl : (natsV l).length = l.length := by simp [natsV]
  rw [hl] at hh
  rcases hh.2 with ⟨h1, h2⟩ | ⟨g, c, cur, h1, _⟩
  · exact ⟨none, 0, by rw [h1, h2], fun t k ht => by have := (List.getElem?_eq_some_iff.1 ht).1; omega⟩
  · refine ⟨some ⟨g, 0, none⟩, c, h1, fun t k ht => ⟨g, rfl, ?_⟩⟩
    rw [h1] at hh
    have hlt : t < l.length := (List.getElem?_eq_some_iff.1 ht).1
    rw [World.ownsRow.cellAt hh t (by omega), natsV, List.getElem?_map, ht]
    rfl
theorem takeS_length (l : List WindowL) (x : WindowL) : (takeS l x).length ≤ l.length + 1 := by
  have h2 : (restW l x).length ≤ l.length := List.length_filter_le _ _
  rw [takeS, ← sortTo_all, sortTo_length (Nat.le_refl _), List.length_append, List.length_singleton]
  omega
set_option maxRecDepth 100000 in
set_option maxHeartbeats 4000000 in
theorem sessTakes_any (w : World) (sa : Option Addr) (sc : Nat) (l : List WindowL) (x : WindowL) (hA : WinsAt w sa l) (hk : ∀ y ∈ l, y.key.length ≤ 1048576) (hx : x.key.length ≤ 1048576) (hn : l.length ≤ 1048576) :
    Calls Try.prog 3 #[.slice sa l.length sc, .agg x.cells] w (Below0 w (.bool true)) := by
  obtain ⟨n, hN⟩ : ∃ n, n = l.length := ⟨_, rfl⟩
  obtain ⟨P, hP⟩ : ∃ P, P = Below0 w (.bool true) := ⟨_, rfl⟩
  rw [← hP, ← hN]
  have HYes : Hid (∀ w', Below w.heap.size w w' → P (.returned (.bool true)) w') := Lib.hid (fun w' h => by rw [hP]; exact ⟨rfl, h⟩)
  have HN : Hid (n = l.length) := Lib.hid hN
  have HA := Lib.hid hA
  have HKb := Lib.hid hk
  obtain ⟨gb, hgb⟩ : ∃ b, b = decide (1200 < weighW l) := ⟨_, rfl⟩
  have HCg : Hid (∀ w', Below w.heap.size w w' → Calls Try.prog 7 #[.slice sa n sc] w' (Below0 w' (.bool gb))) := by
    rw [hgb, hN]
    exact Lib.hid (fun w' h => sgreat_any w' sa sc l (hA.below h) hk hn)
  have Hgb := Lib.hid hgb
  obtain ⟨X, hX⟩ : ∃ X, X = x := ⟨_, rfl⟩
  obtain ⟨M, hM⟩ : ∃ m, m = x.key.length := ⟨_, rfl⟩
  have HM := Lib.hid (And.intro hM hx)
  obtain ⟨w1, hw1⟩ : ∃ W, W = w.alloc (.cells x.cells 24) := ⟨_, rfl⟩
  obtain ⟨b1, hb1⟩ : ∃ b, b = w.heap.size := ⟨_, rfl⟩
  have H1 : Hid (RowW w1 b1 x ∧ Below w.heap.size w w1) := by
    rw [hw1, hb1]
    exact Lib.hid ⟨heap_alloc_new w _, (Below.refl _ w).alloc (Nat.le_refl _) _⟩
  have HF := Lib.hid (sfirst_any w1)
  clear hN hA hk hn hP hgb hx
  obtain ⟨xk, xl, xh⟩ := x
  have hlen : ∀ w ty, (Builtin.len_ #[9] ty #[Sv xk]).run Try.prog w = .ok (.int .i64 (M : Int)) w := by
    rw [hM]
    exact fun w ty => run_len_Sv w ty xk
  have HXe : Hid (X = ⟨xk, xl, xh⟩) := Lib.hid hX
  rw [← hX] at H1
  have HMk : Hid (M = X.key.length) := by
    have := HM.out.1
    rw [← hX] at this
    exact Lib.hid this
  unfold WindowL.cells at hw1 ⊢
  simp only at hw1
  clear hX hM HM
  go_enter Try.func3, Try.ntmps3
  go_upto_region 1 with (fail)
  rw [← hw1, ← hb1]
  clear hw1 hb1
  go_wp2_with (fail)
  refine HF.out.mono ?_
  rintro e w2 ⟨rfl, hB⟩
  have H2 : Hid (RowW w2 b1 X ∧ Below w.heap.size w w2) := Lib.hid ⟨H1.out.1.below hB, H1.out.2.trans (hB.mono H1.out.2.size)⟩
  clear hB H1 HF
  dsimp only
  go_wp2_with (fail)
  refine (HCg.out w2 H2.out.2).mono ?_
  rintro e w3 ⟨rfl, hB⟩
  have H3 : Hid (RowW w3 b1 X ∧ Below w.heap.size w w3) := Lib.hid ⟨H2.out.1.below hB, H2.out.2.trans (hB.mono H2.out.2.size)⟩
  clear hB H2 HCg
  dsimp only
  cases gb with
  | true =>
    have HZ := Lib.hid (HYes.out w3 H3.out.2)
    go_wp2_with (fail)
    exact HZ.out
  | false =>
  have HL : Hid (n ≤ 60 ∧ ∀ y ∈ l, y.key.length ≤ 1200) := by
    have h := of_decide_eq_false Hgb.out.symm
    refine Lib.hid ⟨by have := weighW_len l; have := HN.out; omega, fun y hy => ?_⟩
    have := weighW_mem hy
    omega
  obtain ⟨d0, d1, d2⟩ : D3 w3 b1 xk xl xh := by
    have h := H3.out.1.d3
    rw [HXe.out] at h
    exact h
  by_cases hm : (60 : Int) < (M : Int)
  · have HZ := Lib.hid (HYes.out w3 H3.out.2)
    go_wp2_with (fail)
    exact HZ.out
  have HXk : Hid (X.key.length ≤ 60) := Lib.hid (by have := HMk.out; omega)
  have HK : Hid (∀ (i : Nat) (y : WindowL), l[i]? = some y → y.key.length ≤ 1200) := Lib.hid (fun i y h => HL.out.2 y (List.mem_of_getElem? h))
  have hn6 : n ≤ 60 := HL.out.1
  go_upto_region 5 with (fail)
  clear d0 d1 d2 hm hlen
  go_wp2_with (fail)
  go_loopw [27] (CRel w3 n) (fun i _ => n - (intOf i).toNat)
  case atStart => exact ⟨0, Nat.zero_le _, rfl, Below.refl _ _⟩
  case round =>
    obtain ⟨j, hj, rfl, hB⟩ := hrel
    have HB := Lib.hid hB
    clear hB
    by_cases hlt : j < n
    · have hi0 : (0 : Int) ≤ (j : Int) ∧ (j : Int) < (n : Int) := by omega
      obtain ⟨o, pa, po, ho, hsa, c0, c1, c2⟩ := (HA.out.below (H3.out.2.trans (HB.out.mono H3.out.2.size))).get (t := j) (by rw [← HN.out]; exact hlt)
      subst hsa
      have HO := Lib.hid (And.intro (HK.out j o ho) hlt)
      obtain ⟨ok, ol, oh⟩ := o
      simp only at c0 c1 c2
      clear ho hj hlt
      go_upto_region 7 with (fail)
      refine wp_region_lit ?_
      iterate 9 go_step
      refine wpList_store_row rfl _ _ _ rfl wr.heap.size (WindowL.mk ok ol oh).cells rfl rfl 24 zeroW.cells (heap_alloc_new wr _) window_size rfl (window_one _) ?_
      obtain ⟨W1, hwx⟩ : ∃ W, W = (wr.alloc (Obj.cells #[.string ⟨#[]⟩, .int .i64 0, .int .i64 0] 24)).setRow wr.heap.size (WindowL.mk ok ol oh).cells := ⟨_, rfl⟩
      obtain ⟨xb, hxb⟩ : ∃ b, b = wr.heap.size := ⟨_, rfl⟩
      have Hwx : Hid (RowW W1 xb (WindowL.mk ok ol oh) ∧ Below wr.heap.size wr W1) := by
        obtain ⟨k1, k2⟩ := stored_window wr (WindowL.mk ok ol oh)
        rw [hwx, hxb]
        exact Lib.hid ⟨k1, k2⟩
      rw [← hwx, ← hxb]
      clear hwx hxb
      clear c0 c1 c2
      have HW : Hid (Below w3.heap.size w3 W1) := Lib.hid (HB.out.trans (Hwx.out.2.mono HB.out.size))
      obtain ⟨jb, hjb⟩ : ∃ b, b = joinsB ⟨ok, ol, oh⟩ X := ⟨_, rfl⟩
      obtain ⟨VO, hVO⟩ : ∃ V, V = Value.agg (WindowL.mk ok ol oh).cells := ⟨_, rfl⟩
      obtain ⟨VX, hVX⟩ : ∃ V, V = Value.agg (WindowL.mk xk xl xh).cells := ⟨_, rfl⟩
      have HV : Hid (VO = Value.agg (WindowL.mk ok ol oh).cells ∧ VX = Value.agg (WindowL.mk xk xl xh).cells) := Lib.hid ⟨hVO, hVX⟩
      have HC : Hid ((∀ w', Calls Try.prog 8 #[VO, VX] w' (Below0 w' (.bool jb))) ∧ ∀ w', Calls Try.prog 9 #[VO, VX] w' (Below0 w' (.bool jb))) := by
        have hxk := HXk.out
        have hok := HO.out.1
        rw [hVO, hVX, hjb, HXe.out]
        rw [HXe.out] at hxk
        exact Lib.hid ⟨fun w' => sJoins_any w' ⟨ok, ol, oh⟩ ⟨xk, xl, xh⟩ (by omega) (by omega), fun w' => rsJoins_any w' ⟨ok, ol, oh⟩ ⟨xk, xl, xh⟩ (by omega) (by omega)⟩
      have HR : Hid (∀ w', Below W1.heap.size W1 w' → D3 w' xb ok ol oh ∧ D3 w' b1 xk xl xh) := by
        refine Lib.hid (fun w' h => ⟨(Hwx.out.1.below h).d3, ?_⟩)
        have h2 := (H3.out.1.below (HW.out.trans (h.mono HW.out.size))).d3
        rw [HXe.out] at h2
        exact h2
      have HG0 : Hid (Below W1.heap.size W1 W1.drew) := (Below.refl _ W1).drew
      clear hjb hVO hVX
      go_upto_region 8 with (fail)
      refine wp_region_skip_frame (fun i => ([] : List Nat).contains i) (by kernel_rfl) [none, none, none, none, none, none, none] [] (fun i_ _ _ v_ => v_ = ((VO :: VX :: (Value.bool jb) :: VO :: VX :: (Value.bool jb) :: (Value.bool false) :: ([] : List Value))).getD i_ undef) (fun _ w' => Below W1.heap.size W1 w') (fun w w' => Below w.heap.size w w') (fun _ _ _ _ _ _ h => h) (by kernel_rfl) (by kernel_rfl) (by kernel_rfl) HG0.out (fun _ => ⟨rfl, rfl, rfl, rfl, rfl, rfl, rfl, trivial⟩) (fun _ h => by simp at h) ?_ ?_
      · refine ⟨?_, ?_, ?_, ?_, ?_, ?_, ?_, trivial⟩
        · intro _ _ a w' hG hout hpre K hK
          have q6 := ev_of ((hout 6 rfl).trans (show _ = .pointer (some ⟨xb, 0, none⟩) from rfl))
          obtain ⟨⟨d0, d1, d2⟩, ⟨e0, e1, e2⟩⟩ := HR.out w' hG
          clear hout hpre
          go_step
          exact hK _ _ HV.out.1.symm hG (Below.refl _ _)
        · intro _ _ a w' hG hout hpre K hK
          have q3 := ev_of ((hout 3 rfl).trans (show _ = .pointer (some ⟨b1, 0, none⟩) from rfl))
          obtain ⟨⟨d0, d1, d2⟩, ⟨e0, e1, e2⟩⟩ := HR.out w' hG
          clear hout hpre
          go_step
          exact hK _ _ HV.out.2.symm hG (Below.refl _ _)
        · intro _ _ a w' hG hout hpre K hK
          obtain ⟨p0, p1, _⟩ := hpre
          have q31 := ev_of (show a.eval (.tmp 31) = VO from p0)
          have q32 := ev_of (show a.eval (.tmp 32) = VX from p1)
          have HS := Lib.hid (HC.out.1 w')
          clear hout p0 p1
          go_step
          refine HS.out.mono ?_
          rintro e w3 ⟨rfl, hB⟩
          exact hK _ _ rfl (hG.trans (hB.mono hG.size)) hB
        · intro _ _ a w' hG hout hpre K hK
          have q6 := ev_of ((hout 6 rfl).trans (show _ = .pointer (some ⟨xb, 0, none⟩) from rfl))
          obtain ⟨⟨d0, d1, d2⟩, ⟨e0, e1, e2⟩⟩ := HR.out w' hG
          clear hout hpre
          go_step
          exact hK _ _ HV.out.1.symm hG (Below.refl _ _)
        · intro _ _ a w' hG hout hpre K hK
          have q3 := ev_of ((hout 3 rfl).trans (show _ = .pointer (some ⟨b1, 0, none⟩) from rfl))
          obtain ⟨⟨d0, d1, d2⟩, ⟨e0, e1, e2⟩⟩ := HR.out w' hG
          clear hout hpre
          go_step
          exact hK _ _ HV.out.2.symm hG (Below.refl _ _)
        · intro _ _ a w' hG hout hpre K hK
          obtain ⟨p0, p1, _⟩ := hpre
          have q34 := ev_of (show a.eval (.tmp 34) = VO from p0)
          have q35 := ev_of (show a.eval (.tmp 35) = VX from p1)
          have HS := Lib.hid (HC.out.2 w')
          clear hout p0 p1
          go_step
          refine HS.out.mono ?_
          rintro e w3 ⟨rfl, hB⟩
          exact hK _ _ rfl (hG.trans (hB.mono hG.size)) hB
        · intro _ _ a w' hG hout hpre K hK
          obtain ⟨p0, p1, _⟩ := hpre
          have q33 := ev_of (show a.eval (.tmp 33) = .bool jb from p0)
          have q36 := ev_of (show a.eval (.tmp 36) = .bool jb from p1)
          clear hout p0 p1
          go_step
          exact hK _ _ (by cases jb <;> rfl) hG (Below.refl _ _)
      · intro vs w2_ hG hlen hV
        match vs, hlen, hV with
        | [v0, v1, v2, v3, v4, v5, v6], _, hV =>
          obtain rfl : v6 = .bool false := (hV 6 37 v6 rfl rfl)
          clear hV
          simp only [putsL, List.tail_cons, List.headD_cons]
          simp only [Act.put, List.setIfInBounds_toArray, List.set_cons_succ, List.set_cons_zero]
          have HZ : Hid (CRel w3 n (.int .i64 ((j : Int) + 1)) w2_) := Lib.hid ⟨j + 1, HO.out.2, by go_num, HW.out.trans (hG.mono HW.out.size)⟩
          have HJn := Lib.hid HO.out.2
          clear hG
          go_wp2_with (fail)
          go_roundw
          case rel => exact HZ.out
          case measure => have := HJn.out; simp [intOf]; omega
    · obtain rfl : j = n := by omega
      have H4 : Hid (RowW wr b1 X ∧ Below w.heap.size w wr) := Lib.hid ⟨H3.out.1.below HB.out, H3.out.2.trans (HB.out.mono H3.out.2.size)⟩
      clear hlt hj HB
      obtain ⟨w4, hw4⟩ : ∃ W, W = wr := ⟨_, rfl⟩
      rw [← hw4] at H4 ⊢
      clear hw4
      obtain ⟨sb, hsb⟩ : ∃ b, b = decide (Settled l) := ⟨_, rfl⟩
      obtain ⟨rb, hrb⟩ : ∃ b, b = X.rightB := ⟨_, rfl⟩
      have HCs : Hid ((∀ w', Below w.heap.size w w' → Calls Try.prog 10 #[.slice sa j sc] w' (Below0 w' (.bool sb))) ∧ ∀ w', Below w.heap.size w w' → Calls Try.prog 12 #[.slice sa j sc] w' (Below0 w' (.bool sb))) := by
        rw [hsb, HN.out]
        exact Lib.hid ⟨fun w' h => rsSettled_any w' sa sc l (HA.out.below h) (fun y hy => Nat.le_trans (HL.out.2 y hy) (by decide)) (by have := HN.out; omega), fun w' h => sSettled_any w' sa sc l (HA.out.below h) (fun y hy => Nat.le_trans (HL.out.2 y hy) (by decide)) (by have := HN.out; omega)⟩
      have HCr : Hid (∀ w', Calls Try.prog 13 #[.agg #[Sv xk, .int .i64 xl, .int .i64 xh]] w' (Below0 w' (.bool rb))) := by
        have hxk := HXk.out
        rw [hrb, HXe.out]
        rw [HXe.out] at hxk
        exact Lib.hid (fun w' => rwRight_any w' ⟨xk, xl, xh⟩ (by omega))
      obtain ⟨M1, hM1⟩ : ∃ m, m = (takeL l X).1 := ⟨_, rfl⟩
      obtain ⟨Y, hY⟩ : ∃ m, m = (takeL l X).2.1 := ⟨_, rfl⟩
      obtain ⟨gv, hgv⟩ : ∃ m, m = (takeL l X).2.2 := ⟨_, rfl⟩
      have HCt : Hid (∀ w', Below w.heap.size w w' → Calls Try.prog 11 #[.slice sa j sc, .agg #[Sv xk, .int .i64 xl, .int .i64 xh]] w' (TakeEnd w' M1 Y gv)) := by
        have hxk := HXk.out
        rw [hM1, hY, hgv, HN.out, HXe.out]
        rw [HXe.out] at hxk
        exact Lib.hid (fun w' h => stake_any w' sa sc l ⟨xk, xl, xh⟩ (HA.out.below h) (fun y hy => Nat.le_trans (HL.out.2 y hy) (by decide)) (by omega) (by have := HN.out; omega))
      have HCt2 : Hid (Settled l → X.rightB = true → ∀ w', Below w.heap.size w w' → Calls Try.prog 15 #[.slice sa j sc, .agg #[Sv xk, .int .i64 xl, .int .i64 xh]] w' (TakeEnd w' M1 Y gv)) := by
        refine Lib.hid (fun h1 h2 => ?_)
        have hxk := HXk.out
        rw [hM1, hY, hgv, takeL_yes h1 h2, HN.out, HXe.out]
        rw [HXe.out] at hxk
        exact fun w' h => rsTake_any w' sa sc l ⟨xk, xl, xh⟩ (HA.out.below h) (fun y hy => Nat.le_trans (HL.out.2 y hy) (by decide)) (by omega) (by have := HN.out; omega)
      have HTe : Hid (sb = decide (Settled l) ∧ rb = X.rightB ∧ M1 = (takeL l X).1 ∧ Y = (takeL l X).2.1 ∧ gv = (takeL l X).2.2) := Lib.hid ⟨hsb, hrb, hM1, hY, hgv⟩
      have HML : Hid (M1.length ≤ 1000 ∧ gv.length ≤ 1000) := by
        rw [hM1, hgv]
        have h0 := HN.out
        refine Lib.hid ?_
        by_cases h : Settled l ∧ X.rightB = true
        · rw [takeL_yes h.1 h.2]
          have h1 := takeS_length l X
          have h2 : (gaveW l X).length ≤ l.length := Nat.le_trans (List.length_filter_le _ _) (by simp)
          exact ⟨by simp only; omega, by simp only; omega⟩
        · rw [takeL_no h]
          exact ⟨by simp only; omega, by simp⟩
      clear hsb hrb hM1 hY hgv
      go_wp2_with (fail)
      refine (HCs.out.1 w4 H4.out.2).mono ?_
      rintro e w5 ⟨rfl, hB⟩
      have H5 : Hid (RowW w5 b1 X ∧ Below w.heap.size w w5) := Lib.hid ⟨H4.out.1.below hB, H4.out.2.trans (hB.mono H4.out.2.size)⟩
      clear hB H4
      dsimp only
      obtain ⟨d0, d1, d2⟩ : D3 w5 b1 xk xl xh := by
        have h := H5.out.1.d3
        rw [HXe.out] at h
        exact h
      go_upto_region 12 with (fail)
      refine wp_region_lit ?_
      iterate 6 go_step
      refine wpList_plain rfl fun K hK => ?_
      go_step
      refine (HCt.out w5 H5.out.2).mono ?_
      rintro e w6 ⟨v, u, rfl, k1, k2, hB⟩
      refine hK _ _ ?_
      clear hK d0 d1 d2
      obtain ⟨va, vc, rfl, _, hVW⟩ := k1.form
      obtain ⟨ua, uc, rfl, hUN⟩ := OwnN.form k2
      obtain ⟨m, hm⟩ : ∃ m, m = M1.length := ⟨_, rfl⟩
      obtain ⟨gn, hgn⟩ : ∃ m, m = gv.length := ⟨_, rfl⟩
      have H6 : Hid (RowW w6 b1 X ∧ Below w.heap.size w w6 ∧ WinsAt w6 va M1 ∧ (∀ (t k : Nat), gv[t]? = some k → ∃ b, ua = some ⟨b, 0, none⟩ ∧ w6.cell? ⟨b, t, none⟩ = some (.int .i64 (k : Int))) ∧ m = M1.length ∧ gn = gv.length) := Lib.hid ⟨H5.out.1.below hB, H5.out.2.trans (hB.mono H5.out.2.size), hVW, hUN, hm, hgn⟩
      rw [← hm, ← hgn]
      clear k1 k2 hB hVW hUN hm hgn H5
      iterate 18 go_step
      refine wpList_store_row rfl _ _ _ rfl w6.heap.size Y.cells rfl rfl 24 zeroW.cells (heap_alloc_new w6 _) window_size rfl (window_one Y) ?_
      obtain ⟨w7, hw⟩ : ∃ V, V = (w6.alloc (Obj.cells #[.string ⟨#[]⟩, .int .i64 0, .int .i64 0] 24)).setRow w6.heap.size Y.cells := ⟨_, rfl⟩
      obtain ⟨b9, hb⟩ : ∃ b, b = w6.heap.size := ⟨_, rfl⟩
      have Hw7 : Hid (RowW w7 b9 Y ∧ Below w6.heap.size w6 w7) := by
        obtain ⟨k1, k2⟩ := stored_window w6 Y
        rw [hw, hb]
        exact Lib.hid ⟨k1, k2⟩
      rw [← hw, ← hb]
      clear hw hb
      have H7 : Hid (RowW w7 b1 X ∧ RowW w7 b9 Y ∧ Below w.heap.size w w7 ∧ WinsAt w7 va M1 ∧ (∀ (t k : Nat), gv[t]? = some k → ∃ b, ua = some ⟨b, 0, none⟩ ∧ ∀ w', Below w7.heap.size w7 w' → w'.cell? ⟨b, t, none⟩ = some (.int .i64 (k : Int))) ∧ m = M1.length ∧ gn = gv.length) := by
        obtain ⟨k1, k2⟩ := Hw7.out
        obtain ⟨j1, j2, j3, j4, j5, j6⟩ := H6.out
        refine Lib.hid ⟨j1.below k2, k1, j2.trans (k2.mono j2.size), j3.below k2, fun t k ht => ?_, j5, j6⟩
        obtain ⟨b, e1, e2⟩ := j4 t k ht
        exact ⟨b, e1, fun w' h => (h.cell (block_lt_of_cell ((k2.cell (block_lt_of_cell e2)).trans e2))).trans ((k2.cell (block_lt_of_cell e2)).trans e2)⟩
      clear Hw7 H6
      have hmb : m ≤ 1000 ∧ gn ≤ 1000 := by have := HML.out; have h := H7.out.2.2.2.2.2; omega
      go_wp2_with (fail)
      refine (HCs.out.2 w7 H7.out.2.2.1).mono ?_
      rintro e w8 ⟨rfl, hB⟩
      have H8 : Hid (Below w7.heap.size w7 w8 ∧ Below w.heap.size w w8) := Lib.hid ⟨hB, H7.out.2.2.1.trans (hB.mono H7.out.2.2.1.size)⟩
      clear hB
      dsimp only
      cases sb with
      | false =>
        have HZ0 : Hid (M1 = l ∧ Y = zeroW ∧ gv = []) := by
          obtain ⟨h1, h2, h3, h4, h5⟩ := HTe.out
          have hno : ¬ (Settled l ∧ X.rightB = true) := fun h => absurd h.1 (of_decide_eq_false h1.symm)
          rw [h3, h4, h5, takeL_no hno]
          exact Lib.hid ⟨rfl, rfl, rfl⟩
        go_wp2_with (fail)
        refine (HCs.out.2 w8 H8.out.2).mono ?_
        rintro e wa ⟨rfl, hB⟩
        have Ha : Hid (Below w7.heap.size w7 wa ∧ Below w.heap.size w wa) := Lib.hid ⟨H8.out.1.trans (hB.mono H8.out.1.size), H8.out.2.trans (hB.mono H8.out.2.size)⟩
        clear hB H8
        have HSm : Hid (Calls Try.prog 14 #[.slice va m vc, .slice sa j sc] wa (Below0 wa (.bool true))) := by
          have h := rwSame_any wa va sa vc sc M1 l (H7.out.2.2.2.1.below Ha.out.1) (HA.out.below Ha.out.2) (by have := HML.out; omega)
          rw [decide_eq_true HZ0.out.1, ← H7.out.2.2.2.2.2.1, ← HN.out] at h
          exact Lib.hid h
        dsimp only
        go_wp2_with (fail)
        refine HSm.out.mono ?_
        rintro e wb_ ⟨rfl, hB⟩
        have Hb : Hid (Below w7.heap.size w7 wb_ ∧ P (.returned (.bool true)) wb_) := Lib.hid ⟨Ha.out.1.trans (hB.mono Ha.out.1.size), HYes.out wb_ (Ha.out.2.trans (hB.mono Ha.out.2.size))⟩
        clear hB Ha HSm
        obtain ⟨d0, d1, d2⟩ : D3 wb_ b9 [] 0 0 := by
          have h := (H7.out.2.1.below Hb.out.1).d3
          rw [HZ0.out.2.1] at h
          exact h
        have he : ∀ w, (binOp .eql 24 (.agg #[Sv [], .int .i64 0, .int .i64 0]) (.agg #[.string ⟨#[]⟩, .int .i64 0, .int .i64 0])).run Try.prog w = .ok (.bool true) w := fun w => by
          have h := run_eql_window w zeroW zeroW
          rw [(sameW_iff _ _).2 rfl] at h
          exact h
        have hgd : ∀ w op o1 o2, (eqGuard op 24 o1 o2 (.agg #[Sv [], .int .i64 0, .int .i64 0]) (.agg #[.string ⟨#[]⟩, .int .i64 0, .int .i64 0])).run Try.prog w = .ok () w := fun w op o1 o2 => run_guard_window w op o1 o2 zeroW zeroW
        obtain rfl : gn = 0 := by have h := H7.out.2.2.2.2.2.2; rw [HZ0.out.2.2] at h; exact h
        dsimp only
        go_wp2_with (fail)
        exact Hb.out.2
      | true =>
        obtain ⟨d0, d1, d2⟩ : D3 w8 b1 xk xl xh := by
          have h := (H7.out.1.below H8.out.1).d3
          rw [HXe.out] at h
          exact h
        go_wp2_with (fail)
        refine (HCr.out w8).mono ?_
        rintro e w9 ⟨rfl, hB⟩
        have H9 : Hid (Below w7.heap.size w7 w9 ∧ Below w.heap.size w w9) := Lib.hid ⟨H8.out.1.trans (hB.mono H8.out.1.size), H8.out.2.trans (hB.mono H8.out.2.size)⟩
        clear hB d0 d1 d2 H8
        dsimp only
        cases rb with
        | false =>
          have HZ0 : Hid (M1 = l ∧ Y = zeroW ∧ gv = []) := by
            obtain ⟨h1, h2, h3, h4, h5⟩ := HTe.out
            have hno : ¬ (Settled l ∧ X.rightB = true) := fun h => by rw [← h2] at h; cases h.2
            rw [h3, h4, h5, takeL_no hno]
            exact Lib.hid ⟨rfl, rfl, rfl⟩
          go_wp2_with (fail)
          refine (HCs.out.2 w9 H9.out.2).mono ?_
          rintro e wa ⟨rfl, hB⟩
          have Ha : Hid (Below w7.heap.size w7 wa ∧ Below w.heap.size w wa) := Lib.hid ⟨H9.out.1.trans (hB.mono H9.out.1.size), H9.out.2.trans (hB.mono H9.out.2.size)⟩
          clear hB H9
          have HSm : Hid (Calls Try.prog 14 #[.slice va m vc, .slice sa j sc] wa (Below0 wa (.bool true))) := by
            have h := rwSame_any wa va sa vc sc M1 l (H7.out.2.2.2.1.below Ha.out.1) (HA.out.below Ha.out.2) (by have := HML.out; omega)
            rw [decide_eq_true HZ0.out.1, ← H7.out.2.2.2.2.2.1, ← HN.out] at h
            exact Lib.hid h
          dsimp only
          go_wp2_with (fail)
          refine HSm.out.mono ?_
          rintro e wb_ ⟨rfl, hB⟩
          have Hb : Hid (Below w7.heap.size w7 wb_ ∧ P (.returned (.bool true)) wb_) := Lib.hid ⟨Ha.out.1.trans (hB.mono Ha.out.1.size), HYes.out wb_ (Ha.out.2.trans (hB.mono Ha.out.2.size))⟩
          clear hB Ha HSm
          obtain ⟨d0, d1, d2⟩ : D3 wb_ b9 [] 0 0 := by
            have h := (H7.out.2.1.below Hb.out.1).d3
            rw [HZ0.out.2.1] at h
            exact h
          have he : ∀ w, (binOp .eql 24 (.agg #[Sv [], .int .i64 0, .int .i64 0]) (.agg #[.string ⟨#[]⟩, .int .i64 0, .int .i64 0])).run Try.prog w = .ok (.bool true) w := fun w => by
            have h := run_eql_window w zeroW zeroW
            rw [(sameW_iff _ _).2 rfl] at h
            exact h
          have hgd : ∀ w op o1 o2, (eqGuard op 24 o1 o2 (.agg #[Sv [], .int .i64 0, .int .i64 0]) (.agg #[.string ⟨#[]⟩, .int .i64 0, .int .i64 0])).run Try.prog w = .ok () w := fun w op o1 o2 => run_guard_window w op o1 o2 zeroW zeroW
          obtain rfl : gn = 0 := by have h := H7.out.2.2.2.2.2.2; rw [HZ0.out.2.2] at h; exact h
          dsimp only
          go_wp2_with (fail)
          exact Hb.out.2
        | true =>
          obtain ⟨d0, d1, d2⟩ : D3 w9 b1 xk xl xh := by
            have h := (H7.out.1.below H9.out.1).d3
            rw [HXe.out] at h
            exact h
          go_upto_region 15 with (fail)
          refine wp_region_lit ?_
          iterate 6 go_step
          refine wpList_plain rfl fun K hK => ?_
          go_step
          refine (HCt2.out (of_decide_eq_true HTe.out.1.symm) HTe.out.2.1.symm w9 H9.out.2).mono ?_
          rintro e w10 ⟨v, u, rfl, k1, k2, hB⟩
          refine hK _ _ ?_
          clear hK d0 d1 d2
          obtain ⟨xa, xc, rfl, _, hVW⟩ := k1.form
          obtain ⟨za, zc, rfl, hUN⟩ := OwnN.form k2
          have H10 : Hid (Below w7.heap.size w7 w10 ∧ Below w.heap.size w w10 ∧ WinsAt w10 xa M1 ∧ (∀ (t k : Nat), gv[t]? = some k → ∃ b, za = some ⟨b, 0, none⟩ ∧ w10.cell? ⟨b, t, none⟩ = some (.int .i64 (k : Int)))) := Lib.hid ⟨H9.out.1.trans (hB.mono H9.out.1.size), H9.out.2.trans (hB.mono H9.out.2.size), hVW, hUN⟩
          rw [← H7.out.2.2.2.2.2.1, ← H7.out.2.2.2.2.2.2]
          clear k1 k2 hB hVW hUN H9
          iterate 18 go_step
          refine wpList_store_row rfl _ _ _ rfl w10.heap.size Y.cells rfl rfl 24 zeroW.cells (heap_alloc_new w10 _) window_size rfl (window_one Y) ?_
          obtain ⟨w11, hw⟩ : ∃ V, V = (w10.alloc (Obj.cells #[.string ⟨#[]⟩, .int .i64 0, .int .i64 0] 24)).setRow w10.heap.size Y.cells := ⟨_, rfl⟩
          obtain ⟨b12, hb⟩ : ∃ b, b = w10.heap.size := ⟨_, rfl⟩
          have Hw11 : Hid (RowW w11 b12 Y ∧ Below w10.heap.size w10 w11) := by
            obtain ⟨k1, k2⟩ := stored_window w10 Y
            rw [hw, hb]
            exact Lib.hid ⟨k1, k2⟩
          rw [← hw, ← hb]
          clear hw hb
          have H11 : Hid (RowW w11 b12 Y ∧ Below w7.heap.size w7 w11 ∧ Below w.heap.size w w11 ∧ WinsAt w11 xa M1 ∧ (∀ (t k : Nat), gv[t]? = some k → ∃ b, za = some ⟨b, 0, none⟩ ∧ ∀ w', Below w11.heap.size w11 w' → w'.cell? ⟨b, t, none⟩ = some (.int .i64 (k : Int)))) := by
            obtain ⟨k1, k2⟩ := Hw11.out
            obtain ⟨j1, j2, j3, j4⟩ := H10.out
            refine Lib.hid ⟨k1, j1.trans (k2.mono j1.size), j2.trans (k2.mono j2.size), j3.below k2, fun t k ht => ?_⟩
            obtain ⟨b, e1, e2⟩ := j4 t k ht
            exact ⟨b, e1, fun w' h => (h.cell (block_lt_of_cell ((k2.cell (block_lt_of_cell e2)).trans e2))).trans ((k2.cell (block_lt_of_cell e2)).trans e2)⟩
          clear Hw11 H10
          have HSm : Hid (Calls Try.prog 14 #[.slice va m vc, .slice xa m xc] w11 (Below0 w11 (.bool true))) := by
            have h := rwSame_any w11 va xa vc xc M1 M1 (H7.out.2.2.2.1.below H11.out.2.1) H11.out.2.2.2.1 (by have := HML.out; omega)
            rw [decide_eq_true rfl, ← H7.out.2.2.2.2.2.1] at h
            exact Lib.hid h
          go_wp2_with (fail)
          refine HSm.out.mono ?_
          rintro e w12 ⟨rfl, hB⟩
          have H12 : Hid (Below w11.heap.size w11 w12) := Lib.hid hB
          clear hB
          dsimp only
          obtain ⟨yk, yl, yh⟩ := Y
          obtain ⟨d0, d1, d2⟩ : D3 w12 b9 yk yl yh := (H7.out.2.1.below (H11.out.2.1.trans (H12.out.mono H11.out.2.1.size))).d3
          obtain ⟨e0, e1, e2⟩ : D3 w12 b12 yk yl yh := (H11.out.1.below H12.out).d3
          have hne : ∀ w, (binOp .neq 24 (.agg #[Sv yk, .int .i64 yl, .int .i64 yh]) (.agg #[Sv yk, .int .i64 yl, .int .i64 yh])).run Try.prog w = .ok (.bool false) w := fun w => by
            have h := run_neq_window w ⟨yk, yl, yh⟩ ⟨yk, yl, yh⟩
            rw [(sameW_iff _ _).2 rfl] at h
            exact h
          have hgd : ∀ w op o1 o2, (eqGuard op 24 o1 o2 (.agg #[Sv yk, .int .i64 yl, .int .i64 yh]) (.agg #[Sv yk, .int .i64 yl, .int .i64 yh])).run Try.prog w = .ok () w := fun w op o1 o2 => run_guard_window w op o1 o2 ⟨yk, yl, yh⟩ ⟨yk, yl, yh⟩
          have hgg : ((gn : Int) != (gn : Int)) = false := by simp
          go_upto_region 18 with (fail)
          clear d0 d1 d2 e0 e1 e2 hne hgd hgg
          go_wp2_with (fail)
          go_loopw [105] (CRel w12 gn) (fun i _ => gn - (intOf i).toNat)
          case atStart => exact ⟨0, Nat.zero_le _, rfl, Below.refl _ _⟩
          case round =>
            obtain ⟨t, ht, rfl, hB⟩ := hrel
            have HB := Lib.hid hB
            clear hB
            by_cases hlt : t < gn
            · have hi0 : (0 : Int) ≤ (t : Int) ∧ (t : Int) < (gn : Int) := by omega
              obtain ⟨k, hkt⟩ : ∃ k, gv[t]? = some k := ⟨_, List.getElem?_eq_getElem (by rw [← H7.out.2.2.2.2.2.2]; exact hlt)⟩
              obtain ⟨ub, e1, hu⟩ := H7.out.2.2.2.2.1 t k hkt
              obtain ⟨zb, e2, hz⟩ := H11.out.2.2.2.2 t k hkt
              subst e1
              subst e2
              have HC : Hid (∀ w', Below wr.heap.size wr w' → w'.cell? ⟨ub, t, none⟩ = some (.int .i64 (k : Int)) ∧ w'.cell? ⟨zb, t, none⟩ = some (.int .i64 (k : Int))) := by
                refine Lib.hid (fun w' h => ?_)
                have h1 := H12.out.trans (HB.out.mono H12.out.size)
                have h2 := h1.trans (h.mono h1.size)
                exact ⟨hu w' (H11.out.2.1.trans (h2.mono H11.out.2.1.size)), hz w' h2⟩
              have HI0 := Lib.hid hi0
              have HJ := Lib.hid hlt
              clear hu hz hkt hlt ht
              have HG0 : Hid (Below wr.heap.size wr wr.drew) := (Below.refl _ wr).drew
              go_upto_region 21 with (fail)
              refine wp_region_skip_frame (fun i => ([] : List Nat).contains i) (by kernel_rfl) [none, none, none, none, none, none, none, none, none] [] (fun i_ _ _ v_ => v_ = (((Value.slice (some ⟨ub, 0, none⟩) gn uc) :: (Value.int .i64 (t : Int)) :: (Value.pointer (some ⟨ub, t, none⟩)) :: (Value.int .i64 (k : Int)) :: (Value.slice (some ⟨zb, 0, none⟩) gn zc) :: (Value.int .i64 (t : Int)) :: (Value.pointer (some ⟨zb, t, none⟩)) :: (Value.int .i64 (k : Int)) :: (Value.bool false) :: ([] : List Value))).getD i_ undef) (fun _ w' => Below wr.heap.size wr w') (fun w w' => Below w.heap.size w w') (fun _ _ _ _ _ _ h => h) (by kernel_rfl) (by kernel_rfl) (by kernel_rfl) HG0.out (fun _ => ⟨rfl, rfl, rfl, rfl, rfl, rfl, rfl, rfl, rfl, trivial⟩) (fun _ h => by simp at h) ?_ ?_
              · refine ⟨?_, ?_, ?_, ?_, ?_, ?_, ?_, ?_, ?_, trivial⟩
                · intro _ _ a w' hG hout hpre K hK
                  have q10 := ev_of ((hout 10 rfl).trans (show _ = .slice (some ⟨ub, 0, none⟩) gn uc from rfl))
                  clear hout hpre
                  go_step
                  exact hK _ _ rfl hG (Below.refl _ _)
                · intro _ _ a w' hG hout hpre K hK
                  have q14 := ev_of ((hout 14 rfl).trans (show _ = .int .i64 (t : Int) from rfl))
                  clear hout hpre
                  go_step
                  exact hK _ _ rfl hG (Below.refl _ _)
                · intro _ _ a w' hG hout hpre K hK
                  obtain ⟨p0, p1, _⟩ := hpre
                  have q108 := ev_of (show a.eval (.tmp 108) = .slice (some ⟨ub, 0, none⟩) gn uc from p0)
                  have q109 := ev_of (show a.eval (.tmp 109) = .int .i64 (t : Int) from p1)
                  have hi0 := HI0.out
                  clear hout p0 p1
                  go_step
                  exact hK _ _ rfl hG (Below.refl _ _)
                · intro _ _ a w' hG hout hpre K hK
                  obtain ⟨p0, _⟩ := hpre
                  have q110 := ev_of (show a.eval (.tmp 110) = .pointer (some ⟨ub, t, none⟩) from p0)
                  obtain ⟨d0, d1⟩ := HC.out w' hG
                  clear hout p0
                  go_step
                  exact hK _ _ rfl hG (Below.refl _ _)
                · intro _ _ a w' hG hout hpre K hK
                  have q13 := ev_of ((hout 13 rfl).trans (show _ = .slice (some ⟨zb, 0, none⟩) gn zc from rfl))
                  clear hout hpre
                  go_step
                  exact hK _ _ rfl hG (Below.refl _ _)
                · intro _ _ a w' hG hout hpre K hK
                  have q14 := ev_of ((hout 14 rfl).trans (show _ = .int .i64 (t : Int) from rfl))
                  clear hout hpre
                  go_step
                  exact hK _ _ rfl hG (Below.refl _ _)
                · intro _ _ a w' hG hout hpre K hK
                  obtain ⟨p0, p1, _⟩ := hpre
                  have q112 := ev_of (show a.eval (.tmp 112) = .slice (some ⟨zb, 0, none⟩) gn zc from p0)
                  have q113 := ev_of (show a.eval (.tmp 113) = .int .i64 (t : Int) from p1)
                  have hi0 := HI0.out
                  clear hout p0 p1
                  go_step
                  exact hK _ _ rfl hG (Below.refl _ _)
                · intro _ _ a w' hG hout hpre K hK
                  obtain ⟨p0, _⟩ := hpre
                  have q114 := ev_of (show a.eval (.tmp 114) = .pointer (some ⟨zb, t, none⟩) from p0)
                  obtain ⟨d0, d1⟩ := HC.out w' hG
                  clear hout p0
                  go_step
                  exact hK _ _ rfl hG (Below.refl _ _)
                · intro _ _ a w' hG hout hpre K hK
                  obtain ⟨p0, p1, _⟩ := hpre
                  have q111 := ev_of (show a.eval (.tmp 111) = .int .i64 (k : Int) from p0)
                  have q115 := ev_of (show a.eval (.tmp 115) = .int .i64 (k : Int) from p1)
                  have hkk : ((k : Int) != (k : Int)) = false := by simp
                  clear hout p0 p1
                  go_step
                  exact hK _ _ rfl hG (Below.refl _ _)
              · intro vs w2_ hG hlen hV
                match vs, hlen, hV with
                | [v0, v1, v2, v3, v4, v5, v6, v7, v8], _, hV =>
                  obtain rfl : v8 = .bool false := (hV 8 116 v8 rfl rfl)
                  clear hV
                  simp only [putsL, List.tail_cons, List.headD_cons]
                  simp only [Act.put, List.setIfInBounds_toArray, List.set_cons_succ, List.set_cons_zero]
                  have HZ : Hid (CRel w12 gn (.int .i64 ((t : Int) + 1)) w2_) := Lib.hid ⟨t + 1, HJ.out, by go_num, HB.out.trans (hG.mono HB.out.size)⟩
                  have HJn := Lib.hid HJ.out
                  clear hG
                  go_wp2_with (fail)
                  go_roundw
                  case rel => exact HZ.out
                  case measure => have := HJn.out; simp [intOf]; omega
            · obtain rfl : t = gn := by omega
              have HZ : Hid (P (.returned (.bool true)) wr) := by
                have h1 := H12.out.trans (HB.out.mono H12.out.size)
                exact Lib.hid (HYes.out wr (H11.out.2.2.1.trans (h1.mono H11.out.2.2.1.size)))
              clear hlt ht
              go_wp2_with (fail)
              exact HZ.out
end Go.Proofs.Ytbfioekbahcicaa
