/-
  Part 37 of 53 of what the proof leans on.
-/
import Derived.Test.YtjeeghafachebaaGreatG32
namespace Go.Proofs.YtjeeghafachebaaGreat
open Go Go.RowKit
def SeekP (w : World) (ws : List WindowL) (t : WindowL) (e : Ending) (w' : World) : Prop := ∃ (p : Nat) (b : Bool), e = .returned (.tuple #[.int .i64 (p : Int), .bool b]) ∧ placeAt ws t p ∧ (b = true ↔ p < ws.length ∧ atW ws p = t) ∧ Below w.heap.size w w'
theorem box_pw (w : World) (x : PaneV) (t : WindowL) :
    RowP ((w.alloc (.cells x.cells 55)).alloc (.cells t.cells 47)) w.heap.size x ∧ RowW ((w.alloc (.cells x.cells 55)).alloc (.cells t.cells 47)) (w.heap.size + 1) t ∧ Below w.heap.size w ((w.alloc (.cells x.cells 55)).alloc (.cells t.cells 47)) := by
  have k1 := (Below.refl _ w).alloc (Nat.le_refl _) (.cells x.cells 55); have k2 := (Below.refl _ (w.alloc (.cells x.cells 55))).alloc (Nat.le_refl _) (.cells t.cells 47); have hs : (w.alloc (.cells x.cells 55)).heap.size = w.heap.size + 1 := heap_alloc_size w _; refine ⟨RowP.below (heap_alloc_new w _) k2, ?_, k1.trans (k2.mono k1.size)⟩; rw [← hs]; exact heap_alloc_new _ _
set_option maxRecDepth 100000 in
theorem ohome1_any (w : World) (x : PaneV) (t : WindowL) : Calls Tryz.prog 98 #[.agg x.cells, .agg t.cells] w (Below0 w (.int .i64 (placeW x.p.w t))) := by
  obtain ⟨r, hr⟩ : ∃ r, r = placeW x.p.w t := ⟨_, rfl⟩; rw [← hr]; obtain ⟨w1, hw1⟩ : ∃ W, W = (w.alloc (.cells x.cells 55)).alloc (.cells t.cells 47) := ⟨_, rfl⟩; obtain ⟨xb, hxb⟩ : ∃ b, b = w.heap.size := ⟨_, rfl⟩; obtain ⟨tb, htb⟩ : ∃ b, b = w.heap.size + 1 := ⟨_, rfl⟩
  have H1 : Hid (RowP w1 xb x ∧ RowW w1 tb t ∧ Below w.heap.size w w1) := by rw [hw1, hxb, htb]; exact Lib.hid (box_pw w x t)
  have HC : Hid (Calls Tryz.prog 54 #[.agg x.p.w.cells, .agg t.cells] w1 (Below0 w1 (.int .i64 r))) := by
    rw [hr]; exact Lib.hid (wplace_any w1 x.p.w t)
  have HB1 := Lib.hid H1.out.2.2; have hs1 : (w.alloc (.cells x.cells 55)).heap.size = w.heap.size + 1 := heap_alloc_size w _; clear hr; obtain ⟨⟨⟨xk, xl, xh⟩, ⟨xn, xa, xt, xu, xv⟩, xr⟩, xtv, xz, xht, xhz⟩ := x; obtain ⟨tk, tl, th⟩ := t; obtain ⟨e0, e1, e2, _⟩ := H1.out.1.d8; obtain ⟨f0, f1, f2⟩ := H1.out.2.1.d3; unfold PaneV.cells at hw1 hs1 ⊢; unfold WindowL.cells at hw1 HC ⊢; simp only at hw1 hs1 HC e0 e1 e2 f0 f1 f2; clear H1
  go_enter Tryz.func98, Tryz.ntmps98
  go_upto_region 1 with (fail)
  rw [← hw1, ← htb, ← hxb]; clear hw1 htb hxb hs1; go_wp2_with (fail); refine HC.out.mono ?_; rintro e w2 ⟨rfl, hB⟩; have HZ := Lib.hid (HB1.out.trans (hB.mono HB1.out.size)); clear hB e0 e1 e2 f0 f1 f2; dsimp only; go_wp2_with (fail); go_ret; exact ⟨rfl, HZ.out⟩
set_option maxRecDepth 100000 in
set_option maxHeartbeats 4000000 in
theorem bsearchP_any (w : World) (sa : Option Addr) (sc : Nat) (l : List PaneV) (t : WindowL) (hA : PanesAt w sa l) (hs : (l.map fun x => x.p.w).Pairwise aheadP) (hn : l.length ≤ 1000000) :
    Calls Tryz.prog 97 #[.slice sa l.length sc, .agg t.cells, .func (.func 98) #[] #[]] w (SeekP w (l.map fun x => x.p.w) t) := by
  obtain ⟨n, hN0⟩ : ∃ n, n = l.length := ⟨_, rfl⟩; obtain ⟨ws, hws⟩ : ∃ ws, ws = l.map fun x => x.p.w := ⟨_, rfl⟩; rw [← hws] at hs ⊢; have HLn : Hid (n = l.length) := Lib.hid hN0; clear hN0
  have HW : Hid (∀ (i : Nat) (x : PaneV), l[i]? = some x → ws[i]? = some x.p.w) := Lib.hid (fun i x h => by rw [hws, List.getElem?_map, h]; rfl)
  have hN : n = ws.length := by rw [hws, List.length_map, HLn.out]
  obtain ⟨P, hP⟩ : ∃ P, P = SeekP w ws t := ⟨_, rfl⟩; rw [← hP, ← HLn.out]
  have hn6 : n ≤ 1000000 := by have := HLn.out; omega
  have HN : Hid (n = ws.length ∧ n ≤ 1000000) := Lib.hid ⟨hN, hn6⟩; have HA := Lib.hid hA
  have HYes : Hid (∀ wz (p : Nat) b, placeAt ws t p → (b = true ↔ p < ws.length ∧ atW ws p = t) → Below w.heap.size w wz → P (.returned (.tuple #[.int .i64 (p : Int), .bool b])) wz) := Lib.hid (fun wz p b h h' hB => by
    rw [hP]
    exact ⟨p, b, rfl, h, h', hB⟩)
  have HM : Hid (∀ i j, i ≤ j → j < n → aheadP (atW ws j) t → aheadP (atW ws i) t) := by
    refine Lib.hid (fun i j hij hj h => ?_); rw [hN] at hj
    rcases Nat.lt_or_ge i j with h' | h'
    · have := List.pairwise_iff_getElem.1 hs i j (by omega) hj h'
      rw [atW_some (List.getElem?_eq_getElem hj)] at h
      rw [atW_some (List.getElem?_eq_getElem (show i < ws.length by omega))]
      exact this.trans h
    · obtain rfl : i = j := by omega
      exact h
  obtain ⟨w1, hw1⟩ : ∃ W, W = w.alloc (.cells t.cells 47) := ⟨_, rfl⟩; obtain ⟨tb, htb⟩ : ∃ b, b = w.heap.size := ⟨_, rfl⟩
  have H1 : Hid (RowW w1 tb t ∧ Below w.heap.size w w1) := by
    rw [hw1, htb]; exact Lib.hid ⟨heap_alloc_new w _, (Below.refl _ w).alloc (Nat.le_refl _) _⟩
  obtain ⟨T, hT⟩ : ∃ T, T = t := ⟨_, rfl⟩; have HT := Lib.hid hT; rw [← hT] at H1 HYes HM; obtain ⟨tk, tl, th⟩ := t; unfold WindowL.cells at hw1 ⊢; simp only at hw1 ⊢; clear hN hA hn hP hs hT hws
  go_enter Tryz.func97, Tryz.ntmps97
  go_upto_region 1 with (fail)
  rw [← hw1, ← htb]; clear hw1 htb; go_wp2_with (fail)
  go_loopw [9, 10] (BRel w1 ws T) (fun a b _ => gapV a b)
  case atStart => exact ⟨0, n, rfl, rfl, Nat.zero_le _, by rw [HN.out.1]; exact Nat.le_refl _, fun i h => absurd h (Nat.not_lt_zero _), fun i h1 h2 => by have := HN.out.1; omega, Below.refl _ _⟩
  case round =>
    obtain ⟨lo, hi, rfl, rfl, hlh, hhn, h1, h2, hB⟩ := hrel; rw [← HN.out.1] at hhn h2; have HB := Lib.hid (And.intro h1 (And.intro h2 (And.intro hB (And.intro hlh hhn)))); clear h1 h2 hB; have HG0 : Hid (Below wr.heap.size wr wr.drew) := (Below.refl _ wr).drew
    have HRt : Hid (∀ w', Below wr.heap.size wr w' → D3 w' tb tk tl th) := by
      refine Lib.hid (fun w' h => ?_); have := ((H1.out.1.below HB.out.2.2.1).below h).d3; rw [HT.out] at this; exact this
    obtain ⟨VT, hVT⟩ : ∃ V, V = Value.agg #[Sv tk, .int .i64 tl, .int .i64 th] := ⟨_, rfl⟩; have HVT := Lib.hid hVT; have HB1 : Hid (∀ w', Below wr.heap.size wr w' → Below w1.heap.size w1 w') := Lib.hid (fun w' h => HB.out.2.2.1.trans (h.mono HB.out.2.2.1.size))
    by_cases hlt : lo < hi
    · obtain ⟨m, hm⟩ : ∃ m, m = (lo + hi) / 2 := ⟨_, rfl⟩
      have hmid : lo ≤ m ∧ m < hi := by omega
      have hme : ((lo : Int) + (hi : Int)) / 2 = (m : Int) := by omega
      obtain ⟨x, pa, po, hx, hsa, _⟩ := HA.out.get (t := m) (by rw [← HLn.out]; omega)
      subst hsa
      have HX : Hid (∀ w', Below wr.heap.size wr w' → w'.cell? ⟨pa, po + m * 8, none⟩ = some (Sv x.p.w.key) ∧ w'.cell? ⟨pa, po + m * 8 + 1, none⟩ = some (.int .i64 x.p.w.lo) ∧ w'.cell? ⟨pa, po + m * 8 + 2, none⟩ = some (.int .i64 x.p.w.hi) ∧ w'.cell? ⟨pa, po + m * 8 + 3, none⟩ = some (.int .i64 x.p.a.n) ∧ w'.cell? ⟨pa, po + m * 8 + 4, none⟩ = some (.int .i64 x.p.a.a) ∧ w'.cell? ⟨pa, po + m * 8 + 5, none⟩ = some (x.tv) ∧ w'.cell? ⟨pa, po + m * 8 + 6, none⟩ = some (x.z) ∧ w'.cell? ⟨pa, po + m * 8 + 7, none⟩ = some (.int .i64 x.p.r)) := by
        refine Lib.hid (fun w' h => ?_)
        obtain ⟨x', b', o', hx', ha', d⟩ := ((HA.out.below H1.out.2).below (HB1.out w' h)).get (t := m) (by rw [← HLn.out]; omega)
        cases ha'
        rw [hx] at hx'
        cases hx'
        exact d
      obtain ⟨VX, hVX⟩ : ∃ V, V = Value.agg x.cells := ⟨_, rfl⟩; obtain ⟨p, hp⟩ : ∃ p, p = placeW x.p.w T := ⟨_, rfl⟩
      have HCp : Hid (∀ w', Calls Tryz.prog 98 #[VX, VT] w' (Below0 w' (.int .i64 p))) := by
        rw [hVX, hVT, hp, HT.out]; exact Lib.hid (fun w' => ohome1_any w' x ⟨tk, tl, th⟩)
      have HVX := Lib.hid hVX
      have HAt : Hid (p < 0 ↔ aheadP (atW ws m) T) := by
        rw [hp, atW_some (HW.out m x hx)]; exact Lib.hid (placeW_neg _ _)
      have HI0 : Hid ((0 : Int) ≤ (m : Int) ∧ (m : Int) < (n : Int)) := Lib.hid (by omega)
      have Hm := Lib.hid (And.intro hmid (And.intro hhn hn6)); obtain ⟨⟨⟨xk, xl, xh⟩, ⟨xn, xa, xt, xu, xv⟩, xr⟩, xtv, xz, xht, xhz⟩ := x; clear hx hVX hp hm
      by_cases hp0 : p < 0
      · have HPn : Hid (p < 0) := Lib.hid hp0
        have HZ : Hid (∀ w', Below wr.heap.size wr w' → BRel w1 ws T (.int .i64 ((m : Int) + 1)) (.int .i64 (hi : Int)) w') := by
          refine Lib.hid (fun w' h => ⟨m + 1, hi, by go_num, rfl, by have := Hm.out; omega, by rw [← HN.out.1]; exact Hm.out.2.1, fun i h1 => ?_, by rw [← HN.out.1]; exact HB.out.2.1, HB1.out w' h⟩)
          exact HM.out i m (by omega) (by have := Hm.out; omega) (HAt.out.1 HPn.out)
        clear hp0
        go_upto_region 5 with (fail)
        clear hme hmid hlt hlh hhn hVT
        refine wp_region_skip_frame (fun i => ([] : List Nat).contains i) (by kernel_rfl) [none, none, none, none, none, none, none, none] [] (fun i_ _ _ v_ => v_ = (((Value.func (.func 98) #[] #[]) :: (Value.slice (some ⟨pa, po, none⟩) n sc) :: (Value.int .i64 (m : Int)) :: (Value.pointer (some ⟨pa, po + m * 8, none⟩)) :: VX :: VT :: (Value.int .i64 p) :: (Value.bool true) :: ([] : List Value))).getD i_ undef) (fun _ w' => Below wr.heap.size wr w') (fun w w' => Below w.heap.size w w') (fun _ _ _ _ _ _ h => h) (by kernel_rfl) (by kernel_rfl) (by kernel_rfl) HG0.out (fun _ => ⟨rfl, rfl, rfl, rfl, rfl, rfl, rfl, rfl, trivial⟩) (fun _ h => by simp at h) ?_ ?_
        · refine ⟨?_, ?_, ?_, ?_, ?_, ?_, ?_, ?_, trivial⟩
          · intro _ _ a w' hG hout hpre K hK; have q2 := ev_of ((hout 2 rfl).trans (show _ = .func (.func 98) #[] #[] from rfl)); clear hout hpre; go_step; exact hK _ _ rfl hG (Below.refl _ _)
          · intro _ _ a w' hG hout hpre K hK; have q0 := ev_of ((hout 0 rfl).trans (show _ = .slice (some ⟨pa, po, none⟩) n sc from rfl)); clear hout hpre; go_step; exact hK _ _ rfl hG (Below.refl _ _)
          · intro _ _ a w' hG hout hpre K hK; have q11 := ev_of ((hout 11 rfl).trans (show _ = .int .i64 (m : Int) from rfl)); clear hout hpre; go_step; exact hK _ _ rfl hG (Below.refl _ _)
          · intro _ _ a w' hG hout hpre K hK; obtain ⟨p0, p1, _⟩ := hpre; have q25 := ev_of (show a.eval (.tmp 25) = .slice (some ⟨pa, po, none⟩) n sc from p0); have q26 := ev_of (show a.eval (.tmp 26) = .int .i64 (m : Int) from p1); have hi0 := HI0.out; clear hout p0 p1; go_step; exact hK _ _ rfl hG (Below.refl _ _)
          · intro _ _ a w' hG hout hpre K hK; obtain ⟨p0, _⟩ := hpre; have q27 := ev_of (show a.eval (.tmp 27) = .pointer (some ⟨pa, po + m * 8, none⟩) from p0); obtain ⟨d0, d1, d2, d3, d4, d5, d6, d7⟩ := HX.out w' hG; clear hout p0; go_step; exact hK _ _ HVX.out.symm hG (Below.refl _ _)
          · intro _ _ a w' hG hout hpre K hK; have q4 := ev_of ((hout 4 rfl).trans (show _ = .pointer (some ⟨tb, 0, none⟩) from rfl)); obtain ⟨d0, d1, d2⟩ := HRt.out w' hG; clear hout hpre; go_step; exact hK _ _ HVT.out.symm hG (Below.refl _ _)
          · intro _ _ a w' hG hout hpre K hK; obtain ⟨p0, p1, p2, _⟩ := hpre; have q24 := ev_of (show a.eval (.tmp 24) = .func (.func 98) #[] #[] from p0); have q28 := ev_of (show a.eval (.tmp 28) = VX from p1); have q29 := ev_of (show a.eval (.tmp 29) = VT from p2); have HS := Lib.hid (HCp.out w'); clear hout p0 p1 p2; go_step; refine HS.out.mono ?_; rintro e w3 ⟨rfl, hB⟩; exact hK _ _ rfl (hG.trans (hB.mono hG.size)) hB
          · intro _ _ a w' hG hout hpre K hK; obtain ⟨p0, _⟩ := hpre; have q30 := ev_of (show a.eval (.tmp 30) = .int .i64 p from p0); have hp := HPn.out; clear hout p0; go_step; exact hK _ _ rfl hG (Below.refl _ _)
        · intro vs w2 hG hlen hV
          match vs, hlen, hV with
          | [v0, v1, v2, v3, v4, v5, v6, v7], _, hV =>
            obtain rfl : v7 = .bool true := (hV 7 31 v7 rfl rfl); clear hV; simp only [putsL, List.tail_cons, List.headD_cons]; simp only [Act.put, List.setIfInBounds_toArray, List.set_cons_succ, List.set_cons_zero]; have HZz := Lib.hid (HZ.out w2 hG); have HMm := Lib.hid Hm.out
            have hm3 : (m : Int) ≤ 1000000 := by have := Hm.out; omega
            clear hG; go_wp2_with (fail); go_roundw
            case rel => exact HZz.out
            case measure => have := HMm.out; show (hi : Int).toNat - ((m : Int) + 1).toNat < (hi : Int).toNat - (lo : Int).toNat; omega
      · have HPn : Hid (decide (p < 0) = false) := Lib.hid (decide_eq_false hp0)
        have HZ : Hid (∀ w', Below wr.heap.size wr w' → BRel w1 ws T (.int .i64 (lo : Int)) (.int .i64 (m : Int)) w') := by
          refine Lib.hid (fun w' h => ⟨lo, m, rfl, rfl, Hm.out.1.1, by rw [← HN.out.1]; have := Hm.out; omega, HB.out.1, fun i h1 h2 hc => ?_, HB1.out w' h⟩)
          exact hp0 (HAt.out.2 (HM.out m i h1 (by rw [HN.out.1]; exact h2) hc))
        clear hp0
        go_upto_region 5 with (fail)
        clear hme hmid hlt hlh hhn hVT
        refine wp_region_skip_frame (fun i => ([] : List Nat).contains i) (by kernel_rfl) [none, none, none, none, none, none, none, none] [] (fun i_ _ _ v_ => v_ = (((Value.func (.func 98) #[] #[]) :: (Value.slice (some ⟨pa, po, none⟩) n sc) :: (Value.int .i64 (m : Int)) :: (Value.pointer (some ⟨pa, po + m * 8, none⟩)) :: VX :: VT :: (Value.int .i64 p) :: (Value.bool false) :: ([] : List Value))).getD i_ undef) (fun _ w' => Below wr.heap.size wr w') (fun w w' => Below w.heap.size w w') (fun _ _ _ _ _ _ h => h) (by kernel_rfl) (by kernel_rfl) (by kernel_rfl) HG0.out (fun _ => ⟨rfl, rfl, rfl, rfl, rfl, rfl, rfl, rfl, trivial⟩) (fun _ h => by simp at h) ?_ ?_
        · refine ⟨?_, ?_, ?_, ?_, ?_, ?_, ?_, ?_, trivial⟩
          · intro _ _ a w' hG hout hpre K hK; have q2 := ev_of ((hout 2 rfl).trans (show _ = .func (.func 98) #[] #[] from rfl)); clear hout hpre; go_step; exact hK _ _ rfl hG (Below.refl _ _)
          · intro _ _ a w' hG hout hpre K hK; have q0 := ev_of ((hout 0 rfl).trans (show _ = .slice (some ⟨pa, po, none⟩) n sc from rfl)); clear hout hpre; go_step; exact hK _ _ rfl hG (Below.refl _ _)
          · intro _ _ a w' hG hout hpre K hK; have q11 := ev_of ((hout 11 rfl).trans (show _ = .int .i64 (m : Int) from rfl)); clear hout hpre; go_step; exact hK _ _ rfl hG (Below.refl _ _)
          · intro _ _ a w' hG hout hpre K hK; obtain ⟨p0, p1, _⟩ := hpre; have q25 := ev_of (show a.eval (.tmp 25) = .slice (some ⟨pa, po, none⟩) n sc from p0); have q26 := ev_of (show a.eval (.tmp 26) = .int .i64 (m : Int) from p1); have hi0 := HI0.out; clear hout p0 p1; go_step; exact hK _ _ rfl hG (Below.refl _ _)
          · intro _ _ a w' hG hout hpre K hK; obtain ⟨p0, _⟩ := hpre; have q27 := ev_of (show a.eval (.tmp 27) = .pointer (some ⟨pa, po + m * 8, none⟩) from p0); obtain ⟨d0, d1, d2, d3, d4, d5, d6, d7⟩ := HX.out w' hG; clear hout p0; go_step; exact hK _ _ HVX.out.symm hG (Below.refl _ _)
          · intro _ _ a w' hG hout hpre K hK; have q4 := ev_of ((hout 4 rfl).trans (show _ = .pointer (some ⟨tb, 0, none⟩) from rfl)); obtain ⟨d0, d1, d2⟩ := HRt.out w' hG; clear hout hpre; go_step; exact hK _ _ HVT.out.symm hG (Below.refl _ _)
          · intro _ _ a w' hG hout hpre K hK; obtain ⟨p0, p1, p2, _⟩ := hpre; have q24 := ev_of (show a.eval (.tmp 24) = .func (.func 98) #[] #[] from p0); have q28 := ev_of (show a.eval (.tmp 28) = VX from p1); have q29 := ev_of (show a.eval (.tmp 29) = VT from p2); have HS := Lib.hid (HCp.out w'); clear hout p0 p1 p2; go_step; refine HS.out.mono ?_; rintro e w3 ⟨rfl, hB⟩; exact hK _ _ rfl (hG.trans (hB.mono hG.size)) hB
          · intro _ _ a w' hG hout hpre K hK; obtain ⟨p0, _⟩ := hpre; have q30 := ev_of (show a.eval (.tmp 30) = .int .i64 p from p0); have hp := HPn.out; clear hout p0; go_step; exact hK _ _ rfl hG (Below.refl _ _)
        · intro vs w2 hG hlen hV
          match vs, hlen, hV with
          | [v0, v1, v2, v3, v4, v5, v6, v7], _, hV =>
            obtain rfl : v7 = .bool false := (hV 7 31 v7 rfl rfl); clear hV; simp only [putsL, List.tail_cons, List.headD_cons]; simp only [Act.put, List.setIfInBounds_toArray, List.set_cons_succ, List.set_cons_zero]; have HZz := Lib.hid (HZ.out w2 hG); have HMm := Lib.hid Hm.out
            have hm3 : (m : Int) ≤ 1000000 := by have := Hm.out; omega
            clear hG; go_wp2_with (fail); go_roundw
            case rel => exact HZz.out
            case measure => have := HMm.out; show (m : Int).toNat - (lo : Int).toNat < (hi : Int).toNat - (lo : Int).toNat; omega
    · obtain rfl : hi = lo := by omega
      have HPl : Hid (placeAt ws T hi) := Lib.hid ⟨by rw [← HN.out.1]; exact hhn, HB.out.1, by rw [← HN.out.1]; exact HB.out.2.1⟩
      have HPz : Hid (∀ w' b, (b = true ↔ hi < ws.length ∧ atW ws hi = T) → Below wr.heap.size wr w' → P (.returned (.tuple #[.int .i64 (hi : Int), .bool b])) w') := Lib.hid (fun w' b hb h => HYes.out w' hi b HPl.out hb (H1.out.2.trans ((HB1.out w' h).mono H1.out.2.size)))
      by_cases hin : hi < n
      · obtain ⟨x, pa, po, hx, hsa, _⟩ := HA.out.get (t := hi) (by rw [← HLn.out]; omega)
        subst hsa
        have HX : Hid (∀ w', Below wr.heap.size wr w' → w'.cell? ⟨pa, po + hi * 8, none⟩ = some (Sv x.p.w.key) ∧ w'.cell? ⟨pa, po + hi * 8 + 1, none⟩ = some (.int .i64 x.p.w.lo) ∧ w'.cell? ⟨pa, po + hi * 8 + 2, none⟩ = some (.int .i64 x.p.w.hi) ∧ w'.cell? ⟨pa, po + hi * 8 + 3, none⟩ = some (.int .i64 x.p.a.n) ∧ w'.cell? ⟨pa, po + hi * 8 + 4, none⟩ = some (.int .i64 x.p.a.a) ∧ w'.cell? ⟨pa, po + hi * 8 + 5, none⟩ = some (x.tv) ∧ w'.cell? ⟨pa, po + hi * 8 + 6, none⟩ = some (x.z) ∧ w'.cell? ⟨pa, po + hi * 8 + 7, none⟩ = some (.int .i64 x.p.r)) := by
          refine Lib.hid (fun w' h => ?_)
          obtain ⟨x', b', o', hx', ha', d⟩ := ((HA.out.below H1.out.2).below (HB1.out w' h)).get (t := hi) (by rw [← HLn.out]; omega)
          cases ha'
          rw [hx] at hx'
          cases hx'
          exact d
        obtain ⟨VX, hVX⟩ : ∃ V, V = Value.agg x.cells := ⟨_, rfl⟩; obtain ⟨p, hp⟩ : ∃ p, p = placeW x.p.w T := ⟨_, rfl⟩
        have HCp : Hid (∀ w', Calls Tryz.prog 98 #[VX, VT] w' (Below0 w' (.int .i64 p))) := by
          rw [hVX, hVT, hp, HT.out]; exact Lib.hid (fun w' => ohome1_any w' x ⟨tk, tl, th⟩)
        have HVX := Lib.hid hVX
        have HI0 : Hid ((0 : Int) ≤ (hi : Int) ∧ (hi : Int) < (n : Int)) := Lib.hid (by omega)
        obtain ⟨qz, hqz⟩ : ∃ b, b = (p == 0) := ⟨_, rfl⟩; have HQ := Lib.hid hqz
        have HF : Hid (qz = true ↔ hi < ws.length ∧ atW ws hi = T) := by
          rw [hqz, hp, atW_some (HW.out hi _ hx), beq_iff_eq]
          refine Lib.hid ⟨fun h => ⟨by rw [← HN.out.1]; exact hin, ?_⟩, fun h => ?_⟩
          · rcases placeW_cases x.p.w T with ⟨e, _⟩ | ⟨_, e⟩ | ⟨e, _⟩
            · rw [e] at h; cases h
            · exact e
            · rw [e] at h; cases h
          · rcases placeW_cases x.p.w T with ⟨_, e⟩ | ⟨e, _⟩ | ⟨_, e⟩
            · rw [h.2] at e; exact e.irrefl.elim
            · exact e
            · rw [h.2] at e; exact e.irrefl.elim
        obtain ⟨⟨⟨xk, xl, xh⟩, ⟨xn, xa, xt, xu, xv⟩, xr⟩, xtv, xz, xht, xhz⟩ := x; clear hx hVX hp hin hlt hlh hhn hVT hqz
        go_upto_region 8 with (fail)
        refine wp_region_skip_frame (fun i => ([] : List Nat).contains i) (by kernel_rfl) [none, none, none, none, none, none, none, none, none, none, none, none, none, none, none, none] [] (fun i_ _ _ v_ => v_ = (((Value.int .i64 (hi : Int)) :: (Value.int .i64 (hi : Int)) :: (Value.int .i64 (n : Int)) :: (Value.bool true) :: (Value.bool true) :: (Value.func (.func 98) #[] #[]) :: (Value.slice (some ⟨pa, po, none⟩) n sc) :: (Value.int .i64 (hi : Int)) :: (Value.pointer (some ⟨pa, po + hi * 8, none⟩)) :: VX :: VT :: (Value.int .i64 p) :: (Value.bool qz) :: (Value.bool qz) :: (Value.int .i64 (hi : Int)) :: (Value.bool qz) :: ([] : List Value))).getD i_ undef) (fun _ w' => Below wr.heap.size wr w') (fun w w' => Below w.heap.size w w') (fun _ _ _ _ _ _ h => h) (by kernel_rfl) (by kernel_rfl) (by kernel_rfl) HG0.out (fun _ => ⟨rfl, rfl, rfl, rfl, rfl, fun _ _ h => .inl h, fun _ _ h => .inl h, fun _ _ h => .inl h, fun _ _ h => .inl h, fun _ _ h => .inl h, fun _ _ h => .inl h, fun _ _ h => .inl h, fun _ _ h => .inl h, rfl, rfl, rfl, trivial⟩) (fun _ h => by simp at h) ?_ ?_
        · refine ⟨?_, ?_, ?_, ?_, ?_, ?_, ?_, ?_, ?_, ?_, ?_, ?_, ?_, ?_, ?_, ?_, trivial⟩
          · intro _ _ a w' hG hout hpre K hK; have q9 := ev_of ((hout 9 rfl).trans (show _ = .int .i64 (hi : Int) from rfl)); clear hout hpre; go_step; exact hK _ _ rfl hG (Below.refl _ _)
          · intro _ _ a w' hG hout hpre K hK; have q9 := ev_of ((hout 9 rfl).trans (show _ = .int .i64 (hi : Int) from rfl)); clear hout hpre; go_step; exact hK _ _ rfl hG (Below.refl _ _)
          · intro _ _ a w' hG hout hpre K hK; have q8 := ev_of ((hout 8 rfl).trans (show _ = .int .i64 (n : Int) from rfl)); clear hout hpre; go_step; exact hK _ _ rfl hG (Below.refl _ _)
          · intro _ _ a w' hG hout hpre K hK; obtain ⟨p0, p1, _⟩ := hpre; have q36 := ev_of (show a.eval (.tmp 36) = .int .i64 (hi : Int) from p0); have q37 := ev_of (show a.eval (.tmp 37) = .int .i64 (n : Int) from p1); have hi0 := HI0.out; clear hout p0 p1; go_step; exact hK _ _ rfl hG (Below.refl _ _)
          · intro _ _ a w' hG hout hpre K hK; obtain ⟨p0, _⟩ := hpre; have q38 := ev_of (show a.eval (.tmp 38) = .bool true from p0); clear hout p0; go_step; exact hK _ _ rfl hG (Below.refl _ _)
          · intro _ _ a w' hG hout hpre K hK; have q2 := ev_of ((hout 2 rfl).trans (show _ = .func (.func 98) #[] #[] from rfl)); clear hout hpre; go_step; exact hK _ _ rfl hG (Below.refl _ _)
          · intro _ _ a w' hG hout hpre K hK; have q0 := ev_of ((hout 0 rfl).trans (show _ = .slice (some ⟨pa, po, none⟩) n sc from rfl)); clear hout hpre; go_step; exact hK _ _ rfl hG (Below.refl _ _)
          · intro _ _ a w' hG hout hpre K hK; have q9 := ev_of ((hout 9 rfl).trans (show _ = .int .i64 (hi : Int) from rfl)); clear hout hpre; go_step; exact hK _ _ rfl hG (Below.refl _ _)
          · intro _ _ a w' hG hout hpre K hK; obtain ⟨p0, p1, _⟩ := hpre; have q41 := ev_of (show a.eval (.tmp 41) = .slice (some ⟨pa, po, none⟩) n sc from p0); have q42 := ev_of (show a.eval (.tmp 42) = .int .i64 (hi : Int) from p1); have hi0 := HI0.out; clear hout p0 p1; go_step; exact hK _ _ rfl hG (Below.refl _ _)
          · intro _ _ a w' hG hout hpre K hK; obtain ⟨p0, _⟩ := hpre; have q43 := ev_of (show a.eval (.tmp 43) = .pointer (some ⟨pa, po + hi * 8, none⟩) from p0); obtain ⟨d0, d1, d2, d3, d4, d5, d6, d7⟩ := HX.out w' hG; clear hout p0; go_step; exact hK _ _ HVX.out.symm hG (Below.refl _ _)
          · intro _ _ a w' hG hout hpre K hK; have q4 := ev_of ((hout 4 rfl).trans (show _ = .pointer (some ⟨tb, 0, none⟩) from rfl)); obtain ⟨d0, d1, d2⟩ := HRt.out w' hG; clear hout hpre; go_step; exact hK _ _ HVT.out.symm hG (Below.refl _ _)
          · intro _ _ a w' hG hout hpre K hK; obtain ⟨p0, p1, p2, _⟩ := hpre; have q40 := ev_of (show a.eval (.tmp 40) = .func (.func 98) #[] #[] from p0); have q44 := ev_of (show a.eval (.tmp 44) = VX from p1); have q45 := ev_of (show a.eval (.tmp 45) = VT from p2); have HS := Lib.hid (HCp.out w'); clear hout p0 p1 p2; go_step; refine HS.out.mono ?_; rintro e w3 ⟨rfl, hB⟩; exact hK _ _ rfl (hG.trans (hB.mono hG.size)) hB
          · intro _ _ a w' hG hout hpre K hK; obtain ⟨p0, _⟩ := hpre; have q46 := ev_of (show a.eval (.tmp 46) = .int .i64 p from p0); have e := HQ.out.symm; clear hout p0; go_step; exact hK _ _ rfl hG (Below.refl _ _)
          · intro _ _ a w' hG hout hpre K hK; obtain ⟨p0, p1, _⟩ := hpre; have q39 := ev_of (show a.eval (.tmp 39) = .bool true from p0); have q47 := ev_of (show a.eval (.tmp 47) = .bool qz from p1); clear hout p0 p1; go_step; exact hK _ _ rfl hG (Below.refl _ _)
          · intro _ _ a w' hG hout hpre K hK; obtain ⟨p0, _⟩ := hpre; have q35 := ev_of (show a.eval (.tmp 35) = .int .i64 (hi : Int) from p0); clear hout p0; go_step; exact hK _ _ rfl hG (Below.refl _ _)
          · intro _ _ a w' hG hout hpre K hK; obtain ⟨p0, _⟩ := hpre; have q48 := ev_of (show a.eval (.tmp 48) = .bool qz from p0); clear hout p0; go_step; exact hK _ _ rfl hG (Below.refl _ _)
        · intro vs w2 hG hlen hV
          match vs, hlen, hV with
          | [v0, v1, v2, v3, v4, v5, v6, v7, v8, v9, v10, v11, v12, v13, v14, v15], _, hV =>
            obtain rfl : v14 = .int .i64 (hi : Int) := (hV 14 6 v14 rfl rfl); obtain rfl : v15 = .bool qz := (hV 15 7 v15 rfl rfl); clear hV; simp only [putsL, List.tail_cons, List.headD_cons]; simp only [Act.put, List.setIfInBounds_toArray, List.set_cons_succ, List.set_cons_zero]; have HZz := Lib.hid (HPz.out w2 qz HF.out hG); clear hG; go_wp2_with (fail); exact HZz.out
      · have HI0 : Hid (decide (hi < n) = false) := Lib.hid (decide_eq_false hin)
        have HF : Hid (false = true ↔ hi < ws.length ∧ atW ws hi = T) := Lib.hid ⟨fun h => (by cases h), fun h => absurd h.1 (by rw [← HN.out.1]; exact hin)⟩
        clear hin hlt hlh hhn hVT
        go_upto_region 8 with (fail)
        refine wp_region_skip_frame (fun i => ([5, 6, 7, 8, 9, 10, 11, 12] : List Nat).contains i) (by kernel_rfl) [none, none, none, none, none, none, none, none, none, none, none, none, none, none, none, none] [] (fun i_ _ _ v_ => v_ = (((Value.int .i64 (hi : Int)) :: (Value.int .i64 (hi : Int)) :: (Value.int .i64 (n : Int)) :: (Value.bool false) :: (Value.bool false) :: undef :: undef :: undef :: undef :: undef :: undef :: undef :: undef :: (Value.bool false) :: (Value.int .i64 (hi : Int)) :: (Value.bool false) :: ([] : List Value))).getD i_ undef) (fun _ w' => Below wr.heap.size wr w') (fun w w' => Below w.heap.size w w') (fun _ _ _ _ _ _ h => h) (by kernel_rfl) (by kernel_rfl) (by kernel_rfl) HG0.out (fun _ => ⟨rfl, rfl, rfl, rfl, rfl, fun _ _ h => .inl h, fun _ _ h => .inl h, fun _ _ h => .inl h, fun _ _ h => .inl h, fun _ _ h => .inl h, fun _ _ h => .inl h, fun _ _ h => .inl h, fun _ _ h => .inl h, rfl, rfl, rfl, trivial⟩) (fun i hi => by have hm := List.contains_iff_mem.1 hi; simp only [List.mem_cons, List.not_mem_nil, or_false] at hm; rcases hm with rfl | rfl | rfl | rfl | rfl | rfl | rfl | rfl <;> exact ⟨rfl, fun _ _ => rfl⟩) ?_ ?_
        · refine ⟨?_, ?_, ?_, ?_, ?_, ?_, ?_, ?_, ?_, ?_, ?_, ?_, ?_, ?_, ?_, ?_, trivial⟩
          · intro _ _ a w' hG hout hpre K hK; have q9 := ev_of ((hout 9 rfl).trans (show _ = .int .i64 (hi : Int) from rfl)); clear hout hpre; go_step; exact hK _ _ rfl hG (Below.refl _ _)
          · intro _ _ a w' hG hout hpre K hK; have q9 := ev_of ((hout 9 rfl).trans (show _ = .int .i64 (hi : Int) from rfl)); clear hout hpre; go_step; exact hK _ _ rfl hG (Below.refl _ _)
          · intro _ _ a w' hG hout hpre K hK; have q8 := ev_of ((hout 8 rfl).trans (show _ = .int .i64 (n : Int) from rfl)); clear hout hpre; go_step; exact hK _ _ rfl hG (Below.refl _ _)
          · intro _ _ a w' hG hout hpre K hK; obtain ⟨p0, p1, _⟩ := hpre; have q36 := ev_of (show a.eval (.tmp 36) = .int .i64 (hi : Int) from p0); have q37 := ev_of (show a.eval (.tmp 37) = .int .i64 (n : Int) from p1); have hi0 := HI0.out; clear hout p0 p1; go_step; exact hK _ _ rfl hG (Below.refl _ _)
          · intro _ _ a w' hG hout hpre K hK; obtain ⟨p0, _⟩ := hpre; have q38 := ev_of (show a.eval (.tmp 38) = .bool false from p0); clear hout p0; go_step; exact hK _ _ rfl hG (Below.refl _ _)
          · exact fun h => absurd h (by decide)
          · exact fun h => absurd h (by decide)
          · exact fun h => absurd h (by decide)
          · exact fun h => absurd h (by decide)
          · exact fun h => absurd h (by decide)
          · exact fun h => absurd h (by decide)
          · exact fun h => absurd h (by decide)
          · exact fun h => absurd h (by decide)
          · intro _ _ a w' hG hout hpre K hK; obtain ⟨p0, p1, _⟩ := hpre; have q39 := ev_of (show a.eval (.tmp 39) = .bool false from p0); have q47 := ev_of (show a.eval (.tmp 47) = undef from p1); clear hout p0 p1; go_step; exact hK _ _ rfl hG (Below.refl _ _)
          · intro _ _ a w' hG hout hpre K hK; obtain ⟨p0, _⟩ := hpre; have q35 := ev_of (show a.eval (.tmp 35) = .int .i64 (hi : Int) from p0); clear hout p0; go_step; exact hK _ _ rfl hG (Below.refl _ _)
          · intro _ _ a w' hG hout hpre K hK; obtain ⟨p0, _⟩ := hpre; have q48 := ev_of (show a.eval (.tmp 48) = .bool false from p0); clear hout p0; go_step; exact hK _ _ rfl hG (Below.refl _ _)
        · intro vs w2 hG hlen hV
          match vs, hlen, hV with
          | [v0, v1, v2, v3, v4, v5, v6, v7, v8, v9, v10, v11, v12, v13, v14, v15], _, hV =>
            obtain rfl : v14 = .int .i64 (hi : Int) := (hV 14 6 v14 rfl rfl); obtain rfl : v15 = .bool false := (hV 15 7 v15 rfl rfl); clear hV; simp only [putsL, List.tail_cons, List.headD_cons]; simp only [Act.put, List.setIfInBounds_toArray, List.set_cons_succ, List.set_cons_zero]; have HZz := Lib.hid (HPz.out w2 false HF.out hG); clear hG; go_wp2_with (fail); exact HZz.out
end Go.Proofs.YtjeeghafachebaaGreat
