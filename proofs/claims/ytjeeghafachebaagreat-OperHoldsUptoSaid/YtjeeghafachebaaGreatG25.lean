/-
  Part 25 of 53 of what the proof leans on.
-/
import Derived.Test.YtjeeghafachebaaGreatG21
import Derived.Test.YtjeeghafachebaaGreatG16
import Derived.Laws.OwnMore
import Derived.Lib.Overlaps
namespace Go.Proofs.YtjeeghafachebaaGreat
open Go Go.RowKit
theorem meetB_join {a b : WindowL} (ha : a.rightB = true) (hb : b.rightB = true) : meetB a b = joinsB a b := by
  rw [joinsB_meet, ha, hb]; rfl
theorem meet_far {a b c : WindowL} (hb : b.rightB = true) (h1 : aheadP a b) (h2 : aheadP b c) (h3 : meetB a b = false) : meetB a c = false := by
  have rb := rightW_cases hb; rw [meetB, decide_eq_false_iff_not] at h3 ⊢; intro hac
  apply h3
  obtain ⟨k, _, _⟩ := hac; unfold aheadP at h1 h2
  rcases h1 with h1 | ⟨e1, h1⟩
  · rcases h2 with h2 | ⟨e2, h2⟩
    · have := ltS_trans h1 h2; rw [k, ltS_irrefl] at this
      cases this
    · rw [k, ← e2, ltS_irrefl] at h1
      cases h1
  · rcases h2 with h2 | ⟨e2, h2⟩
    · rw [← k, e1, ltS_irrefl] at h2
      cases h2
    · exact ⟨e1, by omega, by omega⟩
def okAt (l : List WindowL) (i : Nat) : Prop := (atW l i).rightB = true ∧ (0 < i → apartB (atW l (i - 1)) (atW l i) = true)
theorem settled_chain (l : List WindowL) : Settled l ↔ ∀ i < l.length, okAt l i := by
  have hat : ∀ i (h : i < l.length), atW l i = l[i] := fun i h => atW_some (List.getElem?_eq_getElem h)
  constructor
  · intro h i hi
    refine ⟨by rw [hat i hi]; exact h.1 _ (List.getElem_mem _), fun h0 => ?_⟩
    obtain ⟨p1, p2⟩ := List.pairwise_iff_getElem.1 h.2 (i - 1) i (by omega) hi (by omega)
    rw [hat _ hi, hat (i - 1) (by omega), apartB, meetB_join (h.1 _ (List.getElem_mem _)) (h.1 _ (List.getElem_mem _)), p2, decide_eq_true ((placeW_neg _ _).2 p1)]
    rfl
  · intro h
    have hr : ∀ i (hi : i < l.length), l[i].rightB = true := fun i hi => by
      have := (h i hi).1
      rwa [hat i hi] at this
    have step : ∀ i (hi : i + 1 < l.length), aheadP (l[i]'(by omega)) l[i + 1] ∧ meetB (l[i]'(by omega)) l[i + 1] = false := by
      intro i hi
      have := (h (i + 1) hi).2 (by omega)
      rw [Nat.add_sub_cancel, hat _ hi, hat i (by omega), apartB, Bool.and_eq_true, decide_eq_true_eq, Bool.not_eq_true'] at this
      exact ⟨(placeW_neg _ _).1 this.1, this.2⟩
    have far : ∀ d i (hi : i + d + 1 < l.length), aheadP (l[i]'(by omega)) l[i + d + 1] ∧ meetB (l[i]'(by omega)) l[i + d + 1] = false := by
      intro d
      induction d with
      | zero => intro i hi; exact step i hi
      | succ d ih =>
        intro i hi
        obtain ⟨a1, a2⟩ := ih i (by omega)
        obtain ⟨b1, b2⟩ := step (i + d + 1) hi
        exact ⟨a1.trans b1, meet_far (hr _ (by omega)) a1 b1 a2⟩
    refine ⟨fun x hx => ?_, List.pairwise_iff_getElem.2 fun i j hi hj hij => ?_⟩
    · obtain ⟨i, hi, rfl⟩ := List.getElem_of_mem hx; exact hr i hi
    · obtain ⟨d, rfl⟩ : ∃ d, j = i + d + 1 := ⟨j - i - 1, by omega⟩
      obtain ⟨a1, a2⟩ := far d i hj
      exact ⟨a1, by rw [← meetB_join (hr i hi) (hr _ hj)]; exact a2⟩
theorem chain_no {l : List WindowL} {i : Nat} (hi : i < l.length) (h : ¬ okAt l i) : decide (Settled l) = false :=
  decide_eq_false fun hs => h ((settled_chain l).1 hs i hi)
def SetRel (w : World) (l : List WindowL) (v : Value) (wr : World) : Prop := ∃ i : Nat, i ≤ l.length ∧ v = .int .i64 (i : Int) ∧ (∀ j < i, okAt l j) ∧ Below w.heap.size w wr
set_option maxRecDepth 100000 in
set_option maxHeartbeats 2000000 in
theorem sSettled_any (w : World) (sa : Option Addr) (sc : Nat) (l : List WindowL) (hA : WinsAt w sa l) (hk : ∀ x ∈ l, x.key.length ≤ 1000000) (hn : l.length ≤ 1000000) :
    Calls Tryz.prog 52 #[.slice sa l.length sc] w (Below0 w (.bool (decide (Settled l)))) := by
  obtain ⟨n, hN⟩ : ∃ n, n = l.length := ⟨_, rfl⟩; obtain ⟨P, hP⟩ : ∃ P, P = Below0 w (.bool (decide (Settled l))) := ⟨_, rfl⟩; rw [← hP, ← hN]
  have HN : Hid (n = l.length ∧ n ≤ 1000000) := Lib.hid ⟨hN, by omega⟩
  have hn6 : n ≤ 1000000 := by omega
  have HA := Lib.hid hA; have HK : Hid (∀ (i : Nat) (x : WindowL), l[i]? = some x → x.key.length ≤ 1000000) := Lib.hid (fun i x h => hk x (List.mem_of_getElem? h))
  have HNo : Hid (∀ wz i, i < n → ¬ okAt l i → Below w.heap.size w wz → P (.returned (.bool false)) wz) := Lib.hid (fun wz i hi h hB => by rw [hP, chain_no (by omega) h]; exact ⟨rfl, hB⟩)
  have HYes : Hid (∀ wz, (∀ j < n, okAt l j) → Below w.heap.size w wz → P (.returned (.bool true)) wz) := Lib.hid (fun wz h hB => by
    rw [hP, decide_eq_true ((settled_chain l).2 (by rw [hN] at h; exact h))]
    exact ⟨rfl, hB⟩)
  clear hN hA hk hn hP
  go_enter Tryz.func52, Tryz.ntmps52
  go_wp2_with (fail)
  go_loopw [7] (SetRel w l) (fun v _ => n - (intOf v).toNat)
  case atStart => exact ⟨0, Nat.zero_le _, rfl, fun j h => absurd h (Nat.not_lt_zero _), Below.refl _ _⟩
  case round =>
    obtain ⟨i, hi, rfl, hok, hB⟩ := hrel; rw [← HN.out.1] at hi; have HO := Lib.hid (And.intro hok hB); clear hok hB
    by_cases hlt : i < n
    · have hi0 : (0 : Int) ≤ (i : Int) ∧ (i : Int) < (n : Int) := by omega
      obtain ⟨x, pa, oa, hx, hsa, c0, c1, c2⟩ := (HA.out.below HO.out.2).get (t := i) (by rw [← HN.out.1]; exact hlt)
      subst hsa; have HXl := Lib.hid (And.intro (HK.out i x hx) (And.intro (atW_some hx) hlt)); have HI0 := Lib.hid hi0; obtain ⟨xk, xl, xh⟩ := x; simp only at c0 c1 c2; clear hx hi hlt
      go_upto_region 3 with (fail)
      refine wp_region_lit ?_
      iterate 15 go_step
      refine wpList_store_row rfl _ _ _ rfl wr.heap.size (WindowL.mk xk xl xh).cells rfl rfl 47 zeroW.cells (heap_alloc_new wr _) window_size rfl (window_one _) ?_; obtain ⟨W1, hwx⟩ : ∃ W, W = (wr.alloc (Obj.cells #[.string ⟨#[]⟩, .int .i64 0, .int .i64 0] 47)).setRow wr.heap.size (WindowL.mk xk xl xh).cells := ⟨_, rfl⟩; obtain ⟨xb, hxb⟩ : ∃ b, b = wr.heap.size := ⟨_, rfl⟩
      have Hwx : Hid (RowW W1 xb (WindowL.mk xk xl xh) ∧ Below wr.heap.size wr W1) := by
        obtain ⟨k1, k2⟩ := stored_window wr (WindowL.mk xk xl xh); rw [hwx, hxb]; exact Lib.hid ⟨k1, k2⟩
      rw [← hwx, ← hxb]; clear hwx hxb c0 c1 c2; have HW1 : Hid (Below w.heap.size w W1) := Lib.hid (HO.out.2.trans (Hwx.out.2.mono HO.out.2.size)); have HG0 : Hid (Below W1.heap.size W1 W1.drew) := (Below.refl _ W1).drew; obtain ⟨VW, hVW⟩ : ∃ V, V = Value.agg (WindowL.mk xk xl xh).cells := ⟨_, rfl⟩; have HD : Hid (∀ w', Below W1.heap.size W1 w' → D3 w' xb xk xl xh) := Lib.hid (fun w' h => (Hwx.out.1.below h).d3); obtain ⟨r, hr⟩ : ∃ r, r = (WindowL.mk xk xl xh).rightB := ⟨_, rfl⟩
      have HCr : Hid (∀ w', Calls Tryz.prog 48 #[VW] w' (Below0 w' (.bool r))) := by
        rw [hr, hVW]; exact Lib.hid (fun w' => wright_any w' ⟨xk, xl, xh⟩ HXl.out.1)
      have HV := Lib.hid hVW; have Hr := Lib.hid hr
      have HNx : Hid (∀ w', Below W1.heap.size W1 w' → okAt l i → SetRel w l (.int .i64 ((i : Int) + 1)) w') := by
        refine Lib.hid (fun w' h hb => ⟨i + 1, ?_, by go_num, fun j hj => ?_, HW1.out.trans (h.mono HW1.out.size)⟩)
        · have := HN.out.1; have := HXl.out.2.2; omega
        · by_cases e : j = i
          · rw [e]; exact hb
          · exact HO.out.1 j (by omega)
      clear hr hVW
      cases r with
      | false =>
        have HBd : Hid (∀ w', Below W1.heap.size W1 w' → P (.returned (.bool false)) w') := by
          refine Lib.hid (fun w' h => HNo.out w' i HXl.out.2.2 (fun hk => ?_) (HW1.out.trans (h.mono HW1.out.size))); have := hk.1; rw [HXl.out.2.1, ← Hr.out] at this
          cases this
        go_upto_region 4 with (fail)
        refine wp_region_skip_frame (fun i => ([4, 5, 6, 7, 8, 9, 10, 11, 12, 13, 14, 15] : List Nat).contains i) (by kernel_rfl) [none, none, none, none, none, none, none, none, none, none, none, none, none, none, none, none, none] [] (fun i_ _ _ v_ => v_ = ((VW :: (Value.bool false) :: (Value.bool true) :: (Value.bool true) :: undef :: undef :: undef :: undef :: undef :: undef :: undef :: undef :: undef :: undef :: undef :: undef :: (Value.bool true) :: ([] : List Value))).getD i_ undef) (fun _ w' => Below W1.heap.size W1 w') (fun w w' => Below w.heap.size w w') (fun _ _ _ _ _ _ h => h) (by kernel_rfl) (by kernel_rfl) (by kernel_rfl) HG0.out (fun _ => ⟨rfl, rfl, rfl, rfl, fun _ _ h => .inl h, fun _ _ h => .inl h, fun _ _ h => .inl h, fun _ _ h => .inr ⟨rfl, h⟩, fun _ _ h => .inr ⟨rfl, h⟩, fun _ _ h => .inr ⟨rfl, h⟩, fun _ _ h => .inr ⟨rfl, h⟩, fun _ _ h => .inr ⟨rfl, h⟩, fun _ _ h => .inr ⟨rfl, h⟩, fun _ _ h => .inr ⟨rfl, h⟩, fun _ _ h => .inr ⟨rfl, h⟩, fun _ _ h => .inl h, rfl, trivial⟩) (fun i hi => by have hm := List.contains_iff_mem.1 hi; simp only [List.mem_cons, List.not_mem_nil, or_false] at hm; rcases hm with rfl | rfl | rfl | rfl | rfl | rfl | rfl | rfl | rfl | rfl | rfl | rfl <;> exact ⟨rfl, fun _ _ => rfl⟩) ?_ ?_
        · refine ⟨?_, ?_, ?_, ?_, ?_, ?_, ?_, ?_, ?_, ?_, ?_, ?_, ?_, ?_, ?_, ?_, ?_, trivial⟩
          · intro _ k a w' hG hout hpre K hK; have q4 := ev_of ((hout 4 rfl).trans (show _ = .pointer (some ⟨xb, 0, none⟩) from rfl)); obtain ⟨d0, d1, d2⟩ := HD.out w' hG; clear hout hpre; go_step; exact hK _ _ HV.out.symm hG (Below.refl _ _)
          · intro _ k a w' hG hout hpre K hK; obtain ⟨p0, _⟩ := hpre; have q12 := ev_of (show a.eval (.tmp 12) = VW from p0); have HS := Lib.hid (HCr.out w'); clear hout p0; go_step; refine HS.out.mono ?_; rintro e w3 ⟨rfl, hB⟩; exact hK _ _ rfl (hG.trans (hB.mono hG.size)) hB
          · intro _ k a w' hG hout hpre K hK; obtain ⟨p0, _⟩ := hpre; have q13 := ev_of (show a.eval (.tmp 13) = .bool false from p0); clear hout p0; go_step; exact hK _ _ rfl hG (Below.refl _ _)
          · intro _ k a w' hG hout hpre K hK; obtain ⟨p0, _⟩ := hpre; have q14 := ev_of (show a.eval (.tmp 14) = .bool true from p0); clear hout p0; go_step; exact hK _ _ rfl hG (Below.refl _ _)
          · exact fun h => absurd h (by decide)
          · exact fun h => absurd h (by decide)
          · exact fun h => absurd h (by decide)
          · exact fun h => absurd h (by decide)
          · exact fun h => absurd h (by decide)
          · exact fun h => absurd h (by decide)
          · exact fun h => absurd h (by decide)
          · exact fun h => absurd h (by decide)
          · exact fun h => absurd h (by decide)
          · exact fun h => absurd h (by decide)
          · exact fun h => absurd h (by decide)
          · exact fun h => absurd h (by decide)
          · intro _ k a w' hG hout hpre K hK; obtain ⟨p0, p1, _⟩ := hpre; have q15 := ev_of (show a.eval (.tmp 15) = .bool true from p0); have q27 := ev_of (show a.eval (.tmp 27) = undef from p1); clear hout p0 p1; go_step; exact hK _ _ rfl hG (Below.refl _ _)
        · intro vs w2 hG hlen hV
          match vs, hlen, hV with
          | [v0, v1, v2, v3, v4, v5, v6, v7, v8, v9, v10, v11, v12, v13, v14, v15, v16], _, hV =>
            obtain rfl : v16 = .bool true := (hV 16 28 v16 rfl rfl); clear hV; simp only [putsL, List.tail_cons, List.headD_cons]; simp only [Act.put, List.setIfInBounds_toArray, List.set_cons_succ, List.set_cons_zero]; have HZ := Lib.hid (HBd.out w2 hG); clear hG; go_wp2_with (fail); exact HZ.out
      | true =>
        by_cases hz : i = 0
        · subst hz
          have HGd : Hid (okAt l 0) := Lib.hid ⟨by rw [HXl.out.2.1]; exact Hr.out.symm, fun h => absurd h (Nat.lt_irrefl _)⟩
          rw [show ((0 : Nat) : Int) = 0 from rfl] at hi0 ⊢; rw [show ((0 : Nat) : Int) = 0 from rfl] at HNx
          go_upto_region 4 with (fail)
          refine wp_region_skip_frame (fun i => ([7, 8, 9, 10, 11, 12, 13, 14] : List Nat).contains i) (by kernel_rfl) [none, none, none, none, none, none, none, none, none, none, none, none, none, none, none, none, none] [] (fun i_ _ _ v_ => v_ = ((VW :: (Value.bool true) :: (Value.bool false) :: (Value.bool false) :: (Value.int .i64 (0 : Int)) :: (Value.bool false) :: (Value.bool false) :: undef :: undef :: undef :: undef :: undef :: undef :: undef :: undef :: (Value.bool false) :: (Value.bool false) :: ([] : List Value))).getD i_ undef) (fun _ w' => Below W1.heap.size W1 w') (fun w w' => Below w.heap.size w w') (fun _ _ _ _ _ _ h => h) (by kernel_rfl) (by kernel_rfl) (by kernel_rfl) HG0.out (fun _ => ⟨rfl, rfl, rfl, rfl, fun _ _ h => .inl h, fun _ _ h => .inl h, fun _ _ h => .inl h, fun _ _ h => .inl h, fun _ _ h => .inl h, fun _ _ h => .inl h, fun _ _ h => .inl h, fun _ _ h => .inl h, fun _ _ h => .inl h, fun _ _ h => .inl h, fun _ _ h => .inl h, fun _ _ h => .inl h, rfl, trivial⟩) (fun i hi => by have hm := List.contains_iff_mem.1 hi; simp only [List.mem_cons, List.not_mem_nil, or_false] at hm; rcases hm with rfl | rfl | rfl | rfl | rfl | rfl | rfl | rfl <;> exact ⟨rfl, fun _ _ => rfl⟩) ?_ ?_
          · refine ⟨?_, ?_, ?_, ?_, ?_, ?_, ?_, ?_, ?_, ?_, ?_, ?_, ?_, ?_, ?_, ?_, ?_, trivial⟩
            · intro _ k a w' hG hout hpre K hK; have q4 := ev_of ((hout 4 rfl).trans (show _ = .pointer (some ⟨xb, 0, none⟩) from rfl)); obtain ⟨d0, d1, d2⟩ := HD.out w' hG; clear hout hpre; go_step; exact hK _ _ HV.out.symm hG (Below.refl _ _)
            · intro _ k a w' hG hout hpre K hK; obtain ⟨p0, _⟩ := hpre; have q12 := ev_of (show a.eval (.tmp 12) = VW from p0); have HS := Lib.hid (HCr.out w'); clear hout p0; go_step; refine HS.out.mono ?_; rintro e w3 ⟨rfl, hB⟩; exact hK _ _ rfl (hG.trans (hB.mono hG.size)) hB
            · intro _ k a w' hG hout hpre K hK; obtain ⟨p0, _⟩ := hpre; have q13 := ev_of (show a.eval (.tmp 13) = .bool true from p0); clear hout p0; go_step; exact hK _ _ rfl hG (Below.refl _ _)
            · intro _ k a w' hG hout hpre K hK; obtain ⟨p0, _⟩ := hpre; have q14 := ev_of (show a.eval (.tmp 14) = .bool false from p0); clear hout p0; go_step; exact hK _ _ rfl hG (Below.refl _ _)
            · intro _ k a w' hG hout hpre K hK; have q3 := ev_of ((hout 3 rfl).trans (show _ = .int .i64 (0 : Int) from rfl)); clear hout hpre; go_step; exact hK _ _ rfl hG (Below.refl _ _)
            · intro _ k a w' hG hout hpre K hK; obtain ⟨p0, _⟩ := hpre; have q16 := ev_of (show a.eval (.tmp 16) = .int .i64 (0 : Int) from p0); clear hout p0; go_step; exact hK _ _ rfl hG (Below.refl _ _)
            · intro _ k a w' hG hout hpre K hK; obtain ⟨p0, _⟩ := hpre; have q17 := ev_of (show a.eval (.tmp 17) = .bool false from p0); clear hout p0; go_step; exact hK _ _ rfl hG (Below.refl _ _)
            · exact fun h => absurd h (by decide)
            · exact fun h => absurd h (by decide)
            · exact fun h => absurd h (by decide)
            · exact fun h => absurd h (by decide)
            · exact fun h => absurd h (by decide)
            · exact fun h => absurd h (by decide)
            · exact fun h => absurd h (by decide)
            · exact fun h => absurd h (by decide)
            · intro _ k a w' hG hout hpre K hK; obtain ⟨p0, p1, _⟩ := hpre; have q18 := ev_of (show a.eval (.tmp 18) = .bool false from p0); have q26 := ev_of (show a.eval (.tmp 26) = undef from p1); clear hout p0 p1; go_step; exact hK _ _ rfl hG (Below.refl _ _)
            · intro _ k a w' hG hout hpre K hK; obtain ⟨p0, p1, _⟩ := hpre; have q15 := ev_of (show a.eval (.tmp 15) = .bool false from p0); have q27 := ev_of (show a.eval (.tmp 27) = .bool false from p1); clear hout p0 p1; go_step; exact hK _ _ rfl hG (Below.refl _ _)
          · intro vs w2 hG hlen hV
            match vs, hlen, hV with
            | [v0, v1, v2, v3, v4, v5, v6, v7, v8, v9, v10, v11, v12, v13, v14, v15, v16], _, hV =>
              obtain rfl : v16 = .bool false := (hV 16 28 v16 rfl rfl); clear hV; simp only [putsL, List.tail_cons, List.headD_cons]; simp only [Act.put, List.setIfInBounds_toArray, List.set_cons_succ, List.set_cons_zero]; have HZ := Lib.hid (HNx.out w2 hG HGd.out); have HJ := Lib.hid HXl.out.2.2; clear hG; go_wp2_with (fail); go_roundw
              case rel => exact HZ.out
              case measure => have := HJ.out; simp [intOf]; omega
        · obtain ⟨m, rfl⟩ : ∃ m, i = m + 1 := ⟨i - 1, by omega⟩
          obtain ⟨y, pc, oc, hy, hpc, _⟩ := HA.out.get (t := m) (by have := HXl.out.2.2; rw [← HN.out.1]; omega)
          cases hpc
          obtain ⟨b, hb⟩ : ∃ b, b = apartB y ⟨xk, xl, xh⟩ := ⟨_, rfl⟩; obtain ⟨VP, hVY⟩ : ∃ V, V = Value.agg y.cells := ⟨_, rfl⟩
          have HCa : Hid (∀ w', Calls Tryz.prog 88 #[VP, VW] w' (Below0 w' (.bool b))) := by
            rw [hVY, HV.out, hb]; exact Lib.hid (fun w' => sapart_any w' y ⟨xk, xl, xh⟩)
          have HOk : Hid (okAt l (m + 1) ↔ b = true) := by
            refine Lib.hid ?_; unfold okAt; rw [HXl.out.2.1, ← Hr.out, Nat.add_sub_cancel, atW_some hy, ← hb]
            exact ⟨fun h => h.2 (by omega), fun h => ⟨rfl, fun _ => h⟩⟩
          have HY : Hid (∀ w', Below W1.heap.size W1 w' → w'.cell? ⟨pa, oa + m * 3, none⟩ = some (Sv y.key) ∧ w'.cell? ⟨pa, oa + m * 3 + 1, none⟩ = some (.int .i64 y.lo) ∧ w'.cell? ⟨pa, oa + m * 3 + 2, none⟩ = some (.int .i64 y.hi)) := by
            refine Lib.hid (fun w' h => ?_)
            obtain ⟨x', b', o', hx', ha', d⟩ := (HA.out.below (HW1.out.trans (h.mono HW1.out.size))).get (t := m) (by have := HXl.out.2.2; rw [← HN.out.1]; omega)
            cases ha'
            rw [hy] at hx'
            cases hx'
            exact d
          obtain ⟨yk, yl, yh⟩ := y; have HVP := Lib.hid hVY
          have HGt0 : Hid ((0 : Int) < ((m + 1 : Nat) : Int)) := Lib.hid (by omega)
          have HIm : Hid (((m + 1 : Nat) : Int) - 1 = (m : Int) ∧ (0 : Int) ≤ ((m + 1 : Nat) : Int) ∧ ((m + 1 : Nat) : Int) ≤ 1000000) := Lib.hid (by have := HXl.out.2.2; have := HN.out.2; omega)
          have HI1 : Hid ((0 : Int) ≤ (m : Int) ∧ (m : Int) < (n : Int)) := Lib.hid (by have := HXl.out.2.2; omega)
          clear hy hz hVY hb
          cases b with
          | false =>
            have HBd : Hid (∀ w', Below W1.heap.size W1 w' → P (.returned (.bool false)) w') := by
              refine Lib.hid (fun w' h => HNo.out w' (m + 1) HXl.out.2.2 (fun hk => ?_) (HW1.out.trans (h.mono HW1.out.size))); have := HOk.out.1 hk
              cases this
            go_upto_region 4 with (fail)
            refine wp_region_skip_frame (fun i => ([] : List Nat).contains i) (by kernel_rfl) [none, none, none, none, none, none, none, none, none, none, none, none, none, none, none, none, none] [] (fun i_ _ _ v_ => v_ = ((VW :: (Value.bool true) :: (Value.bool false) :: (Value.bool false) :: (Value.int .i64 (((m + 1 : Nat)) : Int)) :: (Value.bool true) :: (Value.bool true) :: (Value.slice (some ⟨pa, oa, none⟩) n sc) :: (Value.int .i64 (((m + 1 : Nat)) : Int)) :: (Value.int .i64 (m : Int)) :: (Value.pointer (some ⟨pa, oa + m * 3, none⟩)) :: VP :: VW :: (Value.bool false) :: (Value.bool true) :: (Value.bool true) :: (Value.bool true) :: ([] : List Value))).getD i_ undef) (fun _ w' => Below W1.heap.size W1 w') (fun w w' => Below w.heap.size w w') (fun _ _ _ _ _ _ h => h) (by kernel_rfl) (by kernel_rfl) (by kernel_rfl) HG0.out (fun _ => ⟨rfl, rfl, rfl, rfl, fun _ _ h => .inl h, fun _ _ h => .inl h, fun _ _ h => .inl h, fun _ _ h => .inl h, fun _ _ h => .inl h, fun _ _ h => .inl h, fun _ _ h => .inl h, fun _ _ h => .inl h, fun _ _ h => .inl h, fun _ _ h => .inl h, fun _ _ h => .inl h, fun _ _ h => .inl h, rfl, trivial⟩) (fun _ h => by simp at h) ?_ ?_
            · refine ⟨?_, ?_, ?_, ?_, ?_, ?_, ?_, ?_, ?_, ?_, ?_, ?_, ?_, ?_, ?_, ?_, ?_, trivial⟩
              · intro _ k a w' hG hout hpre K hK; have q4 := ev_of ((hout 4 rfl).trans (show _ = .pointer (some ⟨xb, 0, none⟩) from rfl)); obtain ⟨d0, d1, d2⟩ := HD.out w' hG; clear hout hpre; go_step; exact hK _ _ HV.out.symm hG (Below.refl _ _)
              · intro _ k a w' hG hout hpre K hK; obtain ⟨p0, _⟩ := hpre; have q12 := ev_of (show a.eval (.tmp 12) = VW from p0); have HS := Lib.hid (HCr.out w'); clear hout p0; go_step; refine HS.out.mono ?_; rintro e w3 ⟨rfl, hB⟩; exact hK _ _ rfl (hG.trans (hB.mono hG.size)) hB
              · intro _ k a w' hG hout hpre K hK; obtain ⟨p0, _⟩ := hpre; have q13 := ev_of (show a.eval (.tmp 13) = .bool true from p0); clear hout p0; go_step; exact hK _ _ rfl hG (Below.refl _ _)
              · intro _ k a w' hG hout hpre K hK; obtain ⟨p0, _⟩ := hpre; have q14 := ev_of (show a.eval (.tmp 14) = .bool false from p0); clear hout p0; go_step; exact hK _ _ rfl hG (Below.refl _ _)
              · intro _ k a w' hG hout hpre K hK; have q3 := ev_of ((hout 3 rfl).trans (show _ = .int .i64 (((m + 1 : Nat)) : Int) from rfl)); clear hout hpre; go_step; exact hK _ _ rfl hG (Below.refl _ _)
              · intro _ k a w' hG hout hpre K hK; obtain ⟨p0, _⟩ := hpre; have q16 := ev_of (show a.eval (.tmp 16) = .int .i64 (((m + 1 : Nat)) : Int) from p0); have hgt := HGt0.out; clear hout p0; go_step; exact hK _ _ rfl hG (Below.refl _ _)
              · intro _ k a w' hG hout hpre K hK; obtain ⟨p0, _⟩ := hpre; have q17 := ev_of (show a.eval (.tmp 17) = .bool true from p0); clear hout p0; go_step; exact hK _ _ rfl hG (Below.refl _ _)
              · intro _ k a w' hG hout hpre K hK; have q0 := ev_of ((hout 0 rfl).trans (show _ = .slice (some ⟨pa, oa, none⟩) n sc from rfl)); clear hout hpre; go_step; exact hK _ _ rfl hG (Below.refl _ _)
              · intro _ k a w' hG hout hpre K hK; have q3 := ev_of ((hout 3 rfl).trans (show _ = .int .i64 (((m + 1 : Nat)) : Int) from rfl)); clear hout hpre; go_step; exact hK _ _ rfl hG (Below.refl _ _)
              · intro _ k a w' hG hout hpre K hK; obtain ⟨p0, _⟩ := hpre; have q20 := ev_of (show a.eval (.tmp 20) = .int .i64 (((m + 1 : Nat)) : Int) from p0); have him := HIm.out; clear hout p0; go_step; exact hK _ _ rfl hG (Below.refl _ _)
              · intro _ k a w' hG hout hpre K hK; obtain ⟨p0, p1, _⟩ := hpre; have q19 := ev_of (show a.eval (.tmp 19) = .slice (some ⟨pa, oa, none⟩) n sc from p0); have q21 := ev_of (show a.eval (.tmp 21) = .int .i64 (m : Int) from p1); have hi0 := HI1.out; clear hout p0 p1; go_step; exact hK _ _ rfl hG (Below.refl _ _)
              · intro _ k a w' hG hout hpre K hK; obtain ⟨p0, _⟩ := hpre; have q22 := ev_of (show a.eval (.tmp 22) = .pointer (some ⟨pa, oa + m * 3, none⟩) from p0); obtain ⟨d0, d1, d2⟩ := HY.out w' hG; clear hout p0; go_step; exact hK _ _ HVP.out.symm hG (Below.refl _ _)
              · intro _ k a w' hG hout hpre K hK; have q4 := ev_of ((hout 4 rfl).trans (show _ = .pointer (some ⟨xb, 0, none⟩) from rfl)); obtain ⟨d0, d1, d2⟩ := HD.out w' hG; clear hout hpre; go_step; exact hK _ _ HV.out.symm hG (Below.refl _ _)
              · intro _ k a w' hG hout hpre K hK; obtain ⟨p0, p1, _⟩ := hpre; have q23 := ev_of (show a.eval (.tmp 23) = VP from p0); have q24 := ev_of (show a.eval (.tmp 24) = VW from p1); have HS := Lib.hid (HCa.out w'); clear hout p0 p1; go_step; refine HS.out.mono ?_; rintro e w3 ⟨rfl, hB⟩; exact hK _ _ rfl (hG.trans (hB.mono hG.size)) hB
              · intro _ k a w' hG hout hpre K hK; obtain ⟨p0, _⟩ := hpre; have q25 := ev_of (show a.eval (.tmp 25) = .bool false from p0); clear hout p0; go_step; exact hK _ _ rfl hG (Below.refl _ _)
              · intro _ k a w' hG hout hpre K hK; obtain ⟨p0, p1, _⟩ := hpre; have q18 := ev_of (show a.eval (.tmp 18) = .bool true from p0); have q26 := ev_of (show a.eval (.tmp 26) = .bool true from p1); clear hout p0 p1; go_step; exact hK _ _ rfl hG (Below.refl _ _)
              · intro _ k a w' hG hout hpre K hK; obtain ⟨p0, p1, _⟩ := hpre; have q15 := ev_of (show a.eval (.tmp 15) = .bool false from p0); have q27 := ev_of (show a.eval (.tmp 27) = .bool true from p1); clear hout p0 p1; go_step; exact hK _ _ rfl hG (Below.refl _ _)
            · intro vs w2 hG hlen hV
              match vs, hlen, hV with
              | [v0, v1, v2, v3, v4, v5, v6, v7, v8, v9, v10, v11, v12, v13, v14, v15, v16], _, hV =>
                obtain rfl : v16 = .bool true := (hV 16 28 v16 rfl rfl); clear hV; simp only [putsL, List.tail_cons, List.headD_cons]; simp only [Act.put, List.setIfInBounds_toArray, List.set_cons_succ, List.set_cons_zero]; have HZ := Lib.hid (HBd.out w2 hG); clear hG; go_wp2_with (fail); exact HZ.out
          | true =>
            have HGd : Hid (okAt l (m + 1)) := Lib.hid (HOk.out.2 rfl)
            go_upto_region 4 with (fail)
            refine wp_region_skip_frame (fun i => ([] : List Nat).contains i) (by kernel_rfl) [none, none, none, none, none, none, none, none, none, none, none, none, none, none, none, none, none] [] (fun i_ _ _ v_ => v_ = ((VW :: (Value.bool true) :: (Value.bool false) :: (Value.bool false) :: (Value.int .i64 (((m + 1 : Nat)) : Int)) :: (Value.bool true) :: (Value.bool true) :: (Value.slice (some ⟨pa, oa, none⟩) n sc) :: (Value.int .i64 (((m + 1 : Nat)) : Int)) :: (Value.int .i64 (m : Int)) :: (Value.pointer (some ⟨pa, oa + m * 3, none⟩)) :: VP :: VW :: (Value.bool true) :: (Value.bool false) :: (Value.bool false) :: (Value.bool false) :: ([] : List Value))).getD i_ undef) (fun _ w' => Below W1.heap.size W1 w') (fun w w' => Below w.heap.size w w') (fun _ _ _ _ _ _ h => h) (by kernel_rfl) (by kernel_rfl) (by kernel_rfl) HG0.out (fun _ => ⟨rfl, rfl, rfl, rfl, fun _ _ h => .inl h, fun _ _ h => .inl h, fun _ _ h => .inl h, fun _ _ h => .inl h, fun _ _ h => .inl h, fun _ _ h => .inl h, fun _ _ h => .inl h, fun _ _ h => .inl h, fun _ _ h => .inl h, fun _ _ h => .inl h, fun _ _ h => .inl h, fun _ _ h => .inl h, rfl, trivial⟩) (fun _ h => by simp at h) ?_ ?_
            · refine ⟨?_, ?_, ?_, ?_, ?_, ?_, ?_, ?_, ?_, ?_, ?_, ?_, ?_, ?_, ?_, ?_, ?_, trivial⟩
              · intro _ k a w' hG hout hpre K hK; have q4 := ev_of ((hout 4 rfl).trans (show _ = .pointer (some ⟨xb, 0, none⟩) from rfl)); obtain ⟨d0, d1, d2⟩ := HD.out w' hG; clear hout hpre; go_step; exact hK _ _ HV.out.symm hG (Below.refl _ _)
              · intro _ k a w' hG hout hpre K hK; obtain ⟨p0, _⟩ := hpre; have q12 := ev_of (show a.eval (.tmp 12) = VW from p0); have HS := Lib.hid (HCr.out w'); clear hout p0; go_step; refine HS.out.mono ?_; rintro e w3 ⟨rfl, hB⟩; exact hK _ _ rfl (hG.trans (hB.mono hG.size)) hB
              · intro _ k a w' hG hout hpre K hK; obtain ⟨p0, _⟩ := hpre; have q13 := ev_of (show a.eval (.tmp 13) = .bool true from p0); clear hout p0; go_step; exact hK _ _ rfl hG (Below.refl _ _)
              · intro _ k a w' hG hout hpre K hK; obtain ⟨p0, _⟩ := hpre; have q14 := ev_of (show a.eval (.tmp 14) = .bool false from p0); clear hout p0; go_step; exact hK _ _ rfl hG (Below.refl _ _)
              · intro _ k a w' hG hout hpre K hK; have q3 := ev_of ((hout 3 rfl).trans (show _ = .int .i64 (((m + 1 : Nat)) : Int) from rfl)); clear hout hpre; go_step; exact hK _ _ rfl hG (Below.refl _ _)
              · intro _ k a w' hG hout hpre K hK; obtain ⟨p0, _⟩ := hpre; have q16 := ev_of (show a.eval (.tmp 16) = .int .i64 (((m + 1 : Nat)) : Int) from p0); have hgt := HGt0.out; clear hout p0; go_step; exact hK _ _ rfl hG (Below.refl _ _)
              · intro _ k a w' hG hout hpre K hK; obtain ⟨p0, _⟩ := hpre; have q17 := ev_of (show a.eval (.tmp 17) = .bool true from p0); clear hout p0; go_step; exact hK _ _ rfl hG (Below.refl _ _)
              · intro _ k a w' hG hout hpre K hK; have q0 := ev_of ((hout 0 rfl).trans (show _ = .slice (some ⟨pa, oa, none⟩) n sc from rfl)); clear hout hpre; go_step; exact hK _ _ rfl hG (Below.refl _ _)
              · intro _ k a w' hG hout hpre K hK; have q3 := ev_of ((hout 3 rfl).trans (show _ = .int .i64 (((m + 1 : Nat)) : Int) from rfl)); clear hout hpre; go_step; exact hK _ _ rfl hG (Below.refl _ _)
              · intro _ k a w' hG hout hpre K hK; obtain ⟨p0, _⟩ := hpre; have q20 := ev_of (show a.eval (.tmp 20) = .int .i64 (((m + 1 : Nat)) : Int) from p0); have him := HIm.out; clear hout p0; go_step; exact hK _ _ rfl hG (Below.refl _ _)
              · intro _ k a w' hG hout hpre K hK; obtain ⟨p0, p1, _⟩ := hpre; have q19 := ev_of (show a.eval (.tmp 19) = .slice (some ⟨pa, oa, none⟩) n sc from p0); have q21 := ev_of (show a.eval (.tmp 21) = .int .i64 (m : Int) from p1); have hi0 := HI1.out; clear hout p0 p1; go_step; exact hK _ _ rfl hG (Below.refl _ _)
              · intro _ k a w' hG hout hpre K hK; obtain ⟨p0, _⟩ := hpre; have q22 := ev_of (show a.eval (.tmp 22) = .pointer (some ⟨pa, oa + m * 3, none⟩) from p0); obtain ⟨d0, d1, d2⟩ := HY.out w' hG; clear hout p0; go_step; exact hK _ _ HVP.out.symm hG (Below.refl _ _)
              · intro _ k a w' hG hout hpre K hK; have q4 := ev_of ((hout 4 rfl).trans (show _ = .pointer (some ⟨xb, 0, none⟩) from rfl)); obtain ⟨d0, d1, d2⟩ := HD.out w' hG; clear hout hpre; go_step; exact hK _ _ HV.out.symm hG (Below.refl _ _)
              · intro _ k a w' hG hout hpre K hK; obtain ⟨p0, p1, _⟩ := hpre; have q23 := ev_of (show a.eval (.tmp 23) = VP from p0); have q24 := ev_of (show a.eval (.tmp 24) = VW from p1); have HS := Lib.hid (HCa.out w'); clear hout p0 p1; go_step; refine HS.out.mono ?_; rintro e w3 ⟨rfl, hB⟩; exact hK _ _ rfl (hG.trans (hB.mono hG.size)) hB
              · intro _ k a w' hG hout hpre K hK; obtain ⟨p0, _⟩ := hpre; have q25 := ev_of (show a.eval (.tmp 25) = .bool true from p0); clear hout p0; go_step; exact hK _ _ rfl hG (Below.refl _ _)
              · intro _ k a w' hG hout hpre K hK; obtain ⟨p0, p1, _⟩ := hpre; have q18 := ev_of (show a.eval (.tmp 18) = .bool true from p0); have q26 := ev_of (show a.eval (.tmp 26) = .bool false from p1); clear hout p0 p1; go_step; exact hK _ _ rfl hG (Below.refl _ _)
              · intro _ k a w' hG hout hpre K hK; obtain ⟨p0, p1, _⟩ := hpre; have q15 := ev_of (show a.eval (.tmp 15) = .bool false from p0); have q27 := ev_of (show a.eval (.tmp 27) = .bool false from p1); clear hout p0 p1; go_step; exact hK _ _ rfl hG (Below.refl _ _)
            · intro vs w2 hG hlen hV
              match vs, hlen, hV with
              | [v0, v1, v2, v3, v4, v5, v6, v7, v8, v9, v10, v11, v12, v13, v14, v15, v16], _, hV =>
                obtain rfl : v16 = .bool false := (hV 16 28 v16 rfl rfl); clear hV; simp only [putsL, List.tail_cons, List.headD_cons]; simp only [Act.put, List.setIfInBounds_toArray, List.set_cons_succ, List.set_cons_zero]; have HZ := Lib.hid (HNx.out w2 hG HGd.out); have HJ := Lib.hid HXl.out.2.2; clear hG; go_wp2_with (fail); go_roundw
                case rel => exact HZ.out
                case measure => have := HJ.out; simp [intOf]; omega
    · obtain rfl : i = n := by omega
      have HZ : Hid (P (.returned (.bool true)) wr) := HYes.out _ HO.out.1 HO.out.2; clear hlt hi; go_wp2_with (fail); exact HZ.out
end Go.Proofs.YtjeeghafachebaaGreat
namespace Go.Proofs.YtjeeghafachebaaGreat
open Go Go.RowKit
def placeAt (l : List WindowL) (t : WindowL) (p : Nat) : Prop := p ≤ l.length ∧ (∀ i < p, aheadP (atW l i) t) ∧ (∀ i, p ≤ i → i < l.length → ¬ aheadP (atW l i) t)
def SeekEnd (w : World) (l : List WindowL) (t : WindowL) (e : Ending) (w' : World) : Prop := ∃ (p : Nat) (b : Bool), e = .returned (.tuple #[.int .i64 (p : Int), .bool b]) ∧ placeAt l t p ∧ Below w.heap.size w w'
def BRel (w : World) (l : List WindowL) (t : WindowL) (s9 s10 : Value) (wr : World) : Prop :=
  ∃ lo hi : Nat, s9 = .int .i64 (lo : Int) ∧ s10 = .int .i64 (hi : Int) ∧ lo ≤ hi ∧ hi ≤ l.length ∧ (∀ i < lo, aheadP (atW l i) t) ∧ (∀ i, hi ≤ i → i < l.length → ¬ aheadP (atW l i) t) ∧ Below w.heap.size w wr
def gapV (a b : Value) : Nat := (intOf b).toNat - (intOf a).toNat
set_option maxRecDepth 100000 in
set_option maxHeartbeats 4000000 in
theorem bsearch_any (w : World) (sa : Option Addr) (sc : Nat) (l : List WindowL) (t : WindowL) (hA : WinsAt w sa l) (hs : l.Pairwise aheadP) (hn : l.length ≤ 1000000) :
    Calls Tryz.prog 120 #[.slice sa l.length sc, .agg t.cells, .func (.func 54) #[] #[]] w (SeekEnd w l t) := by
  obtain ⟨n, hN⟩ : ∃ n, n = l.length := ⟨_, rfl⟩; obtain ⟨P, hP⟩ : ∃ P, P = SeekEnd w l t := ⟨_, rfl⟩; rw [← hP, ← hN]
  have HN : Hid (n = l.length ∧ n ≤ 1000000) := Lib.hid ⟨hN, by omega⟩
  have hn6 : n ≤ 1000000 := by omega
  have HA := Lib.hid hA
  have HYes : Hid (∀ wz (p : Nat) b, placeAt l t p → Below w.heap.size w wz → P (.returned (.tuple #[.int .i64 (p : Int), .bool b])) wz) := Lib.hid (fun wz p b h hB => by
    rw [hP]
    exact ⟨p, b, rfl, h, hB⟩)
  have HM : Hid (∀ i j, i ≤ j → j < n → aheadP (atW l j) t → aheadP (atW l i) t) := by
    refine Lib.hid (fun i j hij hj h => ?_); rw [hN] at hj
    rcases Nat.lt_or_ge i j with h' | h'
    · have := List.pairwise_iff_getElem.1 hs i j (by omega) hj h'
      rw [atW_some (List.getElem?_eq_getElem hj)] at h
      rw [atW_some (List.getElem?_eq_getElem (show i < l.length by omega))]
      exact this.trans h
    · obtain rfl : i = j := by omega
      exact h
  obtain ⟨w1, hw1⟩ : ∃ W, W = w.alloc (.cells t.cells 47) := ⟨_, rfl⟩; obtain ⟨tb, htb⟩ : ∃ b, b = w.heap.size := ⟨_, rfl⟩
  have H1 : Hid (RowW w1 tb t ∧ Below w.heap.size w w1) := by
    rw [hw1, htb]; exact Lib.hid ⟨heap_alloc_new w _, (Below.refl _ w).alloc (Nat.le_refl _) _⟩
  obtain ⟨T, hT⟩ : ∃ T, T = t := ⟨_, rfl⟩; have HT := Lib.hid hT; rw [← hT] at H1 HYes HM; obtain ⟨tk, tl, th⟩ := t; unfold WindowL.cells at hw1 ⊢; simp only at hw1 ⊢; clear hN hA hn hP hs hT
  go_enter Tryz.func120, Tryz.ntmps120
  go_upto_region 1 with (fail)
  rw [← hw1, ← htb]; clear hw1 htb; go_wp2_with (fail)
  go_loopw [9, 10] (BRel w1 l T) (fun a b _ => gapV a b)
  case atStart => exact ⟨0, n, rfl, rfl, Nat.zero_le _, by rw [HN.out.1]; exact Nat.le_refl _, fun i h => absurd h (Nat.not_lt_zero _), fun i h1 h2 => by have := HN.out.1; omega, Below.refl _ _⟩
  case round =>
    obtain ⟨lo, hi, rfl, rfl, hlh, hhn, h1, h2, hB⟩ := hrel; rw [← HN.out.1] at hhn h2; have HB := Lib.hid (And.intro h1 (And.intro h2 (And.intro hB (And.intro hlh hhn)))); clear h1 h2 hB; have HG0 : Hid (Below wr.heap.size wr wr.drew) := (Below.refl _ wr).drew
    have HRt : Hid (∀ w', Below wr.heap.size wr w' → D3 w' tb tk tl th) := by
      refine Lib.hid (fun w' h => ?_); have := ((H1.out.1.below HB.out.2.2.1).below h).d3; rw [HT.out] at this; exact this
    obtain ⟨VT, hVT⟩ : ∃ V, V = Value.agg #[Sv tk, .int .i64 tl, .int .i64 th] := ⟨_, rfl⟩; have HVT := Lib.hid hVT; have HB1 : Hid (∀ w', Below wr.heap.size wr w' → Below w1.heap.size w1 w') := Lib.hid (fun w' h => HB.out.2.2.1.trans (h.mono HB.out.2.2.1.size))
    by_cases hlt : lo < hi
    · obtain ⟨m, hm⟩ : ∃ m, m = (lo + hi) / 2 := ⟨_, rfl⟩
      have hmid : lo ≤ m ∧ m < hi := by omega
      have hme : ((lo : Int) + (hi : Int)) / 2 = (m : Int) := by omega
      obtain ⟨x, pa, po, hx, hsa, _⟩ := HA.out.get (t := m) (by rw [← HN.out.1]; omega)
      subst hsa
      have HX : Hid (∀ w', Below wr.heap.size wr w' → w'.cell? ⟨pa, po + m * 3, none⟩ = some (Sv x.key) ∧ w'.cell? ⟨pa, po + m * 3 + 1, none⟩ = some (.int .i64 x.lo) ∧ w'.cell? ⟨pa, po + m * 3 + 2, none⟩ = some (.int .i64 x.hi)) := by
        refine Lib.hid (fun w' h => ?_)
        obtain ⟨x', b', o', hx', ha', d⟩ := ((HA.out.below H1.out.2).below (HB1.out w' h)).get (t := m) (by rw [← HN.out.1]; omega)
        cases ha'
        rw [hx] at hx'
        cases hx'
        exact d
      obtain ⟨VX, hVX⟩ : ∃ V, V = Value.agg x.cells := ⟨_, rfl⟩; obtain ⟨p, hp⟩ : ∃ p, p = placeW x T := ⟨_, rfl⟩
      have HCp : Hid (∀ w', Calls Tryz.prog 54 #[VX, VT] w' (Below0 w' (.int .i64 p))) := by
        rw [hVX, hVT, hp, HT.out]; exact Lib.hid (fun w' => wplace_any w' x ⟨tk, tl, th⟩)
      have HVX := Lib.hid hVX
      have HAt : Hid (p < 0 ↔ aheadP (atW l m) T) := by
        rw [hp, atW_some hx]; exact Lib.hid (placeW_neg _ _)
      have HI0 : Hid ((0 : Int) ≤ (m : Int) ∧ (m : Int) < (n : Int)) := Lib.hid (by omega)
      have Hm := Lib.hid (And.intro hmid (And.intro hhn hn6)); obtain ⟨xk, xl, xh⟩ := x; clear hx hVX hp hm
      by_cases hp0 : p < 0
      · have HPn : Hid (p < 0) := Lib.hid hp0
        have HZ : Hid (∀ w', Below wr.heap.size wr w' → BRel w1 l T (.int .i64 ((m : Int) + 1)) (.int .i64 (hi : Int)) w') := by
          refine Lib.hid (fun w' h => ⟨m + 1, hi, by go_num, rfl, by have := Hm.out; omega, by rw [← HN.out.1]; exact Hm.out.2.1, fun i h1 => ?_, by rw [← HN.out.1]; exact HB.out.2.1, HB1.out w' h⟩)
          exact HM.out i m (by omega) (by have := Hm.out; omega) (HAt.out.1 HPn.out)
        clear hp0
        go_upto_region 5 with (fail)
        clear hme hmid hlt hlh hhn hVT
        refine wp_region_skip_frame (fun i => ([] : List Nat).contains i) (by kernel_rfl) [none, none, none, none, none, none, none, none] [] (fun i_ _ _ v_ => v_ = (((Value.func (.func 54) #[] #[]) :: (Value.slice (some ⟨pa, po, none⟩) n sc) :: (Value.int .i64 (m : Int)) :: (Value.pointer (some ⟨pa, po + m * 3, none⟩)) :: VX :: VT :: (Value.int .i64 p) :: (Value.bool true) :: ([] : List Value))).getD i_ undef) (fun _ w' => Below wr.heap.size wr w') (fun w w' => Below w.heap.size w w') (fun _ _ _ _ _ _ h => h) (by kernel_rfl) (by kernel_rfl) (by kernel_rfl) HG0.out (fun _ => ⟨rfl, rfl, rfl, rfl, rfl, rfl, rfl, rfl, trivial⟩) (fun _ h => by simp at h) ?_ ?_
        · refine ⟨?_, ?_, ?_, ?_, ?_, ?_, ?_, ?_, trivial⟩
          · intro _ _ a w' hG hout hpre K hK; have q2 := ev_of ((hout 2 rfl).trans (show _ = .func (.func 54) #[] #[] from rfl)); clear hout hpre; go_step; exact hK _ _ rfl hG (Below.refl _ _)
          · intro _ _ a w' hG hout hpre K hK; have q0 := ev_of ((hout 0 rfl).trans (show _ = .slice (some ⟨pa, po, none⟩) n sc from rfl)); clear hout hpre; go_step; exact hK _ _ rfl hG (Below.refl _ _)
          · intro _ _ a w' hG hout hpre K hK; have q11 := ev_of ((hout 11 rfl).trans (show _ = .int .i64 (m : Int) from rfl)); clear hout hpre; go_step; exact hK _ _ rfl hG (Below.refl _ _)
          · intro _ _ a w' hG hout hpre K hK; obtain ⟨p0, p1, _⟩ := hpre; have q25 := ev_of (show a.eval (.tmp 25) = .slice (some ⟨pa, po, none⟩) n sc from p0); have q26 := ev_of (show a.eval (.tmp 26) = .int .i64 (m : Int) from p1); have hi0 := HI0.out; clear hout p0 p1; go_step; exact hK _ _ rfl hG (Below.refl _ _)
          · intro _ _ a w' hG hout hpre K hK; obtain ⟨p0, _⟩ := hpre; have q27 := ev_of (show a.eval (.tmp 27) = .pointer (some ⟨pa, po + m * 3, none⟩) from p0); obtain ⟨d0, d1, d2⟩ := HX.out w' hG; clear hout p0; go_step; exact hK _ _ HVX.out.symm hG (Below.refl _ _)
          · intro _ _ a w' hG hout hpre K hK; have q4 := ev_of ((hout 4 rfl).trans (show _ = .pointer (some ⟨tb, 0, none⟩) from rfl)); obtain ⟨d0, d1, d2⟩ := HRt.out w' hG; clear hout hpre; go_step; exact hK _ _ HVT.out.symm hG (Below.refl _ _)
          · intro _ _ a w' hG hout hpre K hK; obtain ⟨p0, p1, p2, _⟩ := hpre; have q24 := ev_of (show a.eval (.tmp 24) = .func (.func 54) #[] #[] from p0); have q28 := ev_of (show a.eval (.tmp 28) = VX from p1); have q29 := ev_of (show a.eval (.tmp 29) = VT from p2); have HS := Lib.hid (HCp.out w'); clear hout p0 p1 p2; go_step; refine HS.out.mono ?_; rintro e w3 ⟨rfl, hB⟩; exact hK _ _ rfl (hG.trans (hB.mono hG.size)) hB
          · intro _ _ a w' hG hout hpre K hK; obtain ⟨p0, _⟩ := hpre; have q30 := ev_of (show a.eval (.tmp 30) = .int .i64 p from p0); have hp := HPn.out; clear hout p0; go_step; exact hK _ _ rfl hG (Below.refl _ _)
        · intro vs w2 hG hlen hV
          match vs, hlen, hV with
          | [v0, v1, v2, v3, v4, v5, v6, v7], _, hV =>
            obtain rfl : v7 = .bool true := (hV 7 31 v7 rfl rfl); clear hV; simp only [putsL, List.tail_cons, List.headD_cons]; simp only [Act.put, List.setIfInBounds_toArray, List.set_cons_succ, List.set_cons_zero]; have HZz := Lib.hid (HZ.out w2 hG); have HMm := Lib.hid Hm.out
            have hm3 : (m : Int) ≤ 1000000 := by have := Hm.out; omega
            clear hG; go_wp2_with (fail); go_roundw
            case rel => exact HZz.out
            case measure => have := HMm.out; simp [gapV, intOf]; omega
      · have HPn : Hid (decide (p < 0) = false) := Lib.hid (decide_eq_false hp0)
        have HZ : Hid (∀ w', Below wr.heap.size wr w' → BRel w1 l T (.int .i64 (lo : Int)) (.int .i64 (m : Int)) w') := by
          refine Lib.hid (fun w' h => ⟨lo, m, rfl, rfl, Hm.out.1.1, by rw [← HN.out.1]; have := Hm.out; omega, HB.out.1, fun i h1 h2 hc => ?_, HB1.out w' h⟩)
          exact hp0 (HAt.out.2 (HM.out m i h1 (by rw [HN.out.1]; exact h2) hc))
        clear hp0
        go_upto_region 5 with (fail)
        clear hme hmid hlt hlh hhn hVT
        refine wp_region_skip_frame (fun i => ([] : List Nat).contains i) (by kernel_rfl) [none, none, none, none, none, none, none, none] [] (fun i_ _ _ v_ => v_ = (((Value.func (.func 54) #[] #[]) :: (Value.slice (some ⟨pa, po, none⟩) n sc) :: (Value.int .i64 (m : Int)) :: (Value.pointer (some ⟨pa, po + m * 3, none⟩)) :: VX :: VT :: (Value.int .i64 p) :: (Value.bool false) :: ([] : List Value))).getD i_ undef) (fun _ w' => Below wr.heap.size wr w') (fun w w' => Below w.heap.size w w') (fun _ _ _ _ _ _ h => h) (by kernel_rfl) (by kernel_rfl) (by kernel_rfl) HG0.out (fun _ => ⟨rfl, rfl, rfl, rfl, rfl, rfl, rfl, rfl, trivial⟩) (fun _ h => by simp at h) ?_ ?_
        · refine ⟨?_, ?_, ?_, ?_, ?_, ?_, ?_, ?_, trivial⟩
          · intro _ _ a w' hG hout hpre K hK; have q2 := ev_of ((hout 2 rfl).trans (show _ = .func (.func 54) #[] #[] from rfl)); clear hout hpre; go_step; exact hK _ _ rfl hG (Below.refl _ _)
          · intro _ _ a w' hG hout hpre K hK; have q0 := ev_of ((hout 0 rfl).trans (show _ = .slice (some ⟨pa, po, none⟩) n sc from rfl)); clear hout hpre; go_step; exact hK _ _ rfl hG (Below.refl _ _)
          · intro _ _ a w' hG hout hpre K hK; have q11 := ev_of ((hout 11 rfl).trans (show _ = .int .i64 (m : Int) from rfl)); clear hout hpre; go_step; exact hK _ _ rfl hG (Below.refl _ _)
          · intro _ _ a w' hG hout hpre K hK; obtain ⟨p0, p1, _⟩ := hpre; have q25 := ev_of (show a.eval (.tmp 25) = .slice (some ⟨pa, po, none⟩) n sc from p0); have q26 := ev_of (show a.eval (.tmp 26) = .int .i64 (m : Int) from p1); have hi0 := HI0.out; clear hout p0 p1; go_step; exact hK _ _ rfl hG (Below.refl _ _)
          · intro _ _ a w' hG hout hpre K hK; obtain ⟨p0, _⟩ := hpre; have q27 := ev_of (show a.eval (.tmp 27) = .pointer (some ⟨pa, po + m * 3, none⟩) from p0); obtain ⟨d0, d1, d2⟩ := HX.out w' hG; clear hout p0; go_step; exact hK _ _ HVX.out.symm hG (Below.refl _ _)
          · intro _ _ a w' hG hout hpre K hK; have q4 := ev_of ((hout 4 rfl).trans (show _ = .pointer (some ⟨tb, 0, none⟩) from rfl)); obtain ⟨d0, d1, d2⟩ := HRt.out w' hG; clear hout hpre; go_step; exact hK _ _ HVT.out.symm hG (Below.refl _ _)
          · intro _ _ a w' hG hout hpre K hK; obtain ⟨p0, p1, p2, _⟩ := hpre; have q24 := ev_of (show a.eval (.tmp 24) = .func (.func 54) #[] #[] from p0); have q28 := ev_of (show a.eval (.tmp 28) = VX from p1); have q29 := ev_of (show a.eval (.tmp 29) = VT from p2); have HS := Lib.hid (HCp.out w'); clear hout p0 p1 p2; go_step; refine HS.out.mono ?_; rintro e w3 ⟨rfl, hB⟩; exact hK _ _ rfl (hG.trans (hB.mono hG.size)) hB
          · intro _ _ a w' hG hout hpre K hK; obtain ⟨p0, _⟩ := hpre; have q30 := ev_of (show a.eval (.tmp 30) = .int .i64 p from p0); have hp := HPn.out; clear hout p0; go_step; exact hK _ _ rfl hG (Below.refl _ _)
        · intro vs w2 hG hlen hV
          match vs, hlen, hV with
          | [v0, v1, v2, v3, v4, v5, v6, v7], _, hV =>
            obtain rfl : v7 = .bool false := (hV 7 31 v7 rfl rfl); clear hV; simp only [putsL, List.tail_cons, List.headD_cons]; simp only [Act.put, List.setIfInBounds_toArray, List.set_cons_succ, List.set_cons_zero]; have HZz := Lib.hid (HZ.out w2 hG); have HMm := Lib.hid Hm.out
            have hm3 : (m : Int) ≤ 1000000 := by have := Hm.out; omega
            clear hG; go_wp2_with (fail); go_roundw
            case rel => exact HZz.out
            case measure => have := HMm.out; simp [gapV, intOf]; omega
    · obtain rfl : hi = lo := by omega
      have HPl : Hid (placeAt l T hi) := Lib.hid ⟨by rw [← HN.out.1]; exact hhn, HB.out.1, by rw [← HN.out.1]; exact HB.out.2.1⟩
      have HPz : Hid (∀ w' b, Below wr.heap.size wr w' → P (.returned (.tuple #[.int .i64 (hi : Int), .bool b])) w') := Lib.hid (fun w' b h => HYes.out w' hi b HPl.out (H1.out.2.trans ((HB1.out w' h).mono H1.out.2.size)))
      by_cases hin : hi < n
      · obtain ⟨x, pa, po, hx, hsa, _⟩ := HA.out.get (t := hi) (by rw [← HN.out.1]; omega)
        subst hsa
        have HX : Hid (∀ w', Below wr.heap.size wr w' → w'.cell? ⟨pa, po + hi * 3, none⟩ = some (Sv x.key) ∧ w'.cell? ⟨pa, po + hi * 3 + 1, none⟩ = some (.int .i64 x.lo) ∧ w'.cell? ⟨pa, po + hi * 3 + 2, none⟩ = some (.int .i64 x.hi)) := by
          refine Lib.hid (fun w' h => ?_)
          obtain ⟨x', b', o', hx', ha', d⟩ := ((HA.out.below H1.out.2).below (HB1.out w' h)).get (t := hi) (by rw [← HN.out.1]; omega)
          cases ha'
          rw [hx] at hx'
          cases hx'
          exact d
        obtain ⟨VX, hVX⟩ : ∃ V, V = Value.agg x.cells := ⟨_, rfl⟩; obtain ⟨p, hp⟩ : ∃ p, p = placeW x T := ⟨_, rfl⟩
        have HCp : Hid (∀ w', Calls Tryz.prog 54 #[VX, VT] w' (Below0 w' (.int .i64 p))) := by
          rw [hVX, hVT, hp, HT.out]; exact Lib.hid (fun w' => wplace_any w' x ⟨tk, tl, th⟩)
        have HVX := Lib.hid hVX
        have HI0 : Hid ((0 : Int) ≤ (hi : Int) ∧ (hi : Int) < (n : Int)) := Lib.hid (by omega)
        obtain ⟨xk, xl, xh⟩ := x; obtain ⟨qz, hqz⟩ : ∃ b, b = (p == 0) := ⟨_, rfl⟩; have HQ := Lib.hid hqz; clear hx hVX hp hin hlt hlh hhn hVT hqz
        go_upto_region 8 with (fail)
        refine wp_region_skip_frame (fun i => ([] : List Nat).contains i) (by kernel_rfl) [none, none, none, none, none, none, none, none, none, none, none, none, none, none, none, none] [] (fun i_ _ _ v_ => v_ = (((Value.int .i64 (hi : Int)) :: (Value.int .i64 (hi : Int)) :: (Value.int .i64 (n : Int)) :: (Value.bool true) :: (Value.bool true) :: (Value.func (.func 54) #[] #[]) :: (Value.slice (some ⟨pa, po, none⟩) n sc) :: (Value.int .i64 (hi : Int)) :: (Value.pointer (some ⟨pa, po + hi * 3, none⟩)) :: VX :: VT :: (Value.int .i64 p) :: (Value.bool qz) :: (Value.bool qz) :: (Value.int .i64 (hi : Int)) :: (Value.bool qz) :: ([] : List Value))).getD i_ undef) (fun _ w' => Below wr.heap.size wr w') (fun w w' => Below w.heap.size w w') (fun _ _ _ _ _ _ h => h) (by kernel_rfl) (by kernel_rfl) (by kernel_rfl) HG0.out (fun _ => ⟨rfl, rfl, rfl, rfl, rfl, fun _ _ h => .inl h, fun _ _ h => .inl h, fun _ _ h => .inl h, fun _ _ h => .inl h, fun _ _ h => .inl h, fun _ _ h => .inl h, fun _ _ h => .inl h, fun _ _ h => .inl h, rfl, rfl, rfl, trivial⟩) (fun _ h => by simp at h) ?_ ?_
        · refine ⟨?_, ?_, ?_, ?_, ?_, ?_, ?_, ?_, ?_, ?_, ?_, ?_, ?_, ?_, ?_, ?_, trivial⟩
          · intro _ _ a w' hG hout hpre K hK; have q9 := ev_of ((hout 9 rfl).trans (show _ = .int .i64 (hi : Int) from rfl)); clear hout hpre; go_step; exact hK _ _ rfl hG (Below.refl _ _)
          · intro _ _ a w' hG hout hpre K hK; have q9 := ev_of ((hout 9 rfl).trans (show _ = .int .i64 (hi : Int) from rfl)); clear hout hpre; go_step; exact hK _ _ rfl hG (Below.refl _ _)
          · intro _ _ a w' hG hout hpre K hK; have q8 := ev_of ((hout 8 rfl).trans (show _ = .int .i64 (n : Int) from rfl)); clear hout hpre; go_step; exact hK _ _ rfl hG (Below.refl _ _)
          · intro _ _ a w' hG hout hpre K hK; obtain ⟨p0, p1, _⟩ := hpre; have q36 := ev_of (show a.eval (.tmp 36) = .int .i64 (hi : Int) from p0); have q37 := ev_of (show a.eval (.tmp 37) = .int .i64 (n : Int) from p1); have hi0 := HI0.out; clear hout p0 p1; go_step; exact hK _ _ rfl hG (Below.refl _ _)
          · intro _ _ a w' hG hout hpre K hK; obtain ⟨p0, _⟩ := hpre; have q38 := ev_of (show a.eval (.tmp 38) = .bool true from p0); clear hout p0; go_step; exact hK _ _ rfl hG (Below.refl _ _)
          · intro _ _ a w' hG hout hpre K hK; have q2 := ev_of ((hout 2 rfl).trans (show _ = .func (.func 54) #[] #[] from rfl)); clear hout hpre; go_step; exact hK _ _ rfl hG (Below.refl _ _)
          · intro _ _ a w' hG hout hpre K hK; have q0 := ev_of ((hout 0 rfl).trans (show _ = .slice (some ⟨pa, po, none⟩) n sc from rfl)); clear hout hpre; go_step; exact hK _ _ rfl hG (Below.refl _ _)
          · intro _ _ a w' hG hout hpre K hK; have q9 := ev_of ((hout 9 rfl).trans (show _ = .int .i64 (hi : Int) from rfl)); clear hout hpre; go_step; exact hK _ _ rfl hG (Below.refl _ _)
          · intro _ _ a w' hG hout hpre K hK; obtain ⟨p0, p1, _⟩ := hpre; have q41 := ev_of (show a.eval (.tmp 41) = .slice (some ⟨pa, po, none⟩) n sc from p0); have q42 := ev_of (show a.eval (.tmp 42) = .int .i64 (hi : Int) from p1); have hi0 := HI0.out; clear hout p0 p1; go_step; exact hK _ _ rfl hG (Below.refl _ _)
          · intro _ _ a w' hG hout hpre K hK; obtain ⟨p0, _⟩ := hpre; have q43 := ev_of (show a.eval (.tmp 43) = .pointer (some ⟨pa, po + hi * 3, none⟩) from p0); obtain ⟨d0, d1, d2⟩ := HX.out w' hG; clear hout p0; go_step; exact hK _ _ HVX.out.symm hG (Below.refl _ _)
          · intro _ _ a w' hG hout hpre K hK; have q4 := ev_of ((hout 4 rfl).trans (show _ = .pointer (some ⟨tb, 0, none⟩) from rfl)); obtain ⟨d0, d1, d2⟩ := HRt.out w' hG; clear hout hpre; go_step; exact hK _ _ HVT.out.symm hG (Below.refl _ _)
          · intro _ _ a w' hG hout hpre K hK; obtain ⟨p0, p1, p2, _⟩ := hpre; have q40 := ev_of (show a.eval (.tmp 40) = .func (.func 54) #[] #[] from p0); have q44 := ev_of (show a.eval (.tmp 44) = VX from p1); have q45 := ev_of (show a.eval (.tmp 45) = VT from p2); have HS := Lib.hid (HCp.out w'); clear hout p0 p1 p2; go_step; refine HS.out.mono ?_; rintro e w3 ⟨rfl, hB⟩; exact hK _ _ rfl (hG.trans (hB.mono hG.size)) hB
          · intro _ _ a w' hG hout hpre K hK; obtain ⟨p0, _⟩ := hpre; have q46 := ev_of (show a.eval (.tmp 46) = .int .i64 p from p0); have e := HQ.out.symm; clear hout p0; go_step; exact hK _ _ rfl hG (Below.refl _ _)
          · intro _ _ a w' hG hout hpre K hK; obtain ⟨p0, p1, _⟩ := hpre; have q39 := ev_of (show a.eval (.tmp 39) = .bool true from p0); have q47 := ev_of (show a.eval (.tmp 47) = .bool qz from p1); clear hout p0 p1; go_step; exact hK _ _ rfl hG (Below.refl _ _)
          · intro _ _ a w' hG hout hpre K hK; obtain ⟨p0, _⟩ := hpre; have q35 := ev_of (show a.eval (.tmp 35) = .int .i64 (hi : Int) from p0); clear hout p0; go_step; exact hK _ _ rfl hG (Below.refl _ _)
          · intro _ _ a w' hG hout hpre K hK; obtain ⟨p0, _⟩ := hpre; have q48 := ev_of (show a.eval (.tmp 48) = .bool qz from p0); clear hout p0; go_step; exact hK _ _ rfl hG (Below.refl _ _)
        · intro vs w2 hG hlen hV
          match vs, hlen, hV with
          | [v0, v1, v2, v3, v4, v5, v6, v7, v8, v9, v10, v11, v12, v13, v14, v15], _, hV =>
            obtain rfl : v14 = .int .i64 (hi : Int) := (hV 14 6 v14 rfl rfl); obtain rfl : v15 = .bool qz := (hV 15 7 v15 rfl rfl); clear hV; simp only [putsL, List.tail_cons, List.headD_cons]; simp only [Act.put, List.setIfInBounds_toArray, List.set_cons_succ, List.set_cons_zero]; have HZz := Lib.hid (HPz.out w2 qz hG); clear hG; go_wp2_with (fail); exact HZz.out
      · have HI0 : Hid (decide (hi < n) = false) := Lib.hid (decide_eq_false hin); clear hin hlt hlh hhn hVT
        go_upto_region 8 with (fail)
        refine wp_region_skip_frame (fun i => ([5, 6, 7, 8, 9, 10, 11, 12] : List Nat).contains i) (by kernel_rfl) [none, none, none, none, none, none, none, none, none, none, none, none, none, none, none, none] [] (fun i_ _ _ v_ => v_ = (((Value.int .i64 (hi : Int)) :: (Value.int .i64 (hi : Int)) :: (Value.int .i64 (n : Int)) :: (Value.bool false) :: (Value.bool false) :: undef :: undef :: undef :: undef :: undef :: undef :: undef :: undef :: (Value.bool false) :: (Value.int .i64 (hi : Int)) :: (Value.bool false) :: ([] : List Value))).getD i_ undef) (fun _ w' => Below wr.heap.size wr w') (fun w w' => Below w.heap.size w w') (fun _ _ _ _ _ _ h => h) (by kernel_rfl) (by kernel_rfl) (by kernel_rfl) HG0.out (fun _ => ⟨rfl, rfl, rfl, rfl, rfl, fun _ _ h => .inl h, fun _ _ h => .inl h, fun _ _ h => .inl h, fun _ _ h => .inl h, fun _ _ h => .inl h, fun _ _ h => .inl h, fun _ _ h => .inl h, fun _ _ h => .inl h, rfl, rfl, rfl, trivial⟩) (fun i hi => by have hm := List.contains_iff_mem.1 hi; simp only [List.mem_cons, List.not_mem_nil, or_false] at hm; rcases hm with rfl | rfl | rfl | rfl | rfl | rfl | rfl | rfl <;> exact ⟨rfl, fun _ _ => rfl⟩) ?_ ?_
        · refine ⟨?_, ?_, ?_, ?_, ?_, ?_, ?_, ?_, ?_, ?_, ?_, ?_, ?_, ?_, ?_, ?_, trivial⟩
          · intro _ _ a w' hG hout hpre K hK; have q9 := ev_of ((hout 9 rfl).trans (show _ = .int .i64 (hi : Int) from rfl)); clear hout hpre; go_step; exact hK _ _ rfl hG (Below.refl _ _)
          · intro _ _ a w' hG hout hpre K hK; have q9 := ev_of ((hout 9 rfl).trans (show _ = .int .i64 (hi : Int) from rfl)); clear hout hpre; go_step; exact hK _ _ rfl hG (Below.refl _ _)
          · intro _ _ a w' hG hout hpre K hK; have q8 := ev_of ((hout 8 rfl).trans (show _ = .int .i64 (n : Int) from rfl)); clear hout hpre; go_step; exact hK _ _ rfl hG (Below.refl _ _)
          · intro _ _ a w' hG hout hpre K hK; obtain ⟨p0, p1, _⟩ := hpre; have q36 := ev_of (show a.eval (.tmp 36) = .int .i64 (hi : Int) from p0); have q37 := ev_of (show a.eval (.tmp 37) = .int .i64 (n : Int) from p1); have hi0 := HI0.out; clear hout p0 p1; go_step; exact hK _ _ rfl hG (Below.refl _ _)
          · intro _ _ a w' hG hout hpre K hK; obtain ⟨p0, _⟩ := hpre; have q38 := ev_of (show a.eval (.tmp 38) = .bool false from p0); clear hout p0; go_step; exact hK _ _ rfl hG (Below.refl _ _)
          · exact fun h => absurd h (by decide)
          · exact fun h => absurd h (by decide)
          · exact fun h => absurd h (by decide)
          · exact fun h => absurd h (by decide)
          · exact fun h => absurd h (by decide)
          · exact fun h => absurd h (by decide)
          · exact fun h => absurd h (by decide)
          · exact fun h => absurd h (by decide)
          · intro _ _ a w' hG hout hpre K hK; obtain ⟨p0, p1, _⟩ := hpre; have q39 := ev_of (show a.eval (.tmp 39) = .bool false from p0); have q47 := ev_of (show a.eval (.tmp 47) = undef from p1); clear hout p0 p1; go_step; exact hK _ _ rfl hG (Below.refl _ _)
          · intro _ _ a w' hG hout hpre K hK; obtain ⟨p0, _⟩ := hpre; have q35 := ev_of (show a.eval (.tmp 35) = .int .i64 (hi : Int) from p0); clear hout p0; go_step; exact hK _ _ rfl hG (Below.refl _ _)
          · intro _ _ a w' hG hout hpre K hK; obtain ⟨p0, _⟩ := hpre; have q48 := ev_of (show a.eval (.tmp 48) = .bool false from p0); clear hout p0; go_step; exact hK _ _ rfl hG (Below.refl _ _)
        · intro vs w2 hG hlen hV
          match vs, hlen, hV with
          | [v0, v1, v2, v3, v4, v5, v6, v7, v8, v9, v10, v11, v12, v13, v14, v15], _, hV =>
            obtain rfl : v14 = .int .i64 (hi : Int) := (hV 14 6 v14 rfl rfl); obtain rfl : v15 = .bool false := (hV 15 7 v15 rfl rfl); clear hV; simp only [putsL, List.tail_cons, List.headD_cons]; simp only [Act.put, List.setIfInBounds_toArray, List.set_cons_succ, List.set_cons_zero]; have HZz := Lib.hid (HPz.out w2 false hG); clear hG; go_wp2_with (fail); exact HZz.out
end Go.Proofs.YtjeeghafachebaaGreat
namespace Go.Proofs.YtjeeghafachebaaGreat
open Go Go.RowKit
theorem cellsLW_append (l m : List WindowL) : cellsLW (l ++ m) = cellsLW l ++ cellsLW m := by simp [cellsLW]
theorem cellsLW_take (l : List WindowL) (i : Nat) (h : i ≤ l.length) : cellsLW (l.take i) = (cellsLW l).take (i * 3) := by
  have e : cellsLW l = cellsLW (l.take i) ++ cellsLW (l.drop i) := by rw [← cellsLW_append, List.take_append_drop]
  have hl : (cellsLW (l.take i)).length = i * 3 := by rw [cellsLW_length, List.length_take, Nat.min_eq_left h]
  rw [e, List.take_left' hl]
theorem cellsLW_drop (l : List WindowL) (i : Nat) (h : i ≤ l.length) : cellsLW (l.drop i) = (cellsLW l).drop (i * 3) := by
  have e : cellsLW l = cellsLW (l.take i) ++ cellsLW (l.drop i) := by rw [← cellsLW_append, List.take_append_drop]
  have hl : (cellsLW (l.take i)).length = i * 3 := by rw [cellsLW_length, List.length_take, Nat.min_eq_left h]
  rw [e, List.drop_left' hl]
theorem append_fitsW (w : World) {base g n c : Nat} {l : List WindowL} (hown : OwnW w base (.slice (some ⟨g, 0, none⟩) n c) l) (hn : n = l.length) {y : WindowL} {q : Nat} (hu : ∀ j z, y.cells[j]? = some z → w.cell? ⟨q, j, none⟩ = some z) (hroom : n + 1 ≤ c) (ty : TypeId) :
    ∃ w', (Builtin.append_ #[84, 84] ty #[.slice (some ⟨g, 0, none⟩) n c, .slice (some ⟨q, 0, none⟩) 1 1]).run Tryz.prog w = .ok (.slice (some ⟨g, 0, none⟩) (n + 1) c) w' ∧
      OwnW w' base (.slice (some ⟨g, 0, none⟩) (n + 1) c) (l ++ [y]) ∧ w.grownBy w' (some g) := by
  subst hn; obtain ⟨i, hi, hz, hs, hby⟩ := info_parts window_parts; obtain ⟨w', h1, h2, h3⟩ := run_append_fits (P := Tryz.prog) w base 84 ty 47 i 3 Tryz.underlying84 hi hs g l.length c (cellsLW l) hown ⟨q, 0, none⟩ 1 1 y.cells.toList rfl
    (fun j u hj => by rw [addr_add, Nat.zero_add]; exact hu j u (by simpa using hj)) (fun z hz => Array.all_eq_true'.1 (window_one y) z (by simpa using hz)) hroom
  refine ⟨w', h1, ?_, h3⟩; unfold OwnW; rw [cellsLW_snoc, List.length_append]; exact h2
theorem wpList_fitsW {ops : Array Oper} {rest : List Oper} {o : Oper} {a : Act} {Q : Exit → Act → World → Prop} {w : World} (hgd : o.guard = none) (s x : Operand)
    (ho : o.op = .call { callee := .builtin .append, args := #[s, x], argTypes := #[84, 84] }) {base g n c : Nat} {l : List WindowL} (hs : a.eval s = .slice (some ⟨g, 0, none⟩) n c)
    (hown : OwnW w base (.slice (some ⟨g, 0, none⟩) n c) l) (hn : n = l.length) (y : WindowL) (q : Nat) (hx : a.eval x = .slice (some ⟨q, 0, none⟩) 1 1) (hu : ∀ j z, y.cells[j]? = some z → w.cell? ⟨q, j, none⟩ = some z) (hroom : n + 1 ≤ c)
    (h : ∀ w', OwnW w' base (.slice (some ⟨g, 0, none⟩) (n + 1) c) (l ++ [y]) → w.grownBy w' (some g) → wpList Tryz.prog ops Q rest (a.put o.dst (.slice (some ⟨g, 0, none⟩) (n + 1) c)) w') : wpList Tryz.prog ops Q (o :: rest) a w := by
  refine wpList_plain hgd fun K hK => ?_; obtain ⟨w', hr, h2, h3⟩ := append_fitsW w hown hn hu hroom o.type; unfold Oper.wp execOp; simp only [ho, resolve, invoke, builtin, Sem.run_bind, Sem.run_pure, Result.andThen_ok, List.map_toArray, List.map_cons, List.map_nil, hs, hx, hr]; exact hK _ _ (h w' h2 h3)
theorem run_copyW (w : World) (ty : TypeId) (b o dLen dCap : Nat) (a : Addr) (sLen sCap k : Nat) (cs : List Value) (cur : Array Value) (hg : w.heap[b]? = some (.cells cur 47 (0, 0)))
    (hk : k = Nat.min sLen dLen) (hn : cs.length = k * 3) (hsrc : ∀ j v, cs[j]? = some v → w.cell? (a.add j) = some v) (h1 : ∀ v ∈ cs, v.oneCell' = true) (hfit : o + cs.length ≤ cur.size) :
    (Builtin.copy_ #[84, 84] ty #[.slice (some ⟨b, o, none⟩) dLen dCap, .slice (some a) sLen sCap]).run Tryz.prog w = .ok (goInt k) (w.setRow b (cur.toList.take o ++ cs ++ cur.toList.drop (o + cs.length)).toArray) := by
  have hl := run_loadCells_list (P := Tryz.prog) w a cs hsrc
  have hst := run_storeCells_at Tryz.prog b o 47 cs 0 cur w hg (by simpa using hfit) h1
  have hs : ∀ w, (sizeOf 47).run Tryz.prog w = .ok 3 w := Tryz.sizeOf47; rw [hn] at hl; simp [Builtin.copy_, run_underlying Tryz.underlying84, Builtin.lenOf, Builtin.firstCells, hs, ← hk, hl]; simp only [Nat.add_zero] at hst; rw [hst]; simp only [Result.andThen_ok, List.append_assoc]
theorem wp_copyW {o : Oper} {a : Act} {w : World} {K : Act → World → Prop} {Q : Exit → Act → World → Prop} (d s : Operand) (ho : o.op = .call { callee := .builtin .copy, args := #[d, s], argTypes := #[84, 84] })
    (b off dLen dCap : Nat) (x : Addr) (sLen sCap k : Nat) (cs : List Value) (cur : Array Value) (hd : a.eval d = .slice (some ⟨b, off, none⟩) dLen dCap) (hs : a.eval s = .slice (some x) sLen sCap) (hg : w.heap[b]? = some (.cells cur 47 (0, 0)))
    (hk : k = Nat.min sLen dLen) (hn : cs.length = k * 3) (hsrc : ∀ j v, cs[j]? = some v → w.cell? (x.add j) = some v) (h1 : ∀ v ∈ cs, v.oneCell' = true) (hfit : off + cs.length ≤ cur.size)
    (h : K (a.put o.dst (goInt k)) (w.setRow b (cur.toList.take off ++ cs ++ cur.toList.drop (off + cs.length)).toArray)) : o.wp Tryz.prog a w K Q := by
  unfold Oper.wp execOp; simp only [ho, resolve, invoke, builtin, Sem.run_bind, Sem.run_pure, Result.andThen_ok, List.map_toArray, List.map_cons, List.map_nil, hd, hs, run_copyW w o.type b off dLen dCap x sLen sCap k cs cur hg hk hn hsrc h1 hfit]; exact h
theorem wpList_copyW {ops : Array Oper} {rest : List Oper} {o : Oper} {a : Act} {w : World} {Q : Exit → Act → World → Prop} (hgd : o.guard = none) (d s : Operand) (ho : o.op = .call { callee := .builtin .copy, args := #[d, s], argTypes := #[84, 84] })
    (b off dLen dCap : Nat) (x : Addr) (sLen sCap k : Nat) (cs : List Value) (cur : Array Value) (hd : a.eval d = .slice (some ⟨b, off, none⟩) dLen dCap) (hs : a.eval s = .slice (some x) sLen sCap) (hg : w.heap[b]? = some (.cells cur 47 (0, 0)))
    (hk : k = Nat.min sLen dLen) (hn : cs.length = k * 3) (hsrc : ∀ j v, cs[j]? = some v → w.cell? (x.add j) = some v) (h1 : ∀ v ∈ cs, v.oneCell' = true) (hfit : off + cs.length ≤ cur.size)
    (h : wpList Tryz.prog ops Q rest (a.put o.dst (goInt k)) (w.setRow b (cur.toList.take off ++ cs ++ cur.toList.drop (off + cs.length)).toArray)) : wpList Tryz.prog ops Q (o :: rest) a w :=
  wpList_plain hgd fun _ hK => wp_copyW d s ho b off dLen dCap x sLen sCap k cs cur hd hs hg hk hn hsrc h1 hfit (hK _ _ h)
theorem run_slice3_l (w : World) (g o n c i : Nat) (h : i ≤ n) (hc : i < c) :
    (Instr.slice 84 (.slice (some ⟨g, o, none⟩) n c) (some (.int .i64 (i : Int))) none none).run Tryz.prog w = .ok (.slice (some ⟨g, o + i * 3, none⟩) (n - i) (c - i)) w := by
  have hz : ∀ w, (sizeOf 47).run Tryz.prog w = .ok 3 w := Tryz.sizeOf47
  have e : ¬ c = i := by omega
  simp [Instr.slice, run_underlying Tryz.underlying84, Instr.sliceBounds, run_sliceBound, hz, h, addr_add, e]
end Go.Proofs.YtjeeghafachebaaGreat
namespace Go.Proofs.YtjeeghafachebaaGreat
open Go Go.RowKit
def InsG (g q : Nat) (y : WindowL) (w : World) (cur cur1 : Array Value) (k : Nat) (w' : World) : Prop :=
  cond (Nat.beq k 0) (w'.heap[g]? = some (.cells cur 47 (0, 0))) (w'.heap[g]? = some (.cells cur1 47 (0, 0))) ∧ RowW w' q y ∧ w.grownBy w' (some g)
theorem take_mid {α : Type} {A B C D : List α} (n : Nat) (h : n = A.length + B.length + C.length) : (A ++ B ++ (C ++ D)).take n = A ++ B ++ C := by
  rw [← List.append_assoc]
  exact List.take_left' (by simp [h]; omega)
set_option maxRecDepth 100000 in
set_option maxHeartbeats 4000000 in
theorem insert_any (w : World) (base g c i q : Nat) (l : List WindowL) (y : WindowL) (hO : OwnW w base (.slice (some ⟨g, 0, none⟩) l.length c) l) (hq : RowW w q y) (hqg : q ≠ g) (hi : i ≤ l.length) (hc : l.length + 1 ≤ c) (hn : c ≤ 1000000) :
    Calls Tryz.prog 121 #[.slice (some ⟨g, 0, none⟩) l.length c, .int .i64 (i : Int), .slice (some ⟨q, 0, none⟩) 1 1] w (fun e w' => e = .returned (.slice (some ⟨g, 0, none⟩) (l.length + 1) c) ∧ OwnW w' base (.slice (some ⟨g, 0, none⟩) (l.length + 1) c) (l.take i ++ [y] ++ l.drop i) ∧ w.grownBy w' (some g)) := by
  obtain ⟨n, hN⟩ : ∃ n, n = l.length := ⟨_, rfl⟩; obtain ⟨P, hP⟩ : ∃ P : Ending → World → Prop, P = fun e w' => e = .returned (.slice (some ⟨g, 0, none⟩) (n + 1) c) ∧ OwnW w' base (.slice (some ⟨g, 0, none⟩) (n + 1) c) (l.take i ++ [y] ++ l.drop i) ∧ w.grownBy w' (some g) := ⟨_, rfl⟩; rw [← hN] at hO hi hc ⊢; rw [← hP]
  have HYes : Hid (∀ w', OwnW w' base (.slice (some ⟨g, 0, none⟩) (n + 1) c) (l.take i ++ [y] ++ l.drop i) → w.grownBy w' (some g) → P (.returned (.slice (some ⟨g, 0, none⟩) (n + 1) c)) w') := Lib.hid (fun w' h1 h2 => by rw [hP]; exact ⟨rfl, h1, h2⟩)
  have hsl0 : ∀ w', (Instr.slice 84 (.slice (some ⟨g, 0, none⟩) n c) (some (.int .i64 (i : Int))) none none).run Tryz.prog w' = .ok (.slice (some ⟨g, i * 3, none⟩) (n - i) (c - i)) w' := fun w' => by
    have h := run_slice3_l w' g 0 n c i hi (by omega)
    rwa [Nat.zero_add] at h
  have HO := Lib.hid (And.intro hO (And.intro hN hq)); clear hP hN hO hq; have hm1 : ((1 : Int) == 0) = false := rfl
  by_cases hin : i = n
  · subst hin
    have e1 : ((i : Int) == (i : Int)) = true := by simp
    have HU : Hid (∀ j z, y.cells[j]? = some z → w.cell? ⟨q, j, none⟩ = some z) := Lib.hid (fun j z hz => HO.out.2.2.cell j hz)
    go_enter Tryz.func121, Tryz.ntmps121
    go_upto_region 7 with (fail)
    refine wp_region_lit ?_
    iterate 6 go_step
    refine wpList_fitsW rfl (.tmp 23) (.tmp 24) rfl rfl HO.out.1 HO.out.2.1 y q rfl HU.out hc ?_; intro w' k1 k2
    have HZ : Hid (P (.returned (.slice (some ⟨g, 0, none⟩) (i + 1) c)) w') := Lib.hid (HYes.out w' (by rw [HO.out.2.1, List.take_length, List.drop_length, List.append_nil, ← HO.out.2.1]; exact k1) k2)
    clear k1 k2 hsl0; go_wp2_with (fail); exact HZ.out
  · have hlt : i < n := by omega
    have e1 : ((i : Int) == (n : Int)) = false := by simpa using fun h : (i : Int) = (n : Int) => hin (by omega)
    obtain ⟨cur, hcur, hsz, htk, hcm, hbg⟩ : ∃ cur : Array Value, w.heap[g]? = some (.cells cur 47 (0, 0)) ∧ cur.size = c * 3 ∧ cur.toList.take (n * 3) = cellsLW l ∧ c ≤ maxLen ∧ base ≤ g := by
      have h := HO.out.1
      rcases h.2 with ⟨h', _⟩ | ⟨g', cap', cur, h', hb, hg, _, hcm, hcs, htake⟩
      · simp at h'
      · simp only [Value.slice.injEq, Option.some.injEq, Addr.mk.injEq, and_true] at h'; obtain ⟨rfl, _, rfl⟩ := h'; rw [← HO.out.2.1] at htake; exact ⟨cur, hg, hcs, htake, hcm, hb⟩
    have hL : (cellsLW l).length = n * 3 := by rw [cellsLW_length, HO.out.2.1]
    obtain ⟨cs, hcs⟩ : ∃ cs, cs = (cellsLW l).drop (i * 3) := ⟨_, rfl⟩
    have hcl : cs.length = (n - i) * 3 := by rw [hcs, List.length_drop, hL]; omega
    obtain ⟨cur1, hc1⟩ : ∃ x, x = (cur.toList.take ((i + 1) * 3) ++ cs ++ cur.toList.drop ((i + 1) * 3 + cs.length)).toArray := ⟨_, rfl⟩
    have hs1 : cur1.size = c * 3 := by
      rw [hc1]; simp only [List.size_toArray, List.length_append, List.length_take, List.length_drop, Array.length_toList]; omega
    have HC := Lib.hid (And.intro hcur (And.intro hsz (And.intro htk (And.intro hcm (And.intro hbg (And.intro hcs (And.intro hcl (And.intro hc1 hs1))))))))
    have hov : ∀ lb cb, (callFunc 140 #[.slice (some ⟨q, 0, none⟩) 1 1, .slice (some ⟨g, (i + 1) * 3, none⟩) lb cb]).run Tryz.prog w = .ok (.value (.bool false)) w := fun lb cb => by
      rw [run_callFunc_extern Tryz.func140 (by kernel_rfl) (by kernel_rfl) (by kernel_rfl) (e := Extern.SlicesOverlaps.overlaps #[84, 84] #[4]) (by kernel_rfl),
        Lib.run_overlaps_apart w 84 4 47 Tryz.underlying84 3 Tryz.sizeOf47 ⟨q, 0, none⟩ ⟨g, (i + 1) * 3, none⟩ 1 1 lb cb hqg 47 47 3 cur.size
          (by have h := HO.out.2.2; unfold RowW at h; simp [World.shape?, h, WindowL.cells]) (by simp [World.shape?, hcur]) (by omega) (HO.out.2.2.fro 0) (HO.out.2.2.fro 3)]
      rfl
    have hslh : ∀ w', (Instr.slice 84 (.slice (some ⟨g, 0, none⟩) n c) none (some (.int .i64 ((n : Int) + 1))) none).run Tryz.prog w' = .ok (.slice (some ⟨g, 0, none⟩) (n + 1) c) w' := fun w' => by
      have h := run_sliceW_h w' (some ⟨g, 0, none⟩) n c (n + 1) (by omega)
      rwa [show ((n + 1 : Nat) : Int) = (n : Int) + 1 by omega] at h
    have hslm : ∀ w', (Instr.slice 84 (.slice (some ⟨g, 0, none⟩) (n + 1) c) (some (.int .i64 ((i : Int) + 1))) none none).run Tryz.prog w' = .ok (.slice (some ⟨g, (i + 1) * 3, none⟩) (n - i) (c - (i + 1))) w' := fun w' => by
      have h := run_slice3_l w' g 0 (n + 1) c (i + 1) (by omega) (by omega)
      rwa [show ((i + 1 : Nat) : Int) = (i : Int) + 1 by omega, Nat.zero_add, show n + 1 - (i + 1) = n - i by omega] at h
    have hsli : ∀ w', (Instr.slice 84 (.slice (some ⟨g, 0, none⟩) (n + 1) c) (some (.int .i64 (i : Int))) none none).run Tryz.prog w' = .ok (.slice (some ⟨g, i * 3, none⟩) (n + 1 - i) (c - i)) w' := fun w' => by
      have h := run_slice3_l w' g 0 (n + 1) c i (by omega) (by omega)
      rwa [Nat.zero_add] at h
    have hgt : ¬ ((c : Int) < (n : Int) + 1) := by omega
    have HS := Lib.hid (And.intro hslm hsli); have HG0 : Hid (InsG g q y w cur cur1 0 w.drew) := Lib.hid ⟨hcur, HO.out.2.2, ⟨rfl, rfl, rfl, Nat.le_refl _, fun _ _ _ => rfl⟩⟩; have HLt : Hid (i < n ∧ n + 1 ≤ c ∧ c ≤ 1000000) := Lib.hid ⟨hlt, hc, hn⟩; clear hcur hsz htk hcm hbg hcs hcl hc1 hs1 hL hin
    go_enter Tryz.func121, Tryz.ntmps121
    go_wp2_with (simp only [hov])
    refine wp_region_skip_frame (fun i => ([] : List Nat).contains i) (by kernel_rfl) [none, none, none, none, none, none, none, none, some 0] [8] (V4 ((Value.slice (some ⟨g, 0, none⟩) (n + 1) c) :: (Value.int .i64 (i : Int)) :: (Value.int .i64 (1 : Int)) :: (Value.int .i64 ((i : Int) + 1)) :: (Value.slice (some ⟨g, (i + 1) * 3, none⟩) (n - i) (c - (i + 1))) :: (Value.slice (some ⟨g, 0, none⟩) (n + 1) c) :: (Value.int .i64 (i : Int)) :: (Value.slice (some ⟨g, i * 3, none⟩) (n + 1 - i) (c - i)) :: goInt ((n - i : Nat) : Int) :: ([] : List Value)) 99 (fun _ _ _ => True) 98 (fun _ _ _ => True) 97 (fun _ _ _ => True) 96 (fun _ _ _ => True)) (InsG g q y w cur cur1) (fun w w' => Below w.heap.size w w') (V4_le _ (fun _ _ _ _ _ h => h) (fun _ _ _ _ _ h => h) (fun _ _ _ _ _ h => h) (fun _ _ _ _ _ h => h)) (by kernel_rfl) (by kernel_rfl) (by kernel_rfl) HG0.out (fun _ => ⟨rfl, rfl, rfl, rfl, rfl, rfl, rfl, rfl, rfl, trivial⟩) (fun _ h => by simp at h) ?_ ?_
    · refine ⟨?_, ?_, ?_, ?_, ?_, ?_, ?_, ?_, ?_, trivial⟩
      · intro _ _ a w' hG hout hpre K hK; have q0 := ev_of ((hout 0 rfl).trans (show _ = .slice (some ⟨g, 0, none⟩) (n + 1) c from rfl)); clear hout hpre; go_step; exact hK _ _ rfl hG (Below.refl _ _)
      · intro _ _ a w' hG hout hpre K hK; have q1 := ev_of ((hout 1 rfl).trans (show _ = .int .i64 (i : Int) from rfl)); clear hout hpre; go_step; exact hK _ _ rfl hG (Below.refl _ _)
      · intro _ _ a w' hG hout hpre K hK; have q7 := ev_of ((hout 7 rfl).trans (show _ = .int .i64 (1 : Int) from rfl)); clear hout hpre; go_step; exact hK _ _ rfl hG (Below.refl _ _)
      · intro _ _ a w' hG hout hpre K hK; obtain ⟨p0, p1, _⟩ := hpre; have q70 := ev_of (show a.eval (.tmp 70) = .int .i64 (i : Int) from p0); have q71 := ev_of (show a.eval (.tmp 71) = .int .i64 (1 : Int) from p1); have hlt := HLt.out; clear hout p0 p1; go_step; exact hK _ _ rfl hG (Below.refl _ _)
      · intro _ _ a w' hG hout hpre K hK; obtain ⟨p0, p1, _⟩ := hpre; have q69 := ev_of (show a.eval (.tmp 69) = .slice (some ⟨g, 0, none⟩) (n + 1) c from p0); have q72 := ev_of (show a.eval (.tmp 72) = .int .i64 ((i : Int) + 1) from p1); have hsl := HS.out.1; clear hout p0 p1; go_step; exact hK _ _ rfl hG (Below.refl _ _)
      · intro _ _ a w' hG hout hpre K hK; have q0 := ev_of ((hout 0 rfl).trans (show _ = .slice (some ⟨g, 0, none⟩) (n + 1) c from rfl)); clear hout hpre; go_step; exact hK _ _ rfl hG (Below.refl _ _)
      · intro _ _ a w' hG hout hpre K hK; have q1 := ev_of ((hout 1 rfl).trans (show _ = .int .i64 (i : Int) from rfl)); clear hout hpre; go_step; exact hK _ _ rfl hG (Below.refl _ _)
      · intro _ _ a w' hG hout hpre K hK; obtain ⟨p0, p1, _⟩ := hpre; have q74 := ev_of (show a.eval (.tmp 74) = .slice (some ⟨g, 0, none⟩) (n + 1) c from p0); have q75 := ev_of (show a.eval (.tmp 75) = .int .i64 (i : Int) from p1); have hsl := HS.out.2; clear hout p0 p1; go_step; exact hK _ _ rfl hG (Below.refl _ _)
      · intro _ a w' hG hout hpre K hK; obtain ⟨p0, p1, _⟩ := hpre; have q73 := (show a.eval (.tmp 73) = .slice (some ⟨g, (i + 1) * 3, none⟩) (n - i) (c - (i + 1)) from p0); have q76 := (show a.eval (.tmp 76) = .slice (some ⟨g, i * 3, none⟩) (n + 1 - i) (c - i) from p1); clear hout p0 p1; obtain ⟨hcur, hq, hgr⟩ := (show (w'.heap[g]? = some (.cells cur 47 (0, 0)) ∧ RowW w' q y ∧ w.grownBy w' (some g)) from hG); obtain ⟨_, hsz, htk, _, _, hcs, hcl, hc1, _⟩ := HC.out; have hlt := HLt.out
        refine wp_copyW (.tmp 73) (.tmp 76) rfl g ((i + 1) * 3) (n - i) (c - (i + 1)) ⟨g, i * 3, none⟩ (n + 1 - i) (c - i) (n - i) cs cur q73 q76 hcur (Nat.min_eq_right (by omega)).symm hcl (fun j v hj => ?_) (fun v hv => ?_) (by omega) ?_
        · rw [addr_add, cell_of_row w' g _ cur _ _ hcur]; rw [hcs, List.getElem?_drop, ← htk, List.getElem?_take] at hj
          split at hj
          · simpa using hj
          · cases hj
        · rw [hcs] at hv; exact cellsLW_one l v (List.mem_of_mem_drop hv)
        · rw [← hc1]; have hg2 := grown_setRow w' g cur1
          exact hK _ _ rfl ⟨setRow_heap w' g _ _ _ _ hcur, hq.grown hg2 (by simp; exact hqg), ⟨hg2.os.trans hgr.os, hg2.tape.trans hgr.tape, hg2.output.trans hgr.output, Nat.le_trans hgr.size hg2.size, fun j hj hne => (hg2.block j (Nat.lt_of_lt_of_le hj hgr.size) hne).trans (hgr.block j hj hne)⟩⟩ (V4_keep (.inr fun _ h => h) (.inr fun _ h => h) (.inr fun _ h => h) (.inr fun _ h => h))
    · intro vs w2 hG hlen hV
      match vs, hlen, hV with
      | [v0, v1, v2, v3, v4, v5, v6, v7, v8], _, hV =>
        clear hV; simp only [putsL, List.tail_cons, List.headD_cons]; simp only [Act.put, List.setIfInBounds_toArray, List.set_cons_succ, List.set_cons_zero]; have H2 : Hid (w2.heap[g]? = some (.cells cur1 47 (0, 0)) ∧ RowW w2 q y ∧ w.grownBy w2 (some g)) := Lib.hid hG; clear hG hslm hslh hov
        go_upto_region 16 with (fail)
        refine wp_region_lit ?_
        iterate 12 go_step
        refine wpList_copyW rfl (.tmp 80) (.tmp 81) rfl g (i * 3) (n + 1 - i) (c - i) ⟨q, 0, none⟩ 1 1 1 y.cells.toList cur1 rfl rfl H2.out.1 (Nat.min_eq_left (by have := HLt.out; omega)).symm rfl (fun j v hj => by rw [addr_add, Nat.zero_add]; exact H2.out.2.1.cell j (by simpa using hj)) (fun v hv => Array.all_eq_true'.1 (window_one y) v (by simpa using hv)) (by have h3 : y.cells.toList.length = 3 := rfl; have h := HC.out.2.2.2.2.2.2.2.2; omega) ?_
        obtain ⟨wz, hwz⟩ : ∃ W, W = w2.setRow g (cur1.toList.take (i * 3) ++ y.cells.toList ++ cur1.toList.drop (i * 3 + y.cells.toList.length)).toArray := ⟨_, rfl⟩
        have HZ : Hid (P (.returned (.slice (some ⟨g, 0, none⟩) (n + 1) c)) wz) := by
          obtain ⟨hcur, hsz, htk, hcm, hbg, hcs, hcl, hc1, hs1⟩ := HC.out; have hlt := HLt.out; have hN := HO.out.2.1
          have hL : (cellsLW l).length = n * 3 := by rw [cellsLW_length, hN]
          have h3 : y.cells.toList.length = 3 := rfl; have hg2 := grown_setRow w2 g (cur1.toList.take (i * 3) ++ y.cells.toList ++ cur1.toList.drop (i * 3 + y.cells.toList.length)).toArray; rw [← hwz] at hg2; have hgr := H2.out.2.2; refine Lib.hid (HYes.out wz ?_ ⟨hg2.os.trans hgr.os, hg2.tape.trans hgr.tape, hg2.output.trans hgr.output, Nat.le_trans hgr.size hg2.size, fun j hj hne => (hg2.block j (Nat.lt_of_lt_of_le hj hgr.size) hne).trans (hgr.block j hj hne)⟩)
          have hlen : (l.take i ++ [y] ++ l.drop i).length = n + 1 := by simp; omega
          unfold OwnW; rw [hlen]
          refine ⟨by rw [cellsLW_length, hlen], .inr ⟨g, c, _, rfl, hbg, by rw [hwz]; exact setRow_heap w2 g _ _ _ _ H2.out.1, hlt.2.1, hcm, ?_, ?_⟩⟩
          · simp only [List.size_toArray, List.length_append, List.length_take, List.length_drop, Array.length_toList]; have h4 : y.cells.size = 3 := rfl; omega
          · have e1 : cellsLW (l.take i ++ [y] ++ l.drop i) = (cellsLW l).take (i * 3) ++ y.cells.toList ++ cs := by
              rw [cellsLW_append, cellsLW_append, cellsLW_take l i (by omega), cellsLW_drop l i (by omega), hcs]
              simp [cellsLW]
            have e2 : cur1.toList.take (i * 3) = (cellsLW l).take (i * 3) := by
              rw [hc1, List.append_assoc, List.take_append_of_le_length (by rw [List.length_take, Array.length_toList]; omega), List.take_take, ← htk, List.take_take]
              congr 1
              omega
            have e3 : cur1.toList.drop (i * 3 + y.cells.toList.length) = cs ++ cur.toList.drop ((i + 1) * 3 + cs.length) := by
              rw [hc1, List.append_assoc, h3]
              exact List.drop_left' (by rw [List.length_take, Array.length_toList]; omega)
            rw [e1, e2, e3]
            exact take_mid _ (by rw [List.length_take, hL, h3, hcl]; omega)
        rw [← hwz]; clear hwz hsli hsl0; go_wp2_with (fail); exact HZ.out
end Go.Proofs.YtjeeghafachebaaGreat
namespace Go.Proofs.YtjeeghafachebaaGreat
open Go Go.RowKit
end Go.Proofs.YtjeeghafachebaaGreat
