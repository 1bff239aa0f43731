/-
  Part 32 of 42 of what the proof leans on.
-/
import Derived.Test.YtdmnhgbdeifpbaaDoorO30
import Derived.Test.YtdmnhgbdeifpbaaDoorO31
import Derived.Test.YtdmnhgbdeifpbaaDoorO23
import Derived.Test.YtdmnhgbdeifpbaaDoorO26
namespace Go.Proofs.YtdmnhgbdeifpbaaDoor
open Go Go.RowKit
theorem recC_kind {k k' s a : Int} {iv : Value} {r : List (BitVec 8)} : (recC k s iv a r).setIfInBounds 0 (.int .i64 k') = recC k' s iv a r := by
  apply Array.ext_getElem?
  intro j; rw [Array.getElem?_setIfInBounds]
  by_cases hj : j < 4
  · rw [recC_low hj, recC_low hj]
    match j, hj with
    | 0, _ => simp [recC]
    | 1, _ => rfl
    | 2, _ => rfl
    | 3, _ => rfl
  · rw [if_neg (by omega)]
    obtain ⟨i, rfl⟩ : ∃ i, j = 4 + i := ⟨j - 4, by omega⟩
    rw [recC_root, recC_root]
theorem recC_seq {k s s' a : Int} {iv : Value} {r : List (BitVec 8)} : (recC k s iv a r).setIfInBounds 1 (.int .i64 s') = recC k s' iv a r := by
  apply Array.ext_getElem?
  intro j; rw [Array.getElem?_setIfInBounds]
  by_cases hj : j < 4
  · rw [recC_low hj, recC_low hj]
    match j, hj with
    | 0, _ => rfl
    | 1, _ => simp [recC]; omega
    | 2, _ => rfl
    | 3, _ => rfl
  · rw [if_neg (by omega)]
    obtain ⟨i, rfl⟩ : ∃ i, j = 4 + i := ⟨j - 4, by omega⟩
    rw [recC_root, recC_root]
theorem recC_byte {k s a : Int} {iv : Value} {r : List (BitVec 8)} (i : Nat) (c : BitVec 8) : (recC k s iv a r).setIfInBounds (4 + i) (B c) = recC k s iv a (r.set i c) := by
  apply Array.ext_getElem?
  intro j; rw [Array.getElem?_setIfInBounds]
  by_cases hj : j < 4
  · rw [if_neg (by omega), recC_low hj, recC_low hj]
  · obtain ⟨q, rfl⟩ : ∃ q, j = 4 + q := ⟨j - 4, by omega⟩
    rw [recC_root, recC_root]
    by_cases e : i = q
    · subst e; rw [if_pos rfl]
      by_cases hl : i < r.length
      · rw [if_pos (by simp [recC, byA]; omega)]
        simp [byA, hl]
      · rw [if_neg (by simp [recC, byA]; omega)]
        simp [byA]; omega
    · rw [if_neg (by omega)]
      simp [byA, List.getElem?_set_ne e]
structure R14 (w wr : World) (zb b xb : Nat) (ZR : Array Value) (t : TapeL) (k s : Int) (iv : Value) (a : Int) (r : List (BitVec 8)) : Prop where
  at_ : w.heap.size = zb ∧ b = zb + 1 ∧ xb = zb + 2
  zr : wr.heap[zb]? = some (.cells ZR 25 (0, 0))
  tape : TapeAt wr b t
  row : RowR wr xb k s iv a r
  below : Below w.heap.size w wr
section
variable {w wr w' : World} {zb b xb : Nat} {ZR : Array Value} {t t' : TapeL} {k s : Int} {iv : Value} {a : Int} {r : List (BitVec 8)}
theorem R14.tape_ (h : R14 w wr zb b xb ZR t k s iv a r) (h1 : TapeAt w' b t') (hg : wr.grownBy w' (some b)) : R14 w w' zb b xb ZR t' k s iv a r := by
  obtain ⟨e1, e2, e3⟩ := h.at_
  refine ⟨h.at_, (hg.block _ (Array.getElem?_eq_some_iff.1 h.zr).1 (by simp; omega)).trans h.zr, h1, h.row.grown hg (by omega), h.below.trans ⟨hg.os, hg.tape, hg.output, hg.size, fun i hi => hg.block i (by have := h.below.size; omega) (by simp; omega)⟩⟩
theorem R14.row_ (h : R14 w wr zb b xb ZR t k s iv a r) (o : Nat) (v : Value) {k' s' : Int} {iv' : Value} {a' : Int} {r' : List (BitVec 8)} (hr : RowR (wr.setCell ⟨xb, o, none⟩ v) xb k' s' iv' a' r') : R14 w (wr.setCell ⟨xb, o, none⟩ v) zb b xb ZR t k' s' iv' a' r' := by
  obtain ⟨e1, e2, e3⟩ := h.at_; have hg := grown_setCell wr xb o v
  exact ⟨h.at_, (hg.block _ (Array.getElem?_eq_some_iff.1 h.zr).1 (by simp; omega)).trans h.zr, (hg.block _ h.tape.lt (by simp; omega)).trans h.tape, hr, h.below.trans ⟨hg.os, hg.tape, hg.output, hg.size, fun i hi => hg.block i (by have := h.below.size; omega) (by simp; omega)⟩⟩
theorem R14.kind_ (h : R14 w wr zb b xb ZR t k s iv a r) (k' : Int) : R14 w (wr.setCell ⟨xb, 0, none⟩ (.int .i64 k')) zb b xb ZR t k' s iv a r :=
  h.row_ 0 _ ⟨h.row.1, by rw [heap_setCell_same wr xb 0 _ _ _ h.row.2, recC_kind]⟩
theorem R14.seq_ (h : R14 w wr zb b xb ZR t k s iv a r) (s' : Int) : R14 w (wr.setCell ⟨xb, 1, none⟩ (.int .i64 s')) zb b xb ZR t k s' iv a r :=
  h.row_ 1 _ ⟨h.row.1, by rw [heap_setCell_same wr xb 1 _ _ _ h.row.2, recC_seq]⟩
theorem R14.items_ (h : R14 w wr zb b xb ZR t k s iv a r) (iv' : Value) : R14 w (wr.setCell ⟨xb, 2, none⟩ iv') zb b xb ZR t k s iv' a r := h.row_ 2 _ (h.row.items iv')
theorem R14.area_ (h : R14 w wr zb b xb ZR t k s iv a r) (a' : Int) : R14 w (wr.setCell ⟨xb, 3, none⟩ (.int .i64 a')) zb b xb ZR t k s iv a' r := h.row_ 3 _ (h.row.area a')
theorem R14.byte_ (h : R14 w wr zb b xb ZR t k s iv a r) (i : Nat) (c : BitVec 8) : R14 w (wr.setCell ⟨xb, 4 + i, none⟩ (B c)) zb b xb ZR t k s iv a (r.set i c) :=
  h.row_ (4 + i) _ ⟨by rw [List.length_set]; exact h.row.1, by rw [heap_setCell_same wr xb (4 + i) _ _ _ h.row.2, recC_byte]⟩
theorem R14.far (h : R14 w wr zb b xb ZR t k s iv a r) (hB : Below wr.heap.size wr w') : R14 w w' zb b xb ZR t k s iv a r :=
  ⟨h.at_, (hB.block _ (Array.getElem?_eq_some_iff.1 h.zr).1).trans h.zr, h.tape.far hB, h.row.below hB, h.below.trans (hB.mono h.below.size)⟩
theorem R14.grown (h : R14 w wr zb b xb ZR t k s iv a r) {v : Value} {l : List ItemL} (ho : OwnI wr (xb + 1) v l) (hg : wr.grownBy w' v.ownBlock) : R14 w w' zb b xb ZR t k s iv a r := by
  obtain ⟨e1, e2, e3⟩ := h.at_
  have hne : ∀ q, q ≤ xb → some q ≠ v.ownBlock := fun q hq e => by
    have := (ho.lt e.symm).1; omega
  exact ⟨h.at_, (hg.block _ (Array.getElem?_eq_some_iff.1 h.zr).1 (hne _ (by omega))).trans h.zr, (hg.block _ h.tape.lt (hne _ (by omega))).trans h.tape, ⟨h.row.1, (hg.block _ h.row.lt (hne _ (Nat.le_refl _))).trans h.row.2⟩,
    h.below.trans ⟨hg.os, hg.tape, hg.output, hg.size, fun i hi => hg.block i (by have := h.below.size; omega) (hne _ (by omega))⟩⟩
end
theorem read_err {m : List (BitVec 8)} {x : RecL} {t : TapeL} (h : rec0 ⟨m, 0⟩ = (x, t)) (he : t.e ≠ 0) : readR m = (zeroR, t.e) := by
  have hl : recLast (rec0 ⟨m, 0⟩) = t := by
    rw [h, recLast]
    split
    · rfl
    · exact fail_err he 11
  unfold readR; rw [hl, done_err he, if_neg he]
theorem read_ok {m : List (BitVec 8)} {x : RecL} {t : TapeL} (h : rec0 ⟨m, 0⟩ = (x, t)) (hr : x.rightB = true) (hd : t.done = 0) : readR m = (x, 0) := by
  have hl : recLast (rec0 ⟨m, 0⟩) = t := by rw [h, recLast, if_pos hr]
  unfold readR; rw [hl, hd, if_pos rfl, h]
theorem read_dn {m : List (BitVec 8)} {x : RecL} {t : TapeL} {d : Int} (h : rec0 ⟨m, 0⟩ = (x, t)) (hr : x.rightB = true) (hd : t.done = d) (h0 : d ≠ 0) : readR m = (zeroR, d) := by
  have hl : recLast (rec0 ⟨m, 0⟩) = t := by rw [h, recLast, if_pos hr]
  unfold readR; rw [hl, hd, if_neg h0]
theorem fail_done {t : TapeL} (h : t.e = 0) : (t.fail 11).done = 11 := by
  have e : (t.fail 11).e = 11 := by
    unfold TapeL.fail
    rw [if_pos ⟨h, by decide⟩]
  rw [done_err (by rw [e]; decide), e]
theorem read_bad {m : List (BitVec 8)} {x : RecL} {t : TapeL} (h : rec0 ⟨m, 0⟩ = (x, t)) (hr : x.rightB = false) (he : t.e = 0) : readR m = (zeroR, 11) := by
  have hl : recLast (rec0 ⟨m, 0⟩) = t.fail 11 := by rw [h, recLast, if_neg (by simp [hr])]
  unfold readR
  rw [hl, fail_done he, if_neg (by decide)]
theorem root_step (bs : List (BitVec 8)) (i : Nat) (h : i < bs.length) (h32 : i < 32) : (bs.take i ++ zeroH.drop i).set i (gl bs i) = bs.take (i + 1) ++ zeroH.drop (i + 1) := by
  have hz : zeroH.drop i = 0 :: zeroH.drop (i + 1) := by
    have hl : i < zeroH.length := by simpa [zeroH] using h32
    rw [List.drop_eq_getElem_cons hl]
    congr 1
    simp only [zeroH, List.getElem_replicate]
  have hl : (bs.take i).length = i := by simp; omega
  rw [hz, List.set_append_right _ _ (by omega), hl, Nat.sub_self, List.set_cons_zero, List.take_succ_eq_append_getElem h, List.append_assoc]
  simp [gl, h]
def RI14 (w : World) (zb b xb N : Nat) (ZR : Array Value) (s : Int) (t3 : TapeL) (u : Value) (wr : World) : Prop :=
  ∃ (j : Nat) (iv : Value), j ≤ N ∧ u = .int .i64 (j : Int) ∧ OwnI wr (xb + 1) iv (itemsN j t3).1 ∧ R14 w wr zb b xb ZR (itemsN j t3).2 1 s iv 0 zeroH
set_option maxRecDepth 100000 in
set_option maxHeartbeats 3000000 in
theorem rrread14_any (w : World) (m : List (BitVec 8)) : Calls Tryd.prog 12 #[Sv m] w (RecEnd w (readR m)) := by
  obtain ⟨P, hP⟩ : ∃ P : Ending → World → Prop, P = RecEnd w (readR m) := ⟨_, rfl⟩; rw [← hP]; obtain ⟨ZR, hZR⟩ : ∃ z, z = zeroC := ⟨_, rfl⟩; have hz := zero_rec.1; rw [← hZR] at hz; obtain ⟨w1, hw1⟩ : ∃ W, W = ((w.alloc (.cells ZR 25)).alloc (.cells #[Sv m, .int .i64 0] 70)).alloc (.cells ZR 25) := ⟨_, rfl⟩; obtain ⟨zb, hzb⟩ : ∃ b, b = w.heap.size := ⟨_, rfl⟩; obtain ⟨b, hb⟩ : ∃ b, b = w.heap.size + 1 := ⟨_, rfl⟩; obtain ⟨xb, hxb⟩ : ∃ b, b = w.heap.size + 1 + 1 := ⟨_, rfl⟩
  have hs1 : (w.alloc (.cells ZR 25)).heap.size = w.heap.size + 1 := by simp
  have hs2 : ((w.alloc (.cells ZR 25)).alloc (.cells #[Sv m, .int .i64 0] 70)).heap.size = w.heap.size + 1 + 1 := by simp
  have h1 : R14 w w1 zb b xb ZR ⟨m, 0⟩ 0 0 (.slice none 0 0) 0 zeroH := by
    refine ⟨⟨hzb.symm, by omega, by omega⟩, ?_, ?_, ⟨by simp [zeroH], ?_⟩, ?_⟩
    · rw [hw1, hzb, heap_alloc_old _ _ (by rw [hs2]; omega), heap_alloc_old _ _ (by rw [hs1]; omega)]
      exact heap_alloc_new w _
    · show w1.heap[b]? = _
      rw [hw1, hb, heap_alloc_old _ _ (by rw [hs2]; omega), ← hs1]
      exact heap_alloc_new _ _
    · rw [hw1, hxb, ← hs2, hZR]; exact heap_alloc_new _ _
    · rw [hw1]
      exact (((Below.refl _ w).alloc (Nat.le_refl _) _).alloc (by rw [hs1]; omega) _).alloc (by rw [hs2]; omega) _
  have H1 := Lib.hid (And.intro h1 (And.intro hP hZR)); clear h1 hP hZR
  have hbuilt : Tryd.prog.built 70 [(0, Sv m)] = some #[Sv m, .int .i64 0] := by kernel_rfl
  go_enter Tryd.func12, Tryd.ntmps12
  go_upto_region 1 with (fail)
  refine wp_region_lit ?_
  iterate 3 go_step
  refine wpList_built_at rfl 70 _ rfl (cs := #[Sv m, .int .i64 0]) (by simpa [Act.eval] using hbuilt) ?_
  go_upto_region 3 with (fail)
  rw [← hw1, ← hxb, ← hb, ← hzb]; clear hw1 hxb hb hzb hs1 hs2 hbuilt; obtain ⟨k, hk⟩ : ∃ k, k = ((TapeL.mk m 0).number 9223372036854775807).1 := ⟨_, rfl⟩; obtain ⟨t1, ht1⟩ : ∃ k, k = ((TapeL.mk m 0).number 9223372036854775807).2 := ⟨_, rfl⟩; obtain ⟨s, hs⟩ : ∃ k, k = (t1.number 9223372036854775807).1 := ⟨_, rfl⟩; obtain ⟨t2, ht2⟩ : ∃ k, k = (t1.number 9223372036854775807).2 := ⟨_, rfl⟩; have hn1 := rtNumber_any w1 b ⟨m, 0⟩ 9223372036854775807 H1.out.1.tape; rw [← hk, ← ht1] at hn1; have HT : Hid (k = ((TapeL.mk m 0).number 9223372036854775807).1 ∧ t1 = ((TapeL.mk m 0).number 9223372036854775807).2 ∧ s = (t1.number 9223372036854775807).1 ∧ t2 = (t1.number 9223372036854775807).2) := Lib.hid ⟨hk, ht1, hs, ht2⟩; clear hk ht1 hs ht2; go_wp2_with (fail); refine hn1.mono ?_; clear hn1; rintro e w2 ⟨rfl, hT, hg⟩; have H2 := Lib.hid (H1.out.1.tape_ hT hg); clear hT hg; have c0 := H2.out.row.d5.1; have f0 := frozen_of_row w2 xb 0 _ _ H2.out.row.2; dsimp only
  go_upto_region 4 with (fail)
  obtain ⟨w3, hw3⟩ : ∃ W, W = w2.setCell ⟨xb, 0, none⟩ (.int .i64 k) := ⟨_, rfl⟩
  have H3 : Hid (R14 w w3 zb b xb ZR t1 k 0 (.slice none 0 0) 0 zeroH) := by rw [hw3]; exact Lib.hid (H2.out.kind_ k)
  rw [← hw3]; clear hw3 c0 f0; have hn2 := rtNumber_any w3 b t1 9223372036854775807 H3.out.tape; rw [← HT.out.2.2.1, ← HT.out.2.2.2] at hn2; go_wp2_with (fail); refine hn2.mono ?_; clear hn2; rintro e w4 ⟨rfl, hT, hg⟩; have H4 := Lib.hid (H3.out.tape_ hT hg); clear hT hg; have c1 := H4.out.row.d5.2.1; have f1 := frozen_of_row w4 xb 1 _ _ H4.out.row.2; dsimp only
  go_upto_region 5 with (fail)
  obtain ⟨w5, hw5⟩ : ∃ W, W = w4.setCell ⟨xb, 1, none⟩ (.int .i64 s) := ⟨_, rfl⟩
  have H5 : Hid (R14 w w5 zb b xb ZR t2 k s (.slice none 0 0) 0 zeroH) := by rw [hw5]; exact Lib.hid (H4.out.seq_ s)
  rw [← hw5]; clear hw5 c1 f1; have c0 := H5.out.row.d5.1
  by_cases k1 : k = 1
  · subst k1; obtain ⟨n, hn⟩ : ∃ k, k = (t2.number 64).1 := ⟨_, rfl⟩; obtain ⟨t3, ht3⟩ : ∃ k, k = (t2.number 64).2 := ⟨_, rfl⟩; have hn3 := rtNumber_any w5 b t2 64 H5.out.tape
    have hnr := number_range t2 64 (by decide)
    rw [← hn, ← ht3] at hn3; rw [← hn] at hnr
    obtain ⟨N, rfl⟩ : ∃ N : Nat, n = (N : Int) := ⟨n.toNat, by omega⟩
    have hN64 : N ≤ 64 := by omega
    have HT3 : Hid ((N : Int) = (t2.number 64).1 ∧ t3 = (t2.number 64).2) := Lib.hid ⟨hn, ht3⟩; clear hn ht3 hnr; go_wp2_with (fail); refine hn3.mono ?_; clear hn3 c0; rintro e w6 ⟨rfl, hT, hg⟩; have H6 := Lib.hid (H5.out.tape_ hT hg); clear hT hg; dsimp only; go_wp2_with (fail)
    go_loopw [7] (RI14 w zb b xb N ZR s t3) (fun u _ => N - (intOf u).toNat)
    case atStart => exact ⟨0, _, Nat.zero_le _, rfl, OwnI.nil _ _, H6.out⟩
    case round =>
      obtain ⟨j, iv, hj, rfl, hO, hR⟩ := hrel; have HR := Lib.hid hR; have HO := Lib.hid hO; have c0 := hR.row.d5.1; obtain ⟨tj, htj⟩ : ∃ t, t = (itemsN j t3).2 := ⟨_, rfl⟩; have HTj := Lib.hid htj; rw [← htj] at HR; clear hR hO
      by_cases te : tj.e = 0
      · by_cases hlt : j < N
        · have hi0 : (0 : Int) ≤ (j : Int) ∧ (j : Int) < (N : Int) := by omega
          obtain ⟨-, ce, -, -⟩ := HR.out.tape.cells; rw [te] at ce; obtain ⟨x, hx⟩ : ∃ x, x = tj.item.1 := ⟨_, rfl⟩; have hd : Below wr.heap.size wr wr.drew := (Below.refl _ wr).drew; have HD : Hid (OwnI wr.drew (xb + 1) iv (itemsN j t3).1 ∧ R14 w wr.drew zb b xb ZR tj 1 s iv 0 zeroH) := Lib.hid ⟨HO.out.far hd, HR.out.far hd⟩; have HG := erGet_any wr.drew b tj HD.out.2.tape; rw [← hx] at HG; have HG := Lib.hid HG; have HL : Hid (j < N ∧ x = tj.item.1 ∧ tj = (itemsN j t3).2) := Lib.hid ⟨hlt, hx, HTj.out⟩; have hag : ∀ w, (isAgg 22).run Tryd.prog w = .ok false w := Tryd.isAgg22; clear hlt hx hd te htj c0
          go_upto_region 10 with (fail)
          clear ce
          refine wp_region_held_drew (S := fun _ => True) (by kernel_rfl) trivial (fun hHeld => ?_)
          refine tkFree (i := 0) (v := .pointer (some ⟨xb, 2, none⟩)) rfl (by kernel_rfl) (by kernel_rfl) (by kernel_rfl) (fun _ _ _ h => h) (.inl ⟨by rfl, fun w hSw => by go_simp⟩) hHeld ?_
          simp only [Act.put, List.setIfInBounds_toArray, List.set_cons_zero, List.set_cons_succ]
          refine tkFree (i := 2) rfl (by kernel_rfl) (by kernel_rfl) (by kernel_rfl) (fun _ _ _ h => h) (.inl ⟨by rfl, fun w hSw => by go_simp; rfl⟩) hHeld ?_
          simp only [Act.put, List.setIfInBounds_toArray, List.set_cons_zero, List.set_cons_succ]; clear hHeld
          refine tkTwo 1 3 rfl rfl (by decide +kernel) rfl rfl (fun K hK => ?_) (fun K hK => ?_)
          · obtain ⟨-, -, c2, -⟩ := HD.out.2.row.d5; refine wp_loadT (.tmp 37) rfl rfl c2 hag ?_; refine hK _ _ trivial ?_; clear hK c2
            try simp only [Act.put, List.setIfInBounds_toArray, List.set_cons_zero, List.set_cons_succ]
            refine tkOne 3 rfl (by decide +kernel) rfl (fun K hK => ?_)
            go_simp
            refine HG.out.mono ?_; rintro e w3 ⟨rfl, hT, hg⟩
            have H3 : Hid (OwnI w3 (xb + 1) iv (itemsN j t3).1 ∧ R14 w w3 zb b xb ZR tj.item.2 1 s iv 0 zeroH) := by
              obtain ⟨e1, e2, e3⟩ := HD.out.2.at_; refine Lib.hid ⟨HD.out.1.kept hg ?_, HD.out.2.tape_ hT hg⟩
              by_cases hv : iv.ownBlock = none
              · exact .inl hv
              · refine .inr fun e => ?_; have := (HD.out.1.lt e).1; omega
            clear hT hg; refine hK _ _ trivial ?_; clear hK
            try simp only [Act.put, List.setIfInBounds_toArray, List.set_cons_zero, List.set_cons_succ]
            refine tkOne 4 rfl (by decide +kernel) rfl (fun K hK => ?_)
            refine wp_slice1_I (.tmp 40) rfl x rfl ?_; refine hK _ _ trivial ?_; clear hK; obtain ⟨w4, hw4⟩ : ∃ W, W = w3.alloc (.cells x.cells 53) := ⟨_, rfl⟩; obtain ⟨ib, hib⟩ : ∃ b, b = w3.heap.size := ⟨_, rfl⟩
            have H4 : Hid (OwnI w4 (xb + 1) iv (itemsN j t3).1 ∧ R14 w w4 zb b xb ZR tj.item.2 1 s iv 0 zeroH ∧ ∀ i z, x.cells[i]? = some z → w4.cell? ⟨ib, i, none⟩ = some z) := by
              have hB4 : Below w3.heap.size w3 w4 := by rw [hw4]; exact (Below.refl _ w3).alloc (Nat.le_refl _) _
              refine Lib.hid ⟨H3.out.1.far hB4, H3.out.2.far hB4, fun i z hz => ?_⟩; rw [hw4, hib, cell_of_row _ _ i _ _ _ (heap_alloc_new w3 _)]; exact hz
            rw [← hw4, ← hib]; clear hw4 hib
            try simp only [Act.put, List.setIfInBounds_toArray, List.set_cons_zero, List.set_cons_succ]
            refine tkOne 5 rfl (by decide +kernel) rfl (fun K hK => ?_)
            refine wp_pushI (.tmp 38) (.tmp 41) rfl (xb + 1) iv (itemsN j t3).1 rfl H4.out.1 x ib rfl H4.out.2.2 (by rw [itemsN_length]; have := HL.out.1; omega) (by have := H4.out.2.1.row.lt; omega) ?_
            intro v' w5' k1 k2; refine hK _ _ trivial ?_; clear hK; obtain ⟨va, vc, hv', -⟩ := ownI_items k1; have H5' : Hid (OwnI w5' (xb + 1) v' ((itemsN j t3).1 ++ [x]) ∧ R14 w w5' zb b xb ZR tj.item.2 1 s iv 0 zeroH) := Lib.hid ⟨k1, H4.out.2.1.grown H4.out.1 k2⟩; clear k1 k2
            try simp only [Act.put, List.setIfInBounds_toArray, List.set_cons_zero, List.set_cons_succ]
            refine tkFree (i := 6) (v := .pointer (some ⟨xb, 2, none⟩)) rfl (by kernel_rfl) (by kernel_rfl) (by kernel_rfl) (fun _ _ _ h => h) (.inl ⟨by rfl, fun w hSw => by go_simp⟩) trivial ?_
            simp only [Act.put, List.setIfInBounds_toArray, List.set_cons_zero, List.set_cons_succ]
            refine tkOne 7 rfl (by decide +kernel) rfl (fun K hK => ?_)
            obtain ⟨-, -, c2, -⟩ := H5'.out.2.row.d5
            refine wp_storeT (v := v') (.tmp 43) (.tmp 42) rfl rfl rfl (by rw [hv']; rfl) (by rw [hv']; rfl) Tryd.sizeOf22 c2 (frozen_of_row w5' xb 2 _ _ H5'.out.2.row.2) ?_
            refine hK _ _ trivial ?_; clear hK c2
            try simp only [Act.put, ]
            refine wpAnyH_done (by kernel_rfl) ?_ _
            have HZ : Hid (RI14 w zb b xb N ZR s t3 (.int .i64 ((j : Int) + 1)) (w5'.setCell ⟨xb, 2, none⟩ v')) := by
              have hg := grown_setCell w5' xb 2 v'
              refine Lib.hid ⟨j + 1, v', by have := HL.out.1; omega, by go_num, ?_, ?_⟩
              · show OwnI _ _ v' ((itemsN j t3).1 ++ [(itemsN j t3).2.item.1])
                rw [← HL.out.2.2, ← HL.out.2.1]; refine H5'.out.1.kept hg ?_
                by_cases hv : v'.ownBlock = none
                · exact .inl hv
                · refine .inr fun e => ?_; have := (H5'.out.1.lt e).1; omega
              · show R14 _ _ _ _ _ _ (itemsN j t3).2.item.2 _ _ _ _ _
                rw [← HL.out.2.2]; exact H5'.out.2.items_ v'
            obtain ⟨w6', hw6'⟩ : ∃ W, W = w5'.setCell ⟨xb, 2, none⟩ v' := ⟨_, rfl⟩; rw [← hw6'] at HZ ⊢; clear hw6'; go_wp2_with (fail); have := HL.out.1
            exact ⟨HZ.out, by simp [intOf]; omega⟩
          · go_simp
            refine HG.out.mono ?_; rintro e w3 ⟨rfl, hT, hg⟩
            have H3 : Hid (OwnI w3 (xb + 1) iv (itemsN j t3).1 ∧ R14 w w3 zb b xb ZR tj.item.2 1 s iv 0 zeroH) := by
              obtain ⟨e1, e2, e3⟩ := HD.out.2.at_; refine Lib.hid ⟨HD.out.1.kept hg ?_, HD.out.2.tape_ hT hg⟩
              by_cases hv : iv.ownBlock = none
              · exact .inl hv
              · refine .inr fun e => ?_; have := (HD.out.1.lt e).1; omega
            clear hT hg; refine hK _ _ trivial ?_; clear hK
            try simp only [Act.put, List.setIfInBounds_toArray, List.set_cons_zero, List.set_cons_succ]
            refine tkTwo 1 4 rfl rfl (by decide +kernel) rfl rfl (fun K hK => ?_) (fun K hK => ?_)
            · obtain ⟨-, -, c2, -⟩ := H3.out.2.row.d5; refine wp_loadT (.tmp 37) rfl rfl c2 hag ?_; refine hK _ _ trivial ?_; clear hK c2
              try simp only [Act.put, List.setIfInBounds_toArray, List.set_cons_zero, List.set_cons_succ]
              refine tkOne 4 rfl (by decide +kernel) rfl (fun K hK => ?_)
              refine wp_slice1_I (.tmp 40) rfl x rfl ?_; refine hK _ _ trivial ?_; clear hK; obtain ⟨w4, hw4⟩ : ∃ W, W = w3.alloc (.cells x.cells 53) := ⟨_, rfl⟩; obtain ⟨ib, hib⟩ : ∃ b, b = w3.heap.size := ⟨_, rfl⟩
              have H4 : Hid (OwnI w4 (xb + 1) iv (itemsN j t3).1 ∧ R14 w w4 zb b xb ZR tj.item.2 1 s iv 0 zeroH ∧ ∀ i z, x.cells[i]? = some z → w4.cell? ⟨ib, i, none⟩ = some z) := by
                have hB4 : Below w3.heap.size w3 w4 := by rw [hw4]; exact (Below.refl _ w3).alloc (Nat.le_refl _) _
                refine Lib.hid ⟨H3.out.1.far hB4, H3.out.2.far hB4, fun i z hz => ?_⟩; rw [hw4, hib, cell_of_row _ _ i _ _ _ (heap_alloc_new w3 _)]; exact hz
              rw [← hw4, ← hib]; clear hw4 hib
              try simp only [Act.put, List.setIfInBounds_toArray, List.set_cons_zero, List.set_cons_succ]
              refine tkOne 5 rfl (by decide +kernel) rfl (fun K hK => ?_)
              refine wp_pushI (.tmp 38) (.tmp 41) rfl (xb + 1) iv (itemsN j t3).1 rfl H4.out.1 x ib rfl H4.out.2.2 (by rw [itemsN_length]; have := HL.out.1; omega) (by have := H4.out.2.1.row.lt; omega) ?_
              intro v' w5' k1 k2; refine hK _ _ trivial ?_; clear hK; obtain ⟨va, vc, hv', -⟩ := ownI_items k1; have H5' : Hid (OwnI w5' (xb + 1) v' ((itemsN j t3).1 ++ [x]) ∧ R14 w w5' zb b xb ZR tj.item.2 1 s iv 0 zeroH) := Lib.hid ⟨k1, H4.out.2.1.grown H4.out.1 k2⟩; clear k1 k2
              try simp only [Act.put, List.setIfInBounds_toArray, List.set_cons_zero, List.set_cons_succ]
              refine tkFree (i := 6) (v := .pointer (some ⟨xb, 2, none⟩)) rfl (by kernel_rfl) (by kernel_rfl) (by kernel_rfl) (fun _ _ _ h => h) (.inl ⟨by rfl, fun w hSw => by go_simp⟩) trivial ?_
              simp only [Act.put, List.setIfInBounds_toArray, List.set_cons_zero, List.set_cons_succ]
              refine tkOne 7 rfl (by decide +kernel) rfl (fun K hK => ?_)
              obtain ⟨-, -, c2, -⟩ := H5'.out.2.row.d5
              refine wp_storeT (v := v') (.tmp 43) (.tmp 42) rfl rfl rfl (by rw [hv']; rfl) (by rw [hv']; rfl) Tryd.sizeOf22 c2 (frozen_of_row w5' xb 2 _ _ H5'.out.2.row.2) ?_
              refine hK _ _ trivial ?_; clear hK c2
              try simp only [Act.put, ]
              refine wpAnyH_done (by kernel_rfl) ?_ _
              have HZ : Hid (RI14 w zb b xb N ZR s t3 (.int .i64 ((j : Int) + 1)) (w5'.setCell ⟨xb, 2, none⟩ v')) := by
                have hg := grown_setCell w5' xb 2 v'
                refine Lib.hid ⟨j + 1, v', by have := HL.out.1; omega, by go_num, ?_, ?_⟩
                · show OwnI _ _ v' ((itemsN j t3).1 ++ [(itemsN j t3).2.item.1])
                  rw [← HL.out.2.2, ← HL.out.2.1]; refine H5'.out.1.kept hg ?_
                  by_cases hv : v'.ownBlock = none
                  · exact .inl hv
                  · refine .inr fun e => ?_; have := (H5'.out.1.lt e).1; omega
                · show R14 _ _ _ _ _ _ (itemsN j t3).2.item.2 _ _ _ _ _
                  rw [← HL.out.2.2]; exact H5'.out.2.items_ v'
              obtain ⟨w6', hw6'⟩ : ∃ W, W = w5'.setCell ⟨xb, 2, none⟩ v' := ⟨_, rfl⟩; rw [← hw6'] at HZ ⊢; clear hw6'; go_wp2_with (fail); have := HL.out.1
              exact ⟨HZ.out, by simp [intOf]; omega⟩
            · refine wp_slice1_I (.tmp 40) rfl x rfl ?_; refine hK _ _ trivial ?_; clear hK; obtain ⟨w4, hw4⟩ : ∃ W, W = w3.alloc (.cells x.cells 53) := ⟨_, rfl⟩; obtain ⟨ib, hib⟩ : ∃ b, b = w3.heap.size := ⟨_, rfl⟩
              have H4 : Hid (OwnI w4 (xb + 1) iv (itemsN j t3).1 ∧ R14 w w4 zb b xb ZR tj.item.2 1 s iv 0 zeroH ∧ ∀ i z, x.cells[i]? = some z → w4.cell? ⟨ib, i, none⟩ = some z) := by
                have hB4 : Below w3.heap.size w3 w4 := by rw [hw4]; exact (Below.refl _ w3).alloc (Nat.le_refl _) _
                refine Lib.hid ⟨H3.out.1.far hB4, H3.out.2.far hB4, fun i z hz => ?_⟩; rw [hw4, hib, cell_of_row _ _ i _ _ _ (heap_alloc_new w3 _)]; exact hz
              rw [← hw4, ← hib]; clear hw4 hib
              try simp only [Act.put, List.setIfInBounds_toArray, List.set_cons_zero, List.set_cons_succ]
              refine tkOne 1 rfl (by decide +kernel) rfl (fun K hK => ?_)
              obtain ⟨-, -, c2, -⟩ := H4.out.2.1.row.d5; refine wp_loadT (.tmp 37) rfl rfl c2 hag ?_; refine hK _ _ trivial ?_; clear hK c2
              try simp only [Act.put, List.setIfInBounds_toArray, List.set_cons_zero, List.set_cons_succ]
              refine tkOne 5 rfl (by decide +kernel) rfl (fun K hK => ?_)
              refine wp_pushI (.tmp 38) (.tmp 41) rfl (xb + 1) iv (itemsN j t3).1 rfl H4.out.1 x ib rfl H4.out.2.2 (by rw [itemsN_length]; have := HL.out.1; omega) (by have := H4.out.2.1.row.lt; omega) ?_
              intro v' w5' k1 k2; refine hK _ _ trivial ?_; clear hK; obtain ⟨va, vc, hv', -⟩ := ownI_items k1; have H5' : Hid (OwnI w5' (xb + 1) v' ((itemsN j t3).1 ++ [x]) ∧ R14 w w5' zb b xb ZR tj.item.2 1 s iv 0 zeroH) := Lib.hid ⟨k1, H4.out.2.1.grown H4.out.1 k2⟩; clear k1 k2
              try simp only [Act.put, List.setIfInBounds_toArray, List.set_cons_zero, List.set_cons_succ]
              refine tkFree (i := 6) (v := .pointer (some ⟨xb, 2, none⟩)) rfl (by kernel_rfl) (by kernel_rfl) (by kernel_rfl) (fun _ _ _ h => h) (.inl ⟨by rfl, fun w hSw => by go_simp⟩) trivial ?_
              simp only [Act.put, List.setIfInBounds_toArray, List.set_cons_zero, List.set_cons_succ]
              refine tkOne 7 rfl (by decide +kernel) rfl (fun K hK => ?_)
              obtain ⟨-, -, c2, -⟩ := H5'.out.2.row.d5
              refine wp_storeT (v := v') (.tmp 43) (.tmp 42) rfl rfl rfl (by rw [hv']; rfl) (by rw [hv']; rfl) Tryd.sizeOf22 c2 (frozen_of_row w5' xb 2 _ _ H5'.out.2.row.2) ?_
              refine hK _ _ trivial ?_; clear hK c2
              try simp only [Act.put, ]
              refine wpAnyH_done (by kernel_rfl) ?_ _
              have HZ : Hid (RI14 w zb b xb N ZR s t3 (.int .i64 ((j : Int) + 1)) (w5'.setCell ⟨xb, 2, none⟩ v')) := by
                have hg := grown_setCell w5' xb 2 v'
                refine Lib.hid ⟨j + 1, v', by have := HL.out.1; omega, by go_num, ?_, ?_⟩
                · show OwnI _ _ v' ((itemsN j t3).1 ++ [(itemsN j t3).2.item.1])
                  rw [← HL.out.2.2, ← HL.out.2.1]; refine H5'.out.1.kept hg ?_
                  by_cases hv : v'.ownBlock = none
                  · exact .inl hv
                  · refine .inr fun e => ?_; have := (H5'.out.1.lt e).1; omega
                · show R14 _ _ _ _ _ _ (itemsN j t3).2.item.2 _ _ _ _ _
                  rw [← HL.out.2.2]; exact H5'.out.2.items_ v'
              obtain ⟨w6', hw6'⟩ : ∃ W, W = w5'.setCell ⟨xb, 2, none⟩ v' := ⟨_, rfl⟩; rw [← hw6'] at HZ ⊢; clear hw6'; go_wp2_with (fail); have := HL.out.1
              exact ⟨HZ.out, by simp [intOf]; omega⟩
        · obtain rfl : j = N := by omega
          have hnn : ¬ ((j : Int) < (j : Int)) := by omega
          have hkey : ∀ y ∈ (itemsN j t3).1, y.key.length ≤ 1000000 := fun y hy => Nat.le_trans (itemsN_key t3 j y hy) (by decide)
          have hlen : (itemsN j t3).1.length ≤ 1000000 := by rw [itemsN_length]; omega
          have hO := HO.out
          have hrec : rec0 ⟨m, 0⟩ = (⟨1, s, (itemsN j t3).1, 0, zeroH⟩, tj) := by
            unfold rec0; rw [← HT.out.1, ← HT.out.2.1, if_pos rfl, ← HT.out.2.2.1, ← HT.out.2.2.2, ← HT3.out.1, ← HT3.out.2, Int.toNat_natCast, HTj.out]
          clear htj hlt; obtain ⟨ia, ic, hiv, hIt⟩ := hO.form; have HX : Hid (rec0 ⟨m, 0⟩ = (⟨1, s, (itemsN j t3).1, 0, zeroH⟩, tj) ∧ OwnI wr (xb + 1) iv (itemsN j t3).1 ∧ iv = Value.slice ia ((itemsN j t3).1).length ic ∧ ItemsAt wr ia (itemsN j t3).1) := ⟨hrec, hO, hiv, hIt⟩; obtain ⟨XR, hXR⟩ : ∃ x : RecL, x = ⟨1, s, (itemsN j t3).1, 0, zeroH⟩ := ⟨_, rfl⟩; obtain ⟨RB, hRB⟩ : ∃ x, x = XR.rightB := ⟨_, rfl⟩; obtain ⟨C, hC⟩ : ∃ z, z = recC 1 s (iv) 0 zeroH := ⟨_, rfl⟩
          have HRi : Hid (Calls Tryd.prog 8 #[.agg C] wr (Below0 wr (.bool RB))) := by
            have h := rrright_any wr XR ia ic (by rw [hXR]; exact hIt) (by rw [hXR]; exact hkey) (by rw [hXR]; exact hlen) (by rw [hXR]; exact HR.out.row.1)
            rw [hRB, hC, hiv]; rw [hXR] at h ⊢; exact Lib.hid h
          have hld : (loadVar 25 ⟨xb, 0, none⟩).run Tryd.prog wr = .ok (.agg C) wr := by rw [hC]; exact rec_load HR.out.row
          have HC : Hid (C = recC 1 s (iv) 0 zeroH ∧ XR = ⟨1, s, (itemsN j t3).1, 0, zeroH⟩ ∧ RB = XR.rightB) := ⟨hC, hXR, hRB⟩; obtain ⟨-, ce, -, -⟩ := HR.out.tape.cells; have HTe := Lib.hid te; rw [te] at ce; have HLd := Lib.hid hld; clear hrec hO hiv hIt hXR hRB hC hld hkey hlen te
          go_upto_region 18 with (fail)
          clear c0; refine wp_region_lit ?_
          iterate 18 go_step
          refine wpList_load_at rfl 25 _ rfl ⟨xb, 0, none⟩ rfl (.agg C) HLd.out ?_; go_step; refine HRi.out.mono ?_; clear ce; rintro e wA ⟨rfl, hBA⟩; have HA : Hid (R14 w wA zb b xb ZR tj 1 s (iv) 0 zeroH ∧ ItemsAt wA ia (itemsN j t3).1) := Lib.hid ⟨HR.out.far hBA, HX.out.2.2.2.below hBA⟩; clear hBA HRi; dsimp only
          cases RB with
          | true =>
            have hEn := rtEnd_any wA b tj HA.out.1.tape; obtain ⟨dn, hdn⟩ : ∃ x, x = (tj).done := ⟨_, rfl⟩; rw [← hdn] at hEn
            by_cases hd : dn = 0
            · subst hd
              have HRes := Lib.hid (read_ok HX.out.1 (by have h := HC.out.2; rw [h.1] at h; exact h.2.symm) hdn.symm)
              clear hdn; go_wp2_with (fail); refine hEn.mono ?_; clear hEn; rintro e wC ⟨rfl, rfl⟩; dsimp only
              have HF : Hid (∀ W7, W7 = wC.setRow zb C → P (.returned (.tuple #[.agg C, .int .i64 0])) W7 ∧ W7.heap[zb]? = some (.cells C 25 (0, 0))) := by
                refine Lib.hid fun W7 h7 => ?_
                refine ⟨?_, by rw [h7]; exact setRow_heap _ _ ZR _ _ _ HA.out.1.zr⟩
                rw [H1.out.2.1, HRes.out, HC.out.1, HX.out.2.2.1]; refine ⟨ia, ic, rfl, ?_, HA.out.1.row.1, ?_⟩
                · rw [h7]
                  exact items_row HA.out.2 HA.out.1.zr (by rw [H1.out.2.2]; exact zero_no_item)
                · rw [h7]
                  exact HA.out.1.below.trans ⟨rfl, rfl, rfl, by simp, fun k hk => setRow_other _ _ _ _ (by have := HA.out.1.at_.1; omega)⟩
              have hCs : (Tryd.prog.info? 25).map (·.size) = some C.size := by rw [HC.out.1]; exact rec_size _ _ _ _ _ HA.out.1.row.1
              have HCs := Lib.hid hCs; clear hCs
              go_upto_region 23 with (fail)
              refine wp_region_lit ?_
              refine wpList_load_at rfl 25 _ rfl ⟨xb, 0, none⟩ rfl (.agg C) (by rw [HC.out.1]; exact rec_load HA.out.1.row) ?_
              refine wpList_store_row rfl _ _ _ rfl zb C rfl rfl 25 ZR HA.out.1.zr HCs.out (by rw [H1.out.2.2, zeroC_size, HC.out.1, recC_size HA.out.1.row.1]) (by rw [HC.out.1]; exact recC_one _ (by rw [HX.out.2.2.1]; rfl)) ?_
              obtain ⟨W7, hW7⟩ : ∃ W, W = wC.setRow zb C := ⟨_, rfl⟩; have HE := Lib.hid (HF.out W7 hW7); rw [← hW7]; clear hW7; go_wp2_with (fail); refine bodyPost_ret (v := .tuple #[.agg C, .int .i64 0]) ?_ rfl HE.out.1; exact results_cell_tmp (p := 2) (s := 3) rfl _ _ zb 25 C (0, 0) _ rfl HE.out.2 Tryd.underlying25 rfl HCs.out
            · have hd1 : (dn != 0) = true := by simpa using hd
              have hread := read_dn HX.out.1 (by have h := HC.out.2; rw [h.1] at h; exact h.2.symm) hdn.symm hd
              clear hdn hd; go_wp2_with (fail); refine hEn.mono ?_; clear hEn; rintro e wC ⟨rfl, rfl⟩; dsimp only; have HA1 := Lib.hid HA.out.1; have HRes := Lib.hid hread; clear hread
              have HF : Hid (∀ W7, W7 = wC.setRow zb ZR → P (.returned (.tuple #[.agg ZR, .int .i64 dn])) W7 ∧ W7.heap[zb]? = some (.cells ZR 25 (0, 0))) := by
                refine Lib.hid fun W7 h7 => ?_
                refine ⟨?_, by rw [h7]; exact setRow_heap _ _ ZR _ _ _ HA1.out.zr⟩
                rw [H1.out.2.1, HRes.out, H1.out.2.2]
                refine ⟨none, 0, rfl, .inl rfl, by simp [zeroR, zeroH], ?_⟩
                rw [h7]
                exact HA1.out.below.trans ⟨rfl, rfl, rfl, by simp, fun k hk => setRow_other _ _ _ _ (by have := HA1.out.at_.1; omega)⟩
              go_upto_region 22 with (fail)
              refine wp_region_lit ?_
              refine wpList_built_at rfl 25 _ rfl (cs := ZR) (by rw [H1.out.2.2]; simpa using zero_rec.2) ?_
              iterate 3 go_step
              refine wpList_store_row rfl _ _ _ rfl zb ZR rfl rfl 25 ZR HA1.out.zr (by rw [H1.out.2.2]; exact rec_size _ _ _ _ _ (by simp [zeroH])) rfl (by rw [H1.out.2.2]; exact recC_one _ rfl) ?_
              obtain ⟨W7, hW7⟩ : ∃ W, W = wC.setRow zb ZR := ⟨_, rfl⟩; have HE := Lib.hid (HF.out W7 hW7); rw [← hW7]; clear hW7; go_wp2_with (fail); refine bodyPost_ret (v := .tuple #[.agg ZR, .int .i64 dn]) ?_ rfl HE.out.1
              exact results_cell_tmp (p := 2) (s := 3) rfl _ _ zb 25 ZR (0, 0) _ rfl HE.out.2 Tryd.underlying25 rfl (by rw [H1.out.2.2]; exact rec_size _ _ _ _ _ (by simp [zeroH]))
          | false =>
            have hFl := rtFail_any wA b tj 11 HA.out.1.tape; go_wp2_with (fail); refine hFl.mono ?_; clear hFl; rintro e wB ⟨rfl, hT, hg⟩; have HB := Lib.hid (HA.out.1.tape_ hT hg); clear hT hg; have hEn := rtEnd_any wB b _ HB.out.tape
            have hread := read_bad HX.out.1 (by have h := HC.out.2; rw [h.1] at h; exact h.2.symm) HTe.out
            rw [fail_done HTe.out] at hEn; dsimp only; go_wp2_with (fail); refine hEn.mono ?_; clear hEn; rintro e wC ⟨rfl, rfl⟩; dsimp only; have HRes := Lib.hid hread; clear hread
            have HF : Hid (∀ W7, W7 = wC.setRow zb ZR → P (.returned (.tuple #[.agg ZR, .int .i64 11])) W7 ∧ W7.heap[zb]? = some (.cells ZR 25 (0, 0))) := by
              refine Lib.hid fun W7 h7 => ?_
              refine ⟨?_, by rw [h7]; exact setRow_heap _ _ ZR _ _ _ HB.out.zr⟩
              rw [H1.out.2.1, HRes.out, H1.out.2.2]
              refine ⟨none, 0, rfl, .inl rfl, by simp [zeroR, zeroH], ?_⟩
              rw [h7]
              exact HB.out.below.trans ⟨rfl, rfl, rfl, by simp, fun k hk => setRow_other _ _ _ _ (by have := HB.out.at_.1; omega)⟩
            go_upto_region 22 with (fail)
            refine wp_region_lit ?_
            refine wpList_built_at rfl 25 _ rfl (cs := ZR) (by rw [H1.out.2.2]; simpa using zero_rec.2) ?_
            iterate 3 go_step
            refine wpList_store_row rfl _ _ _ rfl zb ZR rfl rfl 25 ZR HB.out.zr (by rw [H1.out.2.2]; exact rec_size _ _ _ _ _ (by simp [zeroH])) rfl (by rw [H1.out.2.2]; exact recC_one _ rfl) ?_
            obtain ⟨W7, hW7⟩ : ∃ W, W = wC.setRow zb ZR := ⟨_, rfl⟩; have HE := Lib.hid (HF.out W7 hW7); rw [← hW7]; clear hW7; go_wp2_with (fail); refine bodyPost_ret (v := .tuple #[.agg ZR, .int .i64 11]) ?_ rfl HE.out.1
            exact results_cell_tmp (p := 2) (s := 3) rfl _ _ zb 25 ZR (0, 0) _ rfl HE.out.2 Tryd.underlying25 rfl (by rw [H1.out.2.2]; exact rec_size _ _ _ _ _ (by simp [zeroH]))
      · have hread : readR m = (zeroR, tj.e) := by
          have hst := itemsN_stay t3 j (by rw [← htj]; exact te) (N - j)
          rw [show j + (N - j) = N by omega] at hst
          refine read_err (x := ⟨1, s, (itemsN N t3).1, 0, zeroH⟩) ?_ te; unfold rec0; rw [← HT.out.1, ← HT.out.2.1, if_pos rfl, ← HT.out.2.2.1, ← HT.out.2.2.2, ← HT3.out.1, ← HT3.out.2, Int.toNat_natCast, hst, htj]
        clear htj
        by_cases hlt : j < N
        · have hi0 : (0 : Int) ≤ (j : Int) ∧ (j : Int) < (N : Int) := by omega
          obtain ⟨-, ce, -, -⟩ := HR.out.tape.cells; have hEn := rtEnd_any wr b _ HR.out.tape; rw [done_err te] at hEn; obtain ⟨dn, hdn⟩ : ∃ x, x = (tj).e := ⟨_, rfl⟩; rw [← hdn] at hread te ce hEn
          have hd1 : (dn != 0) = true := by simpa using te
          have hd0 : (dn == 0) = false := by simpa using te
          clear hdn te
          go_upto_region 18 with (fail)
          clear c0; go_wp2_with (fail); refine hEn.mono ?_; clear hEn ce hd0; rintro e wC ⟨rfl, rfl⟩; dsimp only; have HRes := Lib.hid hread; clear hread
          have HF : Hid (∀ W7, W7 = wC.setRow zb ZR → P (.returned (.tuple #[.agg ZR, .int .i64 dn])) W7 ∧ W7.heap[zb]? = some (.cells ZR 25 (0, 0))) := by
            refine Lib.hid fun W7 h7 => ?_
            refine ⟨?_, by rw [h7]; exact setRow_heap _ _ ZR _ _ _ HR.out.zr⟩
            rw [H1.out.2.1, HRes.out, H1.out.2.2]
            refine ⟨none, 0, rfl, .inl rfl, by simp [zeroR, zeroH], ?_⟩
            rw [h7]
            exact HR.out.below.trans ⟨rfl, rfl, rfl, by simp, fun k hk => setRow_other _ _ _ _ (by have := HR.out.at_.1; omega)⟩
          go_upto_region 22 with (fail)
          refine wp_region_lit ?_
          refine wpList_built_at rfl 25 _ rfl (cs := ZR) (by rw [H1.out.2.2]; simpa using zero_rec.2) ?_
          iterate 3 go_step
          refine wpList_store_row rfl _ _ _ rfl zb ZR rfl rfl 25 ZR HR.out.zr (by rw [H1.out.2.2]; exact rec_size _ _ _ _ _ (by simp [zeroH])) rfl (by rw [H1.out.2.2]; exact recC_one _ rfl) ?_
          obtain ⟨W7, hW7⟩ : ∃ W, W = wC.setRow zb ZR := ⟨_, rfl⟩; have HE := Lib.hid (HF.out W7 hW7); rw [← hW7]; clear hW7; go_wp2_with (fail); refine bodyPost_ret (v := .tuple #[.agg ZR, .int .i64 dn]) ?_ rfl HE.out.1
          exact results_cell_tmp (p := 2) (s := 3) rfl _ _ zb 25 ZR (0, 0) _ rfl HE.out.2 Tryd.underlying25 rfl (by rw [H1.out.2.2]; exact rec_size _ _ _ _ _ (by simp [zeroH]))
        · have hnn : ¬ ((j : Int) < (N : Int)) := by omega
          obtain ⟨-, ce, -, -⟩ := HR.out.tape.cells; have hEn := rtEnd_any wr b _ HR.out.tape; rw [done_err te] at hEn; obtain ⟨dn, hdn⟩ : ∃ x, x = (tj).e := ⟨_, rfl⟩; rw [← hdn] at hread te ce hEn
          have hd1 : (dn != 0) = true := by simpa using te
          have hd0 : (dn == 0) = false := by simpa using te
          clear hdn te
          go_upto_region 18 with (fail)
          clear c0; go_wp2_with (fail); refine hEn.mono ?_; clear hEn ce hd0; rintro e wC ⟨rfl, rfl⟩; dsimp only; have HRes := Lib.hid hread; clear hread
          have HF : Hid (∀ W7, W7 = wC.setRow zb ZR → P (.returned (.tuple #[.agg ZR, .int .i64 dn])) W7 ∧ W7.heap[zb]? = some (.cells ZR 25 (0, 0))) := by
            refine Lib.hid fun W7 h7 => ?_
            refine ⟨?_, by rw [h7]; exact setRow_heap _ _ ZR _ _ _ HR.out.zr⟩
            rw [H1.out.2.1, HRes.out, H1.out.2.2]
            refine ⟨none, 0, rfl, .inl rfl, by simp [zeroR, zeroH], ?_⟩
            rw [h7]
            exact HR.out.below.trans ⟨rfl, rfl, rfl, by simp, fun k hk => setRow_other _ _ _ _ (by have := HR.out.at_.1; omega)⟩
          go_upto_region 22 with (fail)
          refine wp_region_lit ?_
          refine wpList_built_at rfl 25 _ rfl (cs := ZR) (by rw [H1.out.2.2]; simpa using zero_rec.2) ?_
          iterate 3 go_step
          refine wpList_store_row rfl _ _ _ rfl zb ZR rfl rfl 25 ZR HR.out.zr (by rw [H1.out.2.2]; exact rec_size _ _ _ _ _ (by simp [zeroH])) rfl (by rw [H1.out.2.2]; exact recC_one _ rfl) ?_
          obtain ⟨W7, hW7⟩ : ∃ W, W = wC.setRow zb ZR := ⟨_, rfl⟩; have HE := Lib.hid (HF.out W7 hW7); rw [← hW7]; clear hW7; go_wp2_with (fail); refine bodyPost_ret (v := .tuple #[.agg ZR, .int .i64 dn]) ?_ rfl HE.out.1
          exact results_cell_tmp (p := 2) (s := 3) rfl _ _ zb 25 ZR (0, 0) _ rfl HE.out.2 Tryd.underlying25 rfl (by rw [H1.out.2.2]; exact rec_size _ _ _ _ _ (by simp [zeroH]))
  have e1 : (k == 1) = false := by simpa using k1
  by_cases k2 : k = 2
  · subst k2; obtain ⟨ar, har⟩ : ∃ k, k = (t2.number 1).1 := ⟨_, rfl⟩; obtain ⟨t3, ht3⟩ : ∃ k, k = (t2.number 1).2 := ⟨_, rfl⟩; obtain ⟨bs, hbs⟩ : ∃ k, k = (t3.fixed 32).1 := ⟨_, rfl⟩; obtain ⟨t4, ht4⟩ : ∃ k, k = (t3.fixed 32).2 := ⟨_, rfl⟩; have hn3 := rtNumber_any w5 b t2 1 H5.out.tape; rw [← har, ← ht3] at hn3
    have hbl : bs.length ≤ 32 := by rw [hbs]; exact fixed_le t3 32
    obtain ⟨BL, hBL⟩ : ∃ n, n = bs.length := ⟨_, rfl⟩; have HT3 : Hid (ar = (t2.number 1).1 ∧ t3 = (t2.number 1).2 ∧ bs = (t3.fixed 32).1 ∧ t4 = (t3.fixed 32).2 ∧ BL = bs.length) := Lib.hid ⟨har, ht3, hbs, ht4, hBL⟩
    have hbl2 : BL ≤ 32 := by omega
    have hlen9 : ∀ w ty, (Builtin.len_ #[9] ty #[Sv bs]).run Tryd.prog w = .ok (.int .i64 (BL : Int)) w := fun w ty => by rw [run_len_Sv w ty bs, hBL]
    clear har ht3 hbs ht4 hbl hBL; go_wp2_with (fail); refine hn3.mono ?_; clear hn3 c0; rintro e w6 ⟨rfl, hT, hg⟩; have H6 := Lib.hid (H5.out.tape_ hT hg); clear hT hg; have c3 := H6.out.row.d5.2.2.2.1; have f3 := frozen_of_row w6 xb 3 _ _ H6.out.row.2; dsimp only
    go_upto_region 13 with (fail)
    obtain ⟨w7, hw7⟩ : ∃ W, W = w6.setCell ⟨xb, 3, none⟩ (.int .i64 ar) := ⟨_, rfl⟩
    have H7 : Hid (R14 w w7 zb b xb ZR t3 2 s (.slice none 0 0) ar zeroH) := by rw [hw7]; exact Lib.hid (H6.out.area_ ar)
    rw [← hw7]; clear hw7 c3 f3; have hn4 := rtFixed_any w7 b t3 32 H7.out.tape; rw [← HT3.out.2.2.1, ← HT3.out.2.2.2.1] at hn4; go_wp2_with (fail); refine hn4.mono ?_; clear hn4; rintro e w8 ⟨rfl, hT, hg⟩; have H8 := Lib.hid (H7.out.tape_ hT hg); clear hT hg; dsimp only; go_wp2_with (fail)
    go_loopw [9] (fun u wr => ∃ i : Nat, i ≤ BL ∧ u = .int .i64 (i : Int) ∧ R14 w wr zb b xb ZR t4 2 s (.slice none 0 0) ar (bs.take i ++ zeroH.drop i)) (fun u _ => BL - (intOf u).toNat)
    case atStart => exact ⟨0, Nat.zero_le _, rfl, H8.out⟩
    case round =>
      obtain ⟨i, hi, rfl, hR⟩ := hrel
      by_cases hlt : i < BL
      · have hi0 : (0 : Int) ≤ (i : Int) ∧ (i : Int) < (BL : Int) := by omega
        have hi32 : (0 : Int) ≤ (i : Int) ∧ (i : Int) < 32 := by omega
        obtain ⟨r, hr⟩ : ∃ r, r = bs.take i ++ zeroH.drop i := ⟨_, rfl⟩; rw [← hr] at hR; obtain ⟨c, hc⟩ : ∃ c, c = gl bs i := ⟨_, rfl⟩; obtain ⟨cn, hcn⟩ : ∃ n : Int, n = (c.toNat : Int) := ⟨_, rfl⟩; obtain ⟨c8, hc8⟩ : ∃ n : Int, n = ((gl r i).toNat : Int) := ⟨_, rfl⟩
        have hix : ∀ w, (Instr.index 9 (Sv bs) (.int .i64 (i : Int))).run Tryd.prog w = .ok (.int .u8 cn) w := fun w => by rw [hcn, hc]; exact run_index_Sv w bs i (by rw [← HT3.out.2.2.2.2]; exact hlt)
        have cr : wr.cell? ⟨xb, 4 + i, none⟩ = some (.int .u8 c8) := by
          rw [cell_of_row _ _ _ _ _ _ hR.row.2, recC_root, hc8]
          exact byA_at r i (by rw [hR.row.1]; omega)
        have fr := frozen_of_row wr xb (4 + i) _ _ hR.row.2
        have hset : r.set i c = bs.take (i + 1) ++ zeroH.drop (i + 1) := by rw [hr, hc]; exact root_step bs i (by rw [← HT3.out.2.2.2.2]; exact hlt) (by omega)
        have hR' := hR.byte_ i c; rw [hset] at hR'
        have hR' : R14 w (wr.setCell ⟨xb, 4 + i, none⟩ (.int .u8 cn)) zb b xb ZR t4 2 s (.slice none 0 0) ar (bs.take (i + 1) ++ zeroH.drop (i + 1)) := by rw [hcn]; exact hR'
        clear hcn hc8; have HZ := Lib.hid (And.intro hR' hlt); clear hR hr hc hset hR' hlt; go_wp2_with (fail)
        exact ⟨⟨i + 1, by have := HZ.out.2; omega, by go_num, HZ.out.1⟩, by have := HZ.out.2; simp [intOf]; omega⟩
      · obtain rfl : i = BL := by omega
        obtain ⟨r, hr⟩ : ∃ r, r = bs.take i ++ zeroH.drop i := ⟨_, rfl⟩; rw [← hr] at hR; have HR := Lib.hid hR; have c0 := hR.row.d5.1
        have hrec : rec0 ⟨m, 0⟩ = (⟨2, s, [], ar, r⟩, t4) := by
          unfold rec0
          rw [← HT.out.1, ← HT.out.2.1, if_neg (by decide), if_pos rfl, ← HT.out.2.2.1, ← HT.out.2.2.2, ← HT3.out.1, ← HT3.out.2.1, ← HT3.out.2.2.1, ← HT3.out.2.2.2.1, hr, HT3.out.2.2.2.2, List.take_length]
        clear hR hr hlt
        by_cases te : t4.e = 0
        · have hO := OwnI.nil wr (xb + 1)
          have hkey : ∀ y ∈ ([] : List ItemL), y.key.length ≤ 1000000 := fun y h => by simp at h
          have hlen : ([] : List ItemL).length ≤ 1000000 := by simp
          obtain ⟨ia, ic, hiv, hIt⟩ := hO.form; have HX : Hid (rec0 ⟨m, 0⟩ = (⟨2, s, ([] : List ItemL), ar, r⟩, t4) ∧ OwnI wr (xb + 1) (Value.slice none 0 0) ([] : List ItemL) ∧ (Value.slice none 0 0) = Value.slice ia (([] : List ItemL)).length ic ∧ ItemsAt wr ia ([] : List ItemL)) := ⟨hrec, hO, hiv, hIt⟩; obtain ⟨XR, hXR⟩ : ∃ x : RecL, x = ⟨2, s, ([] : List ItemL), ar, r⟩ := ⟨_, rfl⟩; obtain ⟨RB, hRB⟩ : ∃ x, x = XR.rightB := ⟨_, rfl⟩; obtain ⟨C, hC⟩ : ∃ z, z = recC 2 s ((Value.slice none 0 0)) ar r := ⟨_, rfl⟩
          have HRi : Hid (Calls Tryd.prog 8 #[.agg C] wr (Below0 wr (.bool RB))) := by
            have h := rrright_any wr XR ia ic (by rw [hXR]; exact hIt) (by rw [hXR]; exact hkey) (by rw [hXR]; exact hlen) (by rw [hXR]; exact HR.out.row.1)
            rw [hRB, hC, hiv]; rw [hXR] at h ⊢; exact Lib.hid h
          have hld : (loadVar 25 ⟨xb, 0, none⟩).run Tryd.prog wr = .ok (.agg C) wr := by rw [hC]; exact rec_load HR.out.row
          have HC : Hid (C = recC 2 s ((Value.slice none 0 0)) ar r ∧ XR = ⟨2, s, ([] : List ItemL), ar, r⟩ ∧ RB = XR.rightB) := ⟨hC, hXR, hRB⟩; obtain ⟨-, ce, -, -⟩ := HR.out.tape.cells; have HTe := Lib.hid te; rw [te] at ce; have HLd := Lib.hid hld; clear hrec hO hiv hIt hXR hRB hC hld hkey hlen te
          go_upto_region 18 with (fail)
          clear c0; refine wp_region_lit ?_
          iterate 18 go_step
          refine wpList_load_at rfl 25 _ rfl ⟨xb, 0, none⟩ rfl (.agg C) HLd.out ?_; go_step; refine HRi.out.mono ?_; clear ce; rintro e wA ⟨rfl, hBA⟩; have HA : Hid (R14 w wA zb b xb ZR t4 2 s ((Value.slice none 0 0)) ar r ∧ ItemsAt wA ia ([] : List ItemL)) := Lib.hid ⟨HR.out.far hBA, HX.out.2.2.2.below hBA⟩; clear hBA HRi; dsimp only
          cases RB with
          | true =>
            have hEn := rtEnd_any wA b t4 HA.out.1.tape; obtain ⟨dn, hdn⟩ : ∃ x, x = (t4).done := ⟨_, rfl⟩; rw [← hdn] at hEn
            by_cases hd : dn = 0
            · subst hd
              have HRes := Lib.hid (read_ok HX.out.1 (by have h := HC.out.2; rw [h.1] at h; exact h.2.symm) hdn.symm)
              clear hdn; go_wp2_with (fail); refine hEn.mono ?_; clear hEn; rintro e wC ⟨rfl, rfl⟩; dsimp only
              have HF : Hid (∀ W7, W7 = wC.setRow zb C → P (.returned (.tuple #[.agg C, .int .i64 0])) W7 ∧ W7.heap[zb]? = some (.cells C 25 (0, 0))) := by
                refine Lib.hid fun W7 h7 => ?_
                refine ⟨?_, by rw [h7]; exact setRow_heap _ _ ZR _ _ _ HA.out.1.zr⟩
                rw [H1.out.2.1, HRes.out, HC.out.1, HX.out.2.2.1]; refine ⟨ia, ic, rfl, ?_, HA.out.1.row.1, ?_⟩
                · rw [h7]
                  exact items_row HA.out.2 HA.out.1.zr (by rw [H1.out.2.2]; exact zero_no_item)
                · rw [h7]
                  exact HA.out.1.below.trans ⟨rfl, rfl, rfl, by simp, fun k hk => setRow_other _ _ _ _ (by have := HA.out.1.at_.1; omega)⟩
              have hCs : (Tryd.prog.info? 25).map (·.size) = some C.size := by rw [HC.out.1]; exact rec_size _ _ _ _ _ HA.out.1.row.1
              have HCs := Lib.hid hCs; clear hCs
              go_upto_region 23 with (fail)
              refine wp_region_lit ?_
              refine wpList_load_at rfl 25 _ rfl ⟨xb, 0, none⟩ rfl (.agg C) (by rw [HC.out.1]; exact rec_load HA.out.1.row) ?_
              refine wpList_store_row rfl _ _ _ rfl zb C rfl rfl 25 ZR HA.out.1.zr HCs.out (by rw [H1.out.2.2, zeroC_size, HC.out.1, recC_size HA.out.1.row.1]) (by rw [HC.out.1]; exact recC_one _ (by rw [HX.out.2.2.1]; rfl)) ?_
              obtain ⟨W7, hW7⟩ : ∃ W, W = wC.setRow zb C := ⟨_, rfl⟩; have HE := Lib.hid (HF.out W7 hW7); rw [← hW7]; clear hW7; go_wp2_with (fail); refine bodyPost_ret (v := .tuple #[.agg C, .int .i64 0]) ?_ rfl HE.out.1; exact results_cell_tmp (p := 2) (s := 3) rfl _ _ zb 25 C (0, 0) _ rfl HE.out.2 Tryd.underlying25 rfl HCs.out
            · have hd1 : (dn != 0) = true := by simpa using hd
              have hread := read_dn HX.out.1 (by have h := HC.out.2; rw [h.1] at h; exact h.2.symm) hdn.symm hd
              clear hdn hd; go_wp2_with (fail); refine hEn.mono ?_; clear hEn; rintro e wC ⟨rfl, rfl⟩; dsimp only; have HA1 := Lib.hid HA.out.1; have HRes := Lib.hid hread; clear hread
              have HF : Hid (∀ W7, W7 = wC.setRow zb ZR → P (.returned (.tuple #[.agg ZR, .int .i64 dn])) W7 ∧ W7.heap[zb]? = some (.cells ZR 25 (0, 0))) := by
                refine Lib.hid fun W7 h7 => ?_
                refine ⟨?_, by rw [h7]; exact setRow_heap _ _ ZR _ _ _ HA1.out.zr⟩
                rw [H1.out.2.1, HRes.out, H1.out.2.2]
                refine ⟨none, 0, rfl, .inl rfl, by simp [zeroR, zeroH], ?_⟩
                rw [h7]
                exact HA1.out.below.trans ⟨rfl, rfl, rfl, by simp, fun k hk => setRow_other _ _ _ _ (by have := HA1.out.at_.1; omega)⟩
              go_upto_region 22 with (fail)
              refine wp_region_lit ?_
              refine wpList_built_at rfl 25 _ rfl (cs := ZR) (by rw [H1.out.2.2]; simpa using zero_rec.2) ?_
              iterate 3 go_step
              refine wpList_store_row rfl _ _ _ rfl zb ZR rfl rfl 25 ZR HA1.out.zr (by rw [H1.out.2.2]; exact rec_size _ _ _ _ _ (by simp [zeroH])) rfl (by rw [H1.out.2.2]; exact recC_one _ rfl) ?_
              obtain ⟨W7, hW7⟩ : ∃ W, W = wC.setRow zb ZR := ⟨_, rfl⟩; have HE := Lib.hid (HF.out W7 hW7); rw [← hW7]; clear hW7; go_wp2_with (fail); refine bodyPost_ret (v := .tuple #[.agg ZR, .int .i64 dn]) ?_ rfl HE.out.1
              exact results_cell_tmp (p := 2) (s := 3) rfl _ _ zb 25 ZR (0, 0) _ rfl HE.out.2 Tryd.underlying25 rfl (by rw [H1.out.2.2]; exact rec_size _ _ _ _ _ (by simp [zeroH]))
          | false =>
            have hFl := rtFail_any wA b t4 11 HA.out.1.tape; go_wp2_with (fail); refine hFl.mono ?_; clear hFl; rintro e wB ⟨rfl, hT, hg⟩; have HB := Lib.hid (HA.out.1.tape_ hT hg); clear hT hg; have hEn := rtEnd_any wB b _ HB.out.tape
            have hread := read_bad HX.out.1 (by have h := HC.out.2; rw [h.1] at h; exact h.2.symm) HTe.out
            rw [fail_done HTe.out] at hEn; dsimp only; go_wp2_with (fail); refine hEn.mono ?_; clear hEn; rintro e wC ⟨rfl, rfl⟩; dsimp only; have HRes := Lib.hid hread; clear hread
            have HF : Hid (∀ W7, W7 = wC.setRow zb ZR → P (.returned (.tuple #[.agg ZR, .int .i64 11])) W7 ∧ W7.heap[zb]? = some (.cells ZR 25 (0, 0))) := by
              refine Lib.hid fun W7 h7 => ?_
              refine ⟨?_, by rw [h7]; exact setRow_heap _ _ ZR _ _ _ HB.out.zr⟩
              rw [H1.out.2.1, HRes.out, H1.out.2.2]
              refine ⟨none, 0, rfl, .inl rfl, by simp [zeroR, zeroH], ?_⟩
              rw [h7]
              exact HB.out.below.trans ⟨rfl, rfl, rfl, by simp, fun k hk => setRow_other _ _ _ _ (by have := HB.out.at_.1; omega)⟩
            go_upto_region 22 with (fail)
            refine wp_region_lit ?_
            refine wpList_built_at rfl 25 _ rfl (cs := ZR) (by rw [H1.out.2.2]; simpa using zero_rec.2) ?_
            iterate 3 go_step
            refine wpList_store_row rfl _ _ _ rfl zb ZR rfl rfl 25 ZR HB.out.zr (by rw [H1.out.2.2]; exact rec_size _ _ _ _ _ (by simp [zeroH])) rfl (by rw [H1.out.2.2]; exact recC_one _ rfl) ?_
            obtain ⟨W7, hW7⟩ : ∃ W, W = wC.setRow zb ZR := ⟨_, rfl⟩; have HE := Lib.hid (HF.out W7 hW7); rw [← hW7]; clear hW7; go_wp2_with (fail); refine bodyPost_ret (v := .tuple #[.agg ZR, .int .i64 11]) ?_ rfl HE.out.1
            exact results_cell_tmp (p := 2) (s := 3) rfl _ _ zb 25 ZR (0, 0) _ rfl HE.out.2 Tryd.underlying25 rfl (by rw [H1.out.2.2]; exact rec_size _ _ _ _ _ (by simp [zeroH]))
        · have hread := read_err hrec te; clear hrec; obtain ⟨-, ce, -, -⟩ := HR.out.tape.cells; have hEn := rtEnd_any wr b _ HR.out.tape; rw [done_err te] at hEn; obtain ⟨dn, hdn⟩ : ∃ x, x = (t4).e := ⟨_, rfl⟩; rw [← hdn] at hread te ce hEn
          have hd1 : (dn != 0) = true := by simpa using te
          have hd0 : (dn == 0) = false := by simpa using te
          clear hdn te
          go_upto_region 18 with (fail)
          clear c0; go_wp2_with (fail); refine hEn.mono ?_; clear hEn ce hd0; rintro e wC ⟨rfl, rfl⟩; dsimp only; have HRes := Lib.hid hread; clear hread
          have HF : Hid (∀ W7, W7 = wC.setRow zb ZR → P (.returned (.tuple #[.agg ZR, .int .i64 dn])) W7 ∧ W7.heap[zb]? = some (.cells ZR 25 (0, 0))) := by
            refine Lib.hid fun W7 h7 => ?_
            refine ⟨?_, by rw [h7]; exact setRow_heap _ _ ZR _ _ _ HR.out.zr⟩
            rw [H1.out.2.1, HRes.out, H1.out.2.2]
            refine ⟨none, 0, rfl, .inl rfl, by simp [zeroR, zeroH], ?_⟩
            rw [h7]
            exact HR.out.below.trans ⟨rfl, rfl, rfl, by simp, fun k hk => setRow_other _ _ _ _ (by have := HR.out.at_.1; omega)⟩
          go_upto_region 22 with (fail)
          refine wp_region_lit ?_
          refine wpList_built_at rfl 25 _ rfl (cs := ZR) (by rw [H1.out.2.2]; simpa using zero_rec.2) ?_
          iterate 3 go_step
          refine wpList_store_row rfl _ _ _ rfl zb ZR rfl rfl 25 ZR HR.out.zr (by rw [H1.out.2.2]; exact rec_size _ _ _ _ _ (by simp [zeroH])) rfl (by rw [H1.out.2.2]; exact recC_one _ rfl) ?_
          obtain ⟨W7, hW7⟩ : ∃ W, W = wC.setRow zb ZR := ⟨_, rfl⟩; have HE := Lib.hid (HF.out W7 hW7); rw [← hW7]; clear hW7; go_wp2_with (fail); refine bodyPost_ret (v := .tuple #[.agg ZR, .int .i64 dn]) ?_ rfl HE.out.1
          exact results_cell_tmp (p := 2) (s := 3) rfl _ _ zb 25 ZR (0, 0) _ rfl HE.out.2 Tryd.underlying25 rfl (by rw [H1.out.2.2]; exact rec_size _ _ _ _ _ (by simp [zeroH]))
  have e2 : (k == 2) = false := by simpa using k2
  have hrec : rec0 ⟨m, 0⟩ = (⟨k, s, [], 0, zeroH⟩, t2) := by
    unfold rec0; rw [← HT.out.1, ← HT.out.2.1, if_neg k1, if_neg k2, ← HT.out.2.2.1, ← HT.out.2.2.2]
  by_cases te : t2.e = 0
  · have hO := OwnI.nil w5 (xb + 1)
    have hkey : ∀ y ∈ ([] : List ItemL), y.key.length ≤ 1000000 := fun y h => by simp at h
    have hlen : ([] : List ItemL).length ≤ 1000000 := by simp
    obtain ⟨ia, ic, hiv, hIt⟩ := hO.form; have HX : Hid (rec0 ⟨m, 0⟩ = (⟨k, s, ([] : List ItemL), 0, zeroH⟩, t2) ∧ OwnI w5 (xb + 1) (Value.slice none 0 0) ([] : List ItemL) ∧ (Value.slice none 0 0) = Value.slice ia (([] : List ItemL)).length ic ∧ ItemsAt w5 ia ([] : List ItemL)) := ⟨hrec, hO, hiv, hIt⟩; obtain ⟨XR, hXR⟩ : ∃ x : RecL, x = ⟨k, s, ([] : List ItemL), 0, zeroH⟩ := ⟨_, rfl⟩; obtain ⟨RB, hRB⟩ : ∃ x, x = XR.rightB := ⟨_, rfl⟩; obtain ⟨C, hC⟩ : ∃ z, z = recC k s ((Value.slice none 0 0)) 0 zeroH := ⟨_, rfl⟩
    have HRi : Hid (Calls Tryd.prog 8 #[.agg C] w5 (Below0 w5 (.bool RB))) := by
      have h := rrright_any w5 XR ia ic (by rw [hXR]; exact hIt) (by rw [hXR]; exact hkey) (by rw [hXR]; exact hlen) (by rw [hXR]; exact H5.out.row.1)
      rw [hRB, hC, hiv]; rw [hXR] at h ⊢; exact Lib.hid h
    have hld : (loadVar 25 ⟨xb, 0, none⟩).run Tryd.prog w5 = .ok (.agg C) w5 := by rw [hC]; exact rec_load H5.out.row
    have HC : Hid (C = recC k s ((Value.slice none 0 0)) 0 zeroH ∧ XR = ⟨k, s, ([] : List ItemL), 0, zeroH⟩ ∧ RB = XR.rightB) := ⟨hC, hXR, hRB⟩; obtain ⟨-, ce, -, -⟩ := H5.out.tape.cells; have HTe := Lib.hid te; rw [te] at ce; have HLd := Lib.hid hld; clear hrec hO hiv hIt hXR hRB hC hld hkey hlen te
    go_upto_region 18 with (fail)
    clear c0; refine wp_region_lit ?_
    iterate 18 go_step
    refine wpList_load_at rfl 25 _ rfl ⟨xb, 0, none⟩ rfl (.agg C) HLd.out ?_; go_step; refine HRi.out.mono ?_; clear ce; rintro e wA ⟨rfl, hBA⟩; have HA : Hid (R14 w wA zb b xb ZR t2 k s ((Value.slice none 0 0)) 0 zeroH ∧ ItemsAt wA ia ([] : List ItemL)) := Lib.hid ⟨H5.out.far hBA, HX.out.2.2.2.below hBA⟩; clear hBA HRi; dsimp only
    cases RB with
    | true =>
      have hEn := rtEnd_any wA b t2 HA.out.1.tape; obtain ⟨dn, hdn⟩ : ∃ x, x = (t2).done := ⟨_, rfl⟩; rw [← hdn] at hEn
      by_cases hd : dn = 0
      · subst hd
        have HRes := Lib.hid (read_ok HX.out.1 (by have h := HC.out.2; rw [h.1] at h; exact h.2.symm) hdn.symm)
        clear hdn; go_wp2_with (fail); refine hEn.mono ?_; clear hEn; rintro e wC ⟨rfl, rfl⟩; dsimp only
        have HF : Hid (∀ W7, W7 = wC.setRow zb C → P (.returned (.tuple #[.agg C, .int .i64 0])) W7 ∧ W7.heap[zb]? = some (.cells C 25 (0, 0))) := by
          refine Lib.hid fun W7 h7 => ?_
          refine ⟨?_, by rw [h7]; exact setRow_heap _ _ ZR _ _ _ HA.out.1.zr⟩
          rw [H1.out.2.1, HRes.out, HC.out.1, HX.out.2.2.1]; refine ⟨ia, ic, rfl, ?_, HA.out.1.row.1, ?_⟩
          · rw [h7]
            exact items_row HA.out.2 HA.out.1.zr (by rw [H1.out.2.2]; exact zero_no_item)
          · rw [h7]
            exact HA.out.1.below.trans ⟨rfl, rfl, rfl, by simp, fun k hk => setRow_other _ _ _ _ (by have := HA.out.1.at_.1; omega)⟩
        have hCs : (Tryd.prog.info? 25).map (·.size) = some C.size := by rw [HC.out.1]; exact rec_size _ _ _ _ _ HA.out.1.row.1
        have HCs := Lib.hid hCs; clear hCs
        go_upto_region 23 with (fail)
        refine wp_region_lit ?_
        refine wpList_load_at rfl 25 _ rfl ⟨xb, 0, none⟩ rfl (.agg C) (by rw [HC.out.1]; exact rec_load HA.out.1.row) ?_
        refine wpList_store_row rfl _ _ _ rfl zb C rfl rfl 25 ZR HA.out.1.zr HCs.out (by rw [H1.out.2.2, zeroC_size, HC.out.1, recC_size HA.out.1.row.1]) (by rw [HC.out.1]; exact recC_one _ (by rw [HX.out.2.2.1]; rfl)) ?_
        obtain ⟨W7, hW7⟩ : ∃ W, W = wC.setRow zb C := ⟨_, rfl⟩; have HE := Lib.hid (HF.out W7 hW7); rw [← hW7]; clear hW7; go_wp2_with (fail); refine bodyPost_ret (v := .tuple #[.agg C, .int .i64 0]) ?_ rfl HE.out.1; exact results_cell_tmp (p := 2) (s := 3) rfl _ _ zb 25 C (0, 0) _ rfl HE.out.2 Tryd.underlying25 rfl HCs.out
      · have hd1 : (dn != 0) = true := by simpa using hd
        have hread := read_dn HX.out.1 (by have h := HC.out.2; rw [h.1] at h; exact h.2.symm) hdn.symm hd
        clear hdn hd; go_wp2_with (fail); refine hEn.mono ?_; clear hEn; rintro e wC ⟨rfl, rfl⟩; dsimp only; have HA1 := Lib.hid HA.out.1; have HRes := Lib.hid hread; clear hread
        have HF : Hid (∀ W7, W7 = wC.setRow zb ZR → P (.returned (.tuple #[.agg ZR, .int .i64 dn])) W7 ∧ W7.heap[zb]? = some (.cells ZR 25 (0, 0))) := by
          refine Lib.hid fun W7 h7 => ?_
          refine ⟨?_, by rw [h7]; exact setRow_heap _ _ ZR _ _ _ HA1.out.zr⟩
          rw [H1.out.2.1, HRes.out, H1.out.2.2]
          refine ⟨none, 0, rfl, .inl rfl, by simp [zeroR, zeroH], ?_⟩
          rw [h7]
          exact HA1.out.below.trans ⟨rfl, rfl, rfl, by simp, fun k hk => setRow_other _ _ _ _ (by have := HA1.out.at_.1; omega)⟩
        go_upto_region 22 with (fail)
        refine wp_region_lit ?_
        refine wpList_built_at rfl 25 _ rfl (cs := ZR) (by rw [H1.out.2.2]; simpa using zero_rec.2) ?_
        iterate 3 go_step
        refine wpList_store_row rfl _ _ _ rfl zb ZR rfl rfl 25 ZR HA1.out.zr (by rw [H1.out.2.2]; exact rec_size _ _ _ _ _ (by simp [zeroH])) rfl (by rw [H1.out.2.2]; exact recC_one _ rfl) ?_
        obtain ⟨W7, hW7⟩ : ∃ W, W = wC.setRow zb ZR := ⟨_, rfl⟩; have HE := Lib.hid (HF.out W7 hW7); rw [← hW7]; clear hW7; go_wp2_with (fail); refine bodyPost_ret (v := .tuple #[.agg ZR, .int .i64 dn]) ?_ rfl HE.out.1
        exact results_cell_tmp (p := 2) (s := 3) rfl _ _ zb 25 ZR (0, 0) _ rfl HE.out.2 Tryd.underlying25 rfl (by rw [H1.out.2.2]; exact rec_size _ _ _ _ _ (by simp [zeroH]))
    | false =>
      have hFl := rtFail_any wA b t2 11 HA.out.1.tape; go_wp2_with (fail); refine hFl.mono ?_; clear hFl; rintro e wB ⟨rfl, hT, hg⟩; have HB := Lib.hid (HA.out.1.tape_ hT hg); clear hT hg; have hEn := rtEnd_any wB b _ HB.out.tape
      have hread := read_bad HX.out.1 (by have h := HC.out.2; rw [h.1] at h; exact h.2.symm) HTe.out
      rw [fail_done HTe.out] at hEn; dsimp only; go_wp2_with (fail); refine hEn.mono ?_; clear hEn; rintro e wC ⟨rfl, rfl⟩; dsimp only; have HRes := Lib.hid hread; clear hread
      have HF : Hid (∀ W7, W7 = wC.setRow zb ZR → P (.returned (.tuple #[.agg ZR, .int .i64 11])) W7 ∧ W7.heap[zb]? = some (.cells ZR 25 (0, 0))) := by
        refine Lib.hid fun W7 h7 => ?_
        refine ⟨?_, by rw [h7]; exact setRow_heap _ _ ZR _ _ _ HB.out.zr⟩
        rw [H1.out.2.1, HRes.out, H1.out.2.2]
        refine ⟨none, 0, rfl, .inl rfl, by simp [zeroR, zeroH], ?_⟩
        rw [h7]
        exact HB.out.below.trans ⟨rfl, rfl, rfl, by simp, fun k hk => setRow_other _ _ _ _ (by have := HB.out.at_.1; omega)⟩
      go_upto_region 22 with (fail)
      refine wp_region_lit ?_
      refine wpList_built_at rfl 25 _ rfl (cs := ZR) (by rw [H1.out.2.2]; simpa using zero_rec.2) ?_
      iterate 3 go_step
      refine wpList_store_row rfl _ _ _ rfl zb ZR rfl rfl 25 ZR HB.out.zr (by rw [H1.out.2.2]; exact rec_size _ _ _ _ _ (by simp [zeroH])) rfl (by rw [H1.out.2.2]; exact recC_one _ rfl) ?_
      obtain ⟨W7, hW7⟩ : ∃ W, W = wC.setRow zb ZR := ⟨_, rfl⟩; have HE := Lib.hid (HF.out W7 hW7); rw [← hW7]; clear hW7; go_wp2_with (fail); refine bodyPost_ret (v := .tuple #[.agg ZR, .int .i64 11]) ?_ rfl HE.out.1
      exact results_cell_tmp (p := 2) (s := 3) rfl _ _ zb 25 ZR (0, 0) _ rfl HE.out.2 Tryd.underlying25 rfl (by rw [H1.out.2.2]; exact rec_size _ _ _ _ _ (by simp [zeroH]))
  · have hread := read_err hrec te; obtain ⟨-, ce, -, -⟩ := H5.out.tape.cells; have hEn := rtEnd_any w5 b _ H5.out.tape; rw [done_err te] at hEn; obtain ⟨dn, hdn⟩ : ∃ x, x = (t2).e := ⟨_, rfl⟩; rw [← hdn] at hread te ce hEn
    have hd1 : (dn != 0) = true := by simpa using te
    have hd0 : (dn == 0) = false := by simpa using te
    clear hdn te
    go_upto_region 18 with (fail)
    clear c0; go_wp2_with (fail); refine hEn.mono ?_; clear hEn ce hd0; rintro e wC ⟨rfl, rfl⟩; dsimp only; have HRes := Lib.hid hread; clear hread
    have HF : Hid (∀ W7, W7 = wC.setRow zb ZR → P (.returned (.tuple #[.agg ZR, .int .i64 dn])) W7 ∧ W7.heap[zb]? = some (.cells ZR 25 (0, 0))) := by
      refine Lib.hid fun W7 h7 => ?_
      refine ⟨?_, by rw [h7]; exact setRow_heap _ _ ZR _ _ _ H5.out.zr⟩
      rw [H1.out.2.1, HRes.out, H1.out.2.2]
      refine ⟨none, 0, rfl, .inl rfl, by simp [zeroR, zeroH], ?_⟩
      rw [h7]
      exact H5.out.below.trans ⟨rfl, rfl, rfl, by simp, fun k hk => setRow_other _ _ _ _ (by have := H5.out.at_.1; omega)⟩
    go_upto_region 22 with (fail)
    refine wp_region_lit ?_
    refine wpList_built_at rfl 25 _ rfl (cs := ZR) (by rw [H1.out.2.2]; simpa using zero_rec.2) ?_
    iterate 3 go_step
    refine wpList_store_row rfl _ _ _ rfl zb ZR rfl rfl 25 ZR H5.out.zr (by rw [H1.out.2.2]; exact rec_size _ _ _ _ _ (by simp [zeroH])) rfl (by rw [H1.out.2.2]; exact recC_one _ rfl) ?_
    obtain ⟨W7, hW7⟩ : ∃ W, W = wC.setRow zb ZR := ⟨_, rfl⟩; have HE := Lib.hid (HF.out W7 hW7); rw [← hW7]; clear hW7; go_wp2_with (fail); refine bodyPost_ret (v := .tuple #[.agg ZR, .int .i64 dn]) ?_ rfl HE.out.1
    exact results_cell_tmp (p := 2) (s := 3) rfl _ _ zb 25 ZR (0, 0) _ rfl HE.out.2 Tryd.underlying25 rfl (by rw [H1.out.2.2]; exact rec_size _ _ _ _ _ (by simp [zeroH]))
end Go.Proofs.YtdmnhgbdeifpbaaDoor
namespace Go.Proofs.YtdmnhgbdeifpbaaDoor
open Go Go.RowKit
theorem rdW_code : ∀ (n i acc : Nat) (l : List (BitVec 8)), (rdW n i acc l).1 = 0 ∨ (rdW n i acc l).1 = 10 ∨ (rdW n i acc l).1 = 11
  | 0, _, _, _ => .inr (.inr rfl)
  | _ + 1, _, _, [] => .inr (.inl rfl)
  | n + 1, i, acc, c :: r => by
    rw [rdW]
    split
    · exact .inr (.inr rfl)
    · split
      · exact .inl rfl
      · exact rdW_code n (i + 1) _ r
theorem word_code (s : List (BitVec 8)) : (TapeL.mk s 0).word.2.e = 0 ∨ ((TapeL.mk s 0).word.1 = 0 ∧ ((TapeL.mk s 0).word.2.e = 10 ∨ (TapeL.mk s 0).word.2.e = 11)) := by
  have h := rdW_code 10 0 0 s
  unfold TapeL.word
  rw [if_neg (fun h => h rfl)]
  split
  · exact .inl rfl
  · rename_i h0
    refine .inr ⟨rfl, ?_⟩
    have h0' : (rdW 10 0 0 s).1 ≠ 0 := h0
    show (TapeL.fail ⟨s, 0⟩ ((rdW 10 0 0 s).1 : Int)).e = 10 ∨ (TapeL.fail ⟨s, 0⟩ ((rdW 10 0 0 s).1 : Int)).e = 11
    rw [TapeL.fail, if_pos ⟨rfl, by omega⟩]
    show ((rdW 10 0 0 s).1 : Int) = 10 ∨ ((rdW 10 0 0 s).1 : Int) = 11
    omega
theorem num_code (s : List (BitVec 8)) : (take1 s).2.e = 0 ∨ ((take1 s).1 = 0 ∧ ((take1 s).2.e = 10 ∨ (take1 s).2.e = 11)) := by
  have h := word_code s
  unfold take1 TapeL.number
  split
  · refine .inr ⟨rfl, ?_⟩
    show ((TapeL.mk s 0).word.2.fail 11).e = 10 ∨ ((TapeL.mk s 0).word.2.fail 11).e = 11
    unfold TapeL.fail
    split
    · exact .inr rfl
    · rename_i h2
      rcases h with h | ⟨_, h⟩
      · exact absurd ⟨h, by decide⟩ h2
      · exact h
  · split
    · rename_i h1 h2
      omega
    · rcases h with h | ⟨h0, h⟩
      · exact .inl h
      · exact .inr ⟨by simp [h0], h⟩
theorem fixed_fail (t : TapeL) (n : Int) (h : t.e ≠ 0) : t.fixed n = ([], t) := by rw [TapeL.fixed, if_pos h]
def front (s : List (BitVec 8)) : List (BitVec 8) × TapeL := (TapeL.mk s 0).text 4096
theorem front_same (s : List (BitVec 8)) (h : ¬ 4096 < (take1 s).1) : front s = take3 s := by
  unfold front TapeL.text take3 take2
  rw [if_neg h]
  rw [if_neg (fun h2 => h h2.2)]
  rfl
theorem front_long (s : List (BitVec 8)) (h : 4096 < (take1 s).1) : front s = ([], ⟨[], 12⟩) ∧ (takeB s).e = 11 := by
  have e0 : (take1 s).2.e = 0 := by
    rcases num_code s with h1 | ⟨h1, _⟩
    · exact h1
    · omega
  have f12 : (take1 s).2.fail 12 = ⟨[], 12⟩ := by rw [TapeL.fail, if_pos ⟨e0, by decide⟩]
  have f11 : (take1 s).2.fail 11 = ⟨[], 11⟩ := by rw [TapeL.fail, if_pos ⟨e0, by decide⟩]
  constructor
  · unfold front TapeL.text
    rw [if_pos ⟨e0, h⟩]
    show ((take1 s).2.fail 12).fixed (take1 s).1 = _
    rw [f12]
    exact fixed_fail _ _ (by decide)
  · have h3 : take3 s = ([], ⟨[], 11⟩) := by
      unfold take3 take2
      rw [if_pos h, f11]
      exact fixed_fail _ _ (by decide)
    have h4 : take4 s = ([], ⟨[], 11⟩) := by
      unfold take4
      rw [h3]
      exact fixed_fail _ _ (by decide)
    show (take5 s).2.e = 11
    unfold take5
    rw [h4]
    rw [fixed_fail _ _ (show (TapeL.mk [] 11).e ≠ 0 by decide)]
theorem fixed_code (t : TapeL) (n : Int) (h : t.e = 0 ∨ t.e = 10 ∨ t.e = 11) (hn : 0 ≤ n) : (t.fixed n).2.e = 0 ∨ (t.fixed n).2.e = 10 ∨ (t.fixed n).2.e = 11 := by
  unfold TapeL.fixed
  split
  · exact h
  · rename_i h0
    have h0' : t.e = 0 := by simpa using h0
    rw [if_neg (by omega)]
    split
    · refine .inr (.inl ?_)
      show (t.fail 10).e = 10
      rw [TapeL.fail, if_pos ⟨h0', by decide⟩]
    · exact h
theorem take1_pos (s : List (BitVec 8)) : 0 ≤ (take1 s).1 := by
  unfold take1 TapeL.number
  split
  · exact Int.le_refl _
  · split
    · exact Int.le_refl _
    · exact Int.natCast_nonneg _
def frontE (s : List (BitVec 8)) : TapeL := ((front s).2.fixed 32).2
theorem frontE_code (s : List (BitVec 8)) : frontE s = ⟨[], 12⟩ ∧ (takeB s).e = 11 ∨ (front s = take3 s ∧ (front s).2.fixed 32 = take4 s ∧ (frontE s).e ≠ 12) := by
  by_cases h : 4096 < (take1 s).1
  · obtain ⟨h1, h2⟩ := front_long s h
    refine .inl ⟨?_, h2⟩
    unfold frontE
    rw [h1, fixed_fail _ _ (by decide)]
  · have h1 := front_same s h
    refine .inr ⟨h1, by rw [h1]; rfl, ?_⟩
    have h2 : (take2 s).e = 0 ∨ (take2 s).e = 10 ∨ (take2 s).e = 11 := by
      unfold take2
      rw [if_neg h]
      rcases num_code s with h | ⟨_, h⟩
      · exact .inl h
      · exact .inr h
    have h3 : (take3 s).2.e = 0 ∨ (take3 s).2.e = 10 ∨ (take3 s).2.e = 11 := fixed_code _ _ h2 (take1_pos s)
    have h4 := fixed_code (take3 s).2 32 h3 (by decide)
    unfold frontE
    rw [h1]
    omega
theorem take_err (s : List (BitVec 8)) (h : (take4 s).2.e ≠ 0) : (takeB s).e = (take4 s).2.e := by
  show (take5 s).2.e = _
  unfold take5
  rw [fixed_fail _ _ h]
theorem take_short (s : List (BitVec 8)) (h : (take4 s).2.e = 0) (hl : (take4 s).2.s.length < noughtN (s.length - (take4 s).2.s.length)) : (takeB s).e = 10 := by
  show (take5 s).2.e = _
  unfold take5 TapeL.fixed
  rw [if_neg (by simp [h]), if_neg (by omega), if_pos (by omega)]
  show ((take4 s).2.fail 10).e = 10
  rw [TapeL.fail, if_pos ⟨h, by decide⟩]
theorem take_whole (s : List (BitVec 8)) (h : (take4 s).2.e = 0) (hl : noughtN (s.length - (take4 s).2.s.length) ≤ (take4 s).2.s.length) :
    (takeB s).e = 0 ∧ (takeB s).behind = (take4 s).2.s.take (noughtN (s.length - (take4 s).2.s.length)) ∧ (takeB s).blocks = (s.length - (take4 s).2.s.length + noughtN (s.length - (take4 s).2.s.length)) / 128 := by
  have h5 : take5 s = ((take4 s).2.s.take (noughtN (s.length - (take4 s).2.s.length)), ⟨(take4 s).2.s.drop (noughtN (s.length - (take4 s).2.s.length)), (take4 s).2.e⟩) := by
    unfold take5 TapeL.fixed
    rw [if_neg (by simp [h]), if_neg (by omega), if_neg (by omega)]
    rfl
  refine ⟨?_, ?_, ?_⟩
  · show (take5 s).2.e = 0
    rw [h5]
    exact h
  · show (take5 s).1 = _
    rw [h5]
  · show (s.length - (take4 s).2.s.length + (take5 s).1.length) / 128 = _
    rw [h5, List.length_take_of_le hl]
def noughts (l : List (BitVec 8)) (i : Nat) : Bool := !((l.take i).any fun x => x != 0)
theorem noughts_next (l : List (BitVec 8)) (i : Nat) (c : BitVec 8) (r : List (BitVec 8)) (h : l.drop i = c :: r) : noughts l (i + 1) = (noughts l i && c == 0) ∧ l.drop (i + 1) = r ∧ i + 1 ≤ l.length := by
  have hlt : i < l.length := by
    rcases Nat.lt_or_ge i l.length with h1 | h1
    · exact h1
    · rw [List.drop_of_length_le h1] at h; cases h
  have hc : l[i] = c := by
    have h2 := List.drop_eq_getElem_cons hlt
    rw [h] at h2
    exact (List.cons.inj h2).1.symm
  have hr : l.drop (i + 1) = r := by
    have h2 := List.drop_eq_getElem_cons hlt
    rw [h] at h2
    exact (List.cons.inj h2).2.symm
  refine ⟨?_, hr, hlt⟩
  unfold noughts
  rw [List.take_add_one, List.getElem?_eq_getElem hlt, hc]
  simp only [Option.toList_some, List.any_append, List.any_cons, List.any_nil, Bool.or_false, Bool.not_or]
  congr 1
  cases hcc : c == 0 <;> simp_all
end Go.Proofs.YtdmnhgbdeifpbaaDoor
