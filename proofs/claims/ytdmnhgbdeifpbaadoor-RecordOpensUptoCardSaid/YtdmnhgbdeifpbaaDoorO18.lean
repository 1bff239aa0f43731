/-
  Part 18 of 42 of what the proof leans on.
-/
import Derived.Test.YtdmnhgbdeifpbaaDoorO16
import Derived.Test.YtdmnhgbdeifpbaaDoorO17
namespace Go.Proofs.YtdmnhgbdeifpbaaDoor
open Go Go.RowKit
def ShaOk (w : World) : Prop := Tables w ∧ 0 < w.heap.size ∧ 1 < w.heap.size
theorem ShaOk.below {w w' : World} (h : ShaOk w) (hB : Below w.heap.size w w') : ShaOk w' := ⟨h.1.below hB, Nat.lt_of_lt_of_le h.2.1 hB.size, Nat.lt_of_lt_of_le h.2.2 hB.size⟩
theorem info_sl : ∃ i, Tryd.prog.info? 26 = some i ∧ i.zero = some (.slice none 0 0) ∧ i.size = 1 := by
  have h : (Tryd.prog.info? 26).map (fun i => (i.zero, i.size)) = some (some (.slice none 0 0), 1) := by kernel_rfl
  cases hi : Tryd.prog.info? 26 with
  | none => rw [hi] at h; cases h
  | some i =>
    rw [hi] at h; simp only [Option.map_some, Option.some.injEq, Prod.mk.injEq] at h; exact ⟨i, rfl, h.1, h.2⟩
theorem wp_parts2 {o : Oper} {a : Act} {w : World} {K : Act → World → Prop} {Q : Exit → Act → World → Prop} (y1 y2 : Operand) (ho : o.op = .buildSlice 104 2 #[(0, y1), (1, y2)]) (p1 p2 : Part) (h1 : a.eval y1 = p1.val) (h2 : a.eval y2 = p2.val)
    (h : K (a.put o.dst (.slice (some ⟨w.heap.size, 0, none⟩) 2 2)) (w.alloc (.cells #[p1.val, p2.val] 26))) : o.wp Tryd.prog a w K Q := by
  have hF : Instr.fill (fun i => some (i * 1, 1)) ((Array.range (2 * 1)).map ((Value.slice none 0 0).cells[· % (Value.slice none 0 0).cells.size]!)) [(0, p1.val), (1, p2.val)] = some #[p1.val, p2.val] := by kernel_rfl
  obtain ⟨i, hi, hz0, hz1⟩ := info_sl
  refine wp_buildSlice 104 26 2 _ ho #[p1.val, p2.val] i _ Tryd.underlying104 hi hz0 (by rw [hz1]; decide) (by rw [hz1]; decide) ?_ h
  rw [hz1]; simp only [List.map_toArray, List.map_cons, List.map_nil, h1, h2]; exact hF
theorem wpList_parts3 {ops : Array Oper} {rest : List Oper} {o : Oper} {a : Act} {w : World} {Q : Exit → Act → World → Prop} (hg : o.guard = none) (y1 y2 y3 : Operand) (ho : o.op = .buildSlice 104 3 #[(0, y1), (1, y2), (2, y3)]) (p1 p2 p3 : Part) (h1 : a.eval y1 = p1.val) (h2 : a.eval y2 = p2.val) (h3 : a.eval y3 = p3.val)
    (h : wpList Tryd.prog ops Q rest (a.put o.dst (.slice (some ⟨w.heap.size, 0, none⟩) 3 3)) (w.alloc (.cells #[p1.val, p2.val, p3.val] 26))) : wpList Tryd.prog ops Q (o :: rest) a w := by
  have hF : Instr.fill (fun i => some (i * 1, 1)) ((Array.range (3 * 1)).map ((Value.slice none 0 0).cells[· % (Value.slice none 0 0).cells.size]!)) [(0, p1.val), (1, p2.val), (2, p3.val)] = some #[p1.val, p2.val, p3.val] := by kernel_rfl
  obtain ⟨i, hi, hz0, hz1⟩ := info_sl
  refine wpList_buildSlice hg 104 26 3 _ ho #[p1.val, p2.val, p3.val] i _ Tryd.underlying104 hi hz0 (by rw [hz1]; decide) (by rw [hz1]; decide) ?_ h
  rw [hz1]; simp only [List.map_toArray, List.map_cons, List.map_nil, h1, h2, h3]; exact hF
theorem parts_two {w : World} {g : Nat} {e : TypeId} {fr : Nat × Nat} (p1 p2 : Part) (hg : w.heap[g]? = some (.cells #[p1.val, p2.val] e fr)) : PartsAt w (some ⟨g, 0, none⟩) [p1, p2] := by
  refine .inr ⟨g, 0, rfl, fun i q hq => ?_⟩; rw [cell_of_row _ _ _ _ _ _ hg, Nat.zero_add]
  match i, hq with
  | 0, hq => cases hq; rfl
  | 1, hq => cases hq; rfl
theorem parts_three {w : World} {g : Nat} {e : TypeId} {fr : Nat × Nat} (p1 p2 p3 : Part) (hg : w.heap[g]? = some (.cells #[p1.val, p2.val, p3.val] e fr)) : PartsAt w (some ⟨g, 0, none⟩) [p1, p2, p3] := by
  refine .inr ⟨g, 0, rfl, fun i q hq => ?_⟩; rw [cell_of_row _ _ _ _ _ _ hg, Nat.zero_add]
  match i, hq with
  | 0, hq => cases hq; rfl
  | 1, hq => cases hq; rfl
  | 2, hq => cases hq; rfl
theorem headL_length (a b : List (BitVec 8)) : (headL a b).length = 32 := shaL_length _
theorem headL_is (a b : List (BitVec 8)) : ShaA (2 :: (a ++ b)) = byA (headL a b) := by rw [ShaA_is]; rfl
set_option maxRecDepth 100000 in
set_option maxHeartbeats 2000000 in
theorem rhead_any (w : World) (ahead body : List (BitVec 8)) (ba : Option Addr) (bc : Nat) (ha : ahead.length = 32) (hS : SrcP w ba body.length body) (hc : body.length ≤ bc) (hm : bc ≤ 9223372036854775807) (hl : body.length ≤ 1000000) (hW : ShaOk w) :
    Calls Tryd.prog 18 #[.agg (byA ahead), .slice ba body.length bc] w (Below0 w (.agg (byA (headL ahead body)))) := by
  obtain ⟨P, hP⟩ : ∃ P : Ending → World → Prop, P = Below0 w (.agg (byA (headL ahead body))) := ⟨_, rfl⟩; rw [← hP]; obtain ⟨ZT, hZT⟩ : ∃ z, z = byA zeroH := ⟨_, rfl⟩; have hz := zero_root.1; rw [← hZT] at hz; obtain ⟨AT, hAT⟩ : ∃ z, z = byA ahead := ⟨_, rfl⟩; obtain ⟨N, hN⟩ : ∃ n, n = body.length := ⟨_, rfl⟩; rw [← hAT, ← hN]; obtain ⟨w2, hw2⟩ : ∃ W, W = (w.alloc (.cells AT 23)).alloc (.cells ZT 23) := ⟨_, rfl⟩; obtain ⟨ab, hab⟩ : ∃ b, b = w.heap.size := ⟨_, rfl⟩; obtain ⟨zb, hzb⟩ : ∃ b, b = w.heap.size + 1 := ⟨_, rfl⟩
  have hs1 : (w.alloc (.cells AT 23)).heap.size = w.heap.size + 1 := by simp
  have hB2 : Below w.heap.size w w2 := by rw [hw2]; exact ((Below.refl _ w).alloc (Nat.le_refl _) _).alloc (by rw [hs1]; omega) _
  have hra : w2.heap[ab]? = some (.cells (byA ahead) 23 (0, 0)) := by
    rw [hw2, hab, heap_alloc_old _ _ (by rw [hs1]; omega), ← hAT]
    exact heap_alloc_new w _
  have hrz : w2.heap[zb]? = some (.cells ZT 23 (0, 0)) := by
    rw [hw2, hzb, ← hs1]; exact heap_alloc_new _ _
  have H2 := Lib.hid (And.intro hB2 (And.intro hra (And.intro hrz (And.intro hW (And.intro hS (And.intro hc (And.intro hm (And.intro hl (And.intro ha (And.intro hN (And.intro hP (And.intro hab (And.intro hzb hZT))))))))))))); clear hB2 hra hrz hW hS hc hm hl ha hP hAT hZT
  go_enter Tryd.func18, Tryd.ntmps18
  go_upto_region 1 with (fail)
  rw [← hw2]
  try rw [hs1]
  rw [← hzb, ← hab]; clear hw2 hs1 hab hzb hN hz; refine wp_region_lit ?_; refine run_slice1_B rfl (.const (.int .u8 2)) rfl 2 rfl ?_; obtain ⟨w3, hw3⟩ : ∃ W, W = w2.alloc (.cells #[B 2] 5) := ⟨_, rfl⟩
  have H3 : Hid (Below w.heap.size w w3 ∧ Below w2.heap.size w2 w3 ∧ w3.heap[w2.heap.size]? = some (.cells #[B 2] 5 (0, 0))) := by
    rw [hw3]; have k := (Below.refl _ w2).alloc (Nat.le_refl _) (.cells #[B 2] 5); exact Lib.hid ⟨H2.out.1.trans (k.mono H2.out.1.size), k, heap_alloc_new w2 _⟩
  rw [← hw3]; clear hw3; obtain ⟨tb, htb⟩ : ∃ b, b = w2.heap.size := ⟨_, rfl⟩; have HT := Lib.hid htb; rw [← htb]; clear htb
  iterate 6 go_step
  refine wpList_parts3 rfl (.tmp 5) (.tmp 6) (.tmp 7) rfl ⟨some ⟨tb, 0, none⟩, 1, [2]⟩ ⟨some ⟨ab, 0, none⟩, 32, ahead⟩ ⟨ba, bc, body⟩ rfl (by rw [Part.val, H2.out.2.2.2.2.2.2.2.2.1]; rfl) (by rw [Part.val, ← H2.out.2.2.2.2.2.2.2.2.2.1]; rfl) ?_
  obtain ⟨w4, hw4⟩ : ∃ W, W = w3.alloc (.cells #[(Part.mk (some ⟨tb, 0, none⟩) 1 [2]).val, (Part.mk (some ⟨ab, 0, none⟩) 32 ahead).val, (Part.mk ba bc body).val] 26) := ⟨_, rfl⟩
  have H4 : Hid (Below w.heap.size w w4 ∧ Below w2.heap.size w2 w4 ∧ Calls Tryd.prog 50 #[.slice (some ⟨w3.heap.size, 0, none⟩) 3 3] w4 (Below0 w4 (.agg (byA (headL ahead body))))) := by
    obtain ⟨h1, h2, h3⟩ := H3.out; obtain ⟨b2, ra, rz, hW, hS, hc, hm, hl, ha, hN, -, hab, hzb, -⟩ := H2.out
    have hB4 : Below w3.heap.size w3 w4 := by rw [hw4]; exact (Below.refl _ w3).alloc (Nat.le_refl _) _
    have hBw := h1.trans (hB4.mono h1.size); have hB24 := h2.trans (hB4.mono h2.size)
    have hr4 : w4.heap[w3.heap.size]? = some (.cells #[(Part.mk (some ⟨tb, 0, none⟩) 1 [2]).val, (Part.mk (some ⟨ab, 0, none⟩) 32 ahead).val, (Part.mk ba bc body).val] 26 (0, 0)) := by rw [hw4]; exact heap_alloc_new w3 _
    have hW4 := hW.below hBw
    have hrt : w4.heap[tb]? = some (.cells (([2] : List (BitVec 8)).map B).toArray 5 (0, 0)) := by
      rw [HT.out]; exact (hB4.block _ (Array.getElem?_eq_some_iff.1 h3).1).trans h3
    have hra : w4.heap[ab]? = some (.cells (ahead.map B).toArray 23 (0, 0)) := (hB24.block _ (Array.getElem?_eq_some_iff.1 ra).1).trans ra
    have h := sumF_any w4 (some ⟨w3.heap.size, 0, none⟩) 3 [⟨some ⟨tb, 0, none⟩, 1, [2]⟩, ⟨some ⟨ab, 0, none⟩, 32, ahead⟩, ⟨ba, bc, body⟩] (parts_three _ _ _ hr4) (fun p hp => by
      simp only [List.mem_cons, List.not_mem_nil, or_false] at hp
      rcases hp with rfl | rfl | rfl
      · exact ⟨Nat.le_refl _, show 1 ≤ 9223372036854775807 by decide, src_row hrt⟩
      · exact ⟨show ahead.length ≤ 32 by omega, show 32 ≤ 9223372036854775807 by decide, src_row hra⟩
      · exact ⟨hc, hm, hS.below hBw⟩) hW4.1 hW4.2 (by simp [flat, ha]; omega) (show 3 ≤ 9223372036854775807 by decide)
    rw [show flat [Part.mk (some ⟨tb, 0, none⟩) 1 [2], ⟨some ⟨ab, 0, none⟩, 32, ahead⟩, ⟨ba, bc, body⟩] = 2 :: (ahead ++ body) by simp [flat], headL_is] at h
    exact Lib.hid ⟨hBw, hB24, h⟩
  rw [← hw4]; clear hw4
  iterate 2 go_step
  refine H4.out.2.2.mono ?_; rintro e w5 ⟨rfl, hB5⟩
  have H5 : Hid (Below w.heap.size w w5 ∧ w5.heap[zb]? = some (.cells ZT 23 (0, 0))) := by
    obtain ⟨b2, ra, rz, -⟩ := H2.out; have hB := H4.out.2.1.trans (hB5.mono H4.out.2.1.size); exact Lib.hid ⟨H4.out.1.trans (hB5.mono H4.out.1.size), (hB.block _ (Array.getElem?_eq_some_iff.1 rz).1).trans rz⟩
  clear hB5; dsimp only; go_step
  refine wpList_store_row rfl _ _ _ rfl zb (byA (headL ahead body)) rfl rfl 23 ZT H5.out.2 (arr_size _ (headL_length _ _)) (by rw [H2.out.2.2.2.2.2.2.2.2.2.2.2.2.2, byA_size, byA_size, headL_length]; rfl) (byA_one _) ?_
  go_wp2_with (fail); refine bodyPost_ret (v := .agg (byA (headL ahead body))) (results_cell_row rfl _ _ zb 23 (byA (headL ahead body)) (0, 0) _ rfl (setRow_heap _ _ ZT _ _ _ H5.out.2) Tryd.underlying23 rfl (arr_size _ (headL_length _ _))) rfl ?_; rw [H2.out.2.2.2.2.2.2.2.2.2.2.1]
  refine ⟨rfl, H5.out.1.trans ⟨rfl, rfl, rfl, by simp, fun k hk => setRow_other _ _ _ _ ?_⟩⟩
  have := H2.out.2.2.2.2.2.2.2.2.2.2.2.2.1; omega
end Go.Proofs.YtdmnhgbdeifpbaaDoor
namespace Go.Proofs.YtdmnhgbdeifpbaaDoor
open Go Go.RowKit
theorem listL_len (l : List ItemL) : (listL l).length ≤ 10 + l.length * 1050 := by
  have h1 := wordL_length (countL l); have h2 := bytesL_len l; have e : listL l = wordL (countL l) ++ bytesL l := rfl; rw [e, List.length_append]; omega
theorem right_parts {x : RecL} (h : x.rightB = true) : (1 ≤ x.seq ∧ x.seq ≤ 1099511627776) ∧ (x.kind = 1 ∧ x.area = 0 ∧ x.root = zeroH ∧ x.items.length ≤ 64 ∧ x.items.all (·.rightB) = true ∨ x.kind = 2 ∧ 0 ≤ x.area ∧ x.area ≤ 1 ∧ x.items = []) := by
  unfold RecL.rightB at h; rw [Bool.and_eq_true, decide_eq_true_eq] at h; refine ⟨h.1, ?_⟩; have h2 := h.2
  split at h2
  · rename_i hk
    simp only [Bool.and_eq_true, decide_eq_true_eq] at h2; exact .inl ⟨hk, h2.1, h2.2.1, h2.2.2.1, h2.2.2.2⟩
  · simp only [Bool.and_eq_true, decide_eq_true_eq] at h2; exact .inr ⟨h2.1, h2.2.1.1, h2.2.1.2, List.length_eq_zero_iff.1 h2.2.2⟩
set_option maxRecDepth 100000 in
set_option maxHeartbeats 4000000 in
theorem rbody_any (w : World) (x : RecL) (ia : Option Addr) (ic : Nat) (hI : ItemsAt w ia x.items) (hk : ∀ y ∈ x.items, y.key.length ≤ 1000000) (hl : x.items.length ≤ 1000000) (hr : x.root.length = 32) :
    Calls Tryd.prog 14 #[.agg (recC x.kind x.seq (.slice ia x.items.length ic) x.area x.root)] w (BytesEnd w x.told) := by
  obtain ⟨P, hP⟩ : ∃ P : Ending → World → Prop, P = BytesEnd w x.told := ⟨_, rfl⟩; rw [← hP]; obtain ⟨C, hC⟩ : ∃ z, z = recC x.kind x.seq (.slice ia x.items.length ic) x.area x.root := ⟨_, rfl⟩; obtain ⟨w1, hw1⟩ : ∃ W, W = w.alloc (.cells C 25) := ⟨_, rfl⟩; obtain ⟨rb, hb⟩ : ∃ b, b = w.heap.size := ⟨_, rfl⟩
  have hB1 : Below w.heap.size w w1 := by rw [hw1]; exact (Below.refl _ w).alloc (Nat.le_refl _) _
  have hrow : RowR w1 rb x.kind x.seq (.slice ia x.items.length ic) x.area x.root := ⟨hr, by rw [hw1, hb, hC]; exact heap_alloc_new w _⟩
  have HR := Lib.hid (rright_any w1 x ia ic (hI.below hB1) hk hl hr); rw [← hC] at HR ⊢; have H1 := Lib.hid (And.intro hB1 (And.intro hrow (And.intro hI (And.intro hk (And.intro hl (And.intro hr (And.intro hC (And.intro hP hb)))))))); clear hB1 hrow hI hk hl hr hC hP
  go_enter Tryd.func14, Tryd.ntmps14
  go_upto_region 1 with (fail)
  rw [← hw1, ← hb]; clear hw1 hb; refine wp_region_lit ?_
  refine wpList_load_at rfl 25 _ rfl ⟨rb, 0, none⟩ rfl (.agg C) (by rw [H1.out.2.2.2.2.2.2.1]; exact rec_load H1.out.2.1) ?_
  iterate 2 go_step
  refine HR.out.mono ?_; rintro e w2 ⟨rfl, hB2⟩; have H2 := Lib.hid hB2; clear hB2 HR; dsimp only
  by_cases hrt : x.rightB = true
  · rw [hrt]; have HX := Lib.hid hrt; obtain ⟨hs, hcase⟩ := right_parts hrt; obtain ⟨pb, hpb⟩ : ∃ b, b = w2.heap.size := ⟨_, rfl⟩; obtain ⟨W0, hW0⟩ : ∃ W, W = w2.alloc (.cells #[.slice none 0 0] 76) := ⟨_, rfl⟩
    have hP0 : PenAt (fun k => k < pb) W0 pb [] := by rw [hW0, hpb]; exact PenAt.new _ w2
    have hB20 : Below pb w2 W0 := by rw [hW0, hpb]; exact (Below.refl _ w2).alloc (Nat.le_refl _) _
    have HD : Hid (∀ w', Below pb w2 w' → D5 w' rb x.kind x.seq (.slice ia x.items.length ic) x.area x.root ∧ ItemsAt w' ia x.items ∧ Below w.heap.size w w' ∧ pb ≤ w'.heap.size ∧ w'.heap[rb]? = some (.cells C 25 (0, 0))) := by
      refine Lib.hid (fun w' hB => ?_); rw [hpb] at hB; have hBw := H1.out.1.trans (H2.out.mono H1.out.1.size); have hrow := (H1.out.2.1.below H2.out).below hB
      exact ⟨hrow.d5, (H1.out.2.2.1.below hBw).below hB, hBw.trans (hB.mono hBw.size), by rw [hpb]; exact hB.size, by rw [H1.out.2.2.2.2.2.2.1]; exact hrow.2⟩
    have HPB : Hid (∀ W w', Below pb w2 W → PKept (fun k => k < pb) pb W w' → Below pb w2 w') := by
      refine Lib.hid (fun W w' hB hK => hB.trans (hK.below (fun _ h => h) (Nat.le_refl _) ?_)); rw [hpb]; exact hB.size
    obtain ⟨sn, hsn⟩ : ∃ n : Nat, x.seq = (n : Int) := ⟨x.seq.toNat, by omega⟩
    have hsl : sn ≤ 1099511627776 := by omega
    have H0 := Lib.hid (And.intro hP0 hB20); clear hP0 hB20 hs hrt; have HPB2 := Lib.hid hpb; obtain ⟨iv, hiv⟩ : ∃ v, v = Value.slice ia x.items.length ic := ⟨_, rfl⟩
    rcases hcase with ⟨hk1, ha1, hr1, hn1, hal1⟩ | ⟨hk2, ha2, ha3, hi2⟩
    · have HB : Hid (x.told = ((([] ++ wordL 1) ++ wordL sn) ++ listL x.items)) := by
        refine Lib.hid ?_; unfold RecL.told RecL.body; rw [if_pos HX.out, if_pos hk1, hk1, hsn]; simp
      rw [hk1, hsn] at HD; have HI64 := Lib.hid hn1; clear hk1 ha1 hr1 hn1 hal1
      go_upto_region 4 with (fail)
      rw [← hW0, ← hpb]; clear hW0 hpb; obtain ⟨c0, c1, c2, -⟩ := (HD.out W0 H0.out.2).1
      have HN1 : Hid (Calls Tryd.prog 42 #[.pointer (some ⟨pb, 0, none⟩), .int .i64 1] W0 (PenEnd (fun k => k < pb) pb W0 ([] ++ wordL 1) (.bool true))) := Lib.hid (pnumber_any W0 (fun k => k < pb) pb 1 [] (by decide) H0.out.1 (fun k h => Nat.lt_of_lt_of_le h (HD.out W0 H0.out.2).2.2.2.1) (by decide))
      go_wp2_with (fail); refine HN1.out.mono ?_; rintro e W1 ⟨rfl, hP1, hK1⟩; have HW1 := Lib.hid (And.intro hP1 (HPB.out W0 W1 H0.out.2 hK1)); clear hP1 hK1 c0 c1 c2 HN1; obtain ⟨c0, c1, c2, -⟩ := (HD.out W1 HW1.out.2).1
      have HN2 := Lib.hid (pnumber_any W1 (fun k => k < pb) pb sn _ (by omega) HW1.out.1 (fun k h => Nat.lt_of_lt_of_le h (HD.out W1 HW1.out.2).2.2.2.1) (by have := wordL_length 1; simp; omega))
      dsimp only; go_wp2_with (fail); refine HN2.out.mono ?_; rintro e W2 ⟨rfl, hP2, hK2⟩; have HW2 := Lib.hid (And.intro hP2 (HPB.out W1 W2 HW1.out.2 hK2)); clear hP2 hK2 c0 c1 c2 HN2; obtain ⟨c0, c1, c2, -⟩ := (HD.out W2 HW2.out.2).1; have HE := Lib.hid (ebytes_any W2 ia ic x.items (HD.out W2 HW2.out.2).2.1 H1.out.2.2.2.1 H1.out.2.2.2.2.1); dsimp only; go_wp2_with (fail); refine HE.out.mono ?_; rintro e W3 ⟨ba, bc, rfl, h1, h2, h3, h4, h5⟩; have hB3 : Below pb w2 W3 := HW2.out.2.trans (h5.mono (HD.out W2 HW2.out.2).2.2.2.1)
      have HN3 := Lib.hid (pfixed_any W3 (fun k => k < pb) pb _ bc ba _ _ rfl h4.srcP (HW2.out.1.below h5) (fun k h => Nat.lt_of_lt_of_le h (HD.out W3 hB3).2.2.2.1) (by have := wordL_length 1; have := wordL_length sn; have := listL_len x.items; have := HI64.out; simp; omega))
      have HW3 := Lib.hid hB3; clear h1 h2 h3 h4 h5 hB3 c0 c1 c2 HE; dsimp only; go_wp2_with (fail); refine HN3.out.mono ?_; rintro e W4 ⟨rfl, hP4, hK4⟩; have HB4 := Lib.hid (HPB.out W3 W4 HW3.out hK4)
      have HN4 := Lib.hid (pbytes_any W4 (fun k => k < pb) pb _ hP4 (by have := wordL_length 1; have := wordL_length sn; have := listL_len x.items; have := HI64.out; simp; omega))
      clear hP4 hK4 HN3; dsimp only; go_wp2_with (fail); refine HN4.out.mono ?_; rintro e W5 ⟨a5, c5, rfl, h1, h2, h3, h4, h5⟩; have hBw := (HD.out W4 HB4.out).2.2.1
      have HF : Hid (P (.returned (.slice a5 (x.told).length c5)) W5) := by
        rw [H1.out.2.2.2.2.2.2.2.1]; rw [← HB.out] at h1 h4; exact Lib.hid ⟨a5, c5, rfl, h1, h2, h3, h4.mono hBw.size, hBw.trans (h5.mono hBw.size)⟩
      rw [HB.out] at HF; clear h1 h2 h3 h4 h5 hBw HN4; dsimp only; go_wp2_with (fail); exact HF.out
    · have HB : Hid (x.told = (((([] ++ wordL 2) ++ wordL sn) ++ wordL x.area.toNat) ++ x.root)) := by
        refine Lib.hid ?_; unfold RecL.told RecL.body
        rw [if_pos HX.out, if_neg (by rw [hk2]; decide), hk2, hsn]
        simp
      obtain ⟨an, han⟩ : ∃ n : Nat, x.area = (n : Int) := ⟨x.area.toNat, by omega⟩
      rw [hk2, hsn, han] at HD
      rw [show x.area.toNat = an by omega] at HB
      have hal : an ≤ 1 := by omega
      clear hk2 ha2 ha3 hi2
      go_upto_region 4 with (fail)
      rw [← hW0, ← hpb]; clear hW0 hpb; obtain ⟨c0, c1, -, c3, -⟩ := (HD.out W0 H0.out.2).1
      have HN1 : Hid (Calls Tryd.prog 42 #[.pointer (some ⟨pb, 0, none⟩), .int .i64 2] W0 (PenEnd (fun k => k < pb) pb W0 ([] ++ wordL 2) (.bool true))) := Lib.hid (pnumber_any W0 (fun k => k < pb) pb 2 [] (by decide) H0.out.1 (fun k h => Nat.lt_of_lt_of_le h (HD.out W0 H0.out.2).2.2.2.1) (by decide))
      go_wp2_with (fail); refine HN1.out.mono ?_; rintro e W1 ⟨rfl, hP1, hK1⟩; have HW1 := Lib.hid (And.intro hP1 (HPB.out W0 W1 H0.out.2 hK1)); clear hP1 hK1 c0 c1 c3 HN1; obtain ⟨c0, c1, -, c3, -⟩ := (HD.out W1 HW1.out.2).1
      have HN2 := Lib.hid (pnumber_any W1 (fun k => k < pb) pb sn _ (by omega) HW1.out.1 (fun k h => Nat.lt_of_lt_of_le h (HD.out W1 HW1.out.2).2.2.2.1) (by have := wordL_length 2; simp; omega))
      dsimp only; go_wp2_with (fail); refine HN2.out.mono ?_; rintro e W2 ⟨rfl, hP2, hK2⟩; have HW2 := Lib.hid (And.intro hP2 (HPB.out W1 W2 HW1.out.2 hK2)); clear hP2 hK2 c0 c1 c3 HN2; obtain ⟨c0, c1, -, c3, -⟩ := (HD.out W2 HW2.out.2).1
      have HN3 := Lib.hid (pnumber_any W2 (fun k => k < pb) pb an _ (by omega) HW2.out.1 (fun k h => Nat.lt_of_lt_of_le h (HD.out W2 HW2.out.2).2.2.2.1) (by have := wordL_length 2; have := wordL_length sn; simp; omega))
      dsimp only; go_wp2_with (fail); refine HN3.out.mono ?_; rintro e W3 ⟨rfl, hP3, hK3⟩; have HW3 := Lib.hid (And.intro hP3 (HPB.out W2 W3 HW2.out.2 hK3)); clear hP3 hK3 c0 c1 c3 HN3
      have HN4 : Hid (Calls Tryd.prog 43 #[.pointer (some ⟨pb, 0, none⟩), .slice (some ⟨rb, 4, none⟩) 32 32] W3 (PenEnd (fun k => k < pb) pb W3 (((([] ++ wordL 2) ++ wordL sn) ++ wordL an) ++ x.root) (.tuple #[]))) := by
        have hrr := (HD.out W3 HW3.out.2).2.2.2.2
        refine Lib.hid (pfixed_any W3 (fun k => k < pb) pb 32 32 (some ⟨rb, 4, none⟩) _ x.root H1.out.2.2.2.2.2.1.symm ?_ HW3.out.1 (fun k h => Nat.lt_of_lt_of_le h (HD.out W3 HW3.out.2).2.2.2.1) (by have := wordL_length 2; have := wordL_length sn; have := wordL_length an; have := H1.out.2.2.2.2.2.1; simp; omega))
        refine .inr ⟨rb, 4, rfl, fun i hi => ?_⟩; rw [cell_of_row _ _ _ _ _ _ hrr, H1.out.2.2.2.2.2.2.1, recC_root]; exact byA_at _ _ hi
      dsimp only; go_wp2_with (fail); refine HN4.out.mono ?_; rintro e W4 ⟨rfl, hP4, hK4⟩; have HB4 := Lib.hid (HPB.out W3 W4 HW3.out.2 hK4)
      have HN5 := Lib.hid (pbytes_any W4 (fun k => k < pb) pb _ hP4 (by have := wordL_length 2; have := wordL_length sn; have := wordL_length an; have := H1.out.2.2.2.2.2.1; simp; omega))
      clear hP4 hK4 HN4; dsimp only; go_wp2_with (fail); refine HN5.out.mono ?_; rintro e W5 ⟨a5, c5, rfl, h1, h2, h3, h4, h5⟩; have hBw := (HD.out W4 HB4.out).2.2.1
      have HF : Hid (P (.returned (.slice a5 (x.told).length c5)) W5) := by
        rw [H1.out.2.2.2.2.2.2.2.1]; rw [← HB.out] at h1 h4; exact Lib.hid ⟨a5, c5, rfl, h1, h2, h3, h4.mono hBw.size, hBw.trans (h5.mono hBw.size)⟩
      rw [HB.out] at HF; clear h1 h2 h3 h4 h5 hBw HN5; dsimp only; go_wp2_with (fail); exact HF.out
  · rw [Bool.not_eq_true] at hrt; rw [hrt]
    have hF : P (.returned (.slice none 0 0)) w2 := by
      rw [H1.out.2.2.2.2.2.2.2.1]
      have : x.told = [] := by unfold RecL.told; rw [hrt]; rfl
      rw [this]
      exact ⟨none, 0, rfl, Nat.le_refl _, by decide, fun _ => rfl, .inl rfl, H1.out.1.trans (H2.out.mono H1.out.1.size)⟩
    have HF := Lib.hid hF; clear hF hrt; go_wp2_with (fail); exact HF.out
end Go.Proofs.YtdmnhgbdeifpbaaDoor
namespace Go.Proofs.YtdmnhgbdeifpbaaDoor
open Go Go.RowKit
theorem wordF_small : ∀ (n j w : Nat), w < 128 ^ (j + 1) → (wordF n w).length ≤ j + 1
  | 0, _, _, _ => Nat.zero_le _
  | n + 1, j, w, h => by
    rw [wordF]
    split
    · simp
    · rename_i h1
      match j, h with
      | 0, h => simp at h; omega
      | j + 1, h =>
        have := wordF_small n j (w / 128) (by
          rw [Nat.div_lt_iff_lt_mul (by decide)]
          rw [Nat.pow_succ] at h
          exact h)
        simp only [List.length_cons]; omega
theorem wordL_one {w : Nat} (h : w < 128) : (wordL w).length ≤ 1 := wordF_small 10 0 w (by simpa using h)
theorem wordL_six {w : Nat} (h : w < 4398046511104) : (wordL w).length ≤ 6 := wordF_small 10 5 w (by
  rw [show (128 : Nat) ^ (5 + 1) = 4398046511104 by decide]
  exact h)
theorem bytes_short {x : ItemL} (h : x.rightB = true) : x.bytes.length ≤ 30 := by
  obtain ⟨kind, key, time, value⟩ := x; simp only [ItemL.rightB, Bool.and_eq_true, decide_eq_true_eq] at h; obtain ⟨ht, h⟩ := h
  have w1 := wordL_one (w := 1) (by decide)
  have w2 := wordL_one (w := 2) (by decide)
  have w3 := wordL_six (w := time.toNat) (by omega)
  unfold ItemL.bytes; simp only
  split
  · rw [List.length_append]; unfold numberL; omega
  · rename_i hk
    rw [if_neg hk] at h; simp only [Bool.and_eq_true, decide_eq_true_eq, nameB] at h
    have w4 := wordL_one (w := key.length) (by omega)
    have w5 := wordL_six (w := zig value) (by unfold zig; split <;> omega)
    unfold numberL signedL textL; simp only [List.length_append]; omega
theorem bytesL_short : ∀ l : List ItemL, (bytesL l).length ≤ l.length * 30
  | [] => by simp [bytesL]
  | x :: l => by
    have h := bytesL_short l; unfold bytesL at h ⊢; simp only [List.filter_cons]
    split
    · rename_i hx
      have := bytes_short hx; simp only [List.flatMap_cons, List.length_append, List.length_cons]; omega
    · simp only [List.length_cons]; omega
theorem body_short {x : RecL} (h : x.rightB = true) (hr : x.root.length = 32) : x.body.length ≤ 2000 := by
  obtain ⟨h1, h2⟩ := right_parts h
  have w2 := wordL_six (w := x.seq.toNat) (by omega)
  unfold RecL.body; rw [List.length_append, List.length_append]
  rcases h2 with ⟨k1, k2, k3, k4, k5⟩ | ⟨k1, k2, k3, k4⟩
  · have w1 := wordL_one (w := x.kind.toNat) (by rw [k1]; decide)
    rw [if_pos k1]; have e : listL x.items = wordL (countL x.items) ++ bytesL x.items := rfl; have h3 := bytesL_short x.items; have h4 := countL_le x.items
    have w3 := wordL_one (w := countL x.items) (by omega)
    rw [e, List.length_append]; omega
  · have w1 := wordL_one (w := x.kind.toNat) (by rw [k1]; decide)
    have w3 := wordL_one (w := x.area.toNat) (by omega)
    rw [if_neg (by rw [k1]; decide), List.length_append]
    omega
theorem rectext_short {x : RecL} (h : x.rightB = true) (hr : x.root.length = 32) : (textL x.body).length ≤ 2010 := by
  have h1 := body_short h hr; have h2 := wordL_length x.body.length; unfold textL; rw [List.length_append]; omega
theorem noughtN_lt (n : Nat) : noughtN n < 128 := by unfold noughtN; omega
end Go.Proofs.YtdmnhgbdeifpbaaDoor
