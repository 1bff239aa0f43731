/-
  Part 36 of 42 of what the proof leans on.
-/
import Derived.Test.YtdmnhgbdeifpbaaDoorO18
import Derived.Test.YtdmnhgbdeifpbaaDoorO35
import Derived.Test.YtdmnhgbdeifpbaaDoorO29
import Derived.Test.YtdmnhgbdeifpbaaDoorO1
import Derived.Test.YtdmnhgbdeifpbaaDoorO12
namespace Go.Proofs.YtdmnhgbdeifpbaaDoor
open Go Go.RowKit
set_option maxRecDepth 100000 in
theorem rtext14_any (w : World) (r : List (BitVec 8)) (hr : r.length = 32) : Calls Tryd.prog 27 #[.agg (byA r)] w (Below0 w (Sv r)) := by
  obtain ⟨z, hz⟩ : ∃ z, z = byA r := ⟨_, rfl⟩; rw [← hz]
  have hcv : (convert 26 9 (.slice (some ⟨w.heap.size, 0, none⟩) 32 32)).run Tryd.prog (w.alloc (.cells z 23)) = .ok (Sv r) (w.alloc (.cells z 23)) := by
    have h := heap_alloc_new w (.cells z 23); rw [hz] at h ⊢; have := run_conv_str _ _ 32 _ (src_row h)
    rwa [hr] at this
  clear hz
  go_enter Tryd.func27, Tryd.ntmps27
  go_wp2_with (fail); go_ret; exact ⟨rfl, (Below.refl _ w).alloc (Nat.le_refl _) _⟩
set_option maxRecDepth 100000 in
set_option maxHeartbeats 1000000 in
theorem rrhead_any (w : World) (ahead body : List (BitVec 8)) (ha : ahead.length = 32) (hl : body.length ≤ 90000) :
    Calls Tryd.prog 19 #[.agg (byA ahead), Sv body] w (Below0 w (.agg (byA (headL ahead body)))) := by
  obtain ⟨P, hP⟩ : ∃ P : Ending → World → Prop, P = Below0 w (.agg (byA (headL ahead body))) := ⟨_, rfl⟩; rw [← hP]; obtain ⟨ZT, hZT⟩ : ∃ z, z = byA zeroH := ⟨_, rfl⟩; have hz := zero_root.1; rw [← hZT] at hz; obtain ⟨AT, hAT⟩ : ∃ z, z = byA ahead := ⟨_, rfl⟩; rw [← hAT]; obtain ⟨w2, hw2⟩ : ∃ W, W = (w.alloc (.cells AT 23)).alloc (.cells ZT 23) := ⟨_, rfl⟩; obtain ⟨ab, hab⟩ : ∃ b, b = w.heap.size := ⟨_, rfl⟩; obtain ⟨zb, hzb⟩ : ∃ b, b = w.heap.size + 1 := ⟨_, rfl⟩
  have hs1 : (w.alloc (.cells AT 23)).heap.size = w.heap.size + 1 := by simp
  have hB2 : Below w.heap.size w w2 := by rw [hw2]; exact ((Below.refl _ w).alloc (Nat.le_refl _) _).alloc (by rw [hs1]; omega) _
  have hra : w2.heap[ab]? = some (.cells (byA ahead) 23 (0, 0)) := by
    rw [hw2, hab, heap_alloc_old _ _ (by rw [hs1]; omega), ← hAT]
    exact heap_alloc_new w _
  have hrz : w2.heap[zb]? = some (.cells ZT 23 (0, 0)) := by
    rw [hw2, hzb, ← hs1]; exact heap_alloc_new _ _
  obtain ⟨s1, hs1'⟩ : ∃ s : List (BitVec 8), s = [2] ++ ahead := ⟨_, rfl⟩; obtain ⟨s2, hs2⟩ : ∃ s : List (BitVec 8), s = s1 ++ body := ⟨_, rfl⟩
  have HADD : Hid ((∀ w, (binOp .add 9 (.string ⟨#[2]⟩) (Sv ahead)).run Tryd.prog w = .ok (Sv s1) w) ∧ (∀ w, (binOp .add 9 (Sv s1) (Sv body)).run Tryd.prog w = .ok (Sv s2) w)) := by
    rw [hs2, hs1']
    exact ⟨fun w => run_add_Sv w [2] ahead (by simp; omega), fun w => run_add_Sv w _ _ (by simp; omega)⟩
  have HSm : Hid (∀ w', Calls Tryd.prog 51 #[Sv s2] w' (Below0 w' (.agg (byA (headL ahead body))))) := by
    refine Lib.hid fun w' => ?_
    have h := refSum_any w' s2 (by rw [hs2, hs1']; simp; omega)
    have e : s2 = 2 :: (ahead ++ body) := by rw [hs2, hs1']; rfl
    rw [e, headL_is, ← e] at h; exact h
  have HT := Lib.hid (rtext14_any w2 ahead ha); rw [← hAT] at HT hra; have H2 := Lib.hid (And.intro hB2 (And.intro hra (And.intro hrz (And.intro hP (And.intro hab (And.intro hzb (And.intro hZT (And.intro hAT ha)))))))); clear hB2 hra hrz hP hs1' hs2 hZT hl
  have hl2 : ∀ w', Below w2.heap.size w2 w' → (loadVar 23 ⟨ab, 0, none⟩).run Tryd.prog w' = .ok (.agg AT) w' := fun w' h => by
    have := run_loadVar_row w' ab 23 23 AT (0, 0) _ ((h.block _ (Array.getElem?_eq_some_iff.1 H2.out.2.1).1).trans H2.out.2.1) Tryd.underlying23 rfl (by rw [hAT]; exact arr_size _ ha)
    exact this
  have HL := Lib.hid hl2; clear hl2 hAT ha
  go_enter Tryd.func19, Tryd.ntmps19
  go_upto_region 1 with (fail)
  rw [← hw2]
  try rw [hs1]
  rw [← hzb, ← hab]; clear hw2 hs1 hab hzb hz; have ha1 := HADD.out.1; have ha2 := HADD.out.2; refine wp_region_lit ?_; refine wpList_load_at rfl 23 _ rfl ⟨ab, 0, none⟩ rfl (.agg AT) (HL.out w2 (Below.refl _ _)) ?_
  iterate 2 go_step
  refine HT.out.mono ?_; rintro e w3 ⟨rfl, hB3⟩; have H3 := Lib.hid hB3; clear hB3; dsimp only
  iterate 12 go_step
  refine (HSm.out w3).mono ?_; rintro e w5 ⟨rfl, hB5⟩
  have H5 : Hid (Below w.heap.size w w5 ∧ w5.heap[zb]? = some (.cells ZT 23 (0, 0))) := by
    obtain ⟨b2, ra, rz, -⟩ := H2.out; have hB := H3.out.trans (hB5.mono H3.out.size); exact Lib.hid ⟨b2.trans (hB.mono b2.size), (hB.block _ (Array.getElem?_eq_some_iff.1 rz).1).trans rz⟩
  clear hB5; dsimp only; go_step
  refine wpList_store_row rfl _ _ _ rfl zb (byA (headL ahead body)) rfl rfl 23 ZT H5.out.2 (arr_size _ (headL_length _ _)) (by rw [H2.out.2.2.2.2.2.2.1, byA_size, byA_size, headL_length]; rfl) (byA_one _) ?_
  go_wp2_with (fail); refine bodyPost_ret (v := .agg (byA (headL ahead body))) (results_cell_row rfl _ _ zb 23 (byA (headL ahead body)) (0, 0) _ rfl (setRow_heap _ _ ZT _ _ _ H5.out.2) Tryd.underlying23 rfl (arr_size _ (headL_length _ _))) rfl ?_; rw [H2.out.2.2.2.1]
  refine ⟨rfl, H5.out.1.trans ⟨rfl, rfl, rfl, by simp, fun k hk => setRow_other _ _ _ _ ?_⟩⟩
  have := H2.out.2.2.2.2.2.1; omega
end Go.Proofs.YtdmnhgbdeifpbaaDoor
namespace Go.Proofs.YtdmnhgbdeifpbaaDoor
open Go Go.RowKit
set_option maxRecDepth 100000 in
set_option maxHeartbeats 2000000 in
theorem erBytes_any (w : World) (x : ItemL) (hk : x.key.length ≤ 1000) (ht0 : 0 ≤ x.time ∧ x.time < 9223372036854775808) (hv : -9223372036854775808 ≤ x.value ∧ x.value < 9223372036854775808) :
    Calls Tryd.prog 60 #[.agg x.cells] w (Below0 w (Sv x.bytes)) := by
  obtain ⟨kind, key, time, value⟩ := x
  obtain ⟨tn, rfl⟩ : ∃ n : Nat, time = (n : Int) := ⟨time.toNat, by have := ht0.1; simp only at this; omega⟩
  have ht : tn < 9223372036854775808 := by have := ht0.2; simp only at this; omega
  have hk : key.length ≤ 1000000 := Nat.le_trans hk (by decide)
  obtain ⟨w1, hw1⟩ : ∃ W, W = w.alloc (.cells (ItemL.mk kind key (tn : Int) value).cells 53) := ⟨_, rfl⟩
  have HB : Hid (Below w.heap.size w w1) := by rw [hw1]; exact (Below.refl _ w).alloc (Nat.le_refl _) _
  have hrow : w1.heap[w.heap.size]? = some (.cells (ItemL.mk kind key (tn : Int) value).cells 53 (0, 0)) := by rw [hw1]; exact heap_alloc_new w _
  have HC : Hid (∀ w', Below w1.heap.size w1 w' → ∀ i v, (ItemL.mk kind key (tn : Int) value).cells[i]? = some v → w'.cell? ⟨w.heap.size, i, none⟩ = some v) := fun w' hB i v hi => by
    rw [cell_of_row w' _ i _ _ _ ((hB.block _ (Array.getElem?_eq_some_iff.1 hrow).1).trans hrow)]; exact hi
  have hlw : ∀ n, (wordL n).length ≤ 10 := wordL_length
  have hlk : (textL key).length ≤ 1000010 := by
    rw [textL, List.length_append]; have := wordL_length key.length; omega
  have hlv : (signedL value).length ≤ 10 := wordL_length _; obtain ⟨a1, ha1⟩ : ∃ a, a = wordL 1 := ⟨_, rfl⟩; obtain ⟨a2, ha2⟩ : ∃ a, a = wordL 2 := ⟨_, rfl⟩; obtain ⟨at_, hat⟩ : ∃ a, a = wordL tn := ⟨_, rfl⟩; obtain ⟨ak, hak⟩ : ∃ a, a = textL key := ⟨_, rfl⟩; obtain ⟨av, hav⟩ : ∃ a, a = signedL value := ⟨_, rfl⟩; obtain ⟨m2, hm2⟩ : ∃ a, a = a2 ++ at_ := ⟨_, rfl⟩; obtain ⟨s1, hs1⟩ : ∃ a, a = a1 ++ ak := ⟨_, rfl⟩; obtain ⟨s2, hs2⟩ : ∃ a, a = s1 ++ at_ := ⟨_, rfl⟩; obtain ⟨s3, hs3⟩ : ∃ a, a = s2 ++ av := ⟨_, rfl⟩
  have HCL : Hid ((∀ w', Calls Tryd.prog 25 #[.int .i64 2] w' (Below0 w' (Sv a2))) ∧ (∀ w', Calls Tryd.prog 25 #[.int .i64 (tn : Int)] w' (Below0 w' (Sv at_))) ∧
      (∀ w', Calls Tryd.prog 25 #[.int .i64 1] w' (Below0 w' (Sv a1))) ∧ (∀ w', Calls Tryd.prog 28 #[Sv key] w' (Below0 w' (Sv ak))) ∧
      (∀ w', Calls Tryd.prog 82 #[.int .i64 value] w' (Below0 w' (Sv av)))) := by
    rw [ha1, ha2, hat, hak, hav]
    exact ⟨fun w' => rpNumber_any w' 2 (by decide), fun w' => rpNumber_any w' tn ht, fun w' => rpNumber_any w' 1 (by decide), fun w' => rpText_any w' key hk, fun w' => rpSigned_any w' value hv.1 hv.2⟩
  have HADD : Hid ((∀ w, (binOp .add 9 (Sv a2) (Sv at_)).run Tryd.prog w = .ok (Sv m2) w) ∧ (∀ w, (binOp .add 9 (Sv a1) (Sv ak)).run Tryd.prog w = .ok (Sv s1) w) ∧
      (∀ w, (binOp .add 9 (Sv s1) (Sv at_)).run Tryd.prog w = .ok (Sv s2) w) ∧ (∀ w, (binOp .add 9 (Sv s2) (Sv av)).run Tryd.prog w = .ok (Sv s3) w)) := by
    have l1 := hlw 1; have l2 := hlw 2; have l3 := hlw tn; rw [← ha1] at l1; rw [← ha2] at l2; rw [← hat] at l3; rw [← hak] at hlk; rw [← hav] at hlv
    have l4 : s1.length = a1.length + ak.length := by rw [hs1, List.length_append]
    have l5 : s2.length = s1.length + at_.length := by rw [hs2, List.length_append]
    exact ⟨fun w => by rw [hm2]; exact run_add_Sv w _ _ (by omega), fun w => by rw [hs1]; exact run_add_Sv w _ _ (by omega), fun w => by rw [hs2]; exact run_add_Sv w _ _ (by omega), fun w => by rw [hs3]; exact run_add_Sv w _ _ (by omega)⟩
  have HG0 : Hid (Below w1.heap.size w1 w1.drew) := (Below.refl _ w1).drew
  have hbytes : (ItemL.mk kind key (tn : Int) value).bytes = if kind = 2 then m2 else s3 := by rw [hm2, hs3, hs2, hs1, ha1, ha2, hat, hak, hav]; rfl
  rw [hbytes]; have c0 : w1.cell? ⟨w.heap.size, 0, none⟩ = some (.int .i64 kind) := HC.out w1 (Below.refl _ _) 0 _ rfl; unfold ItemL.cells at hw1 ⊢; clear hrow hbytes ht0 ht hv hk ha1 ha2 hat hak hav hm2 hs1 hs2 hs3 hlw hlk hlv
  by_cases k2 : kind = 2
  · have e2 : (kind == 2) = true := by rw [k2]; rfl
    rw [if_pos k2]; clear k2
    go_enter Tryd.func60, Tryd.ntmps60
    go_upto_region 1 with (fail)
    rw [← hw1]; clear hw1
    go_upto_region 2 with (fail)
    refine wp_region_seq_frame (by kernel_rfl) [none, none, none, none, none, none] [] (vOfC [Sv a2, .pointer (some ⟨w.heap.size, 2, none⟩), .int .i64 (tn : Int), Sv at_, Sv m2, Sv m2]) (fun _ w' => Below w1.heap.size w1 w') (fun _ _ => True) (fun _ _ _ _ _ h => h) (by kernel_rfl) (by kernel_rfl) (by kernel_rfl) HG0.out ⟨trivial, trivial, trivial, trivial, trivial, trivial, trivial⟩ ?_ ?_
    · refine ⟨?_, ?_, ?_, ?_, ?_, ?_, trivial⟩
      · intro k a w' hG hout hpre K hK; have HS := Lib.hid (HCL.out.1 w'); clear hout hpre; go_step; refine HS.out.mono ?_; rintro e w3 ⟨rfl, hB⟩; exact hK _ _ rfl (hG.trans (hB.mono hG.size)) trivial
      · intro k a w' hG hout hpre K hK; have q1 := ev_of ((hout 1 rfl).trans (show _ = .pointer (some ⟨w.heap.size, 0, none⟩) from rfl)); clear hout hpre; go_step; exact hK _ _ rfl hG trivial
      · intro k a w' hG hout hpre K hK; obtain ⟨p0, _⟩ := hpre; have q7 := ev_of (show a.eval (.tmp 7) = .pointer (some ⟨w.heap.size, 2, none⟩) from p0); have hc : w'.cell? ⟨w.heap.size, 2, none⟩ = some (.int .i64 (tn : Int)) := HC.out w' hG 2 _ rfl; clear hout p0; go_step; exact hK _ _ rfl hG trivial
      · intro k a w' hG hout hpre K hK; obtain ⟨p0, _⟩ := hpre; have q8 := ev_of (show a.eval (.tmp 8) = .int .i64 (tn : Int) from p0); have HS := Lib.hid (HCL.out.2.1 w'); clear hout p0; go_step; refine HS.out.mono ?_; rintro e w3 ⟨rfl, hB⟩; exact hK _ _ rfl (hG.trans (hB.mono hG.size)) trivial
      · intro k a w' hG hout hpre K hK; obtain ⟨p0, p1, _⟩ := hpre; have q6 := ev_of (show a.eval (.tmp 6) = Sv a2 from p0); have q9 := ev_of (show a.eval (.tmp 9) = Sv at_ from p1); have hadd := HADD.out.1; clear hout p0 p1; go_step; exact hK _ _ rfl hG trivial
      · intro k a w' hG hout hpre K hK; obtain ⟨p0, _⟩ := hpre; have q10 := ev_of (show a.eval (.tmp 10) = Sv m2 from p0); clear hout p0; go_step; exact hK _ _ rfl hG trivial
    · intro vs w2 hG hlen hV
      match vs, hlen, hV with
      | [v0, v1, v2, v3, v4, v5], _, hV =>
        obtain rfl : v5 = Sv m2 := hV 5 2 v5 rfl rfl; clear hV; simp only [putsL, List.tail_cons, List.headD_cons]; simp only [Act.put, List.setIfInBounds_toArray, List.set_cons_succ, List.set_cons_zero]; have HZ : Hid (Below w.heap.size w w2) := HB.out.trans (hG.mono HB.out.size); clear hG; go_wp2_with (fail); go_ret; exact ⟨rfl, HZ.out⟩
  · have e2 : (kind == 2) = false := by simpa using k2
    rw [if_neg k2]; clear k2
    go_enter Tryd.func60, Tryd.ntmps60
    go_upto_region 1 with (fail)
    rw [← hw1]; clear hw1
    go_upto_region 3 with (fail)
    refine wp_region_seq_frame (by kernel_rfl) [none, none, none, none, none, none, none, none, none, none, none, none, none, none] [] (vOfC [Sv a1, .pointer (some ⟨w.heap.size, 1, none⟩), Sv key, Sv ak, Sv s1, .pointer (some ⟨w.heap.size, 2, none⟩), .int .i64 (tn : Int), Sv at_, Sv s2, .pointer (some ⟨w.heap.size, 3, none⟩), .int .i64 value, Sv av, Sv s3, Sv s3]) (fun _ w' => Below w1.heap.size w1 w') (fun _ _ => True) (fun _ _ _ _ _ h => h) (by kernel_rfl) (by kernel_rfl) (by kernel_rfl) HG0.out ⟨trivial, trivial, trivial, trivial, trivial, trivial, trivial, trivial, trivial, trivial, trivial, trivial, trivial, trivial, trivial⟩ ?_ ?_
    · refine ⟨?_, ?_, ?_, ?_, ?_, ?_, ?_, ?_, ?_, ?_, ?_, ?_, ?_, ?_, trivial⟩
      · intro k a w' hG hout hpre K hK; have HS := Lib.hid (HCL.out.2.2.1 w'); clear hout hpre; go_step; refine HS.out.mono ?_; rintro e w3 ⟨rfl, hB⟩; exact hK _ _ rfl (hG.trans (hB.mono hG.size)) trivial
      · intro k a w' hG hout hpre K hK; have q1 := ev_of ((hout 1 rfl).trans (show _ = .pointer (some ⟨w.heap.size, 0, none⟩) from rfl)); clear hout hpre; go_step; exact hK _ _ rfl hG trivial
      · intro k a w' hG hout hpre K hK; obtain ⟨p0, _⟩ := hpre; have q12 := ev_of (show a.eval (.tmp 12) = .pointer (some ⟨w.heap.size, 1, none⟩) from p0); have hc : w'.cell? ⟨w.heap.size, 1, none⟩ = some (Sv key) := HC.out w' hG 1 _ rfl; clear hout p0; go_step; exact hK _ _ rfl hG trivial
      · intro k a w' hG hout hpre K hK; obtain ⟨p0, _⟩ := hpre; have q13 := ev_of (show a.eval (.tmp 13) = Sv key from p0); have HS := Lib.hid (HCL.out.2.2.2.1 w'); clear hout p0; go_step; refine HS.out.mono ?_; rintro e w3 ⟨rfl, hB⟩; exact hK _ _ rfl (hG.trans (hB.mono hG.size)) trivial
      · intro k a w' hG hout hpre K hK; obtain ⟨p0, p1, _⟩ := hpre; have q11 := ev_of (show a.eval (.tmp 11) = Sv a1 from p0); have q14 := ev_of (show a.eval (.tmp 14) = Sv ak from p1); have hadd := HADD.out.2.1; clear hout p0 p1; go_step; exact hK _ _ rfl hG trivial
      · intro k a w' hG hout hpre K hK; have q1 := ev_of ((hout 1 rfl).trans (show _ = .pointer (some ⟨w.heap.size, 0, none⟩) from rfl)); clear hout hpre; go_step; exact hK _ _ rfl hG trivial
      · intro k a w' hG hout hpre K hK; obtain ⟨p0, _⟩ := hpre; have q16 := ev_of (show a.eval (.tmp 16) = .pointer (some ⟨w.heap.size, 2, none⟩) from p0); have hc : w'.cell? ⟨w.heap.size, 2, none⟩ = some (.int .i64 (tn : Int)) := HC.out w' hG 2 _ rfl; clear hout p0; go_step; exact hK _ _ rfl hG trivial
      · intro k a w' hG hout hpre K hK; obtain ⟨p0, _⟩ := hpre; have q17 := ev_of (show a.eval (.tmp 17) = .int .i64 (tn : Int) from p0); have HS := Lib.hid (HCL.out.2.1 w'); clear hout p0; go_step; refine HS.out.mono ?_; rintro e w3 ⟨rfl, hB⟩; exact hK _ _ rfl (hG.trans (hB.mono hG.size)) trivial
      · intro k a w' hG hout hpre K hK; obtain ⟨p0, p1, _⟩ := hpre; have q15 := ev_of (show a.eval (.tmp 15) = Sv s1 from p0); have q18 := ev_of (show a.eval (.tmp 18) = Sv at_ from p1); have hadd := HADD.out.2.2.1; clear hout p0 p1; go_step; exact hK _ _ rfl hG trivial
      · intro k a w' hG hout hpre K hK; have q1 := ev_of ((hout 1 rfl).trans (show _ = .pointer (some ⟨w.heap.size, 0, none⟩) from rfl)); clear hout hpre; go_step; exact hK _ _ rfl hG trivial
      · intro k a w' hG hout hpre K hK; obtain ⟨p0, _⟩ := hpre; have q20 := ev_of (show a.eval (.tmp 20) = .pointer (some ⟨w.heap.size, 3, none⟩) from p0); have hc : w'.cell? ⟨w.heap.size, 3, none⟩ = some (.int .i64 value) := HC.out w' hG 3 _ rfl; clear hout p0; go_step; exact hK _ _ rfl hG trivial
      · intro k a w' hG hout hpre K hK; obtain ⟨p0, _⟩ := hpre; have q21 := ev_of (show a.eval (.tmp 21) = .int .i64 value from p0); have HS := Lib.hid (HCL.out.2.2.2.2 w'); clear hout p0; go_step; refine HS.out.mono ?_; rintro e w3 ⟨rfl, hB⟩; exact hK _ _ rfl (hG.trans (hB.mono hG.size)) trivial
      · intro k a w' hG hout hpre K hK; obtain ⟨p0, p1, _⟩ := hpre; have q19 := ev_of (show a.eval (.tmp 19) = Sv s2 from p0); have q22 := ev_of (show a.eval (.tmp 22) = Sv av from p1); have hadd := HADD.out.2.2.2; clear hout p0 p1; go_step; exact hK _ _ rfl hG trivial
      · intro k a w' hG hout hpre K hK; obtain ⟨p0, _⟩ := hpre; have q23 := ev_of (show a.eval (.tmp 23) = Sv s3 from p0); clear hout p0; go_step; exact hK _ _ rfl hG trivial
    · intro vs w2 hG hlen hV
      match vs, hlen, hV with
      | [v0, v1, v2, v3, v4, v5, v6, v7, v8, v9, v10, v11, v12, v13], _, hV =>
        obtain rfl : v13 = Sv s3 := hV 13 2 v13 rfl rfl; clear hV; simp only [putsL, List.tail_cons, List.headD_cons]; simp only [Act.put, List.setIfInBounds_toArray, List.set_cons_succ, List.set_cons_zero]; have HZ : Hid (Below w.heap.size w w2) := HB.out.trans (hG.mono HB.out.size); clear hG; go_wp2_with (fail); go_ret; exact ⟨rfl, HZ.out⟩
end Go.Proofs.YtdmnhgbdeifpbaaDoor
namespace Go.Proofs.YtdmnhgbdeifpbaaDoor
open Go Go.RowKit
theorem cells4' {w : World} {g : Nat} {x : ItemL} (h : ∀ (i : Nat) (v : Value), x.cells[i]? = some v → w.cell? ⟨g, i, none⟩ = some v) : w.cell? ⟨g, 0, none⟩ = some (.int .i64 x.kind) ∧ w.cell? ⟨g, 1, none⟩ = some (Sv x.key) ∧ w.cell? ⟨g, 2, none⟩ = some (.int .i64 x.time) ∧ w.cell? ⟨g, 3, none⟩ = some (.int .i64 x.value) :=
  ⟨h 0 _ rfl, h 1 _ rfl, h 2 _ rfl, h 3 _ rfl⟩
def RL (w : World) (l : List ItemL) (n s i : Value) (wr : World) : Prop := ∃ t : Nat, t ≤ l.length ∧ i = .int .i64 (t : Int) ∧ n = .int .i64 ((countL (l.take t) : Nat) : Int) ∧ s = Sv (bytesL (l.take t)) ∧ Below w.heap.size w wr
set_option maxRecDepth 100000 in
set_option maxHeartbeats 2000000 in
theorem erList_any (w : World) (la : Option Addr) (lc : Nat) (l : List ItemL) (hI : ItemsAt w la l) (hk : ∀ x ∈ l, x.key.length ≤ 1000000) (hl : l.length ≤ 900) :
    Calls Tryd.prog 26 #[.slice la l.length lc] w (Below0 w (Sv (listL l))) := by
  obtain ⟨L, hL⟩ : ∃ L, L = l.length := ⟨_, rfl⟩; have HP := Lib.hid (And.intro hI (And.intro hk (And.intro hL hl))); rw [← hL]
  have hL6 : L ≤ 900 := by omega
  clear hI hk hL hl
  go_enter Tryd.func26, Tryd.ntmps26
  go_wp2_with (fail); rw [Sv_nil]
  go_loopw [3, 4, 9] (RL w l) (fun _ _ i _ => L - (intOf i).toNat)
  case atStart => exact ⟨0, Nat.zero_le _, rfl, rfl, rfl, Below.refl _ _⟩
  case round =>
    obtain ⟨t, ht, rfl, rfl, rfl, hB⟩ := hrel; rw [← HP.out.2.2.1] at ht; have HBw := Lib.hid hB
    by_cases hlt : t < L
    · have hi0 : (0 : Int) ≤ (t : Int) ∧ (t : Int) < (L : Int) := by omega
      obtain ⟨x, pb, po, hx, rfl, d0, d1, d2, d3⟩ := (HP.out.1.below hB).get (t := t) (by rw [← HP.out.2.2.1]; exact hlt)
      have hxk := HP.out.2.1 x (List.mem_of_getElem? hx); obtain ⟨c, hc⟩ : ∃ c, c = countL (l.take t) := ⟨_, rfl⟩
      have htk : (l.take t).length ≤ 900 := by
        have := HP.out.2.2.2; simp only [List.length_take]; omega
      have hcl : c ≤ 900 := by
        rw [hc]; have h1 := countL_le (l.take t); omega
      obtain ⟨acc, hacc⟩ : ∃ a, a = bytesL (l.take t) := ⟨_, rfl⟩
      have hal : acc.length ≤ 945000 := by
        rw [hacc]; have h1 := bytesL_len (l.take t); have h2 : (l.take t).length * 1050 ≤ 900 * 1050 := Nat.mul_le_mul_right _ htk; omega
      rw [← hc, ← hacc]; obtain ⟨r, hr⟩ : ∃ r, r = x.rightB := ⟨_, rfl⟩; obtain ⟨wo, hwo⟩ : ∃ wo, wo = wr.alloc (.cells x.cells 53) := ⟨_, rfl⟩
      have hBo : Below wr.heap.size wr wo := by rw [hwo]; exact (Below.refl _ wr).alloc (Nat.le_refl _) _
      have hrow : wo.heap[wr.heap.size]? = some (.cells x.cells 53 (0, 0)) := by rw [hwo]; exact heap_alloc_new wr _
      have HR : Hid (Calls Tryd.prog 24 #[.agg x.cells] wo (Below0 wo (.bool r))) := by
        rw [hr]; exact Lib.hid (erRight_any wo x hxk)
      have HW : Hid (Below w.heap.size w wo ∧ ∀ w3, Below wo.heap.size wo w3 → (∀ i v, x.cells[i]? = some v → w3.cell? ⟨wr.heap.size, i, none⟩ = some v)) := by
        refine Lib.hid ⟨hB.trans (hBo.mono hB.size), fun w3 h3 i v hi => ?_⟩; rw [cell_of_row _ _ i _ _ _ ((h3.block _ (Array.getElem?_eq_some_iff.1 hrow).1).trans hrow)]; exact hi
      have HN : Hid (countL (l.take (t + 1)) = c + (if r then 1 else 0) ∧ bytesL (l.take (t + 1)) = acc ++ (if r then x.bytes else [])) := by
        rw [hr, hc, hacc]; exact Lib.hid ⟨countL_next hx, bytesL_next hx⟩
      obtain ⟨xb, hxb⟩ : ∃ b, b = x.bytes := ⟨_, rfl⟩
      have HBy : Hid (r = true → (∀ w', Calls Tryd.prog 60 #[.agg x.cells] w' (Below0 w' (Sv xb))) ∧ xb.length ≤ 1050) := by
        refine Lib.hid (fun h => ?_)
        have hxr : x.rightB = true := by rw [← hr, h]
        rw [hxb]; refine ⟨fun w' => ?_, right_bytes hxr⟩; obtain ⟨kind, key, time, value⟩ := x; obtain ⟨ht', hc'⟩ := right_cases hxr
        have hkl : key.length ≤ 1000 := by
          rcases hc' with ⟨_, h, _⟩ | h
          · rw [h]; exact Nat.zero_le _
          · omega
        exact erBytes_any w' _ hkl ⟨ht'.1, by show time < _; omega⟩ ⟨by show _ ≤ value; omega, by show value < _; omega⟩
      rw [← hxb] at HN; have HL := Lib.hid hlt; obtain ⟨co0, co1, co2, co3⟩ := cells4' (HW.out.2 wo (Below.refl _ _)); unfold ItemL.cells at hwo HR HBy; obtain ⟨kind, key, time, value⟩ := x; simp only at d0 d1 d2 d3 co0 co1 co2 co3 hwo HR HBy; clear hB hx hxk hc hacc hr hBo hrow hxb htk
      go_upto_region 5 with (fail)
      rw [← hwo]; clear hwo d0 d1 d2 d3
      cases r with
      | true =>
        obtain ⟨hby, hbl⟩ := HBy.out (by trivial)
        have HB2 := Lib.hid hby
        have hadd : ∀ w, (binOp .add 9 (Sv acc) (Sv xb)).run Tryd.prog w = .ok (Sv (acc ++ xb)) w := fun w => run_add_Sv w _ _ (by omega)
        obtain ⟨acc2, hacc2⟩ : ∃ a, a = acc ++ xb := ⟨_, rfl⟩; rw [← hacc2] at hadd
        have HN2 : Hid (countL (l.take (t + 1)) = c + 1 ∧ bytesL (l.take (t + 1)) = acc2) := by
          rw [hacc2]; have h := HN.out
          exact Lib.hid (by simpa using h)
        clear hby hbl hal hacc2; go_wp2_with (fail); refine HR.out.mono ?_; rintro e w3 ⟨rfl, hB3⟩; obtain ⟨e0, e1, e2, e3⟩ := cells4' (HW.out.2 w3 hB3); have H3 := Lib.hid (HW.out.1.trans (hB3.mono HW.out.1.size)); clear hB3 co0 co1 co2 co3; simp only at e0 e1 e2 e3; dsimp only; go_wp2_with (fail); refine (HB2.out w3).mono ?_; rintro e w4 ⟨rfl, hB4⟩
        have HZ : Hid (RL w l (.int .i64 ((c : Int) + 1)) (Sv acc2) (.int .i64 ((t : Int) + 1)) w4) := by
          refine Lib.hid ⟨t + 1, by rw [← HP.out.2.2.1]; have := HL.out; omega, by go_num, ?_, by rw [HN2.out.2], H3.out.trans (hB4.mono H3.out.size)⟩
          rw [HN2.out.1]
          go_num
        clear hB4 e0 e1 e2 e3; dsimp only; go_wp2_with (fail); have := HL.out
        exact ⟨HZ.out, by simp [intOf]; omega⟩
      | false =>
        have HN2 : Hid (countL (l.take (t + 1)) = c ∧ bytesL (l.take (t + 1)) = acc) := by
          have h := HN.out
          exact Lib.hid (by simpa using h)
        go_wp2_with (fail); refine HR.out.mono ?_; rintro e w3 ⟨rfl, hB3⟩
        have HZ : Hid (RL w l (.int .i64 (c : Int)) (Sv acc) (.int .i64 ((t : Int) + 1)) w3) :=
          Lib.hid ⟨t + 1, by rw [← HP.out.2.2.1]; have := HL.out; omega, by go_num, by rw [HN2.out.1], by rw [HN2.out.2], HW.out.1.trans (hB3.mono HW.out.1.size)⟩
        clear hB3 co0 co1 co2 co3; dsimp only; go_wp2_with (fail); have := HL.out
        exact ⟨HZ.out, by simp [intOf]; omega⟩
    · obtain rfl : t = L := by omega
      rw [HP.out.2.2.1, List.take_length]; obtain ⟨n, hn⟩ : ∃ n, n = countL l := ⟨_, rfl⟩; obtain ⟨acc, hacc⟩ : ∃ a, a = bytesL l := ⟨_, rfl⟩
      have hn6 : n ≤ 900 := by
        have h1 := countL_le l; have h3 := HP.out.2.2.2; omega
      have hal : acc.length ≤ 945000 := by
        rw [hacc]; have h1 := bytesL_len l; have h2 : l.length * 1050 ≤ 900 * 1050 := Nat.mul_le_mul_right _ HP.out.2.2.2; omega
      have hle : listL l = wordL n ++ acc := by rw [hn, hacc]; rfl
      have hnl := wordL_length n
      have HN := Lib.hid (rpNumber_any wr n (by omega))
      rw [← hn, ← hacc]; obtain ⟨m, hm⟩ : ∃ m, m = wordL n := ⟨_, rfl⟩; rw [← hm] at HN hle hnl
      have hadd : ∀ w, (binOp .add 9 (Sv m) (Sv acc)).run Tryd.prog w = .ok (Sv (m ++ acc)) w := fun w => run_add_Sv w _ _ (by omega)
      rw [← hle] at hadd; obtain ⟨R, hR⟩ : ∃ R, R = listL l := ⟨_, rfl⟩; rw [← hR] at hadd; have HRe := Lib.hid hR; clear hB hn hacc hal hle hnl hm hR hlt ht; go_wp2_with (fail); refine HN.out.mono ?_; rintro e w3 ⟨rfl, hB3⟩; have H3 := Lib.hid (HBw.out.trans (hB3.mono HBw.out.size)); clear hB3; dsimp only; go_wp2_with (fail); go_ret
      exact ⟨by rw [← HRe.out]; rfl, H3.out⟩
end Go.Proofs.YtdmnhgbdeifpbaaDoor
