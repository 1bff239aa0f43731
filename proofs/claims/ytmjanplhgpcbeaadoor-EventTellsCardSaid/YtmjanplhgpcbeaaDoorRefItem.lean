/-
  The contracts of the reference's Bytes and Text of an item.
-/
import Derived.Test.YtmjanplhgpcbeaaDoorRefName
import Derived.Test.YtmjanplhgpcbeaaDoorLocal
namespace Go.Proofs.YtmjanplhgpcbeaaDoor
open Go Go.RowKit

theorem cells_at (x : ItemL) : ∀ i v, x.cells[i]? = some v → i < 4 := fun i v h => by
  have := (Array.getElem?_eq_some_iff.1 h).1
  simpa [ItemL.cells] using this
set_option maxRecDepth 100000 in
set_option maxHeartbeats 2000000 in
theorem erBytes_any (w : World) (x : ItemL) (hk : x.key.length ≤ 1000) (ht0 : 0 ≤ x.time ∧ x.time < 9223372036854775808) (hv : -9223372036854775808 ≤ x.value ∧ x.value < 9223372036854775808) :
    Calls Tryd.prog 10 #[.agg x.cells] w (Below0 w (Sv x.bytes)) := by
  obtain ⟨kind, key, time, value⟩ := x
  obtain ⟨tn, rfl⟩ : ∃ n : Nat, time = (n : Int) := ⟨time.toNat, by have := ht0.1; simp only at this; omega⟩
  have ht : tn < 9223372036854775808 := by have := ht0.2; simp only at this; omega
  have hk : key.length ≤ 1000000 := Nat.le_trans hk (by decide)
  obtain ⟨w1, hw1⟩ : ∃ W, W = w.alloc (.cells (ItemL.mk kind key (tn : Int) value).cells 23) := ⟨_, rfl⟩
  have HB : Hid (Below w.heap.size w w1) := by rw [hw1]; exact (Below.refl _ w).alloc (Nat.le_refl _) _
  have hrow : w1.heap[w.heap.size]? = some (.cells (ItemL.mk kind key (tn : Int) value).cells 23 (0, 0)) := by rw [hw1]; exact heap_alloc_new w _
  have HC : Hid (∀ w', Below w1.heap.size w1 w' → ∀ i v, (ItemL.mk kind key (tn : Int) value).cells[i]? = some v → w'.cell? ⟨w.heap.size, i, none⟩ = some v) := fun w' hB i v hi => by
    rw [cell_of_row w' _ i _ _ _ ((hB.block _ (Array.getElem?_eq_some_iff.1 hrow).1).trans hrow)]
    exact hi
  have hlw : ∀ n, (wordL n).length ≤ 10 := wordL_length
  have hlk : (textL key).length ≤ 1000010 := by
    rw [textL, List.length_append]
    have := wordL_length key.length
    omega
  have hlv : (signedL value).length ≤ 10 := wordL_length _
  obtain ⟨a1, ha1⟩ : ∃ a, a = wordL 1 := ⟨_, rfl⟩
  obtain ⟨a2, ha2⟩ : ∃ a, a = wordL 2 := ⟨_, rfl⟩
  obtain ⟨at_, hat⟩ : ∃ a, a = wordL tn := ⟨_, rfl⟩
  obtain ⟨ak, hak⟩ : ∃ a, a = textL key := ⟨_, rfl⟩
  obtain ⟨av, hav⟩ : ∃ a, a = signedL value := ⟨_, rfl⟩
  obtain ⟨m2, hm2⟩ : ∃ a, a = a2 ++ at_ := ⟨_, rfl⟩
  obtain ⟨s1, hs1⟩ : ∃ a, a = a1 ++ ak := ⟨_, rfl⟩
  obtain ⟨s2, hs2⟩ : ∃ a, a = s1 ++ at_ := ⟨_, rfl⟩
  obtain ⟨s3, hs3⟩ : ∃ a, a = s2 ++ av := ⟨_, rfl⟩
  have HCL : Hid ((∀ w', Calls Tryd.prog 30 #[.int .i64 2] w' (Below0 w' (Sv a2))) ∧ (∀ w', Calls Tryd.prog 30 #[.int .i64 (tn : Int)] w' (Below0 w' (Sv at_))) ∧
      (∀ w', Calls Tryd.prog 30 #[.int .i64 1] w' (Below0 w' (Sv a1))) ∧ (∀ w', Calls Tryd.prog 31 #[Sv key] w' (Below0 w' (Sv ak))) ∧
      (∀ w', Calls Tryd.prog 32 #[.int .i64 value] w' (Below0 w' (Sv av)))) := by
    rw [ha1, ha2, hat, hak, hav]
    exact ⟨fun w' => rpNumber_any w' 2 (by decide), fun w' => rpNumber_any w' tn ht, fun w' => rpNumber_any w' 1 (by decide), fun w' => rpText_any w' key hk, fun w' => rpSigned_any w' value hv.1 hv.2⟩
  have HADD : Hid ((∀ w, (binOp .add 9 (Sv a2) (Sv at_)).run Tryd.prog w = .ok (Sv m2) w) ∧ (∀ w, (binOp .add 9 (Sv a1) (Sv ak)).run Tryd.prog w = .ok (Sv s1) w) ∧
      (∀ w, (binOp .add 9 (Sv s1) (Sv at_)).run Tryd.prog w = .ok (Sv s2) w) ∧ (∀ w, (binOp .add 9 (Sv s2) (Sv av)).run Tryd.prog w = .ok (Sv s3) w)) := by
    have l1 := hlw 1
    have l2 := hlw 2
    have l3 := hlw tn
    rw [← ha1] at l1
    rw [← ha2] at l2
    rw [← hat] at l3
    rw [← hak] at hlk
    rw [← hav] at hlv
    have l4 : s1.length = a1.length + ak.length := by rw [hs1, List.length_append]
    have l5 : s2.length = s1.length + at_.length := by rw [hs2, List.length_append]
    exact ⟨fun w => by rw [hm2]; exact run_add_Sv w _ _ (by omega), fun w => by rw [hs1]; exact run_add_Sv w _ _ (by omega), fun w => by rw [hs2]; exact run_add_Sv w _ _ (by omega), fun w => by rw [hs3]; exact run_add_Sv w _ _ (by omega)⟩
  have HG0 : Hid (Below w1.heap.size w1 w1.drew) := (Below.refl _ w1).drew
  have hbytes : (ItemL.mk kind key (tn : Int) value).bytes = if kind = 2 then m2 else s3 := by rw [hm2, hs3, hs2, hs1, ha1, ha2, hat, hak, hav]; rfl
  rw [hbytes]
  have c0 : w1.cell? ⟨w.heap.size, 0, none⟩ = some (.int .i64 kind) := HC.out w1 (Below.refl _ _) 0 _ rfl
  unfold ItemL.cells at hw1 ⊢
  clear hrow hbytes ht0 ht hv hk ha1 ha2 hat hak hav hm2 hs1 hs2 hs3 hlw hlk hlv
  by_cases k2 : kind = 2
  · have e2 : (kind == 2) = true := by rw [k2]; rfl
    rw [if_pos k2]
    clear k2
    go_enter Tryd.func10, Tryd.ntmps10
    go_upto_region 1 with (fail)
    rw [← hw1]
    clear hw1
    go_upto_region 2 with (fail)
    refine wp_region_seq_frame (by kernel_rfl) [none, none, none, none, none, none] [] (vOfC [Sv a2, .pointer (some ⟨w.heap.size, 2, none⟩), .int .i64 (tn : Int), Sv at_, Sv m2, Sv m2]) (fun _ w' => Below w1.heap.size w1 w') (fun _ _ => True) (fun _ _ _ _ _ h => h) (by kernel_rfl) (by kernel_rfl) (by kernel_rfl) HG0.out ⟨trivial, trivial, trivial, trivial, trivial, trivial, trivial⟩ ?_ ?_
    · refine ⟨?_, ?_, ?_, ?_, ?_, ?_, trivial⟩
      · intro k a w' hG hout hpre K hK
        have HS := Lib.hid (HCL.out.1 w')
        clear hout hpre
        go_step
        refine HS.out.mono ?_
        rintro e w3 ⟨rfl, hB⟩
        exact hK _ _ rfl (hG.trans (hB.mono hG.size)) trivial
      · intro k a w' hG hout hpre K hK
        have q1 := ev_of ((hout 1 rfl).trans (show _ = .pointer (some ⟨w.heap.size, 0, none⟩) from rfl))
        clear hout hpre
        go_step
        exact hK _ _ rfl hG trivial
      · intro k a w' hG hout hpre K hK
        obtain ⟨p0, _⟩ := hpre
        have q7 := ev_of (show a.eval (.tmp 7) = .pointer (some ⟨w.heap.size, 2, none⟩) from p0)
        have hc : w'.cell? ⟨w.heap.size, 2, none⟩ = some (.int .i64 (tn : Int)) := HC.out w' hG 2 _ rfl
        clear hout p0
        go_step
        exact hK _ _ rfl hG trivial
      · intro k a w' hG hout hpre K hK
        obtain ⟨p0, _⟩ := hpre
        have q8 := ev_of (show a.eval (.tmp 8) = .int .i64 (tn : Int) from p0)
        have HS := Lib.hid (HCL.out.2.1 w')
        clear hout p0
        go_step
        refine HS.out.mono ?_
        rintro e w3 ⟨rfl, hB⟩
        exact hK _ _ rfl (hG.trans (hB.mono hG.size)) trivial
      · intro k a w' hG hout hpre K hK
        obtain ⟨p0, p1, _⟩ := hpre
        have q6 := ev_of (show a.eval (.tmp 6) = Sv a2 from p0)
        have q9 := ev_of (show a.eval (.tmp 9) = Sv at_ from p1)
        have hadd := HADD.out.1
        clear hout p0 p1
        go_step
        exact hK _ _ rfl hG trivial
      · intro k a w' hG hout hpre K hK
        obtain ⟨p0, _⟩ := hpre
        have q10 := ev_of (show a.eval (.tmp 10) = Sv m2 from p0)
        clear hout p0
        go_step
        exact hK _ _ rfl hG trivial
    · intro vs w2 hG hlen hV
      match vs, hlen, hV with
      | [v0, v1, v2, v3, v4, v5], _, hV =>
        obtain rfl : v5 = Sv m2 := hV 5 2 v5 rfl rfl
        clear hV
        simp only [putsL, List.tail_cons, List.headD_cons]
        simp only [Act.put, List.setIfInBounds_toArray, List.set_cons_succ, List.set_cons_zero]
        have HZ : Hid (Below w.heap.size w w2) := HB.out.trans (hG.mono HB.out.size)
        clear hG
        go_wp2_with (fail)
        go_ret
        exact ⟨rfl, HZ.out⟩
  · have e2 : (kind == 2) = false := by simpa using k2
    rw [if_neg k2]
    clear k2
    go_enter Tryd.func10, Tryd.ntmps10
    go_upto_region 1 with (fail)
    rw [← hw1]
    clear hw1
    go_upto_region 3 with (fail)
    refine wp_region_seq_frame (by kernel_rfl) [none, none, none, none, none, none, none, none, none, none, none, none, none, none] [] (vOfC [Sv a1, .pointer (some ⟨w.heap.size, 1, none⟩), Sv key, Sv ak, Sv s1, .pointer (some ⟨w.heap.size, 2, none⟩), .int .i64 (tn : Int), Sv at_, Sv s2, .pointer (some ⟨w.heap.size, 3, none⟩), .int .i64 value, Sv av, Sv s3, Sv s3]) (fun _ w' => Below w1.heap.size w1 w') (fun _ _ => True) (fun _ _ _ _ _ h => h) (by kernel_rfl) (by kernel_rfl) (by kernel_rfl) HG0.out ⟨trivial, trivial, trivial, trivial, trivial, trivial, trivial, trivial, trivial, trivial, trivial, trivial, trivial, trivial, trivial⟩ ?_ ?_
    · refine ⟨?_, ?_, ?_, ?_, ?_, ?_, ?_, ?_, ?_, ?_, ?_, ?_, ?_, ?_, trivial⟩
      · intro k a w' hG hout hpre K hK
        have HS := Lib.hid (HCL.out.2.2.1 w')
        clear hout hpre
        go_step
        refine HS.out.mono ?_
        rintro e w3 ⟨rfl, hB⟩
        exact hK _ _ rfl (hG.trans (hB.mono hG.size)) trivial
      · intro k a w' hG hout hpre K hK
        have q1 := ev_of ((hout 1 rfl).trans (show _ = .pointer (some ⟨w.heap.size, 0, none⟩) from rfl))
        clear hout hpre
        go_step
        exact hK _ _ rfl hG trivial
      · intro k a w' hG hout hpre K hK
        obtain ⟨p0, _⟩ := hpre
        have q12 := ev_of (show a.eval (.tmp 12) = .pointer (some ⟨w.heap.size, 1, none⟩) from p0)
        have hc : w'.cell? ⟨w.heap.size, 1, none⟩ = some (Sv key) := HC.out w' hG 1 _ rfl
        clear hout p0
        go_step
        exact hK _ _ rfl hG trivial
      · intro k a w' hG hout hpre K hK
        obtain ⟨p0, _⟩ := hpre
        have q13 := ev_of (show a.eval (.tmp 13) = Sv key from p0)
        have HS := Lib.hid (HCL.out.2.2.2.1 w')
        clear hout p0
        go_step
        refine HS.out.mono ?_
        rintro e w3 ⟨rfl, hB⟩
        exact hK _ _ rfl (hG.trans (hB.mono hG.size)) trivial
      · intro k a w' hG hout hpre K hK
        obtain ⟨p0, p1, _⟩ := hpre
        have q11 := ev_of (show a.eval (.tmp 11) = Sv a1 from p0)
        have q14 := ev_of (show a.eval (.tmp 14) = Sv ak from p1)
        have hadd := HADD.out.2.1
        clear hout p0 p1
        go_step
        exact hK _ _ rfl hG trivial
      · intro k a w' hG hout hpre K hK
        have q1 := ev_of ((hout 1 rfl).trans (show _ = .pointer (some ⟨w.heap.size, 0, none⟩) from rfl))
        clear hout hpre
        go_step
        exact hK _ _ rfl hG trivial
      · intro k a w' hG hout hpre K hK
        obtain ⟨p0, _⟩ := hpre
        have q16 := ev_of (show a.eval (.tmp 16) = .pointer (some ⟨w.heap.size, 2, none⟩) from p0)
        have hc : w'.cell? ⟨w.heap.size, 2, none⟩ = some (.int .i64 (tn : Int)) := HC.out w' hG 2 _ rfl
        clear hout p0
        go_step
        exact hK _ _ rfl hG trivial
      · intro k a w' hG hout hpre K hK
        obtain ⟨p0, _⟩ := hpre
        have q17 := ev_of (show a.eval (.tmp 17) = .int .i64 (tn : Int) from p0)
        have HS := Lib.hid (HCL.out.2.1 w')
        clear hout p0
        go_step
        refine HS.out.mono ?_
        rintro e w3 ⟨rfl, hB⟩
        exact hK _ _ rfl (hG.trans (hB.mono hG.size)) trivial
      · intro k a w' hG hout hpre K hK
        obtain ⟨p0, p1, _⟩ := hpre
        have q15 := ev_of (show a.eval (.tmp 15) = Sv s1 from p0)
        have q18 := ev_of (show a.eval (.tmp 18) = Sv at_ from p1)
        have hadd := HADD.out.2.2.1
        clear hout p0 p1
        go_step
        exact hK _ _ rfl hG trivial
      · intro k a w' hG hout hpre K hK
        have q1 := ev_of ((hout 1 rfl).trans (show _ = .pointer (some ⟨w.heap.size, 0, none⟩) from rfl))
        clear hout hpre
        go_step
        exact hK _ _ rfl hG trivial
      · intro k a w' hG hout hpre K hK
        obtain ⟨p0, _⟩ := hpre
        have q20 := ev_of (show a.eval (.tmp 20) = .pointer (some ⟨w.heap.size, 3, none⟩) from p0)
        have hc : w'.cell? ⟨w.heap.size, 3, none⟩ = some (.int .i64 value) := HC.out w' hG 3 _ rfl
        clear hout p0
        go_step
        exact hK _ _ rfl hG trivial
      · intro k a w' hG hout hpre K hK
        obtain ⟨p0, _⟩ := hpre
        have q21 := ev_of (show a.eval (.tmp 21) = .int .i64 value from p0)
        have HS := Lib.hid (HCL.out.2.2.2.2 w')
        clear hout p0
        go_step
        refine HS.out.mono ?_
        rintro e w3 ⟨rfl, hB⟩
        exact hK _ _ rfl (hG.trans (hB.mono hG.size)) trivial
      · intro k a w' hG hout hpre K hK
        obtain ⟨p0, p1, _⟩ := hpre
        have q19 := ev_of (show a.eval (.tmp 19) = Sv s2 from p0)
        have q22 := ev_of (show a.eval (.tmp 22) = Sv av from p1)
        have hadd := HADD.out.2.2.2
        clear hout p0 p1
        go_step
        exact hK _ _ rfl hG trivial
      · intro k a w' hG hout hpre K hK
        obtain ⟨p0, _⟩ := hpre
        have q23 := ev_of (show a.eval (.tmp 23) = Sv s3 from p0)
        clear hout p0
        go_step
        exact hK _ _ rfl hG trivial
    · intro vs w2 hG hlen hV
      match vs, hlen, hV with
      | [v0, v1, v2, v3, v4, v5, v6, v7, v8, v9, v10, v11, v12, v13], _, hV =>
        obtain rfl : v13 = Sv s3 := hV 13 2 v13 rfl rfl
        clear hV
        simp only [putsL, List.tail_cons, List.headD_cons]
        simp only [Act.put, List.setIfInBounds_toArray, List.set_cons_succ, List.set_cons_zero]
        have HZ : Hid (Below w.heap.size w w2) := HB.out.trans (hG.mono HB.out.size)
        clear hG
        go_wp2_with (fail)
        go_ret
        exact ⟨rfl, HZ.out⟩
set_option maxRecDepth 100000 in
set_option maxHeartbeats 2000000 in
theorem erText_any (w : World) (x : ItemL) (hk : x.key.length ≤ 1000) (ht : -9223372036854775808 ≤ x.time ∧ x.time < 9223372036854775808) (hv : -9223372036854775808 ≤ x.value ∧ x.value < 9223372036854775808) (hT : PowTab w) :
    Calls Tryd.prog 9 #[.agg x.cells] w (Below0 w (Sv x.text)) := by
  obtain ⟨kind, key, time, value⟩ := x
  simp only at hk ht hv
  obtain ⟨w1, hw1⟩ : ∃ W, W = w.alloc (.cells (ItemL.mk kind key time value).cells 23) := ⟨_, rfl⟩
  have HB : Hid (Below w.heap.size w w1) := by rw [hw1]; exact (Below.refl _ w).alloc (Nat.le_refl _) _
  have hrow : w1.heap[w.heap.size]? = some (.cells (ItemL.mk kind key time value).cells 23 (0, 0)) := by rw [hw1]; exact heap_alloc_new w _
  have HC : Hid (∀ w', Below w1.heap.size w1 w' → ∀ i v, (ItemL.mk kind key time value).cells[i]? = some v → w'.cell? ⟨w.heap.size, i, none⟩ = some v) := fun w' hB i v hi => by
    rw [cell_of_row w' _ i _ _ _ ((hB.block _ (Array.getElem?_eq_some_iff.1 hrow).1).trans hrow)]
    exact hi
  have l1 := itoaL_length time (by omega)
  have l2 := itoaL_length value (by omega)
  obtain ⟨at_, hat⟩ : ∃ a, a = itoaL time := ⟨_, rfl⟩
  obtain ⟨av, hav⟩ : ∃ a, a = itoaL value := ⟨_, rfl⟩
  obtain ⟨m2, hm2⟩ : ∃ a, a = bMark ++ at_ := ⟨_, rfl⟩
  obtain ⟨s1, hs1⟩ : ∃ a, a = bEvent ++ key := ⟨_, rfl⟩
  obtain ⟨s2, hs2⟩ : ∃ a, a = s1 ++ bBlank := ⟨_, rfl⟩
  obtain ⟨s3, hs3⟩ : ∃ a, a = s2 ++ at_ := ⟨_, rfl⟩
  obtain ⟨s4, hs4⟩ : ∃ a, a = s3 ++ bBlank := ⟨_, rfl⟩
  obtain ⟨s5, hs5⟩ : ∃ a, a = s4 ++ av := ⟨_, rfl⟩
  have HCL : Hid ((∀ w', Below w.heap.size w w' → Calls Tryd.prog 29 #[.int .i64 time] w' (Below0 w' (Sv at_))) ∧ (∀ w', Below w.heap.size w w' → Calls Tryd.prog 29 #[.int .i64 value] w' (Below0 w' (Sv av)))) := by
    rw [hat, hav]
    exact ⟨fun w' h => itoa_any w' time ht.1 ht.2 (hT.below h), fun w' h => itoa_any w' value hv.1 hv.2 (hT.below h)⟩
  rw [← hat] at l1
  rw [← hav] at l2
  have HADD0 : Hid (∀ w, (binOp .add 9 (.string ⟨#[109, 97, 114, 107, 32]⟩) (Sv at_)).run Tryd.prog w = .ok (Sv m2) w) := fun w => by
    rw [hm2]
    exact run_add_Sv w bMark at_ (by have : bMark.length = 5 := rfl
                                     omega)
  have HADD : Hid ((∀ w, (binOp .add 9 (.string ⟨#[101, 118, 101, 110, 116, 32]⟩) (Sv key)).run Tryd.prog w = .ok (Sv s1) w) ∧ (∀ w, (binOp .add 9 (Sv s1) (.string ⟨#[32]⟩)).run Tryd.prog w = .ok (Sv s2) w) ∧
      (∀ w, (binOp .add 9 (Sv s2) (Sv at_)).run Tryd.prog w = .ok (Sv s3) w) ∧ (∀ w, (binOp .add 9 (Sv s3) (.string ⟨#[32]⟩)).run Tryd.prog w = .ok (Sv s4) w) ∧ (∀ w, (binOp .add 9 (Sv s4) (Sv av)).run Tryd.prog w = .ok (Sv s5) w)) := by
    have e1 : bEvent.length = 6 := rfl
    have e2 : bBlank.length = 1 := rfl
    have l4 : s1.length = bEvent.length + key.length := by rw [hs1, List.length_append]
    have l5 : s2.length = s1.length + bBlank.length := by rw [hs2, List.length_append]
    have l6 : s3.length = s2.length + at_.length := by rw [hs3, List.length_append]
    have l7 : s4.length = s3.length + bBlank.length := by rw [hs4, List.length_append]
    exact ⟨fun w => by rw [hs1]; exact run_add_Sv w bEvent key (by omega), fun w => by rw [hs2]; exact run_add_Sv w s1 bBlank (by omega), fun w => by rw [hs3]; exact run_add_Sv w _ _ (by omega), fun w => by rw [hs4]; exact run_add_Sv w s3 bBlank (by omega), fun w => by rw [hs5]; exact run_add_Sv w _ _ (by omega)⟩
  have HG0 : Hid (Below w1.heap.size w1 w1.drew) := (Below.refl _ w1).drew
  have htext : (ItemL.mk kind key time value).text = if kind = 2 then m2 else s5 := by rw [hm2, hs5, hs4, hs3, hs2, hs1, hat, hav]; rfl
  rw [htext]
  have c0 : w1.cell? ⟨w.heap.size, 0, none⟩ = some (.int .i64 kind) := HC.out w1 (Below.refl _ _) 0 _ rfl
  have c2 : w1.cell? ⟨w.heap.size, 2, none⟩ = some (.int .i64 time) := HC.out w1 (Below.refl _ _) 2 _ rfl
  unfold ItemL.cells at hw1 ⊢
  clear hrow htext hT ht hv hk hat hav hm2 hs1 hs2 hs3 hs4 hs5 l1 l2
  by_cases k2 : kind = 2
  · have e2 : (kind == 2) = true := by rw [k2]; rfl
    rw [if_pos k2]
    have hadd := HADD0.out
    have HS := Lib.hid (HCL.out.1 w1 HB.out)
    clear k2
    go_enter Tryd.func9, Tryd.ntmps9
    go_upto_region 1 with (fail)
    rw [← hw1]
    clear hw1
    go_wp2_with (fail)
    refine HS.out.mono ?_
    rintro e w3 ⟨rfl, hB3⟩
    have HZ : Hid (Below w.heap.size w w3) := HB.out.trans (hB3.mono HB.out.size)
    clear hB3
    dsimp only
    go_wp2_with (fail)
    go_ret
    exact ⟨rfl, HZ.out⟩
  · have e2 : (kind == 2) = false := by simpa using k2
    rw [if_neg k2]
    clear k2
    go_enter Tryd.func9, Tryd.ntmps9
    go_upto_region 1 with (fail)
    rw [← hw1]
    clear hw1
    go_upto_region 3 with (fail)
    refine wp_region_seq_frame (by kernel_rfl) [none, none, none, none, none, none, none, none, none, none, none, none, none, none] [] (vOfC [.pointer (some ⟨w.heap.size, 1, none⟩), Sv key, Sv s1, Sv s2, .pointer (some ⟨w.heap.size, 2, none⟩), .int .i64 time, Sv at_, Sv s3, Sv s4, .pointer (some ⟨w.heap.size, 3, none⟩), .int .i64 value, Sv av, Sv s5, Sv s5]) (fun _ w' => Below w1.heap.size w1 w') (fun _ _ => True) (fun _ _ _ _ _ h => h) (by kernel_rfl) (by kernel_rfl) (by kernel_rfl) HG0.out ⟨trivial, trivial, trivial, trivial, trivial, trivial, trivial, trivial, trivial, trivial, trivial, trivial, trivial, trivial, trivial⟩ ?_ ?_
    · refine ⟨?_, ?_, ?_, ?_, ?_, ?_, ?_, ?_, ?_, ?_, ?_, ?_, ?_, ?_, trivial⟩
      · intro k a w' hG hout hpre K hK
        have q1 := ev_of ((hout 1 rfl).trans (show _ = .pointer (some ⟨w.heap.size, 0, none⟩) from rfl))
        clear hout hpre
        go_step
        exact hK _ _ rfl hG trivial
      · intro k a w' hG hout hpre K hK
        obtain ⟨p0, _⟩ := hpre
        have q10 := ev_of (show a.eval (.tmp 10) = .pointer (some ⟨w.heap.size, 1, none⟩) from p0)
        have hc : w'.cell? ⟨w.heap.size, 1, none⟩ = some (Sv key) := HC.out w' hG 1 _ rfl
        clear hout p0
        go_step
        exact hK _ _ rfl hG trivial
      · intro k a w' hG hout hpre K hK
        obtain ⟨p0, _⟩ := hpre
        have q11 := ev_of (show a.eval (.tmp 11) = Sv key from p0)
        have hadd := HADD.out.1
        clear hout p0
        go_step
        exact hK _ _ rfl hG trivial
      · intro k a w' hG hout hpre K hK
        obtain ⟨p0, _⟩ := hpre
        have q12 := ev_of (show a.eval (.tmp 12) = Sv s1 from p0)
        have hadd := HADD.out.2.1
        clear hout p0
        go_step
        exact hK _ _ rfl hG trivial
      · intro k a w' hG hout hpre K hK
        have q1 := ev_of ((hout 1 rfl).trans (show _ = .pointer (some ⟨w.heap.size, 0, none⟩) from rfl))
        clear hout hpre
        go_step
        exact hK _ _ rfl hG trivial
      · intro k a w' hG hout hpre K hK
        obtain ⟨p0, _⟩ := hpre
        have q14 := ev_of (show a.eval (.tmp 14) = .pointer (some ⟨w.heap.size, 2, none⟩) from p0)
        have hc : w'.cell? ⟨w.heap.size, 2, none⟩ = some (.int .i64 time) := HC.out w' hG 2 _ rfl
        clear hout p0
        go_step
        exact hK _ _ rfl hG trivial
      · intro k a w' hG hout hpre K hK
        obtain ⟨p0, _⟩ := hpre
        have q15 := ev_of (show a.eval (.tmp 15) = .int .i64 time from p0)
        have HS := Lib.hid (HCL.out.1 w' (HB.out.trans (hG.mono HB.out.size)))
        clear hout p0
        go_step
        refine HS.out.mono ?_
        rintro e w3 ⟨rfl, hB⟩
        exact hK _ _ rfl (hG.trans (hB.mono hG.size)) trivial
      · intro k a w' hG hout hpre K hK
        obtain ⟨p0, p1, _⟩ := hpre
        have q13 := ev_of (show a.eval (.tmp 13) = Sv s2 from p0)
        have q16 := ev_of (show a.eval (.tmp 16) = Sv at_ from p1)
        have hadd := HADD.out.2.2.1
        clear hout p0 p1
        go_step
        exact hK _ _ rfl hG trivial
      · intro k a w' hG hout hpre K hK
        obtain ⟨p0, _⟩ := hpre
        have q17 := ev_of (show a.eval (.tmp 17) = Sv s3 from p0)
        have hadd := HADD.out.2.2.2.1
        clear hout p0
        go_step
        exact hK _ _ rfl hG trivial
      · intro k a w' hG hout hpre K hK
        have q1 := ev_of ((hout 1 rfl).trans (show _ = .pointer (some ⟨w.heap.size, 0, none⟩) from rfl))
        clear hout hpre
        go_step
        exact hK _ _ rfl hG trivial
      · intro k a w' hG hout hpre K hK
        obtain ⟨p0, _⟩ := hpre
        have q19 := ev_of (show a.eval (.tmp 19) = .pointer (some ⟨w.heap.size, 3, none⟩) from p0)
        have hc : w'.cell? ⟨w.heap.size, 3, none⟩ = some (.int .i64 value) := HC.out w' hG 3 _ rfl
        clear hout p0
        go_step
        exact hK _ _ rfl hG trivial
      · intro k a w' hG hout hpre K hK
        obtain ⟨p0, _⟩ := hpre
        have q20 := ev_of (show a.eval (.tmp 20) = .int .i64 value from p0)
        have HS := Lib.hid (HCL.out.2 w' (HB.out.trans (hG.mono HB.out.size)))
        clear hout p0
        go_step
        refine HS.out.mono ?_
        rintro e w3 ⟨rfl, hB⟩
        exact hK _ _ rfl (hG.trans (hB.mono hG.size)) trivial
      · intro k a w' hG hout hpre K hK
        obtain ⟨p0, p1, _⟩ := hpre
        have q18 := ev_of (show a.eval (.tmp 18) = Sv s4 from p0)
        have q21 := ev_of (show a.eval (.tmp 21) = Sv av from p1)
        have hadd := HADD.out.2.2.2.2
        clear hout p0 p1
        go_step
        exact hK _ _ rfl hG trivial
      · intro k a w' hG hout hpre K hK
        obtain ⟨p0, _⟩ := hpre
        have q22 := ev_of (show a.eval (.tmp 22) = Sv s5 from p0)
        clear hout p0
        go_step
        exact hK _ _ rfl hG trivial
    · intro vs w2 hG hlen hV
      match vs, hlen, hV with
      | [v0, v1, v2, v3, v4, v5, v6, v7, v8, v9, v10, v11, v12, v13], _, hV =>
        obtain rfl : v13 = Sv s5 := hV 13 2 v13 rfl rfl
        clear hV
        simp only [putsL, List.tail_cons, List.headD_cons]
        simp only [Act.put, List.setIfInBounds_toArray, List.set_cons_succ, List.set_cons_zero]
        have HZ : Hid (Below w.heap.size w w2) := HB.out.trans (hG.mono HB.out.size)
        clear hG
        go_wp2_with (fail)
        go_ret
        exact ⟨rfl, HZ.out⟩
end Go.Proofs.YtmjanplhgpcbeaaDoor
