/-
  The contract of package event's Text.
-/
import Derived.Test.YtmjanplhgpcbeaaDoorEventName
import Derived.Test.YtmjanplhgpcbeaaDoorLocal
namespace Go.Proofs.YtmjanplhgpcbeaaDoor
open Go Go.RowKit

def ItemL.told (x : ItemL) : List (BitVec 8) := if x.rightB then x.text else []
set_option maxRecDepth 100000 in
theorem etext_no (w : World) (x : ItemL) (hk : x.key.length ≤ 1000000) (hr : x.rightB = false) :
    Calls Tryd.prog 16 #[.agg x.cells] w (Below0 w (Sv [])) := by
  obtain ⟨w1, hw1⟩ : ∃ W, W = w.alloc (.cells x.cells 23) := ⟨_, rfl⟩
  have HB : Hid (Below w.heap.size w w1) := by rw [hw1]; exact (Below.refl _ w).alloc (Nat.le_refl _) _
  have HR := Lib.hid (eright_any w1 x hk)
  rw [hr] at HR
  clear hr hk
  obtain ⟨kind, key, time, value⟩ := x
  rw [hw1] at HB HR
  clear hw1 w1
  unfold ItemL.cells at HB HR ⊢
  go_enter Tryd.func16, Tryd.ntmps16
  go_wp2_with (fail)
  refine HR.out.mono ?_
  rintro e w3 ⟨rfl, hB3⟩
  have HZ : Hid (Below w.heap.size w w3) := HB.out.trans (hB3.mono HB.out.size)
  clear hB3
  dsimp only
  go_wp2_with (fail)
  go_ret
  exact ⟨rfl, HZ.out⟩
theorem right_cases {kind : Int} {key : List (BitVec 8)} {time value : Int} (h : (ItemL.mk kind key time value).rightB = true) :
    (0 ≤ time ∧ time ≤ 1099511627776) ∧ ((kind = 2 ∧ key = [] ∧ value = 0) ∨ (kind = 1 ∧ nameB key = true ∧ 1 ≤ key.length ∧ key.length ≤ 16 ∧ -1099511627776 ≤ value ∧ value ≤ 1099511627776)) := by
  simp only [ItemL.rightB, Bool.and_eq_true, decide_eq_true_eq] at h
  refine ⟨h.1, ?_⟩
  have h2 := h.2
  split at h2
  · rename_i hk
    exact .inl ⟨hk, by simpa using h2⟩
  · simp only [Bool.and_eq_true, decide_eq_true_eq] at h2
    have hn := h2.1.2
    simp only [nameB, Bool.and_eq_true, decide_eq_true_eq] at hn
    exact .inr ⟨h2.1.1, h2.1.2, hn.2.1, hn.2.2, h2.2.1, h2.2.2⟩
set_option maxRecDepth 100000 in
set_option maxHeartbeats 2000000 in
theorem etext_yes (w : World) (x : ItemL) (hr : x.rightB = true) (hT : PowTab w) :
    Calls Tryd.prog 16 #[.agg x.cells] w (Below0 w (Sv x.text)) := by
  obtain ⟨kind, key, time, value⟩ := x
  obtain ⟨ht, hkv⟩ := right_cases hr
  have hkl : key.length ≤ 16 := by
    rcases hkv with ⟨_, h, _⟩ | h
    · rw [h]; decide
    · exact h.2.2.2.1
  have hv : -1099511627776 ≤ value ∧ value ≤ 1099511627776 := by
    rcases hkv with ⟨_, _, h⟩ | h
    · omega
    · exact h.2.2.2.2
  obtain ⟨w1, hw1⟩ : ∃ W, W = w.alloc (.cells (ItemL.mk kind key time value).cells 23) := ⟨_, rfl⟩
  have HB : Hid (Below w.heap.size w w1) := by rw [hw1]; exact (Below.refl _ w).alloc (Nat.le_refl _) _
  have hrow : w1.heap[w.heap.size]? = some (.cells (ItemL.mk kind key time value).cells 23 (0, 0)) := by rw [hw1]; exact heap_alloc_new w _
  have HC : Hid (∀ w', Below w1.heap.size w1 w' → ∀ i v, (ItemL.mk kind key time value).cells[i]? = some v → w'.cell? ⟨w.heap.size, i, none⟩ = some v) := fun w' hB i v hi => by
    rw [cell_of_row w' _ i _ _ _ ((hB.block _ (Array.getElem?_eq_some_iff.1 hrow).1).trans hrow)]
    exact hi
  have HR := Lib.hid (eright_any w1 (ItemL.mk kind key time value) (Nat.le_trans hkl (by decide)))
  rw [hr] at HR
  have l1 := itoaL_length time (by omega)
  have l2 := itoaL_length value (by omega)
  obtain ⟨at_, hat⟩ : ∃ a, a = itoaL time := ⟨_, rfl⟩
  obtain ⟨av, hav⟩ : ∃ a, a = itoaL value := ⟨_, rfl⟩
  obtain ⟨m2, hm2⟩ : ∃ a, a = bMark ++ at_ := ⟨_, rfl⟩
  obtain ⟨s1, hs1⟩ : ∃ a, a = bEvent ++ key := ⟨_, rfl⟩
  obtain ⟨s2, hs2⟩ : ∃ a, a = s1 ++ bBlank := ⟨_, rfl⟩
  obtain ⟨s3, hs3⟩ : ∃ a, a = s2 ++ at_ := ⟨_, rfl⟩
  obtain ⟨s4, hs4⟩ : ∃ a, a = s3 ++ bBlank := ⟨_, rfl⟩
  obtain ⟨s5, hs5⟩ : ∃ a, a = s4 ++ av := ⟨_, rfl⟩
  have HCL : Hid ((∀ w', Below w.heap.size w w' → Calls Tryd.prog 29 #[.int .i64 time] w' (Below0 w' (Sv at_))) ∧ (∀ w', Below w.heap.size w w' → Calls Tryd.prog 29 #[.int .i64 value] w' (Below0 w' (Sv av)))) := by
    rw [hat, hav]
    exact ⟨fun w' h => itoa_any w' time (by omega) (by omega) (hT.below h), fun w' h => itoa_any w' value (by omega) (by omega) (hT.below h)⟩
  rw [← hat] at l1
  rw [← hav] at l2
  have HADD0 : Hid (∀ w, (binOp .add 9 (.string ⟨#[109, 97, 114, 107, 32]⟩) (Sv at_)).run Tryd.prog w = .ok (Sv m2) w) := fun w => by
    rw [hm2]
    exact run_add_Sv w bMark at_ (by have : bMark.length = 5 := rfl
                                     omega)
  have HADD : Hid ((∀ w, (binOp .add 9 (.string ⟨#[101, 118, 101, 110, 116, 32]⟩) (Sv key)).run Tryd.prog w = .ok (Sv s1) w) ∧ (∀ w, (binOp .add 9 (Sv s1) (.string ⟨#[32]⟩)).run Tryd.prog w = .ok (Sv s2) w) ∧
      (∀ w, (binOp .add 9 (Sv s2) (Sv at_)).run Tryd.prog w = .ok (Sv s3) w) ∧ (∀ w, (binOp .add 9 (Sv s3) (.string ⟨#[32]⟩)).run Tryd.prog w = .ok (Sv s4) w) ∧ (∀ w, (binOp .add 9 (Sv s4) (Sv av)).run Tryd.prog w = .ok (Sv s5) w)) := by
    have e1 : bEvent.length = 6 := rfl
    have e2 : bBlank.length = 1 := rfl
    have l4 : s1.length = bEvent.length + key.length := by rw [hs1, List.length_append]
    have l5 : s2.length = s1.length + bBlank.length := by rw [hs2, List.length_append]
    have l6 : s3.length = s2.length + at_.length := by rw [hs3, List.length_append]
    have l7 : s4.length = s3.length + bBlank.length := by rw [hs4, List.length_append]
    exact ⟨fun w => by rw [hs1]; exact run_add_Sv w bEvent key (by omega), fun w => by rw [hs2]; exact run_add_Sv w s1 bBlank (by omega), fun w => by rw [hs3]; exact run_add_Sv w _ _ (by omega), fun w => by rw [hs4]; exact run_add_Sv w s3 bBlank (by omega), fun w => by rw [hs5]; exact run_add_Sv w _ _ (by omega)⟩
  have htext : (ItemL.mk kind key time value).text = if kind = 2 then m2 else s5 := by rw [hm2, hs5, hs4, hs3, hs2, hs1, hat, hav]; rfl
  rw [htext]
  have c0 : w1.cell? ⟨w.heap.size, 0, none⟩ = some (.int .i64 kind) := HC.out w1 (Below.refl _ _) 0 _ rfl
  have c1 : w1.cell? ⟨w.heap.size, 1, none⟩ = some (Sv key) := HC.out w1 (Below.refl _ _) 1 _ rfl
  have c2 : w1.cell? ⟨w.heap.size, 2, none⟩ = some (.int .i64 time) := HC.out w1 (Below.refl _ _) 2 _ rfl
  have c3 : w1.cell? ⟨w.heap.size, 3, none⟩ = some (.int .i64 value) := HC.out w1 (Below.refl _ _) 3 _ rfl
  have k2 : kind = 2 ∨ kind = 1 := by
    rcases hkv with h | h
    · exact .inl h.1
    · exact .inr h.1
  unfold ItemL.cells at hw1 HR ⊢
  clear hrow htext hT ht hv hkv hr hkl hat hav hm2 hs1 hs2 hs3 hs4 hs5 l1 l2
  rcases k2 with rfl | rfl
  · rw [if_pos rfl]
    have hadd := HADD0.out
    go_enter Tryd.func16, Tryd.ntmps16
    go_upto_region 1 with (fail)
    rw [← hw1]
    clear hw1
    go_wp2_with (fail)
    refine HR.out.mono ?_
    rintro e w3 ⟨rfl, hB3⟩
    have H3 := Lib.hid hB3
    clear hB3 c0 c1 c2 c3
    have c2 : w3.cell? ⟨w.heap.size, 2, none⟩ = some (.int .i64 time) := HC.out w3 H3.out 2 _ rfl
    dsimp only
    go_wp2_with (fail)
    refine (HCL.out.1 w3 (HB.out.trans (H3.out.mono HB.out.size))).mono ?_
    rintro e w4 ⟨rfl, hB4⟩
    have H4 : Hid (Below w1.heap.size w1 w4) := Lib.hid (H3.out.trans (hB4.mono H3.out.size))
    clear hB4 c2
    have c0 : w4.cell? ⟨w.heap.size, 0, none⟩ = some (.int .i64 2) := HC.out w4 H4.out 0 _ rfl
    dsimp only
    go_wp2_with (fail)
    go_ret
    exact ⟨rfl, HB.out.trans (H4.out.mono HB.out.size)⟩
  · rw [if_neg (by decide)]
    go_enter Tryd.func16, Tryd.ntmps16
    go_upto_region 1 with (fail)
    rw [← hw1]
    clear hw1
    go_wp2_with (fail)
    refine HR.out.mono ?_
    rintro e w3 ⟨rfl, hB3⟩
    have H3 := Lib.hid hB3
    clear hB3 c0 c1 c2 c3
    have c2 : w3.cell? ⟨w.heap.size, 2, none⟩ = some (.int .i64 time) := HC.out w3 H3.out 2 _ rfl
    dsimp only
    go_wp2_with (fail)
    refine (HCL.out.1 w3 (HB.out.trans (H3.out.mono HB.out.size))).mono ?_
    rintro e w4 ⟨rfl, hB4⟩
    have H4 : Hid (Below w1.heap.size w1 w4) := Lib.hid (H3.out.trans (hB4.mono H3.out.size))
    clear hB4 c2
    have c0 : w4.cell? ⟨w.heap.size, 0, none⟩ = some (.int .i64 1) := HC.out w4 H4.out 0 _ rfl
    have HG0 : Hid (Below w1.heap.size w1 w4.drew) := H4.out.drew
    dsimp only
    go_upto_region 6 with (fail)
    clear c0
    refine wp_region_seq_frame (by kernel_rfl) [none, none, none, none, none, none, none, none, none, none, none, none] [] (vOfC [.pointer (some ⟨w.heap.size, 1, none⟩), Sv key, Sv s1, Sv s2, Sv at_, Sv s3, Sv s4, .pointer (some ⟨w.heap.size, 3, none⟩), .int .i64 value, Sv av, Sv s5, Sv s5]) (fun _ w' => Below w1.heap.size w1 w') (fun _ _ => True) (fun _ _ _ _ _ h => h) (by kernel_rfl) (by kernel_rfl) (by kernel_rfl) HG0.out ⟨trivial, trivial, trivial, trivial, trivial, trivial, trivial, trivial, trivial, trivial, trivial, trivial, trivial⟩ ?_ ?_
    · refine ⟨?_, ?_, ?_, ?_, ?_, ?_, ?_, ?_, ?_, ?_, ?_, ?_, trivial⟩
      · intro k a w' hG hout hpre K hK
        have q1 := ev_of ((hout 1 rfl).trans (show _ = .pointer (some ⟨w.heap.size, 0, none⟩) from rfl))
        clear hout hpre
        go_step
        exact hK _ _ rfl hG trivial
      · intro k a w' hG hout hpre K hK
        obtain ⟨p0, _⟩ := hpre
        have q15 := ev_of (show a.eval (.tmp 15) = .pointer (some ⟨w.heap.size, 1, none⟩) from p0)
        have hc : w'.cell? ⟨w.heap.size, 1, none⟩ = some (Sv key) := HC.out w' hG 1 _ rfl
        clear hout p0
        go_step
        exact hK _ _ rfl hG trivial
      · intro k a w' hG hout hpre K hK
        obtain ⟨p0, _⟩ := hpre
        have q16 := ev_of (show a.eval (.tmp 16) = Sv key from p0)
        have hadd := HADD.out.1
        clear hout p0
        go_step
        exact hK _ _ rfl hG trivial
      · intro k a w' hG hout hpre K hK
        obtain ⟨p0, _⟩ := hpre
        have q17 := ev_of (show a.eval (.tmp 17) = Sv s1 from p0)
        have hadd := HADD.out.2.1
        clear hout p0
        go_step
        exact hK _ _ rfl hG trivial
      · intro k a w' hG hout hpre K hK
        have q3 := ev_of ((hout 3 rfl).trans (show _ = Sv at_ from rfl))
        clear hout hpre
        go_step
        exact hK _ _ rfl hG trivial
      · intro k a w' hG hout hpre K hK
        obtain ⟨p0, p1, _⟩ := hpre
        have q18 := ev_of (show a.eval (.tmp 18) = Sv s2 from p0)
        have q19 := ev_of (show a.eval (.tmp 19) = Sv at_ from p1)
        have hadd := HADD.out.2.2.1
        clear hout p0 p1
        go_step
        exact hK _ _ rfl hG trivial
      · intro k a w' hG hout hpre K hK
        obtain ⟨p0, _⟩ := hpre
        have q20 := ev_of (show a.eval (.tmp 20) = Sv s3 from p0)
        have hadd := HADD.out.2.2.2.1
        clear hout p0
        go_step
        exact hK _ _ rfl hG trivial
      · intro k a w' hG hout hpre K hK
        have q1 := ev_of ((hout 1 rfl).trans (show _ = .pointer (some ⟨w.heap.size, 0, none⟩) from rfl))
        clear hout hpre
        go_step
        exact hK _ _ rfl hG trivial
      · intro k a w' hG hout hpre K hK
        obtain ⟨p0, _⟩ := hpre
        have q22 := ev_of (show a.eval (.tmp 22) = .pointer (some ⟨w.heap.size, 3, none⟩) from p0)
        have hc : w'.cell? ⟨w.heap.size, 3, none⟩ = some (.int .i64 value) := HC.out w' hG 3 _ rfl
        clear hout p0
        go_step
        exact hK _ _ rfl hG trivial
      · intro k a w' hG hout hpre K hK
        obtain ⟨p0, _⟩ := hpre
        have q23 := ev_of (show a.eval (.tmp 23) = .int .i64 value from p0)
        have HS := Lib.hid (HCL.out.2 w' (HB.out.trans (hG.mono HB.out.size)))
        clear hout p0
        go_step
        refine HS.out.mono ?_
        rintro e w3 ⟨rfl, hB⟩
        exact hK _ _ rfl (hG.trans (hB.mono hG.size)) trivial
      · intro k a w' hG hout hpre K hK
        obtain ⟨p0, p1, _⟩ := hpre
        have q21 := ev_of (show a.eval (.tmp 21) = Sv s4 from p0)
        have q24 := ev_of (show a.eval (.tmp 24) = Sv av from p1)
        have hadd := HADD.out.2.2.2.2
        clear hout p0 p1
        go_step
        exact hK _ _ rfl hG trivial
      · intro k a w' hG hout hpre K hK
        obtain ⟨p0, _⟩ := hpre
        have q25 := ev_of (show a.eval (.tmp 25) = Sv s5 from p0)
        clear hout p0
        go_step
        exact hK _ _ rfl hG trivial
    · intro vs w2 hG hlen hV
      match vs, hlen, hV with
      | [v0, v1, v2, v3, v4, v5, v6, v7, v8, v9, v10, v11], _, hV =>
        obtain rfl : v11 = Sv s5 := hV 11 2 v11 rfl rfl
        clear hV
        simp only [putsL, List.tail_cons, List.headD_cons]
        simp only [Act.put, List.setIfInBounds_toArray, List.set_cons_succ, List.set_cons_zero]
        have HZ : Hid (Below w.heap.size w w2) := HB.out.trans (hG.mono HB.out.size)
        clear hG
        go_wp2_with (fail)
        go_ret
        exact ⟨rfl, HZ.out⟩
theorem etext_any (w : World) (x : ItemL) (hk : x.key.length ≤ 1000000) (hT : PowTab w) : Calls Tryd.prog 16 #[.agg x.cells] w (Below0 w (Sv x.told)) := by
  unfold ItemL.told
  cases hr : x.rightB with
  | true => rw [if_pos rfl]; exact etext_yes w x hr hT
  | false => rw [if_neg (by decide)]; exact etext_no w x hk hr
end Go.Proofs.YtmjanplhgpcbeaaDoor
