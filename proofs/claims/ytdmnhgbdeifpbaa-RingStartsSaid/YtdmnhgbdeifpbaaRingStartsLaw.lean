/-
  RingStarts' law: Start is the first place, from one on, at which a run doesn't go over the ring's end.
-/
import Derived.Test.YtdmnhgbdeifpbaaRingFirst
namespace Go.Proofs.Ytdmnhgbdeifpbaa
open Go Go.RowKit

set_option maxRecDepth 100000 in
set_option maxHeartbeats 2000000 in
theorem ringStarts_law (w : World) (f l v n : Int) : Calls Try.prog 5 #[rgC f l, .int .i64 v, .int .i64 n] w (Below0 w (.bool true)) := by
  obtain ⟨P, hP⟩ : ∃ P : Ending → World → Prop, P = Below0 w (.bool true) := ⟨_, rfl⟩
  rw [← hP]
  have HP := Lib.hid hP
  obtain ⟨wb, hwb⟩ : ∃ W, W = w.alloc (.cells #[.int .i64 f, .int .i64 l] 23) := ⟨_, rfl⟩
  obtain ⟨b, hbb⟩ : ∃ b, b = w.heap.size := ⟨_, rfl⟩
  have hnw := rg_new w f l
  rw [← hwb, ← hbb] at hnw
  have HB : Hid (RgAt wb b f l ∧ Below w.heap.size w wb) := by rw [← hbb]; exact hnw
  have HE : Hid (∀ w', Below wb.heap.size wb w' → P (.returned (.bool true)) w') := by
    rw [hP]
    exact Lib.hid fun w' h => ⟨rfl, HB.out.2.trans (h.mono HB.out.2.size)⟩
  have HF := Lib.hid (rgfirst_any wb)
  obtain ⟨S, hS⟩ : ∃ S, S = rgStart f l v n := ⟨_, rfl⟩
  have HSt : Hid (∀ w', Calls Try.prog 17 #[rgC f l, .int .i64 v, .int .i64 n] w' (Below0 w' (.int .i64 S))) := by
    rw [hS]
    exact Lib.hid fun w' => rgstart_any w' f l v n
  unfold rgC at HSt ⊢
  clear hP hnw
  by_cases h0 : 562949953421312 < v
  · clear hS
    go_enter Try.func5, Try.ntmps5
    go_upto_region 1 with (fail)
    rw [← hwb, ← hbb]
    clear hwb hbb
    go_wp2_with (fail)
    refine HF.out.mono ?_
    rintro e w1 ⟨rfl, hB1⟩
    have H1 := Lib.hid hB1
    clear hB1
    dsimp only
    have HQ := Lib.hid (HE.out w1 H1.out)
    go_wp2_with (fail)
    exact HQ.out
  · by_cases h1 : S = -1
    · subst h1
      clear hS
      go_enter Try.func5, Try.ntmps5
      go_upto_region 1 with (fail)
      rw [← hwb, ← hbb]
      clear hwb hbb
      go_wp2_with (fail)
      refine HF.out.mono ?_
      rintro e w1 ⟨rfl, hB1⟩
      have H1 := Lib.hid hB1
      clear hB1
      dsimp only
      have d0 := (HB.out.1.below H1.out).c0
      have d1 := (HB.out.1.below H1.out).c1
      go_wp2_with (fail)
      refine (HSt.out w1).mono ?_
      clear d0 d1
      rintro e w2 ⟨rfl, hB2⟩
      have H2 : Hid (Below wb.heap.size wb w2) := H1.out.trans (hB2.mono H1.out.size)
      clear hB2
      dsimp only
      have HQ := Lib.hid (HE.out w2 H2.out)
      go_wp2_with (fail)
      exact HQ.out
    · have hb := rgStart_bounds (f := f) (l := l) (v := v) (n := n) (by rw [← hS]; exact h1)
      have hfirst : ∀ k, v ≤ k → k ≤ S → (k % l ≤ l - n ↔ k = S) := fun k h2 h3 => by
        rw [hS] at h3 ⊢
        exact rgStart_first (by rw [← hS]; exact h1) h2 h3
      rw [← hS] at hb
      obtain ⟨hp, hv, hn1, hn2, ha, hc, -⟩ := hb
      have hl : 1 ≤ l ∧ l ≤ 4096 := hp.2.2
      have hf : 0 ≤ f ∧ f ≤ 4096 := ⟨hp.1, hp.2.1⟩
      have hv2 : 0 ≤ v ∧ v ≤ 562949953421312 := by have := hv.1; omega
      have hw : IntKind.i64.wrap (S - v) = S - v := IntWalk.i64_in _ (by omega)
      have hwl : IntKind.i64.wrap (l - n) = l - n := IntWalk.i64_in _ (by omega)
      have hs0 : 0 ≤ S := by omega
      have hs1 : v ≤ S := ha
      have HFi := Lib.hid (And.intro hfirst (And.intro hp hl))
      clear hS hfirst hp hv ha h1
      go_enter Try.func5, Try.ntmps5
      go_upto_region 1 with (fail)
      rw [← hwb, ← hbb]
      clear hwb hbb
      go_wp2_with (fail)
      refine HF.out.mono ?_
      rintro e w1 ⟨rfl, hB1⟩
      have H1 := Lib.hid hB1
      clear hB1
      dsimp only
      have d0 := (HB.out.1.below H1.out).c0
      have d1 := (HB.out.1.below H1.out).c1
      go_wp2_with (fail)
      refine (HSt.out w1).mono ?_
      clear d0 d1
      rintro e w2 ⟨rfl, hB2⟩
      have H2 : Hid (Below wb.heap.size wb w2) := H1.out.trans (hB2.mono H1.out.size)
      clear hB2
      dsimp only
      have HD : Hid (∀ w', Below wb.heap.size wb w' → w'.cell? ⟨b, 0, none⟩ = some (.int .i64 f) ∧ w'.cell? ⟨b, 1, none⟩ = some (.int .i64 l) ∧ (loadVar 23 ⟨b, 0, none⟩).run Try.prog w' = .ok (rgC f l) w') :=
        Lib.hid fun w' h => ⟨(HB.out.1.below h).c0, (HB.out.1.below h).c1, (HB.out.1.below h).load⟩
      unfold rgC at HD
      go_wp2_with (fail)
      go_loopw [8] (fun u wr => ∃ k : Int, u = .int .i64 k ∧ v ≤ k ∧ k ≤ S + 1 ∧ Below wb.heap.size wb wr) (fun u _ => (S + 1 - intOf u).toNat)
      case atStart => exact ⟨v, rfl, Int.le_refl _, by omega, H2.out⟩
      case round =>
        obtain ⟨k, rfl, hk1, hk2, hBr⟩ := hrel
        by_cases hlt : k ≤ S
        · have hkw : IntKind.i64.wrap (k + 1) = k + 1 := IntWalk.i64_in _ (by omega)
          obtain ⟨m, hm⟩ : ∃ m, m = k % l := ⟨_, rfl⟩
          have hmb := mod_bounds (v := k) (l := l) HFi.out.2.2.1
          rw [← hm] at hmb
          have hmf : m ≤ l - n ↔ k = S := by rw [hm]; exact HFi.out.1 k hk1 hlt
          have HBl : Hid (∀ w', Calls Try.prog 18 #[rgC f l, .int .i64 k] w' (Below0 w' (.int .i64 (f + m)))) := by
            refine Lib.hid fun w' => ?_
            have := rgblock_any w' f l k
            rw [rgBlock_at HFi.out.2.1 ⟨by omega, by omega⟩, ← hm] at this
            exact this
          unfold rgC at HBl
          have hfm : IntKind.i64.wrap (f + m - f) = m := by rw [IntWalk.i64_in _ (by omega)]; omega
          have HR := Lib.hid (And.intro hBr (And.intro hmf hm))
          clear hmf hm
          go_upto_region 13 with (fail)
          have hdr : Below wb.heap.size wb wr.drew := HR.out.1.drew
          refine wp_region_held_drew (S := fun w' => Below wb.heap.size wb w') (by kernel_rfl) hdr (fun hHeld => ?_)
          clear hdr hBr
          refine tkFree (i := 0) (v := (.agg #[.int .i64 f, .int .i64 l])) rfl (by kernel_rfl) (by kernel_rfl) (by kernel_rfl) (fun _ _ _ h => h) (rg_load_at (by rfl) 23 _ rfl ⟨b, 0, none⟩ rfl (fun w hS => (HD.out w hS).2.2)) hHeld ?_
          simp only [Act.put, List.setIfInBounds_toArray, List.set_cons_zero, List.set_cons_succ]
          refine tkFree (i := 1) rfl (by kernel_rfl) (by kernel_rfl) (by kernel_rfl) (fun _ _ _ h => h) (.inl ⟨by rfl, fun w hSw => by go_simp; rfl⟩) hHeld ?_
          simp only [Act.put, List.setIfInBounds_toArray, List.set_cons_zero, List.set_cons_succ]
          refine tkFree (i := 3) rfl (by kernel_rfl) (by kernel_rfl) (by kernel_rfl) (fun _ _ _ h => h) (.inl ⟨by rfl, fun w hSw => by go_simp; rfl⟩) hHeld ?_
          simp only [Act.put, List.setIfInBounds_toArray, List.set_cons_zero, List.set_cons_succ]
          refine tkFree (i := 4) rfl (by kernel_rfl) (by kernel_rfl) (by kernel_rfl) (fun _ _ _ h => h) (.inl ⟨by rfl, fun w hSw => by have d0 := (HD.out w hSw).1; go_simp; rfl⟩) hHeld ?_
          simp only [Act.put, List.setIfInBounds_toArray, List.set_cons_zero, List.set_cons_succ]
          refine tkFree (i := 6) rfl (by kernel_rfl) (by kernel_rfl) (by kernel_rfl) (fun _ _ _ h => h) (.inl ⟨by rfl, fun w hSw => by go_simp; rfl⟩) hHeld ?_
          simp only [Act.put, List.setIfInBounds_toArray, List.set_cons_zero, List.set_cons_succ]
          refine tkFree (i := 7) rfl (by kernel_rfl) (by kernel_rfl) (by kernel_rfl) (fun _ _ _ h => h) (.inl ⟨by rfl, fun w hSw => by have d1 := (HD.out w hSw).2.1; go_simp; rfl⟩) hHeld ?_
          simp only [Act.put, List.setIfInBounds_toArray, List.set_cons_zero, List.set_cons_succ]
          refine tkFree (i := 8) rfl (by kernel_rfl) (by kernel_rfl) (by kernel_rfl) (fun _ _ _ h => h) (.inl ⟨by rfl, fun w hSw => by go_simp; rfl⟩) hHeld ?_
          simp only [Act.put, List.setIfInBounds_toArray, List.set_cons_zero, List.set_cons_succ]
          refine tkFree (i := 9) rfl (by kernel_rfl) (by kernel_rfl) (by kernel_rfl) (fun _ _ _ h => h) (.inl ⟨by rfl, fun w hSw => by go_simp; rfl⟩) hHeld ?_
          simp only [Act.put, List.setIfInBounds_toArray, List.set_cons_zero, List.set_cons_succ]
          refine tkOne 2 rfl (by kernel_rfl) rfl (fun K hK => ?_)
          go_simp
          refine (HBl.out _).mono ?_
          rintro e w3_ ⟨rfl, hB⟩
          have hH := hHeld.trans (hB.mono hHeld.size)
          refine hK _ _ hH ?_
          clear hK hB hHeld
          have hHeld := hH
          clear hH
          try simp only [Act.put, List.setIfInBounds_toArray, List.set_cons_zero, List.set_cons_succ]
          refine tkFree (i := 5) rfl (by kernel_rfl) (by kernel_rfl) (by kernel_rfl) (fun _ _ _ h => h) (.inl ⟨by rfl, fun w hSw => by go_simp; rfl⟩) hHeld ?_
          simp only [Act.put, List.setIfInBounds_toArray, List.set_cons_zero, List.set_cons_succ]
          refine tkFree (i := 10) rfl (by kernel_rfl) (by kernel_rfl) (by kernel_rfl) (fun _ _ _ h => h) (.inl ⟨by rfl, fun w hSw => by go_simp; rfl⟩) hHeld ?_
          simp only [Act.put, List.setIfInBounds_toArray, List.set_cons_zero, List.set_cons_succ]
          refine tkFree (i := 11) rfl (by kernel_rfl) (by kernel_rfl) (by kernel_rfl) (fun _ _ _ h => h) (.inl ⟨by rfl, fun w hSw => by go_simp; rfl⟩) hHeld ?_
          simp only [Act.put, List.setIfInBounds_toArray, List.set_cons_zero, List.set_cons_succ]
          refine wpAnyH_done (by kernel_rfl) ?_ _
          have H3 := Lib.hid hHeld
          clear hHeld
          have hmf := HR.out.2.1
          by_cases hks : k = S
          · subst hks
            have hml : m ≤ l - n := hmf.2 rfl
            go_wp2_with (fail)
            exact ⟨⟨k + 1, rfl, by omega, by omega, H3.out⟩, by simp [intOf]; omega⟩
          · have hml : ¬ m ≤ l - n := fun h => hks (hmf.1 h)
            go_wp2_with (fail)
            exact ⟨⟨k + 1, rfl, by omega, by omega, H3.out⟩, by simp [intOf]; omega⟩
        · have HQ := Lib.hid (HE.out wr hBr)
          clear hBr
          go_wp2_with (fail)
          exact HQ.out
end Go.Proofs.Ytdmnhgbdeifpbaa
