/-
  The contracts of package ring's functions on rings and places.
-/
import Derived.Test.YtdmnhgbdeifpbaaRingPure
import Derived.Test.YtdmnhgbdeifpbaaStoreWait
namespace Go.Proofs.Ytdmnhgbdeifpbaa
open Go Go.RowKit

def rgC (f l : Int) : Value := .agg #[.int .i64 f, .int .i64 l]
/-- A ring lies there. -/
def RgAt (w : World) (b : Nat) (f l : Int) : Prop := w.heap[b]? = some (.cells #[.int .i64 f, .int .i64 l] 23 (0, 0))
theorem RgAt.c0 {w : World} {b : Nat} {f l : Int} (h : RgAt w b f l) : w.cell? ⟨b, 0, none⟩ = some (.int .i64 f) := by rw [cell_of_row _ _ _ _ _ _ h]; rfl
theorem RgAt.c1 {w : World} {b : Nat} {f l : Int} (h : RgAt w b f l) : w.cell? ⟨b, 1, none⟩ = some (.int .i64 l) := by rw [cell_of_row _ _ _ _ _ _ h]; rfl
theorem RgAt.below {w w' : World} {b : Nat} {f l : Int} (h : RgAt w b f l) (hB : Below w.heap.size w w') : RgAt w' b f l := (hB.block b (Array.getElem?_eq_some_iff.1 h).1).trans h
theorem rg_new (w : World) (f l : Int) : RgAt (w.alloc (.cells #[.int .i64 f, .int .i64 l] 23)) w.heap.size f l ∧ Below w.heap.size w (w.alloc (.cells #[.int .i64 f, .int .i64 l] 23)) :=
  ⟨heap_alloc_new w _, (Below.refl _ w).alloc (Nat.le_refl _) _⟩
theorem rgplace_any (w : World) (v : Int) : Calls Try.prog 29 #[.int .i64 v] w fun e w' => e = .returned (.bool (decide (rgPlace v))) ∧ w' = w := by
  by_cases h0 : 0 ≤ v
  · go_enter Try.func29, Try.ntmps29
    go_wp2_with (fail)
    go_ret
    exact ⟨by simp [rgPlace, h0], rfl⟩
  · go_enter Try.func29, Try.ntmps29
    go_wp2_with (fail)
    go_ret
    exact ⟨by rw [decide_eq_false (by unfold rgPlace; omega)]; rfl, rfl⟩
theorem rgparts_any (w : World) (f l : Int) : Calls Try.prog 28 #[rgC f l] w (Below0 w (.bool (decide (rgParts f l)))) := by
  unfold rgC
  by_cases h0 : 0 ≤ f
  · by_cases h1 : f ≤ 4096
    · by_cases h2 : 1 ≤ l
      · go_enter Try.func28, Try.ntmps28
        go_upto_region 1 with (fail)
        obtain ⟨wb, hwb⟩ : ∃ W, W = w.alloc (.cells #[.int .i64 f, .int .i64 l] 23) := ⟨_, rfl⟩
        obtain ⟨b, hb⟩ : ∃ b, b = w.heap.size := ⟨_, rfl⟩
        have hn := rg_new w f l
        rw [← hwb, ← hb] at hn
        rw [← hwb, ← hb]
        have d0 := hn.1.c0
        have d1 := hn.1.c1
        have HB : Hid (RgAt wb b f l ∧ Below w.heap.size w wb) := by rw [← hb]; exact hn
        clear hwb hb hn
        go_wp2_with (fail)
        go_ret
        exact ⟨by simp [rgParts, h0, h1, h2], HB.out.2⟩
      · go_enter Try.func28, Try.ntmps28
        go_upto_region 1 with (fail)
        obtain ⟨wb, hwb⟩ : ∃ W, W = w.alloc (.cells #[.int .i64 f, .int .i64 l] 23) := ⟨_, rfl⟩
        obtain ⟨b, hb⟩ : ∃ b, b = w.heap.size := ⟨_, rfl⟩
        have hn := rg_new w f l
        rw [← hwb, ← hb] at hn
        rw [← hwb, ← hb]
        have d0 := hn.1.c0
        have d1 := hn.1.c1
        have HB : Hid (RgAt wb b f l ∧ Below w.heap.size w wb) := by rw [← hb]; exact hn
        clear hwb hb hn
        go_wp2_with (fail)
        go_ret
        exact ⟨by rw [decide_eq_false (by unfold rgParts; omega)]; rfl, HB.out.2⟩
    · go_enter Try.func28, Try.ntmps28
      go_upto_region 1 with (fail)
      obtain ⟨wb, hwb⟩ : ∃ W, W = w.alloc (.cells #[.int .i64 f, .int .i64 l] 23) := ⟨_, rfl⟩
      obtain ⟨b, hb⟩ : ∃ b, b = w.heap.size := ⟨_, rfl⟩
      have hn := rg_new w f l
      rw [← hwb, ← hb] at hn
      rw [← hwb, ← hb]
      have d0 := hn.1.c0
      have d1 := hn.1.c1
      have HB : Hid (RgAt wb b f l ∧ Below w.heap.size w wb) := by rw [← hb]; exact hn
      clear hwb hb hn
      go_wp2_with (fail)
      go_ret
      exact ⟨by rw [decide_eq_false (by unfold rgParts; omega)]; rfl, HB.out.2⟩
  · go_enter Try.func28, Try.ntmps28
    go_upto_region 1 with (fail)
    obtain ⟨wb, hwb⟩ : ∃ W, W = w.alloc (.cells #[.int .i64 f, .int .i64 l] 23) := ⟨_, rfl⟩
    obtain ⟨b, hb⟩ : ∃ b, b = w.heap.size := ⟨_, rfl⟩
    have hn := rg_new w f l
    rw [← hwb, ← hb] at hn
    rw [← hwb, ← hb]
    have d0 := hn.1.c0
    have d1 := hn.1.c1
    have HB : Hid (RgAt wb b f l ∧ Below w.heap.size w wb) := by rw [← hb]; exact hn
    clear hwb hb hn
    go_wp2_with (fail)
    go_ret
    exact ⟨by rw [decide_eq_false (by unfold rgParts; omega)]; rfl, HB.out.2⟩
theorem rgright_any (w : World) (f l m : Int) : Calls Try.prog 15 #[rgC f l, .int .i64 m] w (Below0 w (.bool (decide (rgRight f l m)))) := by
  unfold rgC
  by_cases h0 : rgParts f l
  · have HP := Lib.hid h0
    have hw : IntKind.i64.wrap (f + l) = f + l := by
      obtain ⟨h1, h2, h3, h4⟩ := h0
      exact IntWalk.i64_in _ (by omega)
    clear h0
    go_enter Try.func15, Try.ntmps15
    go_upto_region 1 with (fail)
    obtain ⟨wb, hwb⟩ : ∃ W, W = w.alloc (.cells #[.int .i64 f, .int .i64 l] 23) := ⟨_, rfl⟩
    obtain ⟨b, hb⟩ : ∃ b, b = w.heap.size := ⟨_, rfl⟩
    have hn := rg_new w f l
    rw [← hwb, ← hb] at hn
    rw [← hwb, ← hb]
    have d0 := hn.1.c0
    have d1 := hn.1.c1
    have HB : Hid (RgAt wb b f l ∧ Below w.heap.size w wb) := by rw [← hb]; exact hn
    clear hwb hb hn
    go_wp2_with (fail)
    refine (rgparts_any wb f l).mono ?_
    clear d0 d1
    rintro e w1 ⟨rfl, hB1⟩
    have d0 := (HB.out.1.below hB1).c0
    have d1 := (HB.out.1.below hB1).c1
    have H1 : Hid (RgAt w1 b f l ∧ Below w.heap.size w w1) := ⟨HB.out.1.below hB1, HB.out.2.trans (hB1.mono HB.out.2.size)⟩
    clear hB1
    rw [decide_eq_true HP.out]
    dsimp only
    go_wp2_with (fail)
    go_ret
    exact ⟨by simp [rgRight, HP.out], H1.out.2⟩
  · have HP := Lib.hid h0
    clear h0
    go_enter Try.func15, Try.ntmps15
    go_upto_region 1 with (fail)
    obtain ⟨wb, hwb⟩ : ∃ W, W = w.alloc (.cells #[.int .i64 f, .int .i64 l] 23) := ⟨_, rfl⟩
    obtain ⟨b, hb⟩ : ∃ b, b = w.heap.size := ⟨_, rfl⟩
    have hn := rg_new w f l
    rw [← hwb, ← hb] at hn
    rw [← hwb, ← hb]
    have d0 := hn.1.c0
    have d1 := hn.1.c1
    have HB : Hid (RgAt wb b f l ∧ Below w.heap.size w wb) := by rw [← hb]; exact hn
    clear hwb hb hn
    go_wp2_with (fail)
    refine (rgparts_any wb f l).mono ?_
    clear d0 d1
    rintro e w1 ⟨rfl, hB1⟩
    have d0 := (HB.out.1.below hB1).c0
    have d1 := (HB.out.1.below hB1).c1
    have H1 : Hid (RgAt w1 b f l ∧ Below w.heap.size w w1) := ⟨HB.out.1.below hB1, HB.out.2.trans (hB1.mono HB.out.2.size)⟩
    clear hB1
    rw [decide_eq_false HP.out]
    dsimp only
    go_wp2_with (fail)
    go_ret
    exact ⟨by simp [rgRight, HP.out], H1.out.2⟩
theorem rgblock_any (w : World) (f l v : Int) : Calls Try.prog 18 #[rgC f l, .int .i64 v] w (Below0 w (.int .i64 (rgBlock f l v))) := by
  unfold rgC
  by_cases h0 : rgParts f l
  · by_cases h1 : rgPlace v
    · have HP := Lib.hid (And.intro h0 h1)
      have ht : Int.tmod v l = v % l := Int.tmod_eq_emod_of_nonneg h1.1
      have hm := mod_bounds (v := v) (l := l) h0.2.2.1
      obtain ⟨m, hmm⟩ : ∃ m, m = v % l := ⟨_, rfl⟩
      rw [← hmm] at ht hm
      have HM := Lib.hid hmm
      have hl : 1 ≤ l ∧ l ≤ 4096 := h0.2.2
      have hl0 : l ≠ 0 := by omega
      have hf : 0 ≤ f ∧ f ≤ 4096 := ⟨h0.1, h0.2.1⟩
      have hv : 0 ≤ v ∧ v ≤ 1125899906842624 := h1
      have hw : IntKind.i64.wrap (f + m) = f + m := IntWalk.i64_in _ (by omega)
      have hw0 : IntKind.i64.wrap m = m := IntWalk.i64_in _ (by omega)
      clear h0 h1 hmm
      go_enter Try.func18, Try.ntmps18
      go_upto_region 1 with (fail)
      obtain ⟨wb, hwb⟩ : ∃ W, W = w.alloc (.cells #[.int .i64 f, .int .i64 l] 23) := ⟨_, rfl⟩
      obtain ⟨b, hb⟩ : ∃ b, b = w.heap.size := ⟨_, rfl⟩
      have hn := rg_new w f l
      rw [← hwb, ← hb] at hn
      rw [← hwb, ← hb]
      have d0 := hn.1.c0
      have d1 := hn.1.c1
      have HB : Hid (RgAt wb b f l ∧ Below w.heap.size w wb) := by rw [← hb]; exact hn
      clear hwb hb hn
      go_wp2_with (fail)
      refine (rgparts_any wb f l).mono ?_
      clear d0 d1
      rintro e w1 ⟨rfl, hB1⟩
      have d0 := (HB.out.1.below hB1).c0
      have d1 := (HB.out.1.below hB1).c1
      have H1 : Hid (RgAt w1 b f l ∧ Below w.heap.size w w1) := ⟨HB.out.1.below hB1, HB.out.2.trans (hB1.mono HB.out.2.size)⟩
      clear hB1
      rw [decide_eq_true HP.out.1]
      dsimp only
      go_wp2_with (fail)
      refine (rgplace_any w1 v).mono ?_
      rintro e w2 ⟨rfl, rfl⟩
      rw [decide_eq_true HP.out.2]
      dsimp only
      go_upto_region 3 with (fail)
      go_region_held3 (fun w' => w'.cell? ⟨b, 0, none⟩ = some (.int .i64 f) ∧ w'.cell? ⟨b, 1, none⟩ = some (.int .i64 l)) (exact ⟨d0, d1⟩) (fail)
      go_wp2_with (fail)
      go_ret
      exact ⟨by rw [rgBlock_at HP.out.1 HP.out.2, HM.out]; rfl, H1.out.2.trans ⟨rfl, rfl, rfl, Nat.le_refl _, fun _ _ => rfl⟩⟩
    · have HP := Lib.hid (And.intro h0 h1)
      clear h0 h1
      go_enter Try.func18, Try.ntmps18
      go_upto_region 1 with (fail)
      obtain ⟨wb, hwb⟩ : ∃ W, W = w.alloc (.cells #[.int .i64 f, .int .i64 l] 23) := ⟨_, rfl⟩
      obtain ⟨b, hb⟩ : ∃ b, b = w.heap.size := ⟨_, rfl⟩
      have hn := rg_new w f l
      rw [← hwb, ← hb] at hn
      rw [← hwb, ← hb]
      have d0 := hn.1.c0
      have d1 := hn.1.c1
      have HB : Hid (RgAt wb b f l ∧ Below w.heap.size w wb) := by rw [← hb]; exact hn
      clear hwb hb hn
      go_wp2_with (fail)
      refine (rgparts_any wb f l).mono ?_
      clear d0 d1
      rintro e w1 ⟨rfl, hB1⟩
      have d0 := (HB.out.1.below hB1).c0
      have d1 := (HB.out.1.below hB1).c1
      have H1 : Hid (RgAt w1 b f l ∧ Below w.heap.size w w1) := ⟨HB.out.1.below hB1, HB.out.2.trans (hB1.mono HB.out.2.size)⟩
      clear hB1
      rw [decide_eq_true HP.out.1]
      dsimp only
      go_wp2_with (fail)
      refine (rgplace_any w1 v).mono ?_
      rintro e w2 ⟨rfl, rfl⟩
      rw [decide_eq_false HP.out.2]
      dsimp only
      go_wp2_with (fail)
      go_ret
      exact ⟨by simp [rgBlock, HP.out.2], H1.out.2⟩
  · have HP := Lib.hid h0
    clear h0
    go_enter Try.func18, Try.ntmps18
    go_upto_region 1 with (fail)
    obtain ⟨wb, hwb⟩ : ∃ W, W = w.alloc (.cells #[.int .i64 f, .int .i64 l] 23) := ⟨_, rfl⟩
    obtain ⟨b, hb⟩ : ∃ b, b = w.heap.size := ⟨_, rfl⟩
    have hn := rg_new w f l
    rw [← hwb, ← hb] at hn
    rw [← hwb, ← hb]
    have d0 := hn.1.c0
    have d1 := hn.1.c1
    have HB : Hid (RgAt wb b f l ∧ Below w.heap.size w wb) := by rw [← hb]; exact hn
    clear hwb hb hn
    go_wp2_with (fail)
    refine (rgparts_any wb f l).mono ?_
    clear d0 d1
    rintro e w1 ⟨rfl, hB1⟩
    have d0 := (HB.out.1.below hB1).c0
    have d1 := (HB.out.1.below hB1).c1
    have H1 : Hid (RgAt w1 b f l ∧ Below w.heap.size w w1) := ⟨HB.out.1.below hB1, HB.out.2.trans (hB1.mono HB.out.2.size)⟩
    clear hB1
    rw [decide_eq_false HP.out]
    dsimp only
    go_wp2_with (fail)
    go_ret
    exact ⟨by simp [rgBlock, HP.out], H1.out.2⟩
theorem rgstart_any (w : World) (f l v n : Int) : Calls Try.prog 17 #[rgC f l, .int .i64 v, .int .i64 n] w (Below0 w (.int .i64 (rgStart f l v n))) := by
  unfold rgC
  by_cases h0 : rgParts f l
  · by_cases h1 : rgPlace v
    · by_cases h2 : 1 ≤ n
      · by_cases h3 : n ≤ l
        · have ht : Int.tmod v l = v % l := Int.tmod_eq_emod_of_nonneg h1.1
          have hm := mod_bounds (v := v) (l := l) h0.2.2.1
          obtain ⟨m, hmm⟩ : ∃ m, m = v % l := ⟨_, rfl⟩
          rw [← hmm] at ht hm
          have hl : 1 ≤ l ∧ l ≤ 4096 := h0.2.2
          have hl0 : l ≠ 0 := by omega
          have hv : 0 ≤ v ∧ v ≤ 1125899906842624 := h1
          have hw0 : IntKind.i64.wrap m = m := IntWalk.i64_in _ (by omega)
          have hw : IntKind.i64.wrap (m + n) = m + n := IntWalk.i64_in _ (by omega)
          have hw2 : IntKind.i64.wrap (v - m) = v - m := IntWalk.i64_in _ (by omega)
          have hw3 : IntKind.i64.wrap (v - m + l) = v - m + l := IntWalk.i64_in _ (by omega)
          have hS : rgStart f l v n = if m + n ≤ l then v else v - m + l := by
            unfold rgStart
            rw [if_pos ⟨h0, h1, h2, h3⟩, hmm]
          obtain ⟨S, hSS⟩ : ∃ S, S = rgStart f l v n := ⟨_, rfl⟩
          rw [← hSS] at hS ⊢
          have HP := Lib.hid (And.intro h0 (And.intro h1 hS))
          clear h0 h1 hmm hS hSS
          by_cases h4 : m + n ≤ l
          · have hE : S = v := by rw [HP.out.2.2]; exact if_pos h4
            have HE := Lib.hid hE
            clear hE
            go_enter Try.func17, Try.ntmps17
            go_upto_region 1 with (fail)
            obtain ⟨wb, hwb⟩ : ∃ W, W = w.alloc (.cells #[.int .i64 f, .int .i64 l] 23) := ⟨_, rfl⟩
            obtain ⟨b, hb⟩ : ∃ b, b = w.heap.size := ⟨_, rfl⟩
            have hn := rg_new w f l
            rw [← hwb, ← hb] at hn
            rw [← hwb, ← hb]
            have d0 := hn.1.c0
            have d1 := hn.1.c1
            have HB : Hid (RgAt wb b f l ∧ Below w.heap.size w wb) := by rw [← hb]; exact hn
            clear hwb hb hn
            go_wp2_with (fail)
            refine (rgparts_any wb f l).mono ?_
            clear d0 d1
            rintro e w1 ⟨rfl, hB1⟩
            have d0 := (HB.out.1.below hB1).c0
            have d1 := (HB.out.1.below hB1).c1
            have H1 : Hid (RgAt w1 b f l ∧ Below w.heap.size w w1) := ⟨HB.out.1.below hB1, HB.out.2.trans (hB1.mono HB.out.2.size)⟩
            clear hB1
            rw [decide_eq_true HP.out.1]
            dsimp only
            go_wp2_with (fail)
            refine (rgplace_any w1 v).mono ?_
            rintro e w2 ⟨rfl, rfl⟩
            rw [decide_eq_true HP.out.2.1]
            dsimp only
            go_wp2_with (fail)
            go_ret
            exact ⟨by rw [HE.out]; rfl, H1.out.2⟩
          · have hE : S = v - m + l := by rw [HP.out.2.2]; exact if_neg h4
            have HE := Lib.hid hE
            clear hE
            go_enter Try.func17, Try.ntmps17
            go_upto_region 1 with (fail)
            obtain ⟨wb, hwb⟩ : ∃ W, W = w.alloc (.cells #[.int .i64 f, .int .i64 l] 23) := ⟨_, rfl⟩
            obtain ⟨b, hb⟩ : ∃ b, b = w.heap.size := ⟨_, rfl⟩
            have hn := rg_new w f l
            rw [← hwb, ← hb] at hn
            rw [← hwb, ← hb]
            have d0 := hn.1.c0
            have d1 := hn.1.c1
            have HB : Hid (RgAt wb b f l ∧ Below w.heap.size w wb) := by rw [← hb]; exact hn
            clear hwb hb hn
            go_wp2_with (fail)
            refine (rgparts_any wb f l).mono ?_
            clear d0 d1
            rintro e w1 ⟨rfl, hB1⟩
            have d0 := (HB.out.1.below hB1).c0
            have d1 := (HB.out.1.below hB1).c1
            have H1 : Hid (RgAt w1 b f l ∧ Below w.heap.size w w1) := ⟨HB.out.1.below hB1, HB.out.2.trans (hB1.mono HB.out.2.size)⟩
            clear hB1
            rw [decide_eq_true HP.out.1]
            dsimp only
            go_wp2_with (fail)
            refine (rgplace_any w1 v).mono ?_
            rintro e w2 ⟨rfl, rfl⟩
            rw [decide_eq_true HP.out.2.1]
            dsimp only
            go_wp2_with (fail)
            go_ret
            exact ⟨by rw [HE.out]; rfl, H1.out.2⟩
        · have HP : Hid (rgParts f l ∧ rgPlace v ∧ rgStart f l v n = -1) := ⟨h0, h1, by unfold rgStart; rw [if_neg fun h => h3 h.2.2.2]⟩
          clear h0 h1
          go_enter Try.func17, Try.ntmps17
          go_upto_region 1 with (fail)
          obtain ⟨wb, hwb⟩ : ∃ W, W = w.alloc (.cells #[.int .i64 f, .int .i64 l] 23) := ⟨_, rfl⟩
          obtain ⟨b, hb⟩ : ∃ b, b = w.heap.size := ⟨_, rfl⟩
          have hn := rg_new w f l
          rw [← hwb, ← hb] at hn
          rw [← hwb, ← hb]
          have d0 := hn.1.c0
          have d1 := hn.1.c1
          have HB : Hid (RgAt wb b f l ∧ Below w.heap.size w wb) := by rw [← hb]; exact hn
          clear hwb hb hn
          go_wp2_with (fail)
          refine (rgparts_any wb f l).mono ?_
          clear d0 d1
          rintro e w1 ⟨rfl, hB1⟩
          have d0 := (HB.out.1.below hB1).c0
          have d1 := (HB.out.1.below hB1).c1
          have H1 : Hid (RgAt w1 b f l ∧ Below w.heap.size w w1) := ⟨HB.out.1.below hB1, HB.out.2.trans (hB1.mono HB.out.2.size)⟩
          clear hB1
          rw [decide_eq_true HP.out.1]
          dsimp only
          go_wp2_with (fail)
          refine (rgplace_any w1 v).mono ?_
          rintro e w2 ⟨rfl, rfl⟩
          rw [decide_eq_true HP.out.2.1]
          dsimp only
          go_wp2_with (fail)
          go_ret
          exact ⟨by rw [HP.out.2.2]; rfl, H1.out.2⟩
      · have HP : Hid (rgParts f l ∧ rgPlace v ∧ rgStart f l v n = -1) := ⟨h0, h1, by unfold rgStart; rw [if_neg fun h => h2 h.2.2.1]⟩
        clear h0 h1
        go_enter Try.func17, Try.ntmps17
        go_upto_region 1 with (fail)
        obtain ⟨wb, hwb⟩ : ∃ W, W = w.alloc (.cells #[.int .i64 f, .int .i64 l] 23) := ⟨_, rfl⟩
        obtain ⟨b, hb⟩ : ∃ b, b = w.heap.size := ⟨_, rfl⟩
        have hn := rg_new w f l
        rw [← hwb, ← hb] at hn
        rw [← hwb, ← hb]
        have d0 := hn.1.c0
        have d1 := hn.1.c1
        have HB : Hid (RgAt wb b f l ∧ Below w.heap.size w wb) := by rw [← hb]; exact hn
        clear hwb hb hn
        go_wp2_with (fail)
        refine (rgparts_any wb f l).mono ?_
        clear d0 d1
        rintro e w1 ⟨rfl, hB1⟩
        have d0 := (HB.out.1.below hB1).c0
        have d1 := (HB.out.1.below hB1).c1
        have H1 : Hid (RgAt w1 b f l ∧ Below w.heap.size w w1) := ⟨HB.out.1.below hB1, HB.out.2.trans (hB1.mono HB.out.2.size)⟩
        clear hB1
        rw [decide_eq_true HP.out.1]
        dsimp only
        go_wp2_with (fail)
        refine (rgplace_any w1 v).mono ?_
        rintro e w2 ⟨rfl, rfl⟩
        rw [decide_eq_true HP.out.2.1]
        dsimp only
        go_wp2_with (fail)
        go_ret
        exact ⟨by rw [HP.out.2.2]; rfl, H1.out.2⟩
    · have HP : Hid (rgParts f l ∧ ¬ rgPlace v) := ⟨h0, h1⟩
      clear h0 h1
      go_enter Try.func17, Try.ntmps17
      go_upto_region 1 with (fail)
      obtain ⟨wb, hwb⟩ : ∃ W, W = w.alloc (.cells #[.int .i64 f, .int .i64 l] 23) := ⟨_, rfl⟩
      obtain ⟨b, hb⟩ : ∃ b, b = w.heap.size := ⟨_, rfl⟩
      have hn := rg_new w f l
      rw [← hwb, ← hb] at hn
      rw [← hwb, ← hb]
      have d0 := hn.1.c0
      have d1 := hn.1.c1
      have HB : Hid (RgAt wb b f l ∧ Below w.heap.size w wb) := by rw [← hb]; exact hn
      clear hwb hb hn
      go_wp2_with (fail)
      refine (rgparts_any wb f l).mono ?_
      clear d0 d1
      rintro e w1 ⟨rfl, hB1⟩
      have d0 := (HB.out.1.below hB1).c0
      have d1 := (HB.out.1.below hB1).c1
      have H1 : Hid (RgAt w1 b f l ∧ Below w.heap.size w w1) := ⟨HB.out.1.below hB1, HB.out.2.trans (hB1.mono HB.out.2.size)⟩
      clear hB1
      rw [decide_eq_true HP.out.1]
      dsimp only
      go_wp2_with (fail)
      refine (rgplace_any w1 v).mono ?_
      rintro e w2 ⟨rfl, rfl⟩
      rw [decide_eq_false HP.out.2]
      dsimp only
      go_wp2_with (fail)
      go_ret
      exact ⟨by simp [rgStart, HP.out.2], H1.out.2⟩
  · have HP := Lib.hid h0
    clear h0
    go_enter Try.func17, Try.ntmps17
    go_upto_region 1 with (fail)
    obtain ⟨wb, hwb⟩ : ∃ W, W = w.alloc (.cells #[.int .i64 f, .int .i64 l] 23) := ⟨_, rfl⟩
    obtain ⟨b, hb⟩ : ∃ b, b = w.heap.size := ⟨_, rfl⟩
    have hn := rg_new w f l
    rw [← hwb, ← hb] at hn
    rw [← hwb, ← hb]
    have d0 := hn.1.c0
    have d1 := hn.1.c1
    have HB : Hid (RgAt wb b f l ∧ Below w.heap.size w wb) := by rw [← hb]; exact hn
    clear hwb hb hn
    go_wp2_with (fail)
    refine (rgparts_any wb f l).mono ?_
    clear d0 d1
    rintro e w1 ⟨rfl, hB1⟩
    have d0 := (HB.out.1.below hB1).c0
    have d1 := (HB.out.1.below hB1).c1
    have H1 : Hid (RgAt w1 b f l ∧ Below w.heap.size w w1) := ⟨HB.out.1.below hB1, HB.out.2.trans (hB1.mono HB.out.2.size)⟩
    clear hB1
    rw [decide_eq_false HP.out]
    dsimp only
    go_wp2_with (fail)
    go_ret
    exact ⟨by simp [rgStart, HP.out], H1.out.2⟩
theorem rgroom_any (w : World) (f l low v n : Int) : Calls Try.prog 16 #[rgC f l, .int .i64 low, .int .i64 v, .int .i64 n] w (Below0 w (.bool (decide (rgRoom f l low v n)))) := by
  obtain ⟨R, hR⟩ : ∃ R, R = decide (rgRoom f l low v n) := ⟨_, rfl⟩
  rw [← hR]
  obtain ⟨S, hS⟩ : ∃ S, S = rgStart f l v n := ⟨_, rfl⟩
  have HC : Hid (∀ w, Calls Try.prog 17 #[rgC f l, .int .i64 v, .int .i64 n] w (Below0 w (.int .i64 S))) := by
    rw [hS]
    exact fun w => rgstart_any w f l v n
  unfold rgC at HC ⊢
  by_cases h0 : S = -1
  · subst h0
    have hE : R = false := by rw [hR]; exact decide_eq_false fun h => h.1 hS.symm
    have HE := Lib.hid hE
    clear hE hR hS 
    go_enter Try.func16, Try.ntmps16
    go_upto_region 1 with (fail)
    obtain ⟨wb, hwb⟩ : ∃ W, W = w.alloc (.cells #[.int .i64 f, .int .i64 l] 23) := ⟨_, rfl⟩
    obtain ⟨b, hb⟩ : ∃ b, b = w.heap.size := ⟨_, rfl⟩
    have hn := rg_new w f l
    rw [← hwb, ← hb] at hn
    rw [← hwb, ← hb]
    have d0 := hn.1.c0
    have d1 := hn.1.c1
    have HB : Hid (RgAt wb b f l ∧ Below w.heap.size w wb) := by rw [← hb]; exact hn
    clear hwb hb hn
    go_wp2_with (fail)
    refine (HC.out wb).mono ?_
    clear d0 d1
    rintro e w1 ⟨rfl, hB1⟩
    have d0 := (HB.out.1.below hB1).c0
    have d1 := (HB.out.1.below hB1).c1
    have H1 : Hid (RgAt w1 b f l ∧ Below w.heap.size w w1) := ⟨HB.out.1.below hB1, HB.out.2.trans (hB1.mono HB.out.2.size)⟩
    clear hB1
    dsimp only
    go_wp2_with (fail)
    go_ret
    exact ⟨by rw [HE.out]; rfl, H1.out.2⟩
  · have hb := rgStart_bounds (f := f) (l := l) (v := v) (n := n) (by rw [← hS]; exact h0)
    rw [← hS] at hb
    obtain ⟨hp, hv, hn1, hn2, ha, hc, -⟩ := hb
    have hl : 1 ≤ l ∧ l ≤ 4096 := hp.2.2
    have hv2 : 0 ≤ v ∧ v ≤ 1125899906842624 := hv
    have hs0 : 0 ≤ S := by omega
    have hne : (S == -1) = false := by simp; exact h0
    have hw : IntKind.i64.wrap (S + n) = S + n := IntWalk.i64_in _ (by omega)
    by_cases h1 : low < 0
    · have hE : R = false := by rw [hR]; exact decide_eq_false fun h => by have := h.2.1; omega
      have HE := Lib.hid hE
      clear hE hR hS hp hv ha hc
      go_enter Try.func16, Try.ntmps16
      go_upto_region 1 with (fail)
      obtain ⟨wb, hwb⟩ : ∃ W, W = w.alloc (.cells #[.int .i64 f, .int .i64 l] 23) := ⟨_, rfl⟩
      obtain ⟨b, hb⟩ : ∃ b, b = w.heap.size := ⟨_, rfl⟩
      have hn := rg_new w f l
      rw [← hwb, ← hb] at hn
      rw [← hwb, ← hb]
      have d0 := hn.1.c0
      have d1 := hn.1.c1
      have HB : Hid (RgAt wb b f l ∧ Below w.heap.size w wb) := by rw [← hb]; exact hn
      clear hwb hb hn
      go_wp2_with (fail)
      refine (HC.out wb).mono ?_
      clear d0 d1
      rintro e w1 ⟨rfl, hB1⟩
      have d0 := (HB.out.1.below hB1).c0
      have d1 := (HB.out.1.below hB1).c1
      have H1 : Hid (RgAt w1 b f l ∧ Below w.heap.size w w1) := ⟨HB.out.1.below hB1, HB.out.2.trans (hB1.mono HB.out.2.size)⟩
      clear hB1
      dsimp only
      go_wp2_with (fail)
      go_ret
      exact ⟨by rw [HE.out]; rfl, H1.out.2⟩
    · by_cases h2 : v < low
      · have hE : R = false := by rw [hR]; exact decide_eq_false fun h => by have := h.2.2.1; omega
        have HE := Lib.hid hE
        clear hE hR hS hp hv ha hc
        go_enter Try.func16, Try.ntmps16
        go_upto_region 1 with (fail)
        obtain ⟨wb, hwb⟩ : ∃ W, W = w.alloc (.cells #[.int .i64 f, .int .i64 l] 23) := ⟨_, rfl⟩
        obtain ⟨b, hb⟩ : ∃ b, b = w.heap.size := ⟨_, rfl⟩
        have hn := rg_new w f l
        rw [← hwb, ← hb] at hn
        rw [← hwb, ← hb]
        have d0 := hn.1.c0
        have d1 := hn.1.c1
        have HB : Hid (RgAt wb b f l ∧ Below w.heap.size w wb) := by rw [← hb]; exact hn
        clear hwb hb hn
        go_wp2_with (fail)
        refine (HC.out wb).mono ?_
        clear d0 d1
        rintro e w1 ⟨rfl, hB1⟩
        have d0 := (HB.out.1.below hB1).c0
        have d1 := (HB.out.1.below hB1).c1
        have H1 : Hid (RgAt w1 b f l ∧ Below w.heap.size w w1) := ⟨HB.out.1.below hB1, HB.out.2.trans (hB1.mono HB.out.2.size)⟩
        clear hB1
        dsimp only
        go_wp2_with (fail)
        go_ret
        exact ⟨by rw [HE.out]; rfl, H1.out.2⟩
      · have hw2 : IntKind.i64.wrap (low + l) = low + l := IntWalk.i64_in _ (by omega)
        have hE0 : R = decide (S + n ≤ low + l) := by
          rw [hR]
          simp only [rgRoom, ← hS]
          exact decide_eq_decide.2 ⟨fun h => h.2.2.2, fun h => ⟨h0, by omega, by omega, h⟩⟩
        have hE : R = decide (S + n ≤ low + l) := hE0
        have HE := Lib.hid hE
        clear hE hR hS hE0 hp hv ha hc
        go_enter Try.func16, Try.ntmps16
        go_upto_region 1 with (fail)
        obtain ⟨wb, hwb⟩ : ∃ W, W = w.alloc (.cells #[.int .i64 f, .int .i64 l] 23) := ⟨_, rfl⟩
        obtain ⟨b, hb⟩ : ∃ b, b = w.heap.size := ⟨_, rfl⟩
        have hn := rg_new w f l
        rw [← hwb, ← hb] at hn
        rw [← hwb, ← hb]
        have d0 := hn.1.c0
        have d1 := hn.1.c1
        have HB : Hid (RgAt wb b f l ∧ Below w.heap.size w wb) := by rw [← hb]; exact hn
        clear hwb hb hn
        go_wp2_with (fail)
        refine (HC.out wb).mono ?_
        clear d0 d1
        rintro e w1 ⟨rfl, hB1⟩
        have d0 := (HB.out.1.below hB1).c0
        have d1 := (HB.out.1.below hB1).c1
        have H1 : Hid (RgAt w1 b f l ∧ Below w.heap.size w w1) := ⟨HB.out.1.below hB1, HB.out.2.trans (hB1.mono HB.out.2.size)⟩
        clear hB1
        dsimp only
        go_wp2_with (fail)
        go_ret
        exact ⟨by rw [HE.out]; rfl, H1.out.2⟩
end Go.Proofs.Ytdmnhgbdeifpbaa
