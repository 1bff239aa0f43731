/-
  The contracts of a store's Len, Off, Limit, has and Spend; of a nil one's.
-/
import Derived.Test.YtdmnhgbdeifpbaaStoreMem
namespace Go.Proofs.Ytdmnhgbdeifpbaa
open Go Go.RowKit

section
variable {w : World} {base : Nat} {f : StF} {s : StS}
theorem slen_any (h : StAt w base f s) : Calls Try.prog 33 #[.pointer (some ⟨f.b, 0, none⟩)] w fun e w' => e = .returned (.int .i64 s.L.length) ∧ w' = w := by
  have d0 := h.cell0
  clear h
  go_enter Try.func33, Try.ntmps33
  go_wp2_with (fail)
  go_ret
  exact ⟨rfl, rfl⟩
theorem soff_any (h : StAt w base f s) : Calls Try.prog 31 #[.pointer (some ⟨f.b, 0, none⟩)] w fun e w' => e = .returned (.bool (decide (s.C = 0))) ∧ w' = w := by
  have d3 := h.cell3
  clear h
  go_enter Try.func31, Try.ntmps31
  go_wp2_with (fail)
  go_ret
  exact ⟨rfl, rfl⟩
theorem shas_any (h : StAt w base f s) (k : Int) : Calls Try.prog 30 #[.pointer (some ⟨f.b, 0, none⟩), .int .i64 k] w fun e w' => e = .returned (.bool (decide (0 ≤ k ∧ k < s.L.length))) ∧ w' = w := by
  have HS := Lib.hid h
  clear h
  by_cases h0 : 0 ≤ k
  · go_enter Try.func30, Try.ntmps30
    go_wp2_with (fail)
    refine (slen_any HS.out).mono ?_
    rintro e w1 ⟨rfl, rfl⟩
    dsimp only
    go_wp2_with (fail)
    go_ret
    exact ⟨by simp [h0], rfl⟩
  · go_enter Try.func30, Try.ntmps30
    go_wp2_with (fail)
    go_ret
    exact ⟨by simp; omega, rfl⟩
theorem StAt.called (h : StAt w base f s) {c : Int} (hc : -9223372036854775808 ≤ c ∧ c ≤ 9223372036854775807) : StAt (w.setCell ⟨f.b, 3, none⟩ (.int .i64 c)) base f (s.limited c) := by
  have ho : (w.setCell ⟨f.b, 3, none⟩ (.int .i64 c)).heap[f.b]? = some (.cells (objC f s.L.length c) 60 (0, 0)) := by
    rw [heap_setCell_same w f.b 3 _ _ _ h.obj]
    rfl
  have hn : ∀ k, k ≠ f.b → (w.setCell ⟨f.b, 3, none⟩ (.int .i64 c)).heap[k]? = w.heap[k]? := fun k hk => heap_setCell_other _ _ _ _ hk
  refine ⟨h.ok.limited hc, ho, (hn _ (row_ty h.last h.obj (by decide))).trans h.last, (hn _ (row_ty h.new h.obj (by decide))).trans h.new, ?_, (hn _ (row_ty h.reads h.obj (by decide))).trans h.reads, h.low, h.ln⟩
  refine ⟨h.waits.1, ?_⟩
  rcases h.waits.2 with e | ⟨g, cap, cur, hv, h1, hg, rest⟩
  · exact .inl e
  · exact .inr ⟨g, cap, cur, hv, h1, (hn g (row_ty hg h.obj (by decide))).trans hg, rest⟩
theorem slimit_any (h : StAt w base f s) {c : Int} (hc : -9223372036854775808 ≤ c ∧ c ≤ 9223372036854775807) :
    Calls Try.prog 9 #[.pointer (some ⟨f.b, 0, none⟩), .int .i64 c] w fun e w' => e = .returned (.tuple #[]) ∧ SEnd w base f (s.limited c) w' := by
  have HS := Lib.hid h
  have d3 := h.cell3
  have f3 := h.free 3
  clear h
  go_enter Try.func9, Try.ntmps9
  go_wp2_with (fail)
  go_end0
  exact ⟨rfl, f, HS.out.called hc, rfl, fun _ h => .inl h, SKept.cell (.inl rfl) _ _⟩
/-- Spend: an error where the calls are spent. -/
theorem sspend_no (h : StAt w base f s) (h0 : s.C = 0) : Calls Try.prog 34 #[.pointer (some ⟨f.b, 0, none⟩)] w fun e w' => e = .returned (.int .i64 31) ∧ w' = w := by
  have HS := Lib.hid h
  have H0 := Lib.hid h0
  clear h h0
  go_enter Try.func34, Try.ntmps34
  go_wp2_with (fail)
  refine (soff_any HS.out).mono ?_
  rintro e w1 ⟨rfl, rfl⟩
  rw [decide_eq_true H0.out]
  dsimp only
  go_wp2_with (fail)
  go_ret
  exact ⟨rfl, rfl⟩
theorem sspend_yes (h : StAt w base f s) (h0 : s.C ≠ 0) : Calls Try.prog 34 #[.pointer (some ⟨f.b, 0, none⟩)] w fun e w' => e = .returned (.int .i64 0) ∧ StAt w' base f s.spent ∧ SKept f w w' := by
  have HS := Lib.hid h
  have H0 := Lib.hid h0
  have d3 := h.cell3
  have f3 := h.free 3
  have hr := h.ok.calls
  obtain ⟨c, hc⟩ : ∃ c, c = s.C := ⟨_, rfl⟩
  rw [← hc] at d3 hr
  have HC := Lib.hid hc
  clear h h0 hc
  by_cases hp : 0 < c
  · go_enter Try.func34, Try.ntmps34
    go_wp2_with (fail)
    refine (soff_any HS.out).mono ?_
    rintro e w1 ⟨rfl, rfl⟩
    rw [decide_eq_false H0.out]
    dsimp only
    go_wp2_with (fail)
    go_ret
    have e1 : s.spent = s.limited (c - 1) := by
      unfold StS.spent StS.limited lessCall
      rw [← HC.out, if_pos hp]
    rw [e1]
    exact ⟨rfl, HS.out.called (by omega), SKept.cell (.inl rfl) _ _⟩
  · go_enter Try.func34, Try.ntmps34
    go_wp2_with (fail)
    refine (soff_any HS.out).mono ?_
    rintro e w1 ⟨rfl, rfl⟩
    rw [decide_eq_false H0.out]
    dsimp only
    go_wp2_with (fail)
    go_ret
    have e1 : s.spent = s := by
      unfold StS.spent lessCall
      rw [← HC.out, if_neg (by omega), HC.out]
    rw [e1]
    exact ⟨rfl, HS.out, SKept.refl _ _⟩
end
end Go.Proofs.Ytdmnhgbdeifpbaa
