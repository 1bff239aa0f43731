/-
  A meter and the document's own one, side by side, each by the side of its store: what each act makes of them.
-/
import Derived.Test.YtggecfecodoigaaMeterSmall
import Derived.Test.YtggecfecodoigaaMeterRef
import Derived.Test.YtggecfecodoigaaStorePairs
namespace Go.Proofs.Ytggecfecodoigaa
open Go Go.RowKit

/-- Two meters side by side, both at n, of most m; what a loop of acts keeps. -/
structure MM (W1 : World) (base pb rb mb xb : Nat) (m : Int) (w : World) (n : Int) (f : StF) (rf : RfF) (s : StS) : Prop where
  pbe : f.b = pb
  rbe : rf.b = rb
  both : Both w base f rf s
  still : s.W = []
  met : MetAt w mb pb n m
  rmet : RMet w xb rb n m
  low : base ≤ mb ∧ base ≤ xb
  range : 0 ≤ n ∧ n ≤ m ∧ m ≤ 1099511627776
  below : Below base W1 w
  size : base ≤ w.heap.size
def MI (W1 : World) (base pb rb mb xb : Nat) (m : Int) (w : World) (n : Int) : Prop := ∃ f rf s, MM W1 base pb rb mb xb m w n f rf s
section
variable {W1 w w1 w2 : World} {base pb rb mb xb : Nat} {m n : Int} {f : StF} {rf : RfF} {s s1 : StS}
theorem MM.not_f (h : MM W1 base pb rb mb xb m w n f rf s) : ¬ f.has mb ∧ ¬ f.has xb :=
  ⟨h.both.prog.other h.met (by decide) (by decide) (by decide) (by decide), h.both.prog.other h.rmet (by decide) (by decide) (by decide) (by decide)⟩
theorem MM.not_rf (h : MM W1 base pb rb mb xb m w n f rf s) : ¬ rf.has mb ∧ ¬ rf.has xb :=
  ⟨h.both.ref.other h.met (by decide) (by decide) (by decide) (by decide), h.both.ref.other h.rmet (by decide) (by decide) (by decide) (by decide)⟩
theorem MM.apart (h : MM W1 base pb rb mb xb m w n f rf s) : mb ≠ xb := row_ty h.met h.rmet (by decide)
/-- An act of both stores leaves the meters as they are. -/
theorem MM.acted (h : MM W1 base pb rb mb xb m w n f rf s) (hW : s1.W = []) (hE : BothEnd w base f rf s1 w1) : MI W1 base pb rb mb xb m w1 n := by
  obtain ⟨f1, rf1, hb, h1, h2, h3, h4, h5⟩ := hE
  refine ⟨f1, rf1, s1, h1.trans h.pbe, h2.trans h.rbe, hb, hW, (h5.block mb h.met.lt fun e => e.elim h.not_f.1 h.not_rf.1).trans h.met, (h5.block xb h.rmet.lt fun e => e.elim h.not_f.2 h.not_rf.2).trans h.rmet, h.low, h.range, ?_, Nat.le_trans h.size h5.size⟩
  refine h.below.trans ⟨h5.os, h5.tape, h5.output, h5.size, fun k hk => h5.block k (Nat.lt_of_lt_of_le hk h.size) fun e => ?_⟩
  rcases e with e | e
  · have := h.both.prog.ge e
    omega
  · have := h.both.ref.ge e
    omega
theorem MM.far (h : MM W1 base pb rb mb xb m w n f rf s) (hB : Below w.heap.size w w1) : MM W1 base pb rb mb xb m w1 n f rf s :=
  ⟨h.pbe, h.rbe, h.both.far hB, h.still, (hB.block mb h.met.lt).trans h.met, (hB.block xb h.rmet.lt).trans h.rmet, h.low, h.range, h.below.trans (hB.mono h.size), Nat.le_trans h.size hB.size⟩
theorem setCell_below {b : Nat} (hb : base ≤ b) (i : Nat) (v : Value) : Below base w (w.setCell ⟨b, i, none⟩ v) :=
  ⟨rfl, rfl, rfl, by simp [World.setCell], fun k hk => heap_setCell_other _ _ _ _ (show k ≠ b from by omega)⟩
/-- Both are raised: the same answer, and both are at the same number. -/
theorem MM.raise (h : MM W1 base pb rb mb xb m w n f rf s) : ∃ (v n1 : Int) (Half : World → Prop), n ≤ n1 ∧ n1 ≤ n + 1 ∧
    Calls Try.prog 27 #[.pointer (some ⟨mb, 0, none⟩)] w (fun e w' => e = .returned (.int .i64 v) ∧ Half w') ∧
    ∀ w', Half w' → Calls Try.prog 31 #[.pointer (some ⟨xb, 0, none⟩)] w' (fun e w'' => e = .returned (.int .i64 v) ∧ MI W1 base pb rb mb xb m w'' n1) := by
  have hm : MetAt w mb f.b n m := by rw [h.pbe]; exact h.met
  have hx : RMet w xb rf.b n m := by rw [h.rbe]; exact h.rmet
  by_cases hn : n = m
  · refine ⟨33, n, fun w' => ∃ k, w' = w.drewN k, Int.le_refl _, by omega, mraise_full (b := pb) (by have := h.met; rw [hn] at this; exact this), ?_⟩
    rintro w' ⟨k, rfl⟩
    have h1 := h.far (below_draws (Below.refl _ _) k)
    refine (rmraise_full (b := rb) (by have := h1.rmet; rw [hn] at this; exact this)).mono ?_
    rintro e w'' ⟨rfl, j, rfl⟩
    exact ⟨rfl, f, rf, s, h1.far (below_draws (Below.refl _ _) j)⟩
  · by_cases h0 : s.C = 0
    · refine ⟨31, n, fun w' => ∃ k, w' = w.drewN k, Int.le_refl _, by omega, mraise_off h.both.prog hm hn h0, ?_⟩
      rintro w' ⟨k, rfl⟩
      have h1 := h.far (below_draws (Below.refl _ _) k)
      refine (rmraise_off h1.both.ref (by rw [h.rbe]; exact h1.rmet) hn h0).mono ?_
      rintro e w'' ⟨rfl, j, rfl⟩
      exact ⟨rfl, f, rf, s, h1.far (below_draws (Below.refl _ _) j)⟩
    · have hr : -9223372036854775808 ≤ n + 1 ∧ n + 1 ≤ 9223372036854775807 := by have := h.range; omega
      refine ⟨0, n + 1, fun w' => ∃ w1, StAt w1 base f s.spent ∧ SKept f w w1 ∧ MetAt w1 mb f.b n m ∧ w' = w1.setCell ⟨mb, 1, none⟩ (.int .i64 (n + 1)), by omega, Int.le_refl _, mraise_yes h.both.prog hm hn h0 hr, ?_⟩
      rintro w' ⟨w1, hA, hK, hM, rfl⟩
      have hrk : ∀ k, rf.has k → (w1.setCell ⟨mb, 1, none⟩ (.int .i64 (n + 1))).heap[k]? = w.heap[k]? := fun k hk => by
        rw [heap_setCell_other _ _ _ _ (show k ≠ mb from fun e => h.not_rf.1 (e ▸ hk))]
        exact hK.block k (h.both.ref.lt hk) fun e => h.both.apart k e hk
      have hR := h.both.ref.keep hrk
      have hX : RMet (w1.setCell ⟨mb, 1, none⟩ (.int .i64 (n + 1))) xb rf.b n m := by
        refine (heap_setCell_other _ _ _ _ (show xb ≠ mb from h.apart.symm)).trans ((hK.block xb h.rmet.lt h.not_f.2).trans hx)
      have hMp : MetAt (w1.setCell ⟨mb, 1, none⟩ (.int .i64 (n + 1))) mb f.b (n + 1) m := hM.put _
      have hPk : ∀ k, f.has k → (w1.setCell ⟨mb, 1, none⟩ (.int .i64 (n + 1))).heap[k]? = w1.heap[k]? := fun k hk => heap_setCell_other _ _ _ _ (show k ≠ mb from fun e => h.not_f.1 (e ▸ hk))
      have hP := hA.keep hPk
      have hB1 : Below base w (w1.setCell ⟨mb, 1, none⟩ (.int .i64 (n + 1))) := (h.both.prog.below hK h.size).trans (setCell_below h.low.1 _ _)
      refine (rmraise_yes hR hX hn h0 hr).mono ?_
      rintro e w'' ⟨rfl, w2, hR2, hK2, hX2, rfl⟩
      have hP2 : StAt w2 base f s.spent := hP.keep fun k hk => hK2.block k (hP.lt hk) fun e => h.both.apart k hk e
      have hM2 : MetAt w2 mb f.b (n + 1) m := (hK2.block mb hMp.lt h.not_rf.1).trans hMp
      have hB2 : Below base (w1.setCell ⟨mb, 1, none⟩ (.int .i64 (n + 1))) w2 := ⟨hK2.os, hK2.tape, hK2.output, hK2.size, fun k hk => hK2.block k (Nat.lt_of_lt_of_le hk (Nat.le_trans h.size hB1.size)) fun e => by
        have := h.both.ref.ge e
        omega⟩
      have hB3 : Below base w2 (w2.setCell ⟨xb, 1, none⟩ (.int .i64 (n + 1))) := setCell_below h.low.2 _ _
      refine ⟨rfl, f, rf, s.spent, h.pbe, h.rbe, ⟨?_, ?_, h.both.apart⟩, h.still, ?_, ?_, h.low, ⟨by have := h.range; omega, ?_, h.range.2.2⟩, ((h.below.trans hB1).trans hB2).trans hB3, Nat.le_trans h.size (Nat.le_trans hB1.size (Nat.le_trans hB2.size hB3.size))⟩
      · exact hP2.keep fun k hk => heap_setCell_other _ _ _ _ (show k ≠ xb from fun e => h.not_f.2 (e ▸ hk))
      · exact hR2.keep fun k hk => heap_setCell_other _ _ _ _ (show k ≠ xb from fun e => h.not_rf.2 (e ▸ hk))
      · rw [← h.pbe]
        exact (heap_setCell_other _ _ _ _ h.apart).trans hM2
      · rw [← h.rbe]
        exact hX2.put _
      · have := h.range
        omega
/-- Both stores' calls are limited. -/
theorem MM.limit (h : MM W1 base pb rb mb xb m w n f rf s) {c : Int} (hc : -9223372036854775808 ≤ c ∧ c ≤ 9223372036854775807) (hE : SEnd w base f (s.limited c) w1) :
    w1.cell? ⟨xb, 0, none⟩ = some (.pointer (some ⟨rb, 0, none⟩)) ∧ w1.cell? ⟨rb, 2, none⟩ = some (.int .i64 (clip s.C)) ∧ w1.frozen? ⟨rb, 2, none⟩ = false ∧ MI W1 base pb rb mb xb m (w1.setCell ⟨rb, 2, none⟩ (.int .i64 (clip c))) n := by
  obtain ⟨f1, hM⟩ := h.both.step hE
  have hX : RMet w1 xb rb n m := (hM.moved.block xb h.rmet.lt h.not_f.2).trans h.rmet
  have hc2 := hM.ref.cell2
  have hf2 := hM.ref.free 2
  have hR := hM.ref.called hc
  rw [h.rbe] at hc2 hf2 hR
  have hE2 : REnd w1 base rf (s.limited c) (w1.setCell ⟨rb, 2, none⟩ (.int .i64 (clip c))) := by
    refine ⟨rf, hR, rfl, fun _ h => .inl h, ?_⟩
    rw [← h.rbe]
    exact Moved.cell (.inl rfl) _ _
  exact ⟨hX.cell0, hc2, hf2, h.acted (s1 := s.limited c) h.still (hM.done hE2)⟩
/-- Both stores crash. -/
theorem MM.crash (h : MM W1 base pb rb mb xb m w n f rf s) (t c : Int) :
    Calls Try.prog 10 #[.pointer (some ⟨pb, 0, none⟩), .slice none 0 0, .int .i64 t, .int .i64 c] w (fun e w' => e = .returned (.tuple #[]) ∧ SEnd w base f (s.crashed [] t c) w') ∧
    ∀ w3, SEnd w base f (s.crashed [] t c) w3 → w3.cell? ⟨xb, 0, none⟩ = some (.pointer (some ⟨rb, 0, none⟩)) ∧
      Calls Try.prog 32 #[.pointer (some ⟨rb, 0, none⟩), .slice none 0 0, .int .i64 t, .int .i64 c] w3 (fun e w' => e = .returned (.tuple #[]) ∧ MI W1 base pb rb mb xb m w' n) := by
  obtain ⟨h1, h2⟩ := pair_crash h.both none 0 [] t c (.inl rfl) (fun _ h0 => absurd rfl h0) (fun _ h0 => absurd rfl h0) (by rw [h.still]; decide)
  rw [h.pbe] at h1
  refine ⟨h1, fun w3 hE => ?_⟩
  obtain ⟨f1, hM⟩ := h.both.step hE
  have hX : RMet w3 xb rb n m := (hM.moved.block xb h.rmet.lt h.not_f.2).trans h.rmet
  have h3 := h2 f1 w3 hM
  rw [h.rbe] at h3
  refine ⟨hX.cell0, h3.mono ?_⟩
  rintro e w' ⟨rfl, hR⟩
  exact ⟨rfl, h.acted rfl (hM.done hR)⟩
end
end Go.Proofs.Ytggecfecodoigaa
