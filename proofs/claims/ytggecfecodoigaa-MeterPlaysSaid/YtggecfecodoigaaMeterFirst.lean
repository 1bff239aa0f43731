/-
  What must be answered ahead of everything else: the contract of layer 13's first.
-/
import Derived.Test.YtggecfecodoigaaMeterSmall
namespace Go.Proofs.Ytggecfecodoigaa
open Go Go.RowKit

set_option maxRecDepth 100000 in
set_option maxHeartbeats 1000000 in
theorem mfirst_any (w : World) : Calls Try.prog 25 #[] w fun e w' => e = .returned (.bool true) ∧ Below w.heap.size w w' := by
  go_enter Try.func25, Try.ntmps25
  go_wp2_with (fail)
  refine (snew_any w 1 (by omega) (by omega)).mono ?_
  rintro e w1 ⟨f, rfl, hA1, hB1⟩
  obtain ⟨pb, hpb⟩ : ∃ b, b = f.b := ⟨_, rfl⟩
  rw [← hpb]
  have H1 := Lib.hid (And.intro hA1 (And.intro hB1 hpb))
  clear hA1 hB1 hpb
  dsimp only
  go_wp2_with (fail)
  refine (mnew_any w1 pb 1 (by omega) (by omega)).mono ?_
  rintro e w2 ⟨mb, rfl, hM2, hmb, hB2⟩
  have H2 := Lib.hid (And.intro (H1.out.1.far hB2) (And.intro hM2 (And.intro hmb (H1.out.2.1.trans (hB2.mono H1.out.2.1.size)))))
  clear hM2 hmb hB2
  dsimp only
  go_wp2_with (fail)
  refine (mraise_yes H2.out.1 (by rw [← H1.out.2.2]; exact H2.out.2.1) (by decide) (by decide) (by decide)).mono ?_
  rintro e w3 ⟨rfl, w3', hA3, hK3, hM3, rfl⟩
  have hM3' := hM3.put 1
  have hlow : w.heap.size ≤ mb := Nat.le_trans H1.out.2.1.size H2.out.2.2.1
  have hB3 : Below w.heap.size w (w3'.setCell ⟨mb, 1, none⟩ (.int .i64 1)) :=
    H2.out.2.2.2.trans ((H2.out.1.below hK3 H2.out.2.2.2.size).trans ⟨rfl, rfl, rfl, by simp [World.setCell], fun k hk => heap_setCell_other _ _ _ _ (show k ≠ mb from by omega)⟩)
  have e3 : w3'.setCell ⟨mb, 1, none⟩ (.int .i64 (0 + 1)) = w3'.setCell ⟨mb, 1, none⟩ (.int .i64 1) := rfl
  rw [e3]
  obtain ⟨w4, hw4⟩ : ∃ W, W = w3'.setCell ⟨mb, 1, none⟩ (.int .i64 1) := ⟨_, rfl⟩
  rw [← hw4] at hM3' hB3 ⊢
  have H3 := Lib.hid (And.intro hM3' hB3)
  clear hA3 hK3 hM3 hM3' hlow hB3 e3 hw4
  dsimp only
  go_wp2_with (fail)
  refine (mraise_full H3.out.1).mono ?_
  rintro e w5 ⟨rfl, k5, rfl⟩
  have hM5 : MetAt (w4.drewN k5) mb f.b 1 1 := H3.out.1
  have H5 := Lib.hid (And.intro hM5 (H3.out.2.trans ((below_draws (Below.refl _ w4) k5).mono H3.out.2.size)))
  clear hM5
  dsimp only
  go_wp2_with (fail)
  refine (mnew_nil _ 1).mono ?_
  rintro e w6 ⟨rfl, rfl⟩
  dsimp only
  go_wp2_with (fail)
  refine (mnew_no _ pb (-1) (.inl (by decide))).mono ?_
  rintro e w7 ⟨rfl, rfl⟩
  dsimp only
  go_wp2_with (fail)
  refine (mvalue_any H5.out.1).mono ?_
  rintro e w8 ⟨rfl, rfl⟩
  dsimp only
  go_wp2_with (fail)
  refine (mfull_any H5.out.1).mono ?_
  rintro e w9 ⟨rfl, k9, rfl⟩
  dsimp only
  go_wp2_with (fail)
  have hM9 : MetAt (w4.drewN (k5 + k9)) mb f.b 1 1 := H3.out.1
  refine (mmost_any hM9).mono ?_
  rintro e w10 ⟨rfl, rfl⟩
  dsimp only
  go_wp2_with (fail)
  go_ret
  exact ⟨rfl, H3.out.2.trans ((below_draws (Below.refl _ w4) _).mono H3.out.2.size)⟩
end Go.Proofs.Ytggecfecodoigaa
