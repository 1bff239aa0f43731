/-
  ShaSame: whatever two slices of bytes and whatever number it is called with, it returns true, and each argument reads afterwards as it read before; the card ties the two tables of package sha to the program's text.
  Conditions: those that the row prints: the two tables start as the program's text lays them; each slice takes at most 2^47 - 4096 bytes.
-/
import Derived.Test.YtoleebkpinhhlaaDoorShaSameLaw
import Derived.Test.YtoleebkpinhhlaaDoorShaOpen
import Derived.Test.YtoleebkpinhhlaaDoorCards
import Derived.Test.YtoleebkpinhhlaaDoorTie
import Derived.SevenTiedAt
namespace Go.Proofs.YtoleebkpinhhlaaDoor
open Go Go.ChangeShapes Go.WideShapes Go.ChangeAt Go.WideMaps Go.WideElems Go.RowKit

theorem bytes8 : Tryd.prog.bytesOf 5 = 1 := by kernel_rfl

set_option maxRecDepth 100000 in
theorem shaSame_lifted (os : Os) (started : os.Started) (H : Type) (enc : TypeId × Value → H) :
    ReturnsInHanded {} Tryd.checked os 5 .any (fun w args => (Rows.shaSameSpec.pre enc Tryd.prog Tryd.f5 [] false w args ∧ laidMetH Tryd.prog Rows.shaSameRow.laid w) ∧ sizedMet enc Tryd.prog Tryd.f5 (OpenSpec.ofChange Rows.shaSameSpec) false w args)
      (Rows.shaSameSpec.post enc Tryd.prog Tryd.f5 false true false false) := by
  refine returnsInHanded_of_change_and (C := Tryd.checked) (X := fun w _ => laidMetH Tryd.prog Rows.shaSameRow.laid w) (fun _ _ _ hh h => h.of_heap hh) own started (by kernel_rfl) Tryd.func5
    (ChangeSpec.witness_shaped (enc := enc) (C := Tryd.checked) (os := os) (X := fun w _ => laidMetH Tryd.prog Rows.shaSameRow.laid w) false (World.doorLaid Tryd.prog 19 os) #[.slice none 0 0, .slice none 0 0, .int .u16 0] 8 rfl (World.shaped_of_RefB (by kernel_rfl) (by kernel_rfl)) (by kernel_rfl) (by kernel_rfl) (by kernel_rfl) (door_met os _)) ?_
  intro W base args ds gs before hval0 hW _ hsz0 hL _
  have hval : ∀ (j : Nat) t v, Tryd.f5.params[j]? = some t → args[j]? = some v → Value.okWide Tryd.prog W .any base t v := hval0
  have hW' := hW
  obtain ⟨p, q, hA0, hV, rfl, hfz, hnd⟩ := hW
  have hA : DataW.TrodAll enc Tryd.prog W 0 (fun _ => true) true Tryd.f5.params.toList args.toList ds p := hA0
  have hsz : (DataW.weightsEach Tryd.prog (Tryd.f5.params.toList ++ Rows.shaSameSpec.plain.varTypes Tryd.prog) (ds ++ gs)).all (· ≤ reachBytes) = true := hsz0
  rw [Tryd.params5] at hA hval hsz
  obtain ⟨v0, v1, v2, d0, d1, d2, p0, p1, p2, rfl, rfl, rfl, h0, h1, h2⟩ := trodAll_three hA
  obtain ⟨rfl, rfl⟩ := trodVars_none hV
  obtain ⟨a0, len0, cap0, rfl⟩ := okWide_slice Tryd.underlying24 (hval 0 24 v0 rfl rfl)
  obtain ⟨a1, len1, cap1, rfl⟩ := okWide_slice Tryd.underlying24 (hval 1 24 v1 rfl rfl)
  have k0 := h0
  have k1 := h1
  have lt0 : ∀ x ∈ p0, x.block < W.heap.size := by obtain ⟨m, hm⟩ := k0; exact DataW.trod_lt m _ _ _ hm
  have lt1 : ∀ x ∈ p1, x.block < W.heap.size := by obtain ⟨m, hm⟩ := k1; exact DataW.trod_lt m _ _ _ hm
  obtain ⟨m0, hm0, hs0, hc0, hr0⟩ := open_bytes h0
  obtain ⟨m1, hm1, hs1, hc1, hr1⟩ := open_bytes h1
  obtain ⟨n, rfl, rfl, rfl, wn⟩ := open_int Tryd.underlying48 (hval 2 48 v2 rfl rfl) h2
  have b0 : cap0 ≤ 140737488355328 := by
    rcases hr0 with h | ⟨el, sp, rfl, h⟩
    · omega
    · have := sized_slice hsz (j := 0) (t := 24) (e := 5) rfl rfl Tryd.underlying24
      rw [bytes8, h] at this
      simp only [reachBytes] at this
      omega
  have b1 : cap1 ≤ 140737488355328 := by
    rcases hr1 with h | ⟨el, sp, rfl, h⟩
    · omega
    · have := sized_slice hsz (j := 1) (t := 24) (e := 5) rfl rfl Tryd.underlying24
      rw [bytes8, h] at this
      simp only [reachBytes] at this
      omega
  obtain ⟨cut, rfl, hcut⟩ : ∃ cut : Nat, n = (cut : Int) ∧ cut < 65536 := by
    have hmin : IntKind.u16.min = 0 := rfl
    have hmax : IntKind.u16.max = 65535 := rfl
    have hw := wn
    simp only [Lit.wf, Bool.and_eq_true, decide_eq_true_eq, hmin, hmax] at hw
    exact ⟨n.toNat, by omega, by omega⟩
  obtain ⟨hT, hgl⟩ := tables_of_laid hL
  subst hm0
  subst hm1
  refine (shaSame_any W a0 a1 m0 m1 cap0 cap1 cut hs0 hs1 hc0 hc1 b0 b1 hcut hT hgl).mono fun e W' ⟨he, bel⟩ => ?_
  subst he
  exact ⟨_, rfl, _, _, _, [], _, [], hW', trodAll_mk1 (shut_bool Tryd.underlying4 _), (trodAll_cons_mk (Below.trod laidOut (by kernel_rfl) (of_decide_eq_true (by kernel_rfl)) k0 bel lt0) (trodAll_cons_mk (Below.trod laidOut (by kernel_rfl) (of_decide_eq_true (by kernel_rfl)) k1 bel lt1) (trodAll_cons_mk (shut_int Tryd.underlying48 wn) trodAll_mk0))), rfl, bel.frame _, fun h => by cases h⟩

theorem shaSame_holds : Rows.ShaSameSaid :=
  OpenClaim.holds_of_wide 5 Tryd.f5 rfl rfl rfl rfl rfl rfl rfl ⟨rfl, rfl, rfl, rfl, rfl⟩ rfl rfl rfl rfl rfl (by kernel_rfl) Tryd.func5 (by kernel_rfl)
    (of_decide_eq_true (by kernel_rfl)) (by unfold Func.isWrapper; first | (rw [if_pos (by decide +kernel)]; kernel_rfl) | (rw [if_neg (by decide +kernel)]; exact ⟨rfl, rfl⟩))
    (fun os started H enc _ => shaSame_lifted os started H enc)

theorem shaSame_card : Rows.ShaSameCardSaid :=
  Claim7.holds_tied_plain_at .later [] [.data, .data] true Rows.shaSameCard.stood.harness false
    shaSame_holds (fun _ h => by cases h) (by kernel_rfl) (fun _ h => by cases h) shaSame_row_tie rfl ⟨rfl, rfl⟩ (by kernel_rfl) rfl
    (fun f fn hf hfn => by
      obtain rfl : f = 5 := Option.some.inj ((show Tryd.prog.funcNamed "waterclock/waterclocklaw01.ShaSame" = some 5 by kernel_rfl).symm.trans hf) |>.symm
      obtain rfl : fn = Tryd.f5 := (Option.some.inj (Tryd.func5.symm.trans hfn)).symm
      exact ⟨by kernel_rfl, fun j t ht => by
        rw [Tryd.params5] at ht
        have hm : t ∈ [24, 24, 48] := by simpa using Array.mem_of_getElem? ht
        have hall : ([24, 24, 48].all fun u => !Tryd.prog.wantsStandIn u) = true := by kernel_rfl
        exact (show Tryd.prog.wantsStandIn t = false by simpa using List.all_eq_true.1 hall t hm)⟩)
    (by kernel_rfl)
#print axioms shaSame_card
end Go.Proofs.YtoleebkpinhhlaaDoor
