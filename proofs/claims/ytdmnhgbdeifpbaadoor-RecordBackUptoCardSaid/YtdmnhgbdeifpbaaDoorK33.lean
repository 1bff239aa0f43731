/-
  RecordBack: whatever case it is called with, it returns true, and the argument reads afterwards as it read before; the card ties the two tables of package sha to the program's text.
  Conditions: those that the row prints: what is read is of bulk at most 1048576; the two tables start as the program's text lays them; each slice and string takes at most 2^47 - 4096 bytes.
-/
import Derived.Test.YtdmnhgbdeifpbaaDoorK29
import Derived.Test.YtdmnhgbdeifpbaaDoorK31
import Derived.Test.YtdmnhgbdeifpbaaDoorK32
import Derived.Test.YtdmnhgbdeifpbaaDoorCards
import Derived.Test.YtdmnhgbdeifpbaaDoorTie
import Derived.SevenTiedAt
import Derived.Deep.DeepWitnessRowRef
namespace Go.Proofs.YtdmnhgbdeifpbaaDoor
open Go Go.ChangeShapes Go.WideShapes Go.ChangeAt Go.WideMaps Go.WideElems Go.RowKit
def caseZ : Value := .agg (caseC (recC 0 0 (.slice none 0 0) 0 zeroH) (.slice none 0 0) zeroH (.slice none 0 0))
def hashD {H : Type} : DataW H := .agg (List.replicate 32 (.lit (.int .u8 0)))
def caseD {H : Type} : DataW H := .agg [.agg [.lit (.int .i64 0), .lit (.int .i64 0), .nil, .lit (.int .i64 0), hashD], .nil, hashD, .nil]
theorem recordBack_reads (os : Os) {H : Type} (enc : TypeId × Value → H) : ∃ places, DataW.whole enc Tryd.prog ((World.doorLaid Tryd.prog 19 os).forCall (fun _ _ => 0) ⟨#[], #[caseZ], []⟩).memory Tryd.f5.params.toList Rows.recordBackSpec.vars false #[caseZ].toList 8 = some ([caseD], [], places) :=
  ⟨[], by kernel_rfl⟩
set_option maxRecDepth 100000 in
theorem recordBack_lifted (os : Os) (started : os.Started) (H : Type) (enc : TypeId × Value → H) (F : Stop.Interp) :
    ReturnsInHanded {} Tryd.checked os 5 .any ((Rows.OpenSpec.upto Rows.recordBackSpec).preRow enc Tryd.prog Tryd.f5 Rows.recordBackUptoRow.domain false Rows.recordBackUptoRow.laid)
      (((Rows.OpenSpec.upto Rows.recordBackSpec).at F).post enc Tryd.prog Tryd.f5 false true false false) := by
  obtain ⟨places, hx⟩ := recordBack_reads os enc
  refine returnsInHanded_of_row (C := Tryd.checked) (s := Rows.OpenSpec.upto Rows.recordBackSpec) own started (by kernel_rfl) Tryd.func5
    (witness_row_atRef (enc := enc) (C := Tryd.checked) false (World.doorLaid Tryd.prog 19 os) #[caseZ] rfl (by kernel_rfl) (by kernel_rfl) (by kernel_rfl)
      (OpenSpec.preRow_of_cond 8 hx (by kernel_rfl) (fun k hk => by cases hk; kernel_rfl) (by kernel_rfl) (door_met os _))) ?_
  intro W base args ds gs before hval0 hW _ hcond hsz0 hL _ _
  have hval : ∀ (j : Nat) t v, Tryd.f5.params[j]? = some t → args[j]? = some v → Value.okWide Tryd.prog W .any base t v := hval0
  have hW' := hW
  obtain ⟨p, q, hA0, hV, rfl, hfz, hnd⟩ := hW
  have hA : DataW.TrodAll enc Tryd.prog W 0 (fun _ => true) true Tryd.f5.params.toList args.toList ds p := hA0
  rw [Tryd.params5] at hA hval
  obtain ⟨v0, vs0, d0, ds0, p0, q0, hargs, rfl, rfl, h0, r0⟩ := trodAll_cons hA
  obtain ⟨rfl, rfl, rfl⟩ := trodAll_nil r0
  obtain rfl : args = #[v0] := by cases args; simp_all
  obtain ⟨rfl, rfl⟩ := trodVars_none hV
  have k0 := h0
  have lt0 : ∀ x ∈ p0, x.block < W.heap.size := by obtain ⟨m, hm⟩ := k0; exact DataW.trod_lt m _ _ _ hm
  obtain ⟨x, ia, ic, ka, kc, key, ahead, oa, oc, other, rfl, hI, hr, ha, hik, hil, hK, hkc, hkb, hO, hoc, hob⟩ := open_case (hval 0 44 v0 rfl rfl) h0
  have hk : Rows.uptoBulk d0 ≤ 1048576 := by
    have := of_decide_eq_true (hcond _ rfl)
    simp only [Rows.uptoBulkAll, List.append_nil] at this
    omega
  have hq : greatL x.items ≤ 1152921504606846976 := by
    have h1 := greatL_le 1048576 x.items fun i hi => Nat.le_trans (hik i hi) hk
    have h2 : x.items.length * (10 + 1048576) ≤ 1048576 * (10 + 1048576) := Nat.mul_le_mul_right _ (Nat.le_trans hil hk)
    omega
  refine (recordBack_law W x key ahead other ia ka oa ic kc oc (tables_of_laid hL) hI hr hq ha hK hkc (by omega) hO hoc (by omega) (by omega)).mono fun e W' ⟨he, bel⟩ => ?_
  subst he
  exact ⟨_, rfl, _, _, _, [], _, [], hW', trodAll_mk1 (shut_bool Tryd.underlying4 _), (trodAll_cons_mk (Below.trod laidOut (by kernel_rfl) (of_decide_eq_true (by kernel_rfl)) k0 bel lt0) trodAll_mk0), rfl, bel.frame _, fun h => by cases h⟩
theorem recordBack_said : Rows.RecordBackUptoSaid :=
  OpenClaim.holds_of_cond 5 Tryd.f5 rfl rfl rfl rfl rfl rfl rfl ⟨rfl, rfl, rfl, rfl, rfl⟩ rfl rfl rfl rfl rfl (by kernel_rfl) Tryd.func5 (by kernel_rfl)
    (of_decide_eq_true (by kernel_rfl)) (by unfold Func.isWrapper; first | (rw [if_pos (by decide +kernel)]; kernel_rfl) | (rw [if_neg (by decide +kernel)]; exact ⟨rfl, rfl⟩))
    (fun os started H enc _ F => by rw [OpenClaim.pre_eq_preRow]; exact recordBack_lifted os started H enc F)
theorem recordBack_card : Rows.RecordBackUptoCardSaid :=
  Claim7.holds_tied_plain_at .later [] [.data, .data] true Rows.recordBackUptoCard.stood.harness false
    recordBack_said (fun _ h => by cases h) (by kernel_rfl) (fun _ h => by cases h) recordBackUpto_row_tie rfl ⟨rfl, rfl⟩ (by kernel_rfl) rfl
    (fun f fn hf hfn => by
      obtain rfl : f = 5 := Option.some.inj ((show Tryd.prog.funcNamed "waterclock/waterclocklaw14.RecordBack" = some 5 by kernel_rfl).symm.trans hf) |>.symm
      obtain rfl : fn = Tryd.f5 := (Option.some.inj (Tryd.func5.symm.trans hfn)).symm
      exact ⟨by kernel_rfl, fun j t ht => by
        rw [Tryd.params5] at ht
        have := Array.mem_of_getElem? ht
        simp only [List.mem_toArray, List.mem_cons, List.not_mem_nil, or_false] at this
        rcases this with rfl
        exact (show Tryd.prog.wantsStandIn 44 = false by kernel_rfl)⟩)
    (by kernel_rfl)
#print axioms recordBack_card
end Go.Proofs.YtdmnhgbdeifpbaaDoor
