/-
  RecordTells: whatever records and bytes it is called with, it returns true, and the arguments read afterwards as they read before; the card ties the two tables of package sha to the program's text.
  Conditions: those that the row prints: what is read is of bulk at most 1048576; the two tables start as the program's text lays them; each slice and string takes at most 2^47 - 4096 bytes.
-/
import Derived.Test.YtdmnhgbdeifpbaaDoorL36
import Derived.Test.YtdmnhgbdeifpbaaDoorL11
import Derived.Test.YtdmnhgbdeifpbaaDoorL37
import Derived.Test.YtdmnhgbdeifpbaaDoorL38
import Derived.Test.YtdmnhgbdeifpbaaDoorCards
import Derived.Test.YtdmnhgbdeifpbaaDoorTie
import Derived.SevenTiedAt
import Derived.Deep.DeepWitnessRowRef
namespace Go.Proofs.YtdmnhgbdeifpbaaDoor
open Go Go.ChangeShapes Go.WideShapes Go.ChangeAt Go.WideMaps Go.WideElems Go.RowKit
def recZ : Value := .agg (recC 0 0 (.slice none 0 0) 0 zeroH)
def hashD {H : Type} : DataW H := .agg (List.replicate 32 (.lit (.int .u8 0)))
def recD {H : Type} : DataW H := .agg [.lit (.int .i64 0), .lit (.int .i64 0), .nil, .lit (.int .i64 0), hashD]
section
variable {H : Type} {enc : TypeId × Value → H} {w : World}
set_option maxRecDepth 100000 in
/-- A record that came in as an argument. -/
theorem open_recV {W : World} {base : Nat} {v : Value} {d : DataW H} {p : List MemPlace} (hv : Value.okWide Tryd.prog W .any base 25 v)
    (h : DataW.Trod enc Tryd.prog w 0 (fun _ => true) true 25 v d p) :
    ∃ (x : RecL) (ia : Option Addr) (ic : Nat), v = .agg (recC x.kind x.seq (.slice ia x.items.length ic) x.area x.root) ∧ ItemsAt w ia x.items ∧ x.root.length = 32 ∧ (∀ i ∈ x.items, i.key.length ≤ Rows.uptoBulk d) ∧ x.items.length ≤ Rows.uptoBulk d := by
  simp only [Value.okWide, Tryd.underlying25] at hv; obtain ⟨cs, rfl, _⟩ := hv; obtain ⟨fuel, hfu⟩ := h; obtain ⟨x, ia, ic, hx, hI, hr, hk, hil⟩ := open_record hfu; refine ⟨x, ia, ic, ?_, hI, hr, hk, hil⟩
  congr 1
  apply Array.toList_inj.1
  have hcl : (Value.agg cs).cells.toList = cs.toList := by simp [Value.cells]
  rw [← hcl]; exact hx
end
theorem recordTells_reads (os : Os) {H : Type} (enc : TypeId × Value → H) : ∃ places, DataW.whole enc Tryd.prog ((World.doorLaid Tryd.prog 19 os).forCall (fun _ _ => 0) ⟨#[], #[recZ, recZ, .slice none 0 0], []⟩).memory Tryd.f3.params.toList Rows.recordTellsSpec.vars false #[recZ, recZ, .slice none 0 0].toList 8 = some ([recD, recD, .nil], [], places) :=
  ⟨[], by kernel_rfl⟩
set_option maxRecDepth 100000 in
theorem recordTells_lifted (os : Os) (started : os.Started) (H : Type) (enc : TypeId × Value → H) (F : Stop.Interp) :
    ReturnsInHanded {} Tryd.checked os 3 .any ((Rows.OpenSpec.upto Rows.recordTellsSpec).preRow enc Tryd.prog Tryd.f3 Rows.recordTellsUptoRow.domain false Rows.recordTellsUptoRow.laid)
      (((Rows.OpenSpec.upto Rows.recordTellsSpec).at F).post enc Tryd.prog Tryd.f3 false true false false) := by
  obtain ⟨places, hx⟩ := recordTells_reads os enc
  refine returnsInHanded_of_row (C := Tryd.checked) (s := Rows.OpenSpec.upto Rows.recordTellsSpec) own started (by kernel_rfl) Tryd.func3
    (witness_row_atRef (enc := enc) (C := Tryd.checked) false (World.doorLaid Tryd.prog 19 os) #[recZ, recZ, .slice none 0 0] rfl (by kernel_rfl) (by kernel_rfl) (by kernel_rfl)
      (OpenSpec.preRow_of_cond 8 hx (by kernel_rfl) (fun k hk => by cases hk; kernel_rfl) (by kernel_rfl) (door_met os _))) ?_
  intro W base args ds gs before hval0 hW _ hcond hsz0 hL _ _; have hval : ∀ (j : Nat) t v, Tryd.f3.params[j]? = some t → args[j]? = some v → Value.okWide Tryd.prog W .any base t v := hval0; have hW' := hW; obtain ⟨p, q, hA0, hV, rfl, hfz, hnd⟩ := hW; have hA : DataW.TrodAll enc Tryd.prog W 0 (fun _ => true) true Tryd.f3.params.toList args.toList ds p := hA0; rw [Tryd.params3] at hA hval; obtain ⟨v0, vs0, d0, ds0, p0, q0, hargs, rfl, rfl, h0, r0⟩ := trodAll_cons hA; obtain ⟨v1, vs1, d1, ds1, p1, q1, rfl, rfl, rfl, h1, r1⟩ := trodAll_cons r0; obtain ⟨v2, vs2, d2, ds2, p2, q2, rfl, rfl, rfl, h2, r2⟩ := trodAll_cons r1; obtain ⟨rfl, rfl, rfl⟩ := trodAll_nil r2
  obtain rfl : args = #[v0, v1, v2] := by cases args; simp_all
  obtain ⟨rfl, rfl⟩ := trodVars_none hV; have k0 := h0; have k1 := h1; have k2 := h2
  have lt0 : ∀ x ∈ p0, x.block < W.heap.size := by obtain ⟨m, hm⟩ := k0; exact DataW.trod_lt m _ _ _ hm
  have lt1 : ∀ x ∈ p1, x.block < W.heap.size := by obtain ⟨m, hm⟩ := k1; exact DataW.trod_lt m _ _ _ hm
  have lt2 : ∀ x ∈ p2, x.block < W.heap.size := by obtain ⟨m, hm⟩ := k2; exact DataW.trod_lt m _ _ _ hm
  obtain ⟨x, ia, ic, rfl, hI, hr, hik, hil⟩ := open_recV (hval 0 25 v0 rfl rfl) h0; obtain ⟨y, ja, jc, rfl, hJ, hry, hjk, hjl⟩ := open_recV (hval 1 25 v1 rfl rfl) h1; obtain ⟨a2, len2, cap2, rfl⟩ := okWide_slice Tryd.underlying26 (hval 2 26 v2 rfl rfl); obtain ⟨m, hm1, hm2, hm3, hm4, hm5⟩ := open_arg h2; subst hm1
  have hk : Rows.uptoBulk d0 + Rows.uptoBulk d1 ≤ 1048576 := by
    have := of_decide_eq_true (hcond _ rfl); simp only [Rows.uptoBulkAll, List.append_nil] at this; omega
  have hq : ∀ {z : RecL} {b : Nat}, b ≤ 1048576 → (∀ i ∈ z.items, i.key.length ≤ b) → z.items.length ≤ b → greatL z.items ≤ 1152921504606846976 := fun {z b} hb hk' hl' => by
    have h1 := greatL_le 1048576 z.items fun i hi => Nat.le_trans (hk' i hi) hb; have h2 : z.items.length * (10 + 1048576) ≤ 1048576 * (10 + 1048576) := Nat.mul_le_mul_right _ (Nat.le_trans hl' hb); omega
  refine (recordTells_law W x y ia ja ic jc m a2 cap2 (tables_of_laid hL) hI hr (hq (by omega) hik hil) hJ hry (hq (by omega) hjk hjl) hm2 hm3 hm4 hm5).mono fun e W' ⟨he, bel⟩ => ?_
  subst he
  exact ⟨_, rfl, _, _, _, [], _, [], hW', trodAll_mk1 (shut_bool Tryd.underlying4 _), (trodAll_cons_mk (Below.trod laidOut (by kernel_rfl) (of_decide_eq_true (by kernel_rfl)) k0 bel lt0)
    (trodAll_cons_mk (Below.trod laidOut (by kernel_rfl) (of_decide_eq_true (by kernel_rfl)) k1 bel lt1)
    (trodAll_cons_mk (Below.trod laidOut (by kernel_rfl) (of_decide_eq_true (by kernel_rfl)) k2 bel lt2) trodAll_mk0))), rfl, bel.frame _, fun h => by cases h⟩
theorem recordTells_said : Rows.RecordTellsUptoSaid :=
  OpenClaim.holds_of_cond 3 Tryd.f3 rfl rfl rfl rfl rfl rfl rfl ⟨rfl, rfl, rfl, rfl, rfl⟩ rfl rfl rfl rfl rfl (by kernel_rfl) Tryd.func3 (by kernel_rfl)
    (of_decide_eq_true (by kernel_rfl)) (by unfold Func.isWrapper; first | (rw [if_pos (by decide +kernel)]; kernel_rfl) | (rw [if_neg (by decide +kernel)]; exact ⟨rfl, rfl⟩))
    (fun os started H enc _ F => by rw [OpenClaim.pre_eq_preRow]; exact recordTells_lifted os started H enc F)
theorem recordTells_card : Rows.RecordTellsUptoCardSaid :=
  Claim7.holds_tied_plain_at .later [] [.data, .data] true Rows.recordTellsUptoCard.stood.harness false
    recordTells_said (fun _ h => by cases h) (by kernel_rfl) (fun _ h => by cases h) recordTellsUpto_row_tie rfl ⟨rfl, rfl⟩ (by kernel_rfl) rfl
    (fun f fn hf hfn => by
      obtain rfl : f = 3 := Option.some.inj ((show Tryd.prog.funcNamed "waterclock/waterclocklaw14.RecordTells" = some 3 by kernel_rfl).symm.trans hf) |>.symm
      obtain rfl : fn = Tryd.f3 := (Option.some.inj (Tryd.func3.symm.trans hfn)).symm
      exact ⟨by kernel_rfl, fun j t ht => by
        rw [Tryd.params3] at ht; have := Array.mem_of_getElem? ht; simp only [List.mem_toArray, List.mem_cons, List.not_mem_nil, or_false] at this
        rcases this with rfl | rfl | rfl
        · exact (show Tryd.prog.wantsStandIn 25 = false by kernel_rfl)
        · exact (show Tryd.prog.wantsStandIn 25 = false by kernel_rfl)
        · exact (show Tryd.prog.wantsStandIn 26 = false by kernel_rfl)⟩)
    (by kernel_rfl)
#print axioms recordTells_card
end Go.Proofs.YtdmnhgbdeifpbaaDoor
