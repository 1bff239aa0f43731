/-
  RecordOpens: whatever case it is called with, it returns true, and the argument reads afterwards as it read before; the card ties the two tables of package sha to the program's text.
  Conditions: those that the row prints: what is read is of bulk at most 1048576; the two tables start as the program's text lays them; each slice and string takes at most 2^47 - 4096 bytes.
-/
import Derived.Test.YtdmnhgbdeifpbaaDoorO38
import Derived.Test.YtdmnhgbdeifpbaaDoorO11
import Derived.Test.YtdmnhgbdeifpbaaDoorO40
import Derived.Test.YtdmnhgbdeifpbaaDoorO41
import Derived.Test.YtdmnhgbdeifpbaaDoorCards
import Derived.Test.YtdmnhgbdeifpbaaDoorTie
import Derived.SevenTiedAt
import Derived.Deep.DeepWitnessRowRef
namespace Go.Proofs.YtdmnhgbdeifpbaaDoor
open Go Go.ChangeShapes Go.WideShapes Go.ChangeAt Go.WideMaps Go.WideElems Go.RowKit
section
variable {H : Type} {enc : TypeId × Value → H} {w : World}
set_option maxRecDepth 100000 in
/-- A case that came in as an argument. -/
theorem open_case0 {W : World} {base : Nat} {v : Value} {d : DataW H} {p : List MemPlace} (hv : Value.okWide Tryd.prog W .any base 44 v)
    (h : DataW.Trod enc Tryd.prog w 0 (fun _ => true) true 44 v d p) :
    ∃ (x : RecL) (ia : Option Addr) (ic : Nat) (ka : Option Addr) (kc : Nat) (key ahead : List (BitVec 8)) (oa : Option Addr) (oc : Nat) (other : List (BitVec 8)),
      v = .agg (caseC (recC x.kind x.seq (.slice ia x.items.length ic) x.area x.root) (.slice ka key.length kc) ahead (.slice oa other.length oc)) ∧ ItemsAt w ia x.items ∧ x.root.length = 32 ∧ ahead.length = 32 ∧
      (∀ i ∈ x.items, i.key.length ≤ Rows.uptoBulk d) ∧ x.items.length ≤ Rows.uptoBulk d ∧ SrcP w ka key.length key ∧ key.length ≤ kc ∧ kc ≤ Rows.uptoBulk d ∧ SrcP w oa other.length other ∧ other.length ≤ oc ∧ oc ≤ Rows.uptoBulk d ∧ (oa = none → oc = 0) := by
  simp only [Value.okWide, Tryd.underlying44] at hv
  obtain ⟨cs, rfl, _⟩ := hv
  obtain ⟨fuel, hfu⟩ := h
  obtain ⟨xs, q, _, hy, hl, hxl, hf⟩ := DataW.trod_struct Tryd.underlying44 hfu
  rw [c_case] at hl
  have hxl4 : xs.length = 4 := hxl
  have hcl : (Value.agg cs).cells.toList = cs.toList := by simp [Value.cells]
  rw [hcl] at hl hf
  have f0 := field_at hf 0 (T := 25) (o := 0) rfl c_rec
  have f1 := field_at hf 1 (T := 26) (o := 36) rfl cells_bytes
  have f2 := field_at hf 2 (T := 23) (o := 37) rfl c_hash
  have f3 := field_at hf 3 (T := 26) (o := 69) rfl cells_bytes
  rw [List.getElem?_eq_getElem (by omega)] at f0 f1 f2 f3
  rw [List.drop_zero] at f0
  obtain ⟨v1, h1⟩ : ∃ v1, (cs.toList.drop 36).take 1 = [v1] := ⟨cs.toList[36]'(by omega), by rw [List.drop_eq_getElem_cons (by omega)]; rfl⟩
  obtain ⟨v3, h3⟩ : ∃ v3, (cs.toList.drop 69).take 1 = [v3] := ⟨cs.toList[69]'(by omega), by rw [List.drop_eq_getElem_cons (by omega)]; rfl⟩
  rw [h1] at f1
  rw [h3] at f3
  obtain ⟨x, ia, ic, hx, hI, hr, hk, hil⟩ := open_record f0
  obtain ⟨ka, kc, key, rfl, hK, hkl, hkb⟩ := open_bytes1 f1
  obtain ⟨ahead, hal, ha⟩ := open_hash f2
  obtain ⟨oa, oc, other, rfl, hO, hol, hob⟩ := open_bytes1 f3
  have ho0 : oa = none → oc = 0 := by
    obtain ⟨y3, hy3⟩ : ∃ y3, y3 = xs[3] := ⟨_, rfl⟩
    rw [← hy3] at f3
    obtain ⟨d3, pl3⟩ := y3
    obtain ⟨_, _, _, _, _, h0⟩ := open_arg (⟨_, by simpa [Value.cells] using f3⟩ : DataW.Trod enc Tryd.prog w 0 (fun _ => true) true 26 (.slice oa other.length oc) d3 pl3)
    exact h0
  have hd : d = .agg (xs.map (·.1)) := by simpa using congrArg Prod.fst hy
  have b0 := agg_bulk (List.getElem_mem (show 0 < xs.length by omega))
  have b1 := agg_bulk (List.getElem_mem (show 1 < xs.length by omega))
  have b3 := agg_bulk (List.getElem_mem (show 3 < xs.length by omega))
  rw [← hd] at b0 b1 b3
  refine ⟨x, ia, ic, ka, kc, key, ahead, oa, oc, other, ?_, hI, hr, hal, fun i hi => by have := hk i hi; omega, by omega, hK, hkl, by omega, hO, hol, by omega, ho0⟩
  congr 1
  apply Array.toList_inj.1
  have e : cs.toList = cs.toList.take 36 ++ ((cs.toList.drop 36).take 1 ++ ((cs.toList.drop 37).take 32 ++ (cs.toList.drop 69).take 1)) := by
    have e1 : (cs.toList.drop 69).take 1 = cs.toList.drop 69 := List.take_of_length_le (by simp at hl ⊢; omega)
    have e2 : (cs.toList.drop 37).take 32 ++ cs.toList.drop 69 = cs.toList.drop 37 := by
      rw [show cs.toList.drop 69 = (cs.toList.drop 37).drop 32 by rw [List.drop_drop]]
      exact List.take_append_drop ..
    have e3 : (cs.toList.drop 36).take 1 ++ cs.toList.drop 37 = cs.toList.drop 36 := by
      rw [show cs.toList.drop 37 = (cs.toList.drop 36).drop 1 by rw [List.drop_drop]]
      exact List.take_append_drop ..
    rw [e1, e2, e3, List.take_append_drop]
  rw [e, hx, h1, ha, h3]
  simp [caseC]
end
def caseZ : Value := .agg (caseC (recC 0 0 (.slice none 0 0) 0 zeroH) (.slice none 0 0) zeroH (.slice none 0 0))
def hashD {H : Type} : DataW H := .agg (List.replicate 32 (.lit (.int .u8 0)))
def caseD {H : Type} : DataW H := .agg [.agg [.lit (.int .i64 0), .lit (.int .i64 0), .nil, .lit (.int .i64 0), hashD], .nil, hashD, .nil]
theorem recordOpens_reads (os : Os) {H : Type} (enc : TypeId × Value → H) : ∃ places, DataW.whole enc Tryd.prog ((World.doorLaid Tryd.prog 19 os).forCall (fun _ _ => 0) ⟨#[], #[caseZ], []⟩).memory Tryd.f4.params.toList Rows.recordOpensSpec.vars false #[caseZ].toList 8 = some ([caseD], [], places) :=
  ⟨[], by kernel_rfl⟩
set_option maxRecDepth 100000 in
theorem recordOpens_lifted (os : Os) (started : os.Started) (H : Type) (enc : TypeId × Value → H) (F : Stop.Interp) :
    ReturnsInHanded {} Tryd.checked os 4 .any ((Rows.OpenSpec.upto Rows.recordOpensSpec).preRow enc Tryd.prog Tryd.f4 Rows.recordOpensUptoRow.domain false Rows.recordOpensUptoRow.laid)
      (((Rows.OpenSpec.upto Rows.recordOpensSpec).at F).post enc Tryd.prog Tryd.f4 false true false false) := by
  obtain ⟨places, hx⟩ := recordOpens_reads os enc
  refine returnsInHanded_of_row (C := Tryd.checked) (s := Rows.OpenSpec.upto Rows.recordOpensSpec) own started (by kernel_rfl) Tryd.func4
    (witness_row_atRef (enc := enc) (C := Tryd.checked) false (World.doorLaid Tryd.prog 19 os) #[caseZ] rfl (by kernel_rfl) (by kernel_rfl) (by kernel_rfl)
      (OpenSpec.preRow_of_cond 8 hx (by kernel_rfl) (fun k hk => by cases hk; kernel_rfl) (by kernel_rfl) (door_met os _))) ?_
  intro W base args ds gs before hval0 hW _ hcond hsz0 hL _ _
  have hval : ∀ (j : Nat) t v, Tryd.f4.params[j]? = some t → args[j]? = some v → Value.okWide Tryd.prog W .any base t v := hval0
  have hW' := hW
  obtain ⟨p, q, hA0, hV, rfl, hfz, hnd⟩ := hW
  have hA : DataW.TrodAll enc Tryd.prog W 0 (fun _ => true) true Tryd.f4.params.toList args.toList ds p := hA0
  rw [Tryd.params4] at hA hval
  obtain ⟨v0, vs0, d0, ds0, p0, q0, hargs, rfl, rfl, h0, r0⟩ := trodAll_cons hA
  obtain ⟨rfl, rfl, rfl⟩ := trodAll_nil r0
  obtain rfl : args = #[v0] := by cases args; simp_all
  obtain ⟨rfl, rfl⟩ := trodVars_none hV
  have k0 := h0
  have lt0 : ∀ x ∈ p0, x.block < W.heap.size := by obtain ⟨m, hm⟩ := k0; exact DataW.trod_lt m _ _ _ hm
  obtain ⟨x, ia, ic, ka, kc, key, ahead, oa, oc, other, rfl, hI, hr, ha, hik, hil, hK, hkc, hkb, hO, hoc, hob, ho0⟩ := open_case0 (hval 0 44 v0 rfl rfl) h0
  have hk : Rows.uptoBulk d0 ≤ 1048576 := by
    have := of_decide_eq_true (hcond _ rfl)
    simp only [Rows.uptoBulkAll, List.append_nil] at this
    omega
  have hq : greatL x.items ≤ 1152921504606846976 := by
    have h1 := greatL_le 1048576 x.items fun i hi => Nat.le_trans (hik i hi) hk
    have h2 : x.items.length * (10 + 1048576) ≤ 1048576 * (10 + 1048576) := Nat.mul_le_mul_right _ (Nat.le_trans hil hk)
    omega
  refine (recordOpens_law W x key ahead other ia ka oa ic kc oc (tables_of_laid hL) hI hr hq ha hK hkc (by omega) hO hoc (by omega) ho0).mono fun e W' ⟨he, bel⟩ => ?_
  subst he
  exact ⟨_, rfl, _, _, _, [], _, [], hW', trodAll_mk1 (shut_bool Tryd.underlying4 _), (trodAll_cons_mk (Below.trod laidOut (by kernel_rfl) (of_decide_eq_true (by kernel_rfl)) k0 bel lt0) trodAll_mk0), rfl, bel.frame _, fun h => by cases h⟩
theorem recordOpens_said : Rows.RecordOpensUptoSaid :=
  OpenClaim.holds_of_cond 4 Tryd.f4 rfl rfl rfl rfl rfl rfl rfl ⟨rfl, rfl, rfl, rfl, rfl⟩ rfl rfl rfl rfl rfl (by kernel_rfl) Tryd.func4 (by kernel_rfl)
    (of_decide_eq_true (by kernel_rfl)) (by unfold Func.isWrapper; first | (rw [if_pos (by decide +kernel)]; kernel_rfl) | (rw [if_neg (by decide +kernel)]; exact ⟨rfl, rfl⟩))
    (fun os started H enc _ F => by rw [OpenClaim.pre_eq_preRow]; exact recordOpens_lifted os started H enc F)
theorem recordOpens_card : Rows.RecordOpensUptoCardSaid :=
  Claim7.holds_tied_plain_at .later [] [.data, .data] true Rows.recordOpensUptoCard.stood.harness false
    recordOpens_said (fun _ h => by cases h) (by kernel_rfl) (fun _ h => by cases h) recordOpensUpto_row_tie rfl ⟨rfl, rfl⟩ (by kernel_rfl) rfl
    (fun f fn hf hfn => by
      obtain rfl : f = 4 := Option.some.inj ((show Tryd.prog.funcNamed "waterclock/waterclocklaw14.RecordOpens" = some 4 by kernel_rfl).symm.trans hf) |>.symm
      obtain rfl : fn = Tryd.f4 := (Option.some.inj (Tryd.func4.symm.trans hfn)).symm
      exact ⟨by kernel_rfl, fun j t ht => by
        rw [Tryd.params4] at ht
        have := Array.mem_of_getElem? ht
        simp only [List.mem_toArray, List.mem_cons, List.not_mem_nil, or_false] at this
        rcases this with rfl
        exact (show Tryd.prog.wantsStandIn 44 = false by kernel_rfl)⟩)
    (by kernel_rfl)
#print axioms recordOpens_card
end Go.Proofs.YtdmnhgbdeifpbaaDoor
