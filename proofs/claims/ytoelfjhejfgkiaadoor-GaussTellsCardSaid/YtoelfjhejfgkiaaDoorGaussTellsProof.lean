/-
  GaussTells: whatever two complex numbers, two numbers and a quarter it is called with, what is no number among them, it returns true, and the arguments read afterwards as they read before; the card ties the library's listed tables and errors to the program's text.
  Conditions: those that the row prints: the listed variables start as the program's text lays them.
-/
import Derived.Test.YtoelfjhejfgkiaaDoorGaussTellsLaw
import Derived.Test.YtoelfjhejfgkiaaDoorGaussOpen
import Derived.Test.YtoelfjhejfgkiaaDoorCards
import Derived.Test.YtoelfjhejfgkiaaDoorTie
import Derived.SevenTiedAt
namespace Go.Proofs.YtoelfjhejfgkiaaDoor
open Go Go.ChangeShapes Go.WideShapes Go.ChangeAt Go.WideMaps Go.WideElems Go.RowKit

set_option maxRecDepth 100000 in
theorem cell_float {W : World} {base : Nat} {v : Value} (h : Cell.okWide Tryd.prog W .any base 22 v) : ∃ x, v = .float .f64 x := by
  simp only [Cell.okWide, Tryd.underlying22] at h
  cases v <;> simp_all [Cell.ok]
set_option maxRecDepth 100000 in
theorem cell_int {W : World} {base : Nat} {v : Value} (h : Cell.okWide Tryd.prog W .any base 3 v) : ∃ n, v = .int .i64 n ∧ -9223372036854775808 ≤ n ∧ n < 9223372036854775808 := by
  simp only [Cell.okWide, Tryd.underlying3] at h
  cases v with
  | int k n =>
    simp only [Cell.ok, Tryd.underlying3] at h
    obtain ⟨rfl, h⟩ := h
    refine ⟨n, rfl, ?_⟩
    simp [IntKind.has, IntKind.min, IntKind.max, IntKind.signed, IntKind.bits] at h
    omega
  | _ => simp [Cell.ok, Tryd.underlying3] at h
set_option maxRecDepth 100000 in
theorem open_case {W : World} {base : Nat} {v : Value} (h : Value.okWide Tryd.prog W .any base 26 v) :
    ∃ p0 p1 r0 r1 n0 n1 q, v = .agg #[.float .f64 p0, .float .f64 p1, .float .f64 r0, .float .f64 r1, .int .i64 n0, .int .i64 n1, .int .i64 q] ∧ (-9223372036854775808 ≤ n0 ∧ n0 < 9223372036854775808) ∧ -9223372036854775808 ≤ n1 ∧ n1 < 9223372036854775808 := by
  simp only [Value.okWide, Tryd.underlying26] at h
  obtain ⟨cs, rfl, hsz, ts, hts, _, hc⟩ := h
  rw [show Tryd.prog.cellTypes Tryd.prog.depth 26 = some [22, 22, 22, 22, 3, 3, 3] by kernel_rfl] at hts
  obtain rfl := Option.some.inj hts
  rw [show Tryd.prog.cellsOf 26 = 7 by kernel_rfl] at hsz
  obtain ⟨l⟩ := cs
  match l, hsz with
  | [c0, c1, c2, c3, c4, c5, c6], _ =>
    obtain ⟨_, e, k0⟩ := hc 0 c0 rfl
    cases e
    obtain ⟨_, e, k1⟩ := hc 1 c1 rfl
    cases e
    obtain ⟨_, e, k2⟩ := hc 2 c2 rfl
    cases e
    obtain ⟨_, e, k3⟩ := hc 3 c3 rfl
    cases e
    obtain ⟨_, e, k4⟩ := hc 4 c4 rfl
    cases e
    obtain ⟨_, e, k5⟩ := hc 5 c5 rfl
    cases e
    obtain ⟨_, e, k6⟩ := hc 6 c6 rfl
    cases e
    obtain ⟨p0, rfl⟩ := cell_float k0
    obtain ⟨p1, rfl⟩ := cell_float k1
    obtain ⟨r0, rfl⟩ := cell_float k2
    obtain ⟨r1, rfl⟩ := cell_float k3
    obtain ⟨n0, rfl, hn0⟩ := cell_int k4
    obtain ⟨n1, rfl, hn1⟩ := cell_int k5
    obtain ⟨q, rfl, _⟩ := cell_int k6
    exact ⟨p0, p1, r0, r1, n0, n1, q, rfl, hn0, hn1⟩
set_option maxRecDepth 100000 in
theorem gaussTells_lifted (os : Os) (started : os.Started) (H : Type) (enc : TypeId × Value → H) :
    ReturnsInHanded {} Tryd.checked os 3 .any (fun w args => (Rows.gaussTellsSpec.pre enc Tryd.prog Tryd.f3 [] false w args ∧ laidMetH Tryd.prog laidG w) ∧ sizedMet enc Tryd.prog Tryd.f3 (OpenSpec.ofChange Rows.gaussTellsSpec) false w args)
      (Rows.gaussTellsSpec.post enc Tryd.prog Tryd.f3 false true false false) := by
  refine returnsInHanded_of_change_and (C := Tryd.checked) (X := fun w _ => laidMetH Tryd.prog laidG w) (fun _ _ _ hh h => h.of_heap hh) own started (by kernel_rfl) Tryd.func3
    (ChangeSpec.witness_shaped (enc := enc) (C := Tryd.checked) (os := os) (X := fun w _ => laidMetH Tryd.prog laidG w) false (World.laidAll Tryd.prog os laidG) #[.agg #[.float .f64 0, .float .f64 0, .float .f64 0, .float .f64 0, .int .i64 0, .int .i64 0, .int .i64 0]] 8 (World.laidAll_os _ _ _)
      (laid_shaped os _) (by kernel_rfl) (by kernel_rfl) (by kernel_rfl) (laid_met os _)) ?_
  intro W base args ds gs before hval0 hW _ _ hL _
  have hval : ∀ (j : Nat) t v, Tryd.f3.params[j]? = some t → args[j]? = some v → Value.okWide Tryd.prog W .any base t v := hval0
  have hW' := hW
  obtain ⟨p, q, hA0, hV, rfl, _, _⟩ := hW
  have hA : DataW.TrodAll enc Tryd.prog W 0 (fun _ => true) true Tryd.f3.params.toList args.toList ds p := hA0
  rw [Tryd.params3] at hA hval
  obtain ⟨v0, vs0, d0, ds0, p0, q0, hargs, rfl, rfl, h0, r0⟩ := trodAll_cons hA
  obtain ⟨rfl, rfl, rfl⟩ := trodAll_nil r0
  obtain rfl : args = #[v0] := by cases args; simp_all
  obtain ⟨rfl, rfl⟩ := trodVars_none hV
  have k0 := h0
  have lt0 : ∀ x ∈ p0, x.block < W.heap.size := by obtain ⟨m, hm⟩ := k0; exact DataW.trod_lt m _ _ _ hm
  obtain ⟨f0, f1, g0, g1, n0, n1, q, rfl, hn0, hn1⟩ := open_case (hval 0 26 v0 rfl rfl)
  refine (gaussTells_any W f0 f1 g0 g1 n0 n1 q hn0 hn1 (pow_of_laid hL)).mono fun e W' ⟨he, bel⟩ => ?_
  subst he
  exact ⟨_, rfl, _, _, _, [], _, [], hW', trodAll_mk1 (shut_bool Tryd.underlying4 _), (trodAll_cons_mk (Below.trod laidOut (by kernel_rfl) (of_decide_eq_true (by kernel_rfl)) k0 bel lt0) trodAll_mk0), rfl, bel.frame _, fun h => by cases h⟩
theorem gaussTells_said : Rows.GaussTellsSaid :=
  OpenClaim.holds_of_wide 3 Tryd.f3 rfl rfl rfl rfl rfl rfl rfl ⟨rfl, rfl, rfl, rfl, rfl⟩ rfl rfl rfl rfl rfl (by kernel_rfl) Tryd.func3 (by kernel_rfl)
    (of_decide_eq_true (by kernel_rfl)) (by unfold Func.isWrapper; first | (rw [if_pos (by decide +kernel)]; kernel_rfl) | (rw [if_neg (by decide +kernel)]; exact ⟨rfl, rfl⟩))
    (fun os started H enc _ => gaussTells_lifted os started H enc)
theorem gaussTells_card : Rows.GaussTellsCardSaid :=
  Claim7.holds_tied_plain_at .later [] [.data, .data, .data, .data, .sentinel, .sentinel, .pinned] true Rows.gaussTellsCard.stood.harness true
    gaussTells_said (fun _ h => by cases h) (by kernel_rfl) (fun _ h => by cases h) gaussTells_row_tie rfl ⟨rfl, rfl⟩ (by kernel_rfl) rfl
    (fun f fn hf hfn => by
      obtain rfl : f = 3 := Option.some.inj ((show Tryd.prog.funcNamed "waterclock/waterclocklaw04.GaussTells" = some 3 by kernel_rfl).symm.trans hf) |>.symm
      obtain rfl : fn = Tryd.f3 := (Option.some.inj (Tryd.func3.symm.trans hfn)).symm
      exact ⟨by kernel_rfl, fun j t ht => by
        rw [Tryd.params3] at ht
        have := Array.mem_of_getElem? ht
        simp only [List.mem_toArray, List.mem_cons, List.not_mem_nil, or_false] at this
        subst this
        exact (show Tryd.prog.wantsStandIn 26 = false by kernel_rfl)⟩)
    (by kernel_rfl)
#print axioms gaussTells_card
end Go.Proofs.YtoelfjhejfgkiaaDoor
