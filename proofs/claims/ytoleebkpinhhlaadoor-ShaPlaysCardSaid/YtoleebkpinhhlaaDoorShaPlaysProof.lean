/-
  ShaPlays: whatever list of acts it is called with, it returns true, and the argument reads afterwards as it read before; the card ties the two tables of package sha to the program's text.
  Conditions: those that the row prints: the two tables start as the program's text lays them; each slice takes at most 2^47 - 4096 bytes.
-/
import Derived.Test.YtoleebkpinhhlaaDoorShaPlaysLaw
import Derived.Test.YtoleebkpinhhlaaDoorShaOpen
import Derived.Test.YtoleebkpinhhlaaDoorCards
import Derived.Test.YtoleebkpinhhlaaDoorTie
import Derived.SevenTiedAt
import Derived.Deep.DeepWitnessRowRef
import Derived.Deep.SlicePairs
namespace Go.Proofs.YtoleebkpinhhlaaDoor
open Go Go.ChangeShapes Go.WideShapes Go.ChangeAt Go.WideMaps Go.WideElems Go.RowKit

theorem bytes_u8 : Tryd.prog.bytesOf 5 = 1 := by kernel_rfl
theorem cells_op : Tryd.prog.cellsOf 40 = 2 := by kernel_rfl
theorem cells_int : Tryd.prog.cellsOf 3 = 1 := by kernel_rfl
theorem cells_bs : Tryd.prog.cellsOf 24 = 1 := by kernel_rfl
theorem weights_mem_all {H : Type} {P : Program} {e : TypeId} : ∀ {l : List (DataW H)} {d : DataW H}, d ∈ l → ∀ n ∈ d.weights P e, n ∈ DataW.weightsAll P e l
  | x :: l, d, h, n, hn => by
    simp only [DataW.weightsAll, List.mem_append]
    rcases List.mem_cons.1 h with rfl | h
    · exact .inl hn
    · exact .inr (weights_mem_all h n hn)

/-- A slice of acts that came in. -/
theorem open_acts {H : Type} {enc : TypeId × Value → H} {w : World} {a : Option Addr} {len cap : Nat} {d : DataW H} {p : List MemPlace}
    (h : DataW.Trod enc Tryd.prog w 0 (fun _ => true) true 29 (.slice a len cap) d p) (hw : ∀ n ∈ d.weights Tryd.prog 29, n ≤ reachBytes) :
    ∃ ops : List OpP, ops.length = len ∧ OpsAt w a ops ∧ (∀ x ∈ ops, x.part.ok w) ∧ len ≤ 9223372036854775807 ∧ ∀ x ∈ ops, x.part.m.length ≤ 140737488355328 := by
  obtain ⟨fuel, hf⟩ := h
  rcases Deep.open_slice_pairs Tryd.underlying29 Tryd.underlying40 cells_op rfl rfl cells_int cells_bs hf with ⟨hcs, _⟩ | ⟨x, l, c, mm, n, V0, V1, D0, D1, P0, P1, hcs, _, hl, hm, hmm, hx, hr⟩
  · simp [Value.cells] at hcs
    obtain ⟨rfl, rfl, rfl⟩ := hcs
    exact ⟨[], rfl, .inl rfl, by simp, Nat.zero_le _, by simp⟩
  · simp [Value.cells] at hcs
    obtain ⟨rfl, rfl, rfl⟩ := hcs
    simp only [if_true] at hmm
    subst hmm
    have each : ∀ r < len, ∃ y : OpP, V0 r = .int .i64 y.kind ∧ V1 r = y.part.val ∧ y.part.ok w ∧ y.part.m.length ≤ 140737488355328 := fun r hrl => by
      obtain ⟨h1, h2, h3, h4⟩ := hr r (by omega)
      obtain ⟨k, hk, _, _⟩ := DataW.trod_int Tryd.underlying3 h3
      simp only [List.cons.injEq, and_true] at hk
      rcases open_ints Tryd.underlying24 Tryd.underlying5 (by kernel_rfl) h4 with ⟨hcs, _⟩ | ⟨x', l', c', zs, hcs, _, hl', hm', hz, hx', hcell, hwz⟩
      · simp only [List.cons.injEq, and_true] at hcs
        refine ⟨⟨k, none, 0, []⟩, hk, hcs, ⟨Nat.le_refl _, Nat.zero_le _, .inl rfl⟩, Nat.zero_le _⟩
      · simp only [List.cons.injEq, and_true] at hcs
        have hz' : zs.length = c' := by simpa using hz
        obtain ⟨m, hm1, hm2⟩ := src_of_ints (w := w) (a := some x') (len := l') (cap := c') (zs := zs) (.inr ⟨x', rfl, hl', hz', hcell, hwz⟩)
        have hml : maxLen ≤ 9223372036854775807 := by unfold maxLen; omega
        refine ⟨⟨k, some x', c', m⟩, hk, by rw [hcs, Part.val, hm1], ⟨by show m.length ≤ c'; omega, Nat.le_trans hm' hml, hm2⟩, ?_⟩
        show m.length ≤ _
        simp only [Prod.mk.injEq] at hx hx'
        have hin : (DataW.agg [D0 r, D1 r] : DataW H) ∈ (List.range len).map fun i => (.agg [D0 i, D1 i] : DataW H) := List.mem_map.2 ⟨r, List.mem_range.2 hrl, rfl⟩
        have hb := hw (c' * 1) (by
          rw [hx.1]
          simp only [DataW.weights, Tryd.underlying29, List.mem_cons, List.mem_append]
          refine .inr (.inl (weights_mem_all hin _ ?_))
          simp only [DataW.weights, Tryd.underlying40]
          refine DataW.weights_mem_each (j := 1) (t := 24) (d := D1 r) rfl rfl _ ?_
          rw [hx'.1]
          simp only [DataW.weights, Tryd.underlying24, bytes_u8, List.mem_cons]
          left
          simp only [lits, List.length_map, List.length_take, List.length_drop]
          omega)
        simp only [reachBytes] at hb
        omega
    classical
    let f : Nat → OpP := fun r => if h : r < len then Classical.choose (each r h) else ⟨0, none, 0, []⟩
    have hM : ∀ r < len, V0 r = .int .i64 (f r).kind ∧ V1 r = (f r).part.val ∧ (f r).part.ok w ∧ (f r).part.m.length ≤ 140737488355328 := fun r hrl => by
      simp only [f, dif_pos hrl]
      exact Classical.choose_spec (each r hrl)
    refine ⟨(List.range len).map f, by simp, ?_, ?_, ?_, ?_⟩
    · by_cases h0 : len = 0
      · exact .inl (by simp [h0])
      · obtain ⟨b, off, spot⟩ := x
        have hs : spot = none := by
          have := World.cell?_spot (hr 0 (by omega)).1
          simpa [Addr.add] using this
        subst hs
        refine .inr ⟨b, off, rfl, fun i y hy => ?_⟩
        rw [List.getElem?_map] at hy
        have hi : i < len := by
          rcases Nat.lt_or_ge i len with hi | hi
          · exact hi
          · rw [List.getElem?_eq_none (by simpa using hi)] at hy
            cases hy
        rw [List.getElem?_range hi] at hy
        simp only [Option.map_some, Option.some.injEq] at hy
        subst hy
        obtain ⟨h1, h2, _⟩ := hr i (by omega)
        rw [addr_add] at h1 h2
        obtain ⟨k1, k2, _⟩ := hM i hi
        exact ⟨by rw [h1, k1], by rw [Nat.add_assoc, h2, k2]⟩
    · intro y hy
      obtain ⟨r, hrl, rfl⟩ := List.mem_map.1 hy
      exact (hM r (List.mem_range.1 hrl)).2.2.1
    · have hml : maxLen ≤ 9223372036854775807 := by unfold maxLen; omega
      omega
    · intro y hy
      obtain ⟨r, hrl, rfl⟩ := List.mem_map.1 hy
      exact (hM r (List.mem_range.1 hrl)).2.2.2

theorem shaPlays_reads (os : Os) {H : Type} (enc : TypeId × Value → H) : ∃ places, DataW.whole enc Tryd.prog ((World.doorLaid Tryd.prog 19 os).forCall (fun _ _ => 0) ⟨#[], #[.slice none 0 0], []⟩).memory Tryd.f4.params.toList Rows.shaPlaysSpec.vars false #[Value.slice none 0 0].toList 8 = some ([.nil], [], places) :=
  ⟨[], by kernel_rfl⟩

set_option maxRecDepth 100000 in
theorem shaPlays_lifted (os : Os) (started : os.Started) (H : Type) (enc : TypeId × Value → H) (F : Stop.Interp) :
    ReturnsInHanded {} Tryd.checked os 4 .any ((OpenSpec.ofChange Rows.shaPlaysSpec).preRow enc Tryd.prog Tryd.f4 Rows.shaPlaysRow.domain false Rows.shaPlaysRow.laid)
      (((OpenSpec.ofChange Rows.shaPlaysSpec).at F).post enc Tryd.prog Tryd.f4 false true false false) := by
  obtain ⟨places, hx⟩ := shaPlays_reads os enc
  refine returnsInHanded_of_row (C := Tryd.checked) (s := OpenSpec.ofChange Rows.shaPlaysSpec) own started (by kernel_rfl) Tryd.func4
    (witness_row_atRef (enc := enc) (C := Tryd.checked) false (World.doorLaid Tryd.prog 19 os) #[.slice none 0 0] rfl (by kernel_rfl) (by kernel_rfl) (by kernel_rfl)
      (OpenSpec.preRow_of_cond 8 hx (by kernel_rfl) (fun k hk => by cases hk) (by kernel_rfl) (door_met os _))) ?_
  intro W base args ds gs before hval0 hW _ _ hsz0 hL _ _
  have hval : ∀ (j : Nat) t v, Tryd.f4.params[j]? = some t → args[j]? = some v → Value.okWide Tryd.prog W .any base t v := hval0
  have hW' := hW
  obtain ⟨p, q, hA0, hV, rfl, hfz, hnd⟩ := hW
  have hA : DataW.TrodAll enc Tryd.prog W 0 (fun _ => true) true Tryd.f4.params.toList args.toList ds p := hA0
  have hsz : (DataW.weightsEach Tryd.prog (Tryd.f4.params.toList ++ Rows.shaPlaysSpec.plain.varTypes Tryd.prog) (ds ++ gs)).all (· ≤ reachBytes) = true := hsz0
  rw [Tryd.params4] at hA hval hsz
  obtain ⟨v0, vs0, d0, ds0, p0, q0, hargs, rfl, rfl, h0, r0⟩ := trodAll_cons hA
  obtain ⟨rfl, rfl, rfl⟩ := trodAll_nil r0
  obtain rfl : args = #[v0] := by cases args; simp_all
  obtain ⟨rfl, rfl⟩ := trodVars_none hV
  obtain ⟨a0, len0, cap0, rfl⟩ := okWide_slice Tryd.underlying29 (hval 0 29 v0 rfl rfl)
  have k0 := h0
  have lt0 : ∀ x ∈ p0, x.block < W.heap.size := by obtain ⟨m, hm⟩ := k0; exact DataW.trod_lt m _ _ _ hm
  obtain ⟨ops, hops, hP, hok, hb1, hb2⟩ := open_acts h0 (fun n hn => by
    have := List.all_eq_true.1 hsz n (DataW.weights_mem_each (j := 0) (t := 29) (d := d0) rfl rfl n hn)
    simpa using this)
  obtain ⟨hT, hgl⟩ := tables_of_laid hL
  subst hops
  refine (shaPlays_any W a0 cap0 ops hP hok hT hgl hb1 hb2).mono fun e W' ⟨he, bel⟩ => ?_
  subst he
  exact ⟨_, rfl, _, _, _, [], _, [], hW', trodAll_mk1 (shut_bool Tryd.underlying4 _), (trodAll_cons_mk (Below.trod laidOut (by kernel_rfl) (of_decide_eq_true (by kernel_rfl)) k0 bel lt0) trodAll_mk0), rfl, bel.frame _, fun h => by cases h⟩

theorem shaPlays_said : Rows.ShaPlaysSaid :=
  OpenClaim.holds_of_cond 4 Tryd.f4 rfl rfl rfl rfl rfl rfl rfl ⟨rfl, rfl, rfl, rfl, rfl⟩ rfl rfl rfl rfl rfl (by kernel_rfl) Tryd.func4 (by kernel_rfl)
    (of_decide_eq_true (by kernel_rfl)) (by unfold Func.isWrapper; first | (rw [if_pos (by decide +kernel)]; kernel_rfl) | (rw [if_neg (by decide +kernel)]; exact ⟨rfl, rfl⟩))
    (fun os started H enc _ F => by rw [OpenClaim.pre_eq_preRow]; exact shaPlays_lifted os started H enc F)

theorem shaPlays_card : Rows.ShaPlaysCardSaid :=
  Claim7.holds_tied_plain_at .later [] [.data, .data] true Rows.shaPlaysCard.stood.harness false
    shaPlays_said (fun _ h => by cases h) (by kernel_rfl) (fun _ h => by cases h) shaPlays_row_tie rfl ⟨rfl, rfl⟩ (by kernel_rfl) rfl
    (fun f fn hf hfn => by
      obtain rfl : f = 4 := Option.some.inj ((show Tryd.prog.funcNamed "waterclock/waterclocklaw01.ShaPlays" = some 4 by kernel_rfl).symm.trans hf) |>.symm
      obtain rfl : fn = Tryd.f4 := (Option.some.inj (Tryd.func4.symm.trans hfn)).symm
      exact ⟨by kernel_rfl, fun j t ht => by
        rw [Tryd.params4] at ht
        obtain rfl : t = 29 := by simpa using Array.mem_of_getElem? ht
        exact (show Tryd.prog.wantsStandIn 29 = false by kernel_rfl)⟩)
    (by kernel_rfl)
#print axioms shaPlays_card
end Go.Proofs.YtoleebkpinhhlaaDoor
