/-
  Lists of acts (a kind, and bytes) that came in.
-/
import Derived.Test.YtmdacfbhfacniaaDoorShaOpen
import Derived.Deep.SlicePairs
namespace Go.Proofs.YtmdacfbhfacniaaDoor
open Go Go.ChangeShapes Go.WideShapes Go.ChangeAt Go.WideMaps Go.WideElems Go.RowKit

/-- One act: its kind and its bytes. -/
structure OpP where
  kind : Int
  part : Part
def OpsAt (w : World) (a : Option Addr) (l : List OpP) : Prop :=
  l = [] ∨ ∃ b o, a = some ⟨b, o, none⟩ ∧ ∀ i x, l[i]? = some x → w.cell? ⟨b, o + i * 2, none⟩ = some (.int .i64 x.kind) ∧ w.cell? ⟨b, o + i * 2 + 1, none⟩ = some x.part.val
theorem run_conv_i64_u64 (w : World) (k : Int) : (convert 3 35 (.int .i64 k)).run Tryd.prog w = .ok (.int .u64 (IntKind.u64.wrap k)) w := by
  simp [convert, Conv.intToInt, run_underlying Tryd.underlying3, run_underlying Tryd.underlying35]
theorem below_own {B : Nat} {wT w w' : World} {b : Nat} (hB : Below B wT w) (hb : B ≤ b) (hBs : B ≤ w.heap.size) (hg : w.grownBy w' (some b)) : Below B wT w' :=
  hB.trans ⟨hg.os, hg.tape, hg.output, hg.size, fun k hk => hg.block k (by omega) (by simp; omega)⟩

theorem Src.srcP {w : World} {b : Nat} {a : Option Addr} {n : Nat} {m : List (BitVec 8)} (h : Src w b a n m 0) : SrcP w a n m := by
  rcases h with h | ⟨ab, off, ha, _, hc⟩
  · exact .inl h
  · exact .inr ⟨ab, off, ha, fun i hi => by have := hc i hi; rwa [Nat.zero_add] at this⟩
theorem neq_sum (l : List (BitVec 8)) : (∀ w, (Op.equalIn 10000 25 (.agg (ShaA l)) (.agg (ShaA l))).run Tryd.prog w = .ok true w) ∧ (∀ w, (binOp .neq 25 (.agg (ShaA l)) (.agg (ShaA l))).run Tryd.prog w = .ok (.bool false) w) ∧
    (∀ (o1 o2 : Operand) (w : World), (eqGuard .neq 25 o1 o2 (.agg (ShaA l)) (.agg (ShaA l))).run Tryd.prog w = .ok () w) := by
  have h1 := (eql_sum l l rfl).1
  refine ⟨h1, fun w => ?_, fun o1 o2 w => run_eqGuard_agg w .neq 25 o1 o2 _ _ (by kernel_rfl)⟩
  rw [run_neq_struct, h1]
  rfl
theorem bytes_u8 : Tryd.prog.bytesOf 5 = 1 := by kernel_rfl
theorem cells_int : Tryd.prog.cellsOf 3 = 1 := by kernel_rfl
theorem cells_bs : Tryd.prog.cellsOf 22 = 1 := by kernel_rfl
theorem weights_mem_all {H : Type} {P : Program} {e : TypeId} : ∀ {l : List (DataW H)} {d : DataW H}, d ∈ l → ∀ n ∈ d.weights P e, n ∈ DataW.weightsAll P e l
  | x :: l, d, h, n, hn => by
    simp only [DataW.weightsAll, List.mem_append]
    rcases List.mem_cons.1 h with rfl | h
    · exact .inl hn
    · exact .inr (weights_mem_all h n hn)

/-- A slice of acts that came in. -/
theorem open_acts {T E : TypeId} {f0 f1 : Field} (hT : Tryd.prog.underlying T = some (.slice E)) (hE : Tryd.prog.underlying E = some (.struct #[f0, f1])) (ce : Tryd.prog.cellsOf E = 2) (o0 : f0.offset = 0) (o1 : f1.offset = 1)
    (t0 : f0.type = 3) (t1 : f1.type = 22) {H : Type} {enc : TypeId × Value → H} {w : World} {a : Option Addr} {len cap : Nat} {d : DataW H} {p : List MemPlace}
    (h : DataW.Trod enc Tryd.prog w 0 (fun _ => true) true T (.slice a len cap) d p) (hw : ∀ n ∈ d.weights Tryd.prog T, n ≤ reachBytes) :
    ∃ ops : List OpP, ops.length = len ∧ OpsAt w a ops ∧ (∀ x ∈ ops, x.part.ok w) ∧ len ≤ 9223372036854775807 ∧ ∀ x ∈ ops, x.part.m.length ≤ 140737488355328 := by
  obtain ⟨fuel, hf⟩ := h
  rcases Deep.open_slice_pairs hT hE ce o0 o1 (by rw [t0]; exact cells_int) (by rw [t1]; exact cells_bs) hf with ⟨hcs, _⟩ | ⟨x, l, c, mm, n, V0, V1, D0, D1, P0, P1, hcs, _, hl, hm, hmm, hx, hr⟩
  · simp [Value.cells] at hcs
    obtain ⟨rfl, rfl, rfl⟩ := hcs
    exact ⟨[], rfl, .inl rfl, by simp, Nat.zero_le _, by simp⟩
  · simp [Value.cells] at hcs
    obtain ⟨rfl, rfl, rfl⟩ := hcs
    simp only [if_true] at hmm
    subst hmm
    have each : ∀ r < len, ∃ y : OpP, V0 r = .int .i64 y.kind ∧ V1 r = y.part.val ∧ y.part.ok w ∧ y.part.m.length ≤ 140737488355328 := fun r hrl => by
      obtain ⟨h1, h2, h3, h4⟩ := hr r (by omega)
      rw [t0] at h3
      rw [t1] at h4
      obtain ⟨k, hk, _, _⟩ := DataW.trod_int Tryd.underlying3 h3
      simp only [List.cons.injEq, and_true] at hk
      rcases open_ints Tryd.underlying22 Tryd.underlying5 (by kernel_rfl) h4 with ⟨hcs, _⟩ | ⟨x', l', c', zs, hcs, _, hl', hm', hz, hx', hcell, hwz⟩
      · simp only [List.cons.injEq, and_true] at hcs
        refine ⟨⟨k, none, 0, []⟩, hk, hcs, ⟨Nat.le_refl _, Nat.zero_le _, .inl rfl⟩, Nat.zero_le _⟩
      · simp only [List.cons.injEq, and_true] at hcs
        have hz' : zs.length = c' := by simpa using hz
        obtain ⟨m, hm1, hm2⟩ := src_of_ints (w := w) (a := some x') (len := l') (cap := c') (zs := zs) (.inr ⟨x', rfl, hl', hz', hcell, hwz⟩)
        have hml : maxLen ≤ 9223372036854775807 := by unfold maxLen; omega
        refine ⟨⟨k, some x', c', m⟩, hk, by rw [hcs, Part.val, hm1], ⟨by show m.length ≤ c'; omega, Nat.le_trans hm' hml, hm2⟩, ?_⟩
        show m.length ≤ _
        simp only [Prod.mk.injEq] at hx hx'
        have hin : (DataW.agg [D0 r, D1 r] : DataW H) ∈ (List.range len).map fun i => (.agg [D0 i, D1 i] : DataW H) := List.mem_map.2 ⟨r, List.mem_range.2 hrl, rfl⟩
        have hb := hw (c' * 1) (by
          rw [hx.1]
          simp only [DataW.weights, hT, List.mem_cons, List.mem_append]
          refine .inr (.inl (weights_mem_all hin _ ?_))
          simp only [DataW.weights, hE]
          refine DataW.weights_mem_each (j := 1) (t := 22) (d := D1 r) (by simp [t1]) rfl _ ?_
          rw [hx'.1]
          simp only [DataW.weights, Tryd.underlying22, bytes_u8, List.mem_cons]
          left
          simp only [lits, List.length_map, List.length_take, List.length_drop]
          omega)
        simp only [reachBytes] at hb
        omega
    classical
    let f : Nat → OpP := fun r => if h : r < len then Classical.choose (each r h) else ⟨0, none, 0, []⟩
    have hM : ∀ r < len, V0 r = .int .i64 (f r).kind ∧ V1 r = (f r).part.val ∧ (f r).part.ok w ∧ (f r).part.m.length ≤ 140737488355328 := fun r hrl => by
      simp only [f, dif_pos hrl]
      exact Classical.choose_spec (each r hrl)
    refine ⟨(List.range len).map f, by simp, ?_, ?_, ?_, ?_⟩
    · by_cases h0 : len = 0
      · exact .inl (by simp [h0])
      · obtain ⟨b, off, spot⟩ := x
        have hs : spot = none := by
          have := World.cell?_spot (hr 0 (by omega)).1
          simpa [Addr.add] using this
        subst hs
        refine .inr ⟨b, off, rfl, fun i y hy => ?_⟩
        rw [List.getElem?_map] at hy
        have hi : i < len := by
          rcases Nat.lt_or_ge i len with hi | hi
          · exact hi
          · rw [List.getElem?_eq_none (by simpa using hi)] at hy
            cases hy
        rw [List.getElem?_range hi] at hy
        simp only [Option.map_some, Option.some.injEq] at hy
        subst hy
        obtain ⟨h1, h2, _⟩ := hr i (by omega)
        rw [addr_add] at h1 h2
        obtain ⟨k1, k2, _⟩ := hM i hi
        exact ⟨by rw [h1, k1], by rw [Nat.add_assoc, h2, k2]⟩
    · intro y hy
      obtain ⟨r, hrl, rfl⟩ := List.mem_map.1 hy
      exact (hM r (List.mem_range.1 hrl)).2.2.1
    · have hml : maxLen ≤ 9223372036854775807 := by unfold maxLen; omega
      omega
    · intro y hy
      obtain ⟨r, hrl, rfl⟩ := List.mem_map.1 hy
      exact (hM r (List.mem_range.1 hrl)).2.2.2

end Go.Proofs.YtmdacfbhfacniaaDoor
