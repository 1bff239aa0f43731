/-
  Lists of acts (two numbers, and bytes) that came in.
-/
import Derived.Test.YtgmpkkhejbnlhaaCoreRecs
namespace Go.Proofs.Ytgmpkkhejbnlhaa
open Go Go.ChangeShapes Go.WideShapes Go.ChangeAt Go.WideMaps Go.WideElems Go.RowKit

/-- One act: its kind, its number and its bytes. -/
structure OpR where
  kind : Int
  n : Int
  part : Part
def OpR.ok (w : World) (x : OpR) : Prop := x.part.ok w ∧ (x.part.a = none → x.part.cap = 0) ∧ -9223372036854775808 ≤ x.n ∧ x.n < 9223372036854775808 ∧ x.part.m.length ≤ 140737488355328
def OpsR (w : World) (a : Option Addr) (l : List OpR) : Prop :=
  l = [] ∨ ∃ b o, a = some ⟨b, o, none⟩ ∧ ∀ i x, l[i]? = some x → w.cell? ⟨b, o + i * 3, none⟩ = some (.int .i64 x.kind) ∧ w.cell? ⟨b, o + i * 3 + 1, none⟩ = some (.int .i64 x.n) ∧ w.cell? ⟨b, o + i * 3 + 2, none⟩ = some x.part.val
theorem OpR.ok.below {w w' : World} {x : OpR} (h : x.ok w) (hB : Below w.heap.size w w') : x.ok w' := ⟨h.1.below hB, h.2⟩
theorem OpsR.below {w w' : World} {a : Option Addr} {l : List OpR} (h : OpsR w a l) (hB : Below w.heap.size w w') : OpsR w' a l := by
  rcases h with h | ⟨b, o, h, h'⟩
  · exact .inl h
  · refine .inr ⟨b, o, h, fun i x hx => ?_⟩
    obtain ⟨h1, h2, h3⟩ := h' i x hx
    exact ⟨(hB.cell (block_lt_of_cell h1)).trans h1, (hB.cell (block_lt_of_cell h2)).trans h2, (hB.cell (block_lt_of_cell h3)).trans h3⟩
theorem bytes_u8p : Try.prog.bytesOf 5 = 1 := by kernel_rfl
/-- Bytes that came in as a field. -/
theorem open_field {H : Type} {enc : TypeId × Value → H} {w : World} {v : Value} {y : DataW H × List MemPlace} {n : Nat} (h : DataW.trod enc Try.prog w 0 (fun _ => true) true n 25 [v] = some y) (hw : ∀ k ∈ y.1.weights Try.prog 25, k ≤ reachBytes) :
    ∃ p : Part, v = p.val ∧ p.ok w ∧ (p.a = none → p.cap = 0) ∧ p.m.length ≤ 140737488355328 := by
  obtain ⟨d, pl⟩ := y
  rcases open_ints Try.underlying25 Try.underlying5 (by kernel_rfl) h with ⟨hcs, _⟩ | ⟨x', l', c', zs, hcs, _, hl', hm', hz, hx', hcell, hwz⟩
  · simp only [List.cons.injEq, and_true] at hcs
    exact ⟨⟨none, 0, []⟩, hcs, ⟨Nat.le_refl _, Nat.zero_le _, .inl rfl⟩, fun _ => rfl, Nat.zero_le _⟩
  · simp only [List.cons.injEq, and_true] at hcs
    have hz' : zs.length = c' := by simpa using hz
    obtain ⟨m, hm1, hm2⟩ := src_of_ints (w := w) (a := some x') (len := l') (cap := c') (zs := zs) (.inr ⟨x', rfl, hl', hz', hcell, hwz⟩)
    have hml : maxLen ≤ 9223372036854775807 := by unfold maxLen; omega
    refine ⟨⟨some x', c', m⟩, by rw [hcs, Part.val, hm1], ⟨by show m.length ≤ c'; omega, Nat.le_trans hm' hml, hm2⟩, (fun h => by cases h), ?_⟩
    show m.length ≤ _
    simp only [Prod.mk.injEq] at hx'
    have hb := hw (c' * 1) (by
      show c' * 1 ∈ d.weights Try.prog 25
      rw [hx'.1]
      simp only [DataW.weights, Try.underlying25, bytes_u8p, List.mem_cons]
      left
      simp only [lits, List.length_map, List.length_take, List.length_drop]
      omega)
    simp only [reachBytes] at hb
    omega
theorem open_field_int {H : Type} {enc : TypeId × Value → H} {w : World} {v : Value} {y : DataW H × List MemPlace} {n : Nat} (h : DataW.trod enc Try.prog w 0 (fun _ => true) true n 3 [v] = some y) :
    ∃ k : Int, v = .int .i64 k ∧ -9223372036854775808 ≤ k ∧ k < 9223372036854775808 := by
  obtain ⟨k, hk, _, hwf⟩ := DataW.trod_int Try.underlying3 h
  simp only [List.cons.injEq, and_true] at hk
  have hmin : IntKind.i64.min = -9223372036854775808 := rfl
  have hmax : IntKind.i64.max = 9223372036854775807 := rfl
  simp only [Lit.wf, Bool.and_eq_true, decide_eq_true_eq, hmin, hmax] at hwf
  exact ⟨k, hk, by omega, by omega⟩
/-- A slice of acts that came in. -/
theorem open_ops3 {H : Type} {enc : TypeId × Value → H} {w : World} {a : Option Addr} {len cap : Nat} {d : DataW H} {p : List MemPlace}
    (h : DataW.Trod enc Try.prog w 0 (fun _ => true) true 22 (.slice a len cap) d p) (hw : ∀ n ∈ d.weights Try.prog 22, n ≤ reachBytes) :
    ∃ ops : List OpR, ops.length = len ∧ OpsR w a ops ∧ (∀ x ∈ ops, x.ok w) ∧ len ≤ 9223372036854775807 := by
  obtain ⟨hl, hm, hr⟩ := open_recs Try.underlying22 Try.underlying29 (by kernel_rfl) (by kernel_rfl) (by decide) h
  have hml : maxLen ≤ 9223372036854775807 := by unfold maxLen; omega
  rcases hr with rfl | ⟨b, o, rfl, hr⟩
  · exact ⟨[], rfl, .inl rfl, by simp, Nat.zero_le _⟩
  · have each : ∀ i < len, ∃ x : OpR, w.cell? ⟨b, o + i * 3, none⟩ = some (.int .i64 x.kind) ∧ w.cell? ⟨b, o + i * 3 + 1, none⟩ = some (.int .i64 x.n) ∧ w.cell? ⟨b, o + i * 3 + 2, none⟩ = some x.part.val ∧ x.ok w := by
      intro i hi
      obtain ⟨v0, y0, n0, c0, t0, _⟩ := hr i hi 0 _ rfl
      obtain ⟨v1, y1, n1, c1, t1, _⟩ := hr i hi 1 _ rfl
      obtain ⟨v2, y2, n2, c2, t2, k2⟩ := hr i hi 2 _ rfl
      obtain ⟨k, rfl, _⟩ := open_field_int t0
      obtain ⟨m, rfl, m1, m2⟩ := open_field_int t1
      obtain ⟨q, rfl, q1, q2, q3⟩ := open_field t2 (fun k hk => hw k (k2 k hk))
      exact ⟨⟨k, m, q⟩, c0, c1, c2, q1, q2, m1, m2, q3⟩
    classical
    let f : Nat → OpR := fun r => if h : r < len then Classical.choose (each r h) else ⟨0, 0, none, 0, []⟩
    have hM : ∀ r < len, w.cell? ⟨b, o + r * 3, none⟩ = some (.int .i64 (f r).kind) ∧ w.cell? ⟨b, o + r * 3 + 1, none⟩ = some (.int .i64 (f r).n) ∧ w.cell? ⟨b, o + r * 3 + 2, none⟩ = some (f r).part.val ∧ (f r).ok w := fun r hrl => by
      simp only [f, dif_pos hrl]
      exact Classical.choose_spec (each r hrl)
    refine ⟨(List.range len).map f, by simp, .inr ⟨b, o, rfl, fun i y hy => ?_⟩, fun y hy => ?_, by omega⟩
    · rw [List.getElem?_map] at hy
      have hi : i < len := by
        rcases Nat.lt_or_ge i len with hi | hi
        · exact hi
        · rw [List.getElem?_eq_none (by simpa using hi)] at hy
          cases hy
      rw [List.getElem?_range hi] at hy
      simp only [Option.map_some, Option.some.injEq] at hy
      subst hy
      obtain ⟨h1, h2, h3, _⟩ := hM i hi
      exact ⟨h1, h2, h3⟩
    · obtain ⟨r, hrl, rfl⟩ := List.mem_map.1 hy
      exact (hM r (List.mem_range.1 hrl)).2.2.2
end Go.Proofs.Ytgmpkkhejbnlhaa
