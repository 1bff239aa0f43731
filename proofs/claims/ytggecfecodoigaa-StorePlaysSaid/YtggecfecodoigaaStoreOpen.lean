/-
  Acts, flags and the whole case as they come in.
-/
import Derived.Test.YtggecfecodoigaaStoreLastsLaw
import Derived.Test.YtggecfecodoigaaCoreOpen
import Derived.Deep.Grids
namespace Go.Proofs.Ytggecfecodoigaa
open Go Go.ChangeShapes Go.WideShapes Go.ChangeAt Go.WideMaps Go.WideElems Go.RowKit

theorem bytes_u8p : Try.prog.bytesOf 5 = 1 := by kernel_rfl
/-- Bytes that came in as a field. -/
theorem open_field {H : Type} {enc : TypeId × Value → H} {w : World} {v : Value} {y : DataW H × List MemPlace} {n : Nat} (h : DataW.trod enc Try.prog w 0 (fun _ => true) true n 28 [v] = some y) (hw : ∀ k ∈ y.1.weights Try.prog 28, k ≤ reachBytes) :
    ∃ p : Part, v = p.val ∧ p.ok w ∧ (p.a = none → p.cap = 0) ∧ p.m.length ≤ 140737488355328 := by
  obtain ⟨d, pl⟩ := y
  rcases open_ints Try.underlying28 Try.underlying5 (by kernel_rfl) h with ⟨hcs, _⟩ | ⟨x', l', c', zs, hcs, _, hl', hm', hz, hx', hcell, hwz⟩
  · simp only [List.cons.injEq, and_true] at hcs
    exact ⟨⟨none, 0, []⟩, hcs, ⟨Nat.le_refl _, Nat.zero_le _, .inl rfl⟩, fun _ => rfl, Nat.zero_le _⟩
  · simp only [List.cons.injEq, and_true] at hcs
    have hz' : zs.length = c' := by simpa using hz
    obtain ⟨m, hm1, hm2⟩ := src_of_ints (w := w) (a := some x') (len := l') (cap := c') (zs := zs) (.inr ⟨x', rfl, hl', hz', hcell, hwz⟩)
    have hml : maxLen ≤ 9223372036854775807 := by unfold maxLen; omega
    refine ⟨⟨some x', c', m⟩, by rw [hcs, Part.val, hm1], ⟨by show m.length ≤ c'; omega, Nat.le_trans hm' hml, hm2⟩, (fun h => by cases h), ?_⟩
    show m.length ≤ _
    simp only [Prod.mk.injEq] at hx'
    have hb := hw (c' * 1) (by
      show c' * 1 ∈ d.weights Try.prog 28
      rw [hx'.1]
      simp only [DataW.weights, Try.underlying28, bytes_u8p, List.mem_cons]
      left
      simp only [lits, List.length_map, List.length_take, List.length_drop]
      omega)
    simp only [reachBytes] at hb
    omega
theorem open_field_int {H : Type} {enc : TypeId × Value → H} {w : World} {v : Value} {y : DataW H × List MemPlace} {n : Nat} (h : DataW.trod enc Try.prog w 0 (fun _ => true) true n 3 [v] = some y) :
    ∃ k : Int, v = .int .i64 k ∧ -9223372036854775808 ≤ k ∧ k < 9223372036854775808 := by
  obtain ⟨k, hk, _, hwf⟩ := DataW.trod_int Try.underlying3 h
  simp only [List.cons.injEq, and_true] at hk
  have hmin : IntKind.i64.min = -9223372036854775808 := rfl
  have hmax : IntKind.i64.max = 9223372036854775807 := rfl
  simp only [Lit.wf, Bool.and_eq_true, decide_eq_true_eq, hmin, hmax] at hwf
  exact ⟨k, hk, by omega, by omega⟩
/-- Flags that came in as a field. -/
theorem open_flags {H : Type} {enc : TypeId × Value → H} {w : World} {v : Value} {y : DataW H × List MemPlace} {n : Nat} (h : DataW.trod enc Try.prog w 0 (fun _ => true) true n 45 [v] = some y) :
    ∃ (a : Option Addr) (c : Nat) (keep : List Bool), v = .slice a keep.length c ∧ KeepAt w a keep := by
  rcases Go.Deep.open_bools Try.underlying45 Try.underlying4 (by kernel_rfl) h with ⟨hcs, _⟩ | ⟨a, len, cap, Z, hcs, _, hl, _, _, hc⟩
  · simp only [List.cons.injEq, and_true] at hcs
    exact ⟨none, 0, [], hcs, .inl rfl⟩
  · simp only [List.cons.injEq, and_true] at hcs
    refine ⟨some a, cap, (List.range len).map Z, by rw [hcs]; simp, ?_⟩
    by_cases h0 : len = 0
    · exact .inl (by simp [h0])
    · right
      obtain ⟨b, off, spot⟩ := a
      have hs : spot = none := by
        have := World.cell?_spot (hc 0 (by omega))
        simpa [Addr.add] using this
      subst hs
      refine ⟨b, off, rfl, fun j hj => ?_⟩
      have hj' : j < len := by simpa using hj
      have := hc j (by omega)
      rw [addr_add] at this
      rw [this]
      simp [List.getD_eq_getElem?_getD, hj']
/-- A slice of acts that came in as a field. -/
theorem open_opL {H : Type} {enc : TypeId × Value → H} {w : World} {v : Value} {y : DataW H × List MemPlace} {n : Nat} (h : DataW.trod enc Try.prog w 0 (fun _ => true) true n 22 [v] = some y)
    (hw : ∀ k ∈ y.1.weights Try.prog 22, k ≤ reachBytes) : ∃ (a : Option Addr) (c : Nat) (ops : List OpL), v = .slice a ops.length c ∧ OpsAt w a ops ∧ ops.length ≤ 9223372036854775807 := by
  obtain ⟨a, len, cap, hv⟩ : ∃ a len cap, v = .slice a len cap := by
    rcases Deep.open_slice Try.underlying22 h with ⟨hcs, _⟩ | ⟨x, l, c, m, n, D, Pl, hcs, _⟩
    · simp only [List.cons.injEq, and_true] at hcs
      exact ⟨_, _, _, hcs⟩
    · simp only [List.cons.injEq, and_true] at hcs
      exact ⟨_, _, _, hcs⟩
  subst hv
  obtain ⟨d, pl⟩ := y
  have hT : DataW.Trod enc Try.prog w 0 (fun _ => true) true 22 (.slice a len cap) d pl := ⟨n, by simpa [Value.cells] using h⟩
  obtain ⟨hl, hm, hr⟩ := open_recs Try.underlying22 Try.underlying47 (by kernel_rfl) (by kernel_rfl) (by decide) hT
  have hml : maxLen ≤ 9223372036854775807 := by unfold maxLen; omega
  rcases hr with rfl | ⟨b, o, rfl, hr⟩
  · exact ⟨a, cap, [], rfl, ⟨by simp, .inl rfl⟩, Nat.zero_le _⟩
  · have each : ∀ i < len, ∃ x : OpL, w.rangeAt b (o + i * 5) x.cells ∧ x.Good w := by
      intro i hi
      obtain ⟨v0, y0, n0, c0, t0, _⟩ := hr i hi 0 _ rfl
      obtain ⟨v1, y1, n1, c1, t1, _⟩ := hr i hi 1 _ rfl
      obtain ⟨v2, y2, n2, c2, t2, _⟩ := hr i hi 2 _ rfl
      obtain ⟨v3, y3, n3, c3, t3, k3⟩ := hr i hi 3 _ rfl
      obtain ⟨v4, y4, n4, c4, t4, _⟩ := hr i hi 4 _ rfl
      obtain ⟨k, rfl, _⟩ := open_field_int t0
      obtain ⟨m1, rfl, r1, r1'⟩ := open_field_int t1
      obtain ⟨m2, rfl, r2, r2'⟩ := open_field_int t2
      obtain ⟨q, rfl, q1, q2, q3⟩ := open_field t3 (fun k hk => hw k (k3 k hk))
      obtain ⟨ka, kc, keep, rfl, hk⟩ := open_flags t4
      refine ⟨⟨k, m1, m2, q.a, q.cap, q.m, ka, kc, keep⟩, fun j u hu => ?_, ⟨q1.2.2, by show q.m.length ≤ _; omega, hk, ⟨r1, by show m1 ≤ _; omega⟩, r2, by show m2 ≤ _; omega⟩⟩
      simp only [OpL.cells] at hu
      rcases j with _ | _ | _ | _ | _ | j
      · simp only [List.getElem?_cons_zero, Option.some.injEq] at hu; subst hu; exact c0
      · simp only [List.getElem?_cons_succ, List.getElem?_cons_zero, Option.some.injEq] at hu; subst hu; exact c1
      · simp only [List.getElem?_cons_succ, List.getElem?_cons_zero, Option.some.injEq] at hu; subst hu; exact c2
      · simp only [List.getElem?_cons_succ, List.getElem?_cons_zero, Option.some.injEq] at hu; subst hu; exact c3
      · simp only [List.getElem?_cons_succ, List.getElem?_cons_zero, Option.some.injEq] at hu; subst hu; exact c4
      · simp at hu
    classical
    let f : Nat → OpL := fun r => if h : r < len then Classical.choose (each r h) else ⟨0, 0, 0, none, 0, [], none, 0, []⟩
    have hM : ∀ r < len, w.rangeAt b (o + r * 5) (f r).cells ∧ (f r).Good w := fun r hrl => by
      simp only [f, dif_pos hrl]
      exact Classical.choose_spec (each r hrl)
    refine ⟨_, cap, (List.range len).map f, by simp, ⟨fun y hy => ?_, .inr ⟨b, o, rfl, fun i y hy => ?_⟩⟩, by simp; omega⟩
    · obtain ⟨r, hrl, rfl⟩ := List.mem_map.1 hy
      exact (hM r (List.mem_range.1 hrl)).2
    · rw [List.getElem?_map] at hy
      have hi : i < len := by
        rcases Nat.lt_or_ge i len with hi | hi
        · exact hi
        · rw [List.getElem?_eq_none (by simpa using hi)] at hy
          cases hy
      rw [List.getElem?_range hi] at hy
      simp only [Option.map_some, Option.some.injEq] at hy
      subst hy
      exact (hM i hi).1
/-- The case that StoreLasts is called with. -/
theorem open_lasting {H : Type} {enc : TypeId × Value → H} {w : World} {cs : Array Value} {d : DataW H} {p : List MemPlace} (h : DataW.Trod enc Try.prog w 0 (fun _ => true) true 56 (.agg cs) d p)
    (hw : ∀ k ∈ d.weights Try.prog 56, k ≤ reachBytes) : ∃ (la : Option Addr) (lc : Nat) (ops : List OpL) (ka : Option Addr) (kc : Nat) (keep : List Bool) (t c : Int),
      cs = #[.slice la ops.length lc, .slice ka keep.length kc, .int .i64 t, .int .i64 c] ∧ OpsAt w la ops ∧ ops.length ≤ 9223372036854775807 ∧ KeepAt w ka keep := by
  obtain ⟨hsz, hr⟩ := open_rec Try.underlying56 (by kernel_rfl) (by kernel_rfl) h
  obtain ⟨v0, y0, n0, c0, t0, k0⟩ := hr 0 _ rfl
  obtain ⟨v1, y1, n1, c1, t1, _⟩ := hr 1 _ rfl
  obtain ⟨v2, y2, n2, c2, t2, _⟩ := hr 2 _ rfl
  obtain ⟨v3, y3, n3, c3, t3, _⟩ := hr 3 _ rfl
  obtain ⟨la, lc, ops, rfl, h1, h2⟩ := open_opL t0 (fun k hk => hw k (k0 k hk))
  obtain ⟨ka, kc, keep, rfl, h3⟩ := open_flags t1
  obtain ⟨t, rfl, _⟩ := open_field_int t2
  obtain ⟨c, rfl, _⟩ := open_field_int t3
  refine ⟨la, lc, ops, ka, kc, keep, t, c, ?_, h1, h2, h3⟩
  obtain ⟨l⟩ := cs
  match l, hsz with
  | [a0, a1, a2, a3], _ =>
    simp only [List.getElem?_toArray, List.getElem?_cons_zero, List.getElem?_cons_succ, Option.some.injEq] at c0 c1 c2 c3
    rw [c0, c1, c2, c3]
end Go.Proofs.Ytggecfecodoigaa
