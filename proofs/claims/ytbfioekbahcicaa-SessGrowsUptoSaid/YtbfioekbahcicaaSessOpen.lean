/-
  What comes in by a row's reading at layer 9: a list of windows, a window, a time, two cuts.
-/
import Derived.Test.YtbfioekbahcicaaSessCore
import Derived.Test.YtbfioekbahcicaaItems
namespace Go.Proofs.Ytbfioekbahcicaa
open Go Go.ChangeShapes Go.WideShapes Go.ChangeAt Go.WideMaps Go.WideElems Go.RowKit

/-- A slice of windows that came in. -/
theorem open_wins {H : Type} {enc : TypeId × Value → H} {w : World} {a : Option Addr} {len cap : Nat} {d : DataW H} {p : List MemPlace}
    (h : DataW.Trod enc Try.prog w 0 (fun _ => true) true 22 (.slice a len cap) d p) :
    ∃ l : List WindowL, l.length = len ∧ WinsAt w a l ∧ (∀ x ∈ l, x.key.length ≤ Rows.uptoBulk d) ∧ len ≤ Rows.uptoBulk d := by
  obtain ⟨hl, hm, hln, hr⟩ := open_recsB Try.underlying22 Try.underlying24 (by kernel_rfl) (by kernel_rfl) (by decide) h
  rcases hr with rfl | ⟨b, o, rfl, hr⟩
  · exact ⟨[], rfl, .inl rfl, by simp, Nat.zero_le _⟩
  · have each : ∀ i < len, ∃ x : WindowL, (∀ j v, x.cells[j]? = some v → w.cell? ⟨b, o + i * 3 + j, none⟩ = some v) ∧ x.key.length ≤ Rows.uptoBulk d := by
      intro i hi
      obtain ⟨v0, y0, n0, c0, t0, b0⟩ := hr i hi 0 _ rfl
      obtain ⟨v1, y1, n1, c1, t1, _⟩ := hr i hi 1 _ rfl
      obtain ⟨v2, y2, n2, c2, t2, _⟩ := hr i hi 2 _ rfl
      obtain ⟨s, rfl, hs, _⟩ := open_str t0
      obtain ⟨lo, rfl, _⟩ := open_int' t1
      obtain ⟨hi', rfl, _⟩ := open_int' t2
      refine ⟨⟨s, lo, hi'⟩, fun j u hj => ?_, Nat.le_trans hs b0⟩
      match j, hj with
      | 0, hj => cases hj; exact c0
      | 1, hj => cases hj; exact c1
      | 2, hj => cases hj; exact c2
      | k + 3, hj => simp [WindowL.cells] at hj
    classical
    let f : Nat → WindowL := fun r => if h : r < len then Classical.choose (each r h) else zeroW
    have hM : ∀ r < len, (∀ j v, (f r).cells[j]? = some v → w.cell? ⟨b, o + r * 3 + j, none⟩ = some v) ∧ (f r).key.length ≤ Rows.uptoBulk d := fun r hrl => by
      simp only [f, dif_pos hrl]
      exact Classical.choose_spec (each r hrl)
    refine ⟨(List.range len).map f, by simp, .inr ⟨b, o, rfl, fun i y hy => ?_⟩, fun y hy => ?_, hln⟩
    · rw [List.getElem?_map] at hy
      have hi : i < len := by
        rcases Nat.lt_or_ge i len with hi | hi
        · exact hi
        · rw [List.getElem?_eq_none (by simpa using hi)] at hy
          cases hy
      rw [List.getElem?_range hi] at hy
      simp only [Option.map_some, Option.some.injEq] at hy
      subst hy
      exact (hM i hi).1
    · obtain ⟨r, hrl, rfl⟩ := List.mem_map.1 hy
      exact (hM r (List.mem_range.1 hrl)).2
set_option maxRecDepth 100000 in
theorem cellInt9 {W : World} {base : Nat} {v : Value} (h : Cell.okWide Try.prog W .any base 3 v) : ∃ n, v = .int .i64 n := by
  simp only [Cell.okWide, Try.underlying3] at h
  cases v with
  | int k n =>
    simp only [Cell.ok, Try.underlying3] at h
    obtain ⟨rfl, _⟩ := h
    exact ⟨n, rfl⟩
  | _ => simp [Cell.ok, Try.underlying3] at h
set_option maxRecDepth 100000 in
theorem cellStr9 {W : World} {base : Nat} {v : Value} (h : Cell.okWide Try.prog W .any base 9 v) : ∃ k, v = Sv k := by
  simp only [Cell.okWide, Try.underlying9] at h
  cases v with
  | string s =>
    obtain ⟨k, hk, _⟩ := sv_of s
    exact ⟨k, hk⟩
  | _ => simp [Cell.ok, Try.underlying9] at h
set_option maxRecDepth 100000 in
theorem okWide_int9 {W : World} {base : Nat} {v : Value} (h : Value.okWide Try.prog W .any base 3 v) : ∃ n, v = .int .i64 n := by
  simp only [Value.okWide, Try.underlying3] at h
  exact cellInt9 h
/-- A window that came in, and what bounds its key. -/
theorem open_win {H : Type} {enc : TypeId × Value → H} {w : World} {v : Value} {d : DataW H} {p : List MemPlace} {W : World} {base : Nat} (hv : Value.okWide Try.prog W .any base 24 v)
    (h : DataW.Trod enc Try.prog w 0 (fun _ => true) true 24 v d p) : ∃ x : WindowL, v = .agg x.cells ∧ x.key.length ≤ Rows.uptoBulk d := by
  simp only [Value.okWide, Try.underlying24] at hv
  obtain ⟨cs, rfl, hsz, ts, hts, _, hc⟩ := hv
  rw [show Try.prog.cellTypes Try.prog.depth 24 = some [9, 3, 3] by kernel_rfl] at hts
  obtain rfl := Option.some.inj hts
  rw [show Try.prog.cellsOf 24 = 3 by kernel_rfl] at hsz
  obtain ⟨l⟩ := cs
  match l, hsz, h with
  | [e0, e1, e2], _, h =>
    obtain ⟨_, e, k0⟩ := hc 0 e0 rfl
    cases e
    obtain ⟨_, e, k1⟩ := hc 1 e1 rfl
    cases e
    obtain ⟨_, e, k2⟩ := hc 2 e2 rfl
    cases e
    obtain ⟨s, rfl⟩ := cellStr9 k0
    obtain ⟨lo, rfl⟩ := cellInt9 k1
    obtain ⟨hi, rfl⟩ := cellInt9 k2
    refine ⟨⟨s, lo, hi⟩, rfl, ?_⟩
    obtain ⟨fuel, hf⟩ := h
    obtain ⟨xs, q, _, hxy, _, hxl, hfd⟩ := DataW.trod_struct Try.underlying24 hf
    have g := hfd 0 _ rfl
    have h0 : 0 < xs.length := by rw [hxl]; decide
    rw [List.getElem?_eq_getElem h0] at g
    obtain ⟨k, hk, hb, _⟩ := open_str (v := Sv s) g
    obtain rfl : s = k := by
      unfold Sv at hk
      exact strOf_inj (congrArg ByteArray.toList (Value.string.inj hk))
    refine Nat.le_trans hb ?_
    simp only [Prod.mk.injEq] at hxy
    rw [hxy.1]
    simp only [Rows.uptoBulk]
    have : xs[0].1 ∈ xs.map (·.1) := List.mem_map.2 ⟨xs[0], List.getElem_mem _, rfl⟩
    have := bulkI.mem_le this
    omega
set_option maxRecDepth 100000 in
theorem open_cuts {W : World} {base : Nat} {v : Value} (hv : Value.okWide Try.prog W .any base 39 v) : ∃ c0 c1 : Int, v = .agg #[.int .u8 c0, .int .u8 c1] ∧ (0 ≤ c0 ∧ c0 ≤ 255) ∧ (0 ≤ c1 ∧ c1 ≤ 255) := by
  have byte : ∀ {v : Value}, Cell.okWide Try.prog W .any base 5 v → ∃ n, v = .int .u8 n ∧ 0 ≤ n ∧ n ≤ 255 := by
    intro v h
    simp only [Cell.okWide, Try.underlying5] at h
    cases v with
    | int k n =>
      simp only [Cell.ok, Try.underlying5] at h
      obtain ⟨rfl, h1⟩ := h
      have hmin : IntKind.u8.min = 0 := rfl
      have hmax : IntKind.u8.max = 255 := rfl
      simp only [IntKind.has, hmin, hmax] at h1
      exact ⟨n, rfl, by omega, by omega⟩
    | _ => simp [Cell.ok, Try.underlying5] at h
  simp only [Value.okWide, Try.underlying39] at hv
  obtain ⟨cs, rfl, hsz, ts, hts, _, hc⟩ := hv
  rw [show Try.prog.cellTypes Try.prog.depth 39 = some [5, 5] by kernel_rfl] at hts
  obtain rfl := Option.some.inj hts
  rw [show Try.prog.cellsOf 39 = 2 by kernel_rfl] at hsz
  obtain ⟨l⟩ := cs
  match l, hsz with
  | [e0, e1], _ =>
    obtain ⟨_, e, k0⟩ := hc 0 e0 rfl
    cases e
    obtain ⟨_, e, k1⟩ := hc 1 e1 rfl
    cases e
    obtain ⟨c0, rfl, h0⟩ := byte k0
    obtain ⟨c1, rfl, h1⟩ := byte k1
    exact ⟨c0, c1, rfl, h0, h1⟩
end Go.Proofs.Ytbfioekbahcicaa
