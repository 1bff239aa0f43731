/-
  Lists of records that came in, whatever fields of one cell they have: each field's cell, its reading, and what bounds its size.
-/
import Derived.Test.YtmjanplhgpcbeaaDoorCoreOpen
import Derived.Deep.Slices
import Derived.ChangeSame
namespace Go.Proofs.YtmjanplhgpcbeaaDoor
open Go Go.ChangeShapes Go.WideShapes Go.ChangeAt Go.WideMaps Go.WideElems Go.RowKit

/-- Each field takes one cell, and lies at its own number. -/
def recB (P : Program) (fs : Array Field) : Bool := (List.range fs.size).all fun j => match fs[j]? with | some f => f.offset == j && P.cellsOf f.type == 1 | none => true
theorem recB_spec {P : Program} {fs : Array Field} (h : recB P fs = true) {j : Nat} {f : Field} (hj : fs[j]? = some f) : f.offset = j ∧ P.cellsOf f.type = 1 := by
  have hl : j < fs.size := (Array.getElem?_eq_some_iff.1 hj).1
  have := List.all_eq_true.1 h j (List.mem_range.2 hl)
  simp only [hj, Bool.and_eq_true, beq_iff_eq] at this
  exact this
theorem mem_weightsAll {H : Type} {P : Program} {e : TypeId} : ∀ {l : List (DataW H)} {d : DataW H}, d ∈ l → ∀ n ∈ d.weights P e, n ∈ DataW.weightsAll P e l
  | x :: l, d, h, n, hn => by
    simp only [DataW.weightsAll, List.mem_append]
    rcases List.mem_cons.1 h with rfl | h
    · exact .inl hn
    · exact .inr (mem_weightsAll h n hn)

theorem open_recs {P : Program} {T E : TypeId} {fs : Array Field} (hT : P.underlying T = some (.slice E)) (hE : P.underlying E = some (.struct fs)) (ce : P.cellsOf E = fs.size) (hB : recB P fs = true) (h0 : 0 < fs.size)
    {H : Type} {enc : TypeId × Value → H} {w : World} {a : Option Addr} {len cap : Nat} {d : DataW H} {p : List MemPlace} (h : DataW.Trod enc P w 0 (fun _ => true) true T (.slice a len cap) d p) :
    len ≤ cap ∧ cap ≤ maxLen ∧ (len = 0 ∨ ∃ b o, a = some ⟨b, o, none⟩ ∧ ∀ i < len, ∀ (j : Nat) (f : Field), fs[j]? = some f →
      ∃ (v : Value) (y : DataW H × List MemPlace) (n : Nat), w.cell? ⟨b, o + i * fs.size + j, none⟩ = some v ∧ DataW.trod enc P w 0 (fun _ => true) true n f.type [v] = some y ∧ ∀ k ∈ y.1.weights P f.type, k ∈ d.weights P T) := by
  obtain ⟨fuel, hf⟩ := h
  rcases Deep.open_slice hT hf with ⟨hcs, _⟩ | ⟨x, l, c, m, n, D, Pl, hcs, _, hl, hm, hmm, hx, hr⟩
  · simp [Value.cells] at hcs
    obtain ⟨rfl, rfl, rfl⟩ := hcs
    exact ⟨Nat.le_refl _, Nat.zero_le _, .inl rfl⟩
  · simp [Value.cells] at hcs
    obtain ⟨rfl, rfl, rfl⟩ := hcs
    simp only [if_true] at hmm
    subst hmm
    refine ⟨hl, hm, ?_⟩
    by_cases hz : len = 0
    · exact .inl hz
    right
    have each : ∀ i < len, ∀ (j : Nat) (f : Field), fs[j]? = some f → ∃ (v : Value) (y : DataW H × List MemPlace) (n : Nat), w.cell? ((x.add (i * fs.size)).add j) = some v ∧ DataW.trod enc P w 0 (fun _ => true) true n f.type [v] = some y ∧
        ∀ k ∈ y.1.weights P f.type, k ∈ d.weights P T := by
      intro i hi j f hj
      obtain ⟨cs, h1, h2⟩ := hr i (by omega)
      rw [ce] at h1
      obtain ⟨_, hlen, hcell⟩ := World.cells?_some h1
      obtain ⟨xs, q, _, hxy, _, hxl, hfd⟩ := DataW.trod_struct hE h2
      obtain ⟨ho, hc⟩ := recB_spec hB hj
      have hjl : j < fs.size := (Array.getElem?_eq_some_iff.1 hj).1
      have hjc : j < cs.length := by omega
      have g := hfd j f hj
      rw [ho, hc, List.drop_eq_getElem_cons hjc, List.take_succ_cons, List.take_zero, List.getElem?_eq_getElem (show j < xs.length by omega)] at g
      refine ⟨cs[j], xs[j], q, by rw [hcell j hjl, List.getElem?_eq_getElem hjc], g, fun k hk => ?_⟩
      simp only [Prod.mk.injEq] at hxy hx
      have hin : D i ∈ (List.range len).map D := List.mem_map.2 ⟨i, List.mem_range.2 hi, rfl⟩
      rw [hx.1]
      simp only [DataW.weights, hT, List.mem_cons, List.mem_append]
      refine .inr (.inl (mem_weightsAll hin k ?_))
      rw [hxy.1]
      simp only [DataW.weights, hE]
      exact DataW.weights_mem_each (j := j) (t := f.type) (d := xs[j].1) (by simp [hj]) (by simp [show j < xs.length by omega]) k hk
    obtain ⟨b, off, spot⟩ := x
    have hs : spot = none := by
      obtain ⟨v, _, _, hv, _⟩ := each 0 (by omega) 0 fs[0] (Array.getElem?_eq_getElem h0)
      have := World.cell?_spot hv
      simpa [Addr.add] using this
    subst hs
    refine ⟨b, off, rfl, fun i hi j f hj => ?_⟩
    obtain ⟨v, y, q, hv, hy, hk⟩ := each i hi j f hj
    rw [addr_add, addr_add] at hv
    exact ⟨v, y, q, hv, hy, hk⟩
end Go.Proofs.YtmjanplhgpcbeaaDoor
