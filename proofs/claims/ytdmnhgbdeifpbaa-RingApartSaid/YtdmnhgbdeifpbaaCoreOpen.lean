/-
  What comes in by a row's reading: bytes.
  Lists of records that came in, whatever fields of one cell they have: each field's cell, its reading, and what bounds its size.
  What comes in as a struct of fields that take one cell each: each field's cell, its reading, and its weights; and a string that comes in.
-/
import Derived.Test.YtdmnhgbdeifpbaaCoreBase
import Derived.ProofKit
import Derived.OpenShut
import Derived.ChangeOld
import Derived.LaidMore
import Derived.Stop.Joined
import Derived.Stop.LaidErr
import Derived.Lib.LaidTab
import Derived.SizedLaws
import Derived.Deep.Slices
import Derived.ChangeSame
namespace Go.Proofs.Ytdmnhgbdeifpbaa
open Go Go.ChangeShapes Go.WideShapes Go.ChangeAt Go.WideMaps Go.WideElems Go.RowKit

theorem own : ownKnob Try.prog.godebug = none := by kernel_rfl
theorem laidOut : laidOutB Try.prog = true := by kernel_rfl
/-- A slice of bytes that came in: its bytes. -/
theorem src_of_ints {w : World} {a : Option Addr} {len cap : Nat} {zs : List Int} (h : (a = none ∧ len = 0 ∧ cap = 0) ∨ ∃ x, a = some x ∧ len ≤ cap ∧ zs.length = cap ∧ (∀ i, i < zs.length → w.cell? (x.add i) = some (.int .u8 (zs.getD i 0))) ∧ ∀ n ∈ zs, (Lit.int .u8 n).wf = true) :
    ∃ m : List (BitVec 8), m.length = len ∧ SrcP w a m.length m := by
  rcases h with ⟨rfl, rfl, rfl⟩ | ⟨x, rfl, hl, hz, hc, hw⟩
  · exact ⟨[], rfl, .inl rfl⟩
  · refine ⟨(zs.take len).map (BitVec.ofInt 8), by simp; omega, ?_⟩
    by_cases h0 : len = 0
    · exact .inl (by simp; omega)
    · obtain ⟨b, off, spot⟩ := x
      have hs : spot = none := by
        have := World.cell?_spot (hc 0 (by omega))
        simpa [Addr.add] using this
      subst hs
      refine .inr ⟨b, off, rfl, fun i hi => ?_⟩
      have hi' : i < len := by simp at hi; omega
      have hiz : i < zs.length := by omega
      have := hc i hiz
      rw [addr_add] at this
      rw [this]
      have hwf := hw (zs[i]) (List.getElem_mem hiz)
      have hmin : IntKind.u8.min = 0 := rfl
      have hmax : IntKind.u8.max = 255 := rfl
      simp only [Lit.wf, Bool.and_eq_true, decide_eq_true_eq, hmin, hmax] at hwf
      simp only [B, gl, List.getD_eq_getElem?_getD, List.getElem?_map, List.getElem?_take, hi', if_true, List.getElem?_eq_getElem hiz, Option.map_some, Option.getD_some]
      congr 2
      simp [BitVec.toNat_ofInt]
      omega
theorem open_bytes {H : Type} {enc : TypeId × Value → H} {w : World} {a : Option Addr} {len cap : Nat} {d : DataW H} {p : List MemPlace}
    (h : DataW.Trod enc Try.prog w 0 (fun _ => true) true 25 (.slice a len cap) d p) :
    ∃ m : List (BitVec 8), m.length = len ∧ SrcP w a m.length m ∧ len ≤ cap ∧ (cap = 0 ∨ ∃ elems spare : List (DataW H), d = .slice elems spare ∧ elems.length + spare.length = cap) := by
  obtain ⟨fuel, hf⟩ := h
  rcases open_ints Try.underlying25 Try.underlying5 (by kernel_rfl) hf with ⟨hcs, _⟩ | ⟨x, l, c, zs, hcs, _, hl, hm, hz, hx, hcell, hwz⟩
  · simp [Value.cells] at hcs
    obtain ⟨rfl, rfl, rfl⟩ := hcs
    exact ⟨[], rfl, .inl rfl, Nat.le_refl _, .inl rfl⟩
  · simp [Value.cells] at hcs
    obtain ⟨rfl, rfl, rfl⟩ := hcs
    obtain ⟨m, hm1, hm2⟩ := src_of_ints (w := w) (a := some x) (len := len) (cap := cap) (zs := zs) (.inr ⟨x, rfl, hl, by simpa using hz, hcell, hwz⟩)
    simp only [Prod.mk.injEq] at hx
    refine ⟨m, hm1, hm2, hl, .inr ⟨_, _, hx.1, ?_⟩⟩
    have : zs.length = cap := by simpa using hz
    simp only [lits, List.length_map, List.length_take, List.length_drop]
    omega

end Go.Proofs.Ytdmnhgbdeifpbaa
namespace Go.Proofs.Ytdmnhgbdeifpbaa
open Go Go.ChangeShapes Go.WideShapes Go.ChangeAt Go.WideMaps Go.WideElems Go.RowKit

/-- Each field takes one cell, and lies at its own number. -/
def recB (P : Program) (fs : Array Field) : Bool := (List.range fs.size).all fun j => match fs[j]? with | some f => f.offset == j && P.cellsOf f.type == 1 | none => true
theorem recB_spec {P : Program} {fs : Array Field} (h : recB P fs = true) {j : Nat} {f : Field} (hj : fs[j]? = some f) : f.offset = j ∧ P.cellsOf f.type = 1 := by
  have hl : j < fs.size := (Array.getElem?_eq_some_iff.1 hj).1
  have := List.all_eq_true.1 h j (List.mem_range.2 hl)
  simp only [hj, Bool.and_eq_true, beq_iff_eq] at this
  exact this
theorem mem_weightsAll {H : Type} {P : Program} {e : TypeId} : ∀ {l : List (DataW H)} {d : DataW H}, d ∈ l → ∀ n ∈ d.weights P e, n ∈ DataW.weightsAll P e l
  | x :: l, d, h, n, hn => by
    simp only [DataW.weightsAll, List.mem_append]
    rcases List.mem_cons.1 h with rfl | h
    · exact .inl hn
    · exact .inr (mem_weightsAll h n hn)

theorem open_recs {P : Program} {T E : TypeId} {fs : Array Field} (hT : P.underlying T = some (.slice E)) (hE : P.underlying E = some (.struct fs)) (ce : P.cellsOf E = fs.size) (hB : recB P fs = true) (h0 : 0 < fs.size)
    {H : Type} {enc : TypeId × Value → H} {w : World} {a : Option Addr} {len cap : Nat} {d : DataW H} {p : List MemPlace} (h : DataW.Trod enc P w 0 (fun _ => true) true T (.slice a len cap) d p) :
    len ≤ cap ∧ cap ≤ maxLen ∧ (len = 0 ∨ ∃ b o, a = some ⟨b, o, none⟩ ∧ ∀ i < len, ∀ (j : Nat) (f : Field), fs[j]? = some f →
      ∃ (v : Value) (y : DataW H × List MemPlace) (n : Nat), w.cell? ⟨b, o + i * fs.size + j, none⟩ = some v ∧ DataW.trod enc P w 0 (fun _ => true) true n f.type [v] = some y ∧ ∀ k ∈ y.1.weights P f.type, k ∈ d.weights P T) := by
  obtain ⟨fuel, hf⟩ := h
  rcases Deep.open_slice hT hf with ⟨hcs, _⟩ | ⟨x, l, c, m, n, D, Pl, hcs, _, hl, hm, hmm, hx, hr⟩
  · simp [Value.cells] at hcs
    obtain ⟨rfl, rfl, rfl⟩ := hcs
    exact ⟨Nat.le_refl _, Nat.zero_le _, .inl rfl⟩
  · simp [Value.cells] at hcs
    obtain ⟨rfl, rfl, rfl⟩ := hcs
    simp only [if_true] at hmm
    subst hmm
    refine ⟨hl, hm, ?_⟩
    by_cases hz : len = 0
    · exact .inl hz
    right
    have each : ∀ i < len, ∀ (j : Nat) (f : Field), fs[j]? = some f → ∃ (v : Value) (y : DataW H × List MemPlace) (n : Nat), w.cell? ((x.add (i * fs.size)).add j) = some v ∧ DataW.trod enc P w 0 (fun _ => true) true n f.type [v] = some y ∧
        ∀ k ∈ y.1.weights P f.type, k ∈ d.weights P T := by
      intro i hi j f hj
      obtain ⟨cs, h1, h2⟩ := hr i (by omega)
      rw [ce] at h1
      obtain ⟨_, hlen, hcell⟩ := World.cells?_some h1
      obtain ⟨xs, q, _, hxy, _, hxl, hfd⟩ := DataW.trod_struct hE h2
      obtain ⟨ho, hc⟩ := recB_spec hB hj
      have hjl : j < fs.size := (Array.getElem?_eq_some_iff.1 hj).1
      have hjc : j < cs.length := by omega
      have g := hfd j f hj
      rw [ho, hc, List.drop_eq_getElem_cons hjc, List.take_succ_cons, List.take_zero, List.getElem?_eq_getElem (show j < xs.length by omega)] at g
      refine ⟨cs[j], xs[j], q, by rw [hcell j hjl, List.getElem?_eq_getElem hjc], g, fun k hk => ?_⟩
      simp only [Prod.mk.injEq] at hxy hx
      have hin : D i ∈ (List.range len).map D := List.mem_map.2 ⟨i, List.mem_range.2 hi, rfl⟩
      rw [hx.1]
      simp only [DataW.weights, hT, List.mem_cons, List.mem_append]
      refine .inr (.inl (mem_weightsAll hin k ?_))
      rw [hxy.1]
      simp only [DataW.weights, hE]
      exact DataW.weights_mem_each (j := j) (t := f.type) (d := xs[j].1) (by simp [hj]) (by simp [show j < xs.length by omega]) k hk
    obtain ⟨b, off, spot⟩ := x
    have hs : spot = none := by
      obtain ⟨v, _, _, hv, _⟩ := each 0 (by omega) 0 fs[0] (Array.getElem?_eq_getElem h0)
      have := World.cell?_spot hv
      simpa [Addr.add] using this
    subst hs
    refine ⟨b, off, rfl, fun i hi j f hj => ?_⟩
    obtain ⟨v, y, q, hv, hy, hk⟩ := each i hi j f hj
    rw [addr_add, addr_add] at hv
    exact ⟨v, y, q, hv, hy, hk⟩
end Go.Proofs.Ytdmnhgbdeifpbaa
namespace Go.Proofs.Ytdmnhgbdeifpbaa
open Go Go.RowKit

theorem open_rec {P : Program} {T : TypeId} {fs : Array Field} (hT : P.underlying T = some (.struct fs)) (ce : P.cellsOf T = fs.size) (hB : recB P fs = true)
    {H : Type} {enc : TypeId × Value → H} {w : World} {cs : Array Value} {d : DataW H} {p : List MemPlace} (h : DataW.Trod enc P w 0 (fun _ => true) true T (.agg cs) d p) :
    cs.size = fs.size ∧ ∀ (j : Nat) (f : Field), fs[j]? = some f →
      ∃ (v : Value) (y : DataW H × List MemPlace) (n : Nat), cs[j]? = some v ∧ DataW.trod enc P w 0 (fun _ => true) true n f.type [v] = some y ∧ ∀ k ∈ y.1.weights P f.type, k ∈ d.weights P T := by
  obtain ⟨fuel, hf⟩ := h
  obtain ⟨xs, q, _, hxy, hl, hxl, hfd⟩ := DataW.trod_struct hT hf
  have hcl : cs.size = fs.size := by
    rw [ce] at hl
    simpa [Value.cells] using hl
  refine ⟨hcl, fun j f hj => ?_⟩
  obtain ⟨ho, hc⟩ := recB_spec hB hj
  have hjl : j < fs.size := (Array.getElem?_eq_some_iff.1 hj).1
  have hjc : j < (Value.agg cs).cells.toList.length := by simp [Value.cells]; omega
  have g := hfd j f hj
  rw [ho, hc, List.drop_eq_getElem_cons hjc, List.take_succ_cons, List.take_zero, List.getElem?_eq_getElem (show j < xs.length by omega)] at g
  have hjs : j < cs.size := by omega
  refine ⟨cs[j], xs[j], q, Array.getElem?_eq_getElem hjs, ?_, fun k hk => ?_⟩
  · simpa [Value.cells] using g
  · simp only [Prod.mk.injEq] at hxy
    rw [hxy.1]
    simp only [DataW.weights, hT]
    exact DataW.weights_mem_each (j := j) (t := f.type) (d := xs[j].1) (by simp [hj]) (by simp [show j < xs.length by omega]) k hk
set_option maxRecDepth 100000 in
theorem okWide_string {W : World} {base : Nat} {v : Value} (h : Value.okWide Try.prog W .any base 9 v) : ∃ k : List (BitVec 8), v = Sv k := by
  simp only [Value.okWide, Try.underlying9, Cell.okWide, Cell.ok] at h
  cases v with
  | string s =>
    obtain ⟨k, hk, _⟩ := sv_of s
    exact ⟨k, hk⟩
  | _ => simp at h
end Go.Proofs.Ytdmnhgbdeifpbaa
