/-
  A reader and the document's tape, side by side: neither's calls touch the other.
-/
import Derived.Test.YteoolfifpmbkeaaDoorPenPen
import Derived.Test.YteoolfifpmbkeaaDoorReadMore
import Derived.Test.YteoolfifpmbkeaaDoorCoreOpen
import Derived.Test.YteoolfifpmbkeaaDoorLocal
namespace Go.Proofs.YteoolfifpmbkeaaDoor
open Go Go.ChangeShapes Go.WideShapes Go.ChangeAt Go.WideMaps Go.WideElems Go.RowKit

theorem run_conv_i64_u2 (w : World) (k : Int) : (convert 3 79 (.int .i64 k)).run Tryd.prog w = .ok (.int .u64 (IntKind.u64.wrap k)) w := by
  simp [convert, Conv.intToInt, run_underlying Tryd.underlying3, run_underlying Tryd.underlying79]
theorem rd_ne {base b xb : Nat} {w : World} {t tx : TapeL} (h : RdAt base w b t) (hx : TapeAt w xb tx) : xb ≠ b := by
  intro e
  subst e
  obtain ⟨a, n, c, hb, _⟩ := h
  unfold TapeAt at hx
  rw [hb] at hx
  injection hx with hx
  injection hx with _ e2
  exact absurd e2 (by decide)
/-- The reader stays as it is while the tape's block is written. -/
theorem RdAt.aside {base b xb : Nat} {w w' : World} {t tx : TapeL} (h : RdAt base w b t) (hx : TapeAt w xb tx) (hg : w.grownBy w' (some xb)) : RdAt base w' b t := by
  have hne := rd_ne h hx
  obtain ⟨a, n, c, h1, h2, h3, h4, h5, h6, h7⟩ := h
  refine ⟨a, n, c, (hg.block b (Array.getElem?_eq_some_iff.1 h1).1 (by simpa using hne.symm)).trans h1, h2, h3, h4, h5, ?_, h7⟩
  rcases h6 with h6 | ⟨ab, off, k1, k2, k3, k4⟩
  · exact .inl h6
  · by_cases h0 : t.s.length = 0
    · exact .inl h0
    · refine .inr ⟨ab, off, k1, k2, k3, fun i hi => hg.cell (k4 i hi) ?_⟩
      show some ab ≠ some xb
      intro e
      injection e with e
      have hc := k4 0 (by omega)
      rw [e, cell_of_row _ _ _ _ _ _ hx] at hc
      match off, hc with
      | 0, hc => simp [Sv, B] at hc
      | 1, hc => simp [B] at hc
      | k + 2, hc => simp at hc
theorem TapeAt.aside {base b xb : Nat} {w w' : World} {t tx : TapeL} (h : RdAt base w b t) (hx : TapeAt w xb tx) (hg : w.grownBy w' (some b)) : TapeAt w' xb tx := by
  have hne := rd_ne h hx
  exact (hg.block xb (Array.getElem?_eq_some_iff.1 hx).1 (by simpa using hne)).trans hx
theorem TapeAt.below {xb : Nat} {w w' : World} {tx : TapeL} (hx : TapeAt w xb tx) (hB : Below w.heap.size w w') : TapeAt w' xb tx := (hB.block xb (Array.getElem?_eq_some_iff.1 hx).1).trans hx
/-- All blocks but two are as they were. -/
structure KeptTwo (p q : Nat) (w w' : World) : Prop where
  os : w'.os = w.os
  tape : w'.tape = w.tape
  output : w'.output = w.output
  size : w.heap.size ≤ w'.heap.size
  block : ∀ k < w.heap.size, k ≠ p → k ≠ q → w'.heap[k]? = w.heap[k]?
theorem KeptTwo.refl (p q : Nat) (w : World) : KeptTwo p q w w := ⟨rfl, rfl, rfl, Nat.le_refl _, fun _ _ _ _ => rfl⟩
theorem KeptTwo.one {p q : Nat} {w w' : World} (h : w.grownBy w' (some p)) : KeptTwo p q w w' := ⟨h.os, h.tape, h.output, h.size, fun k hk hp _ => h.block k hk (by simpa using hp)⟩
theorem KeptTwo.two {p q : Nat} {w w' : World} (h : w.grownBy w' (some q)) : KeptTwo p q w w' := ⟨h.os, h.tape, h.output, h.size, fun k hk _ hq => h.block k hk (by simpa using hq)⟩
theorem KeptTwo.of_below {p q : Nat} {w w' : World} (h : Below w.heap.size w w') : KeptTwo p q w w' := ⟨h.os, h.tape, h.output, h.size, fun k hk _ _ => h.block k hk⟩
theorem KeptTwo.trans {p q : Nat} {a b c : World} (h : KeptTwo p q a b) (k : KeptTwo p q b c) : KeptTwo p q a c :=
  ⟨k.os.trans h.os, k.tape.trans h.tape, k.output.trans h.output, Nat.le_trans h.size k.size, fun i hi hp hq => (k.block i (Nat.lt_of_lt_of_le hi h.size) hp hq).trans (h.block i hi hp hq)⟩
theorem KeptTwo.row {p q : Nat} {w w' : World} (h : KeptTwo p q w w') {k : Nat} {o : Obj} (hk : w.heap[k]? = some o) (hp : k ≠ p) (hq : k ≠ q) : w'.heap[k]? = some o := (h.block k (Array.getElem?_eq_some_iff.1 hk).1 hp hq).trans hk
theorem KeptTwo.below {p q B0 : Nat} {w w' : World} (h : KeptTwo p q w w') (hB : B0 ≤ w.heap.size) (hp : B0 ≤ p) (hq : B0 ≤ q) : Below B0 w w' := ⟨h.os, h.tape, h.output, h.size, fun k hk => h.block k (by omega) (by omega) (by omega)⟩
/-- Some slice of the bytes m, away from two blocks; it stays so while these two are written. -/
def SrcT (p q : Nat) (w : World) (v : Value) (m : List (BitVec 8)) : Prop :=
  ∃ a c, v = .slice a m.length c ∧ (m.length = 0 ∨ ∃ ab off, a = some ⟨ab, off, none⟩ ∧ ab ≠ p ∧ ab ≠ q ∧ ∀ i < m.length, w.cell? ⟨ab, off + i, none⟩ = some (B (gl m i)))
theorem SrcT.kept {p q : Nat} {w w' : World} {v : Value} {m : List (BitVec 8)} (h : SrcT p q w v m) (hK : KeptTwo p q w w') : SrcT p q w' v m := by
  obtain ⟨a, c, hv, h⟩ := h
  refine ⟨a, c, hv, ?_⟩
  rcases h with h | ⟨ab, off, h1, h2, h3, h4⟩
  · exact .inl h
  · refine .inr ⟨ab, off, h1, h2, h3, fun i hi => ?_⟩
    have hc := h4 i hi
    exact cell_of_heap hc (hK.block ab (block_lt_of_cell hc) h2 h3)
theorem SrcT.str {p q : Nat} {w : World} {v : Value} {m : List (BitVec 8)} (h : SrcT p q w v m) : (convert 31 9 v).run Tryd.prog w = .ok (Sv m) w := by
  obtain ⟨a, c, rfl, h⟩ := h
  refine run_conv_str w a c m ?_
  rcases h with h | ⟨ab, off, h1, _, _, h4⟩
  · exact .inl h
  · exact .inr ⟨ab, off, h1, h4⟩
theorem SrcN.srcT {B0 p q c : Nat} {w : World} {a : Option Addr} {m : List (BitVec 8)} (h : SrcN B0 w a m) (hp : p < B0) (hq : q < B0) : SrcT p q w (.slice a m.length c) m := by
  refine ⟨a, c, rfl, ?_⟩
  rcases h with h | ⟨ab, off, h1, h2, h3⟩
  · exact .inl h
  · exact .inr ⟨ab, off, h1, by omega, by omega, h3⟩
/-- What an operation leaves, told so that it stays true while R lasts. -/
structure StT (R : World → World → Prop) where
  p : World → Value → Prop
  st : ∀ w w' v, R w w' → p w v → p w' v
def stE {R : World → World → Prop} (x : Value) : StT R := ⟨fun _ v => v = x, fun _ _ _ _ h => h⟩
def stS (p q : Nat) (m : List (BitVec 8)) : StT (KeptTwo p q) := ⟨fun w v => SrcT p q w v m, fun _ _ _ h hv => hv.kept h⟩
def stRd (B0 : Nat) (m : List (BitVec 8)) : StT (fun w w' => Below w.heap.size w w') :=
  ⟨fun w v => ∃ g base, v = .pointer (some ⟨g, 0, none⟩) ∧ B0 ≤ g ∧ RdAt base w g ⟨m, 0⟩, fun _ _ _ h ⟨g, base, h1, h2, h3⟩ => ⟨g, base, h1, h2, h3.below h⟩⟩
def stTp (B0 : Nat) (m : List (BitVec 8)) : StT (fun w w' => Below w.heap.size w w') :=
  ⟨fun w v => ∃ g, v = .pointer (some ⟨g, 0, none⟩) ∧ B0 ≤ g ∧ TapeAt w g ⟨m, 0⟩, fun _ _ _ h ⟨g, h1, h2, h3⟩ => ⟨g, h1, h2, h3.below h⟩⟩
def vOfT {R : World → World → Prop} (Vs : List (StT R)) : Nat → World → Value → Prop := fun i => (Vs.getD i ⟨fun _ _ => True, fun _ _ _ _ h => h⟩).p
theorem vOfT_st {R : World → World → Prop} (Vs : List (StT R)) : ∀ i w w' v, R w w' → vOfT Vs i w v → vOfT Vs i w' v := fun i => (Vs.getD i ⟨fun _ _ => True, fun _ _ _ _ h => h⟩).st
/-- Bytes that came in as an argument. -/
theorem open_arg {H : Type} {enc : TypeId × Value → H} {w : World} {a : Option Addr} {len cap : Nat} {d : DataW H} {p : List MemPlace}
    (h : DataW.Trod enc Tryd.prog w 0 (fun _ => true) true 31 (.slice a len cap) d p) :
    ∃ m : List (BitVec 8), m.length = len ∧ SrcP w a m.length m ∧ len ≤ cap ∧ cap ≤ 9223372036854775807 ∧ (a = none → cap = 0) := by
  obtain ⟨fuel, hf⟩ := h
  rcases open_ints Tryd.underlying31 Tryd.underlying5 (by kernel_rfl) hf with ⟨hcs, _⟩ | ⟨x, l, c, zs, hcs, _, hl, hm, hz, hx, hcell, hwz⟩
  · simp [Value.cells] at hcs
    obtain ⟨rfl, rfl, rfl⟩ := hcs
    exact ⟨[], rfl, .inl rfl, Nat.le_refl _, Nat.zero_le _, fun _ => rfl⟩
  · simp [Value.cells] at hcs
    obtain ⟨rfl, rfl, rfl⟩ := hcs
    obtain ⟨m, hm1, hm2⟩ := src_of_ints (w := w) (a := some x) (len := len) (cap := cap) (zs := zs) (.inr ⟨x, rfl, hl, by simpa using hz, hcell, hwz⟩)
    have hml : maxLen ≤ 9223372036854775807 := by unfold maxLen; omega
    exact ⟨m, hm1, hm2, hl, Nat.le_trans hm hml, fun h => by cases h⟩
end Go.Proofs.YteoolfifpmbkeaaDoor
