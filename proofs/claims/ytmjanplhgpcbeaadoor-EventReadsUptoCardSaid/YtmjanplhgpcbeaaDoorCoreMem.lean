/-
  Bytes in memory: slices that came in, rows that a call made, parts; what grows keeps what was: no program here.
-/
import Derived.Test.YtmjanplhgpcbeaaDoorCoreWords
import Derived.Deep.QuietTactic
import Derived.BigQuiet
import Derived.Deep.WholeRow
import Derived.Deep.Cut
import Derived.Deep.CutRange
import Derived.Lib.Hide
import Derived.Laws.CopyOwn
namespace Go.Proofs.YtmjanplhgpcbeaaDoor
open Go Go.RowKit

def gl (l : List (BitVec 8)) : Nat → BitVec 8 := fun i => l.getD i 0
theorem gl_left (l x : List (BitVec 8)) (i : Nat) (h : i < l.length) : gl (l ++ x) i = gl l i := by
  simp [gl, List.getElem?_append, h]
theorem gl_right (l x : List (BitVec 8)) (i : Nat) (h : l.length ≤ i) : gl (l ++ x) i = gl x (i - l.length) := by
  simp [gl, List.getElem?_append, Nat.not_lt.2 h]
theorem below_draws {B : Nat} {a w : World} (h : Below B a w) (n : Nat) : Below B a (w.drewN n) := h.trans ⟨rfl, rfl, rfl, Nat.le_refl _, fun _ _ => rfl⟩
def Below0 (w : World) (x : Value) (e : Ending) (w' : World) : Prop := e = .returned x ∧ Below w.heap.size w w'
/-- A callee's contract, met in a world that is already some draws behind: the draws add up. -/
theorem quiet_of2 {P : Program} {f : FuncId} {args : Array Value} {w : World} {n m : Nat} {v : Value}
    (h : Calls P f args (w.drewN (n + m)) fun e w' => e = .returned v ∧ ∃ k, w' = (w.drewN (n + m)).drewN k) : Calls P f args (w.drewN (n + m)) fun e w'' => e = .returned v ∧ ∃ k, w'' = w.drewN (n + k) :=
  h.mono fun _ _ ⟨he, k, hk⟩ => ⟨he, m + k, by rw [hk, World.drewN_drewN, Nat.add_assoc]⟩
/-- A callee that leaves the world alone, met in a world that is already some draws behind. -/
theorem quiet_same2 {P : Program} {f : FuncId} {args : Array Value} {w : World} {n m : Nat} {v : Value}
    (h : Calls P f args (w.drewN (n + m)) fun e w' => e = .returned v ∧ w' = w.drewN (n + m)) : Calls P f args (w.drewN (n + m)) fun e w'' => e = .returned v ∧ ∃ k, w'' = w.drewN (n + k) :=
  h.mono fun _ _ ⟨he, hk⟩ => ⟨he, m, hk⟩
theorem setCell_row (w : World) (b i n : Nat) (c c' : Array Value) (t : TypeId) (v : Value) (hb : w.heap[b]? = some (.cells c t (0, 0))) :
    ((w.setRow b c').drewN n).setCell ⟨b, i, none⟩ v = (w.setRow b (c'.setIfInBounds i v)).drewN n := by
  show World.drewN (World.setCell (w.setRow b c') ⟨b, i, none⟩ v) n = _
  rw [setCell_eq_setRow (w.setRow b c') b i c' t (0, 0) v (setRow_heap w b c c' t _ hb), setRow_setRow]
theorem setRow_self (w : World) (b : Nat) (c : Array Value) (t : TypeId) (hb : w.heap[b]? = some (.cells c t (0, 0))) : w.setRow b c = w := by
  unfold World.setRow
  cases w with
  | mk heap tape drawn os output =>
    congr 1
    apply Array.ext_getElem?
    intro i
    rw [Array.getElem?_modify]
    split
    · rename_i e
      subst e
      have hb' : heap[b]? = some (.cells c t (0, 0)) := hb
      rw [hb']
      rfl
    · rfl
theorem setCell_1 (w : World) (c : Array Value) (t : TypeId) (i : Nat) (v : Value) :
    (w.alloc (.cells c t)).setCell ⟨w.heap.size, i, none⟩ v = w.alloc (.cells (c.setIfInBounds i v) t) :=
  World.setCell_alloc_at (w := w) c t w.heap.size i v rfl
/-- The n bytes from place a on are those of m from place k on; none of them lies in block b. -/
def Src (w : World) (b : Nat) (a : Option Addr) (n : Nat) (m : List (BitVec 8)) (k : Nat) : Prop :=
  n = 0 ∨ ∃ ab off, a = some ⟨ab, off, none⟩ ∧ ab ≠ b ∧ ∀ i < n, w.cell? ⟨ab, off + i, none⟩ = some (B (gl m (k + i)))
theorem Src.grown {w w' : World} {b : Nat} {a : Option Addr} {n : Nat} {m : List (BitVec 8)} {k : Nat} (h : Src w b a n m k) (hg : w.grownBy w' (some b)) : Src w' b a n m k := by
  rcases h with h | ⟨ab, off, ha, hb, hc⟩
  · exact .inl h
  · exact .inr ⟨ab, off, ha, hb, fun i hi => hg.cell (hc i hi) (by simpa using hb)⟩
theorem Src.belowS {w w' : World} {b : Nat} {a : Option Addr} {n : Nat} {m : List (BitVec 8)} {k : Nat} (h : Src w b a n m k) (hB : Below w.heap.size w w') : Src w' b a n m k := by
  rcases h with h | ⟨ab, off, ha, hb, hc⟩
  · exact .inl h
  · exact .inr ⟨ab, off, ha, hb, fun i hi => (hB.cell (p := ⟨ab, off + i, none⟩) (block_lt_of_cell (hc i hi))).trans (hc i hi)⟩
def lenOf : Value → Nat | .slice _ n _ => n | _ => 0
theorem grown_trans {w w1 w2 : World} {b : Nat} (h : w.grownBy w1 (some b)) (h2 : w1.grownBy w2 (some b)) : w.grownBy w2 (some b) :=
  ⟨h2.os.trans h.os, h2.tape.trans h.tape, h2.output.trans h.output, Nat.le_trans h.size h2.size, fun k hk hne => (h2.block k (Nat.lt_of_lt_of_le hk h.size) hne).trans (h.block k hk hne)⟩
theorem grown_setCell (w : World) (b i : Nat) (v : Value) : w.grownBy (w.setCell ⟨b, i, none⟩ v) (some b) :=
  ⟨rfl, rfl, rfl, by simp [World.setCell], fun k hk hne => heap_setCell_other _ _ _ _ (fun e => hne (by rw [e]))⟩
/-- The n bytes from place a on are those of m. -/
def SrcP (w : World) (a : Option Addr) (n : Nat) (m : List (BitVec 8)) : Prop :=
  n = 0 ∨ ∃ ab off, a = some ⟨ab, off, none⟩ ∧ ∀ i < n, w.cell? ⟨ab, off + i, none⟩ = some (B (gl m i))
theorem SrcP.below {w w' : World} {a : Option Addr} {n : Nat} {m : List (BitVec 8)} (h : SrcP w a n m) (hB : Below w.heap.size w w') : SrcP w' a n m := by
  rcases h with h | ⟨ab, off, ha, hc⟩
  · exact .inl h
  · exact .inr ⟨ab, off, ha, fun i hi => (hB.cell (p := ⟨ab, off + i, none⟩) (block_lt_of_cell (hc i hi))).trans (hc i hi)⟩
theorem SrcP.src {w : World} {a : Option Addr} {n : Nat} {m : List (BitVec 8)} (h : SrcP w a n m) {b : Nat} (hb : w.heap.size ≤ b) : Src w b a n m 0 := by
  rcases h with h | ⟨ab, off, ha, hc⟩
  · exact .inl h
  · by_cases hn : n = 0
    · exact .inl hn
    · refine .inr ⟨ab, off, ha, ?_, fun i hi => by rw [Nat.zero_add]; exact hc i hi⟩
      have := block_lt_of_cell (hc 0 (by omega))
      intro e
      subst e
      exact absurd this (by simp; omega)
theorem list_eq_gl {m1 m2 : List (BitVec 8)} (h : m1.length = m2.length) : m1 = m2 ↔ ∀ i < m1.length, gl m1 i = gl m2 i := by
  refine ⟨fun e i _ => by rw [e], fun hh => List.ext_getElem h fun i h1 h2 => ?_⟩
  have := hh i h1
  simpa [gl, h1, h2] using this
theorem or_zero {x y : BitVec 8} : x ||| y = 0 ↔ x = 0 ∧ y = 0 := BitVec.or_eq_zero_iff
theorem Src.srcP {w : World} {b : Nat} {a : Option Addr} {n : Nat} {m : List (BitVec 8)} (h : Src w b a n m 0) : SrcP w a n m := by
  rcases h with h | ⟨ab, off, ha, _, hc⟩
  · exact .inl h
  · exact .inr ⟨ab, off, ha, fun i hi => by have := hc i hi; rwa [Nat.zero_add] at this⟩
theorem below_own {B : Nat} {wT w w' : World} {b : Nat} (hB : Below B wT w) (hb : B ≤ b) (hBs : B ≤ w.heap.size) (hg : w.grownBy w' (some b)) : Below B wT w' :=
  hB.trans ⟨hg.os, hg.tape, hg.output, hg.size, fun k hk => hg.block k (by omega) (by simp; omega)⟩
/-- A slice of bytes: where it lies, its capacity, its bytes. -/
structure Part where
  a : Option Addr
  cap : Nat
  m : List (BitVec 8)
def Part.val (p : Part) : Value := .slice p.a p.m.length p.cap
def Part.ok (w : World) (p : Part) : Prop := p.m.length ≤ p.cap ∧ p.cap ≤ 9223372036854775807 ∧ SrcP w p.a p.m.length p.m
def flat (ps : List Part) : List (BitVec 8) := ps.flatMap (·.m)
/-- The slices of a list, one behind the other in memory. -/
def PartsAt (w : World) (a : Option Addr) (ps : List Part) : Prop :=
  ps = [] ∨ ∃ b o, a = some ⟨b, o, none⟩ ∧ ∀ i p, ps[i]? = some p → w.cell? ⟨b, o + i, none⟩ = some p.val
theorem Part.ok.below {w w' : World} {p : Part} (h : p.ok w) (hB : Below w.heap.size w w') : p.ok w' := ⟨h.1, h.2.1, h.2.2.below hB⟩
theorem flat_take_length (ps : List Part) (t : Nat) : (flat (ps.take t)).length ≤ (flat ps).length := by
  have : flat ps = flat (ps.take t) ++ flat (ps.drop t) := by
    rw [flat, flat, flat, ← List.flatMap_append, List.take_append_drop]
  rw [this]
  simp
theorem flat_step (ps : List Part) (t : Nat) (p : Part) (h : ps[t]? = some p) : flat (ps.take (t + 1)) = flat (ps.take t) ++ p.m := by
  have ht : t < ps.length := (List.getElem?_eq_some_iff.1 h).1
  have e : ps.take (t + 1) = ps.take t ++ [p] := by
    rw [List.take_succ_eq_append_getElem ht]
    rw [List.getElem?_eq_getElem ht] at h
    simp only [Option.some.injEq] at h
    rw [h]
  rw [e, flat, flat, List.flatMap_append]
  simp
theorem PartsAt.below {w w' : World} {a : Option Addr} {ps : List Part} (h : PartsAt w a ps) (hB : Below w.heap.size w w') : PartsAt w' a ps := by
  rcases h with h | ⟨b, o, h, h'⟩
  · exact .inl h
  · exact .inr ⟨b, o, h, fun i p hp => (hB.cell (p := ⟨b, o + i, none⟩) (block_lt_of_cell (h' i p hp))).trans (h' i p hp)⟩
/-- One slice alone in a new row. -/
theorem parts_one {w : World} {g : Nat} {e : TypeId} {fr : Nat × Nat} (p : Part) (hg : w.heap[g]? = some (.cells #[p.val] e fr)) : PartsAt w (some ⟨g, 0, none⟩) [p] := by
  refine .inr ⟨g, 0, rfl, fun i q hq => ?_⟩
  rw [cell_of_row _ _ _ _ _ _ hg, Nat.zero_add]
  match i, hq with
  | 0, hq => cases hq; rfl
theorem flat_one (p : Part) : flat [p] = p.m := by simp [flat]
/-- A short list of bytes laid over noughts. -/
theorem laid_noughts (n : Nat) (s : List (BitVec 8)) :
    splice (Array.replicate n (Value.int .u8 0)).toList 0 (s.map B) = (s ++ List.replicate (n - s.length) 0).map B := by
  rw [splice, Array.toList_replicate, List.take_zero, List.drop_replicate]
  simp [B]
theorem SrcP.from {B : Nat} {w w' : World} {a : Option Addr} {n : Nat} {m : List (BitVec 8)} (h : SrcP w a n m) (hw : w.heap.size ≤ B) (hB : Below B w w') : SrcP w' a n m := h.below (hB.mono hw)
theorem src_new {w : World} {g : Nat} {cs : Array Value} {e : TypeId} {fr : Nat × Nat} {m : List (BitVec 8)} (hg : w.heap[g]? = some (.cells cs e fr)) (hc : ∀ i < m.length, cs[i]? = some (B (gl m i))) :
    SrcP w (some ⟨g, 0, none⟩) m.length m := by
  refine .inr ⟨g, 0, rfl, fun i hi => ?_⟩
  rw [cell_of_row w g _ cs e fr hg, Nat.zero_add]
  exact hc i hi
theorem gl_at (l : List (BitVec 8)) (i : Nat) (h : i < l.length) : l[i]? = some (gl l i) := by simp [gl, h]
theorem list_map_at (l : List (BitVec 8)) (i : Nat) (h : i < l.length) : ((l.map B).toArray)[i]? = some (B (gl l i)) := by simp [gl, h]
/-- A row of bytes is a source. -/
theorem src_row {w : World} {g : Nat} {e : TypeId} {fr : Nat × Nat} {m : List (BitVec 8)} (hg : w.heap[g]? = some (.cells ((m.map B).toArray) e fr)) : SrcP w (some ⟨g, 0, none⟩) m.length m :=
  src_new hg fun i hi => list_map_at m i hi
theorem row_one (m : List (BitVec 8)) : ((m.map B).toArray).all (·.oneCell') = true := by
  rw [Array.all_eq_true]
  intro i hi
  simp [B_oneCell]
theorem row_size (m : List (BitVec 8)) : ((m.map B).toArray).size = m.length := by simp
theorem grown_none_below {w w' : World} (hB : Below w.heap.size w w') : w.grownBy w' none := ⟨hB.os, hB.tape, hB.output, hB.size, fun k hk _ => hB.block k hk⟩

end Go.Proofs.YtmjanplhgpcbeaaDoor
