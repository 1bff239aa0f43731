/-
  The document's own store in memory, and what its functions leave as it was.
-/
import Derived.Test.YtggecfecodoigaaStoreLastsLaw
namespace Go.Proofs.Ytggecfecodoigaa
open Go Go.RowKit

/-- Where the document's store lies. -/
structure RfF where
  b : Nat
  lv : Value
  wv : Value
  cv : Value
def RfF.has (f : RfF) (k : Nat) : Prop := k = f.b ∨ f.lv.ownBlock = some k ∨ f.wv.ownBlock = some k ∨ f.cv.ownBlock = some k
def rwaitC (x : Nat × List (BitVec 8)) : List Value := [.int .i64 (x.1 : Int), Sv x.2]
def rwaitsC (W : List (Nat × List (BitVec 8))) : List Value := W.flatMap rwaitC
def clip (c : Int) : Int := if c < -1 then -1 else c
def countC (R : List Int) : List Value := R.map fun x => Value.int .i64 x
structure RAt (w : World) (base : Nat) (f : RfF) (s : StS) : Prop where
  ok : s.Ok
  obj : w.heap[f.b]? = some (.cells #[f.lv, f.wv, .int .i64 (clip s.C), f.cv] 51 (0, 0))
  last : Own w base 9 f.lv (s.L.map Sv)
  waits : w.ownsRow base 53 2 f.wv s.W.length (rwaitsC s.W)
  count : Own w base 3 f.cv (countC s.R)
  low : base ≤ f.b
/-- All blocks but those of H are as they were. -/
structure Moved (H : Nat → Prop) (w w' : World) : Prop where
  os : w'.os = w.os
  tape : w'.tape = w.tape
  output : w'.output = w.output
  size : w.heap.size ≤ w'.heap.size
  block : ∀ k, k < w.heap.size → ¬ H k → w'.heap[k]? = w.heap[k]?
theorem Moved.refl (H : Nat → Prop) (w : World) : Moved H w w := ⟨rfl, rfl, rfl, Nat.le_refl _, fun _ _ _ => rfl⟩
theorem Moved.trans {H H1 : Nat → Prop} {w w1 w2 : World} (h : Moved H w w1) (hs : ∀ k, H1 k → H k ∨ w.heap.size ≤ k) (k : Moved H1 w1 w2) : Moved H w w2 :=
  ⟨k.os.trans h.os, k.tape.trans h.tape, k.output.trans h.output, Nat.le_trans h.size k.size, fun i hi hn => (k.block i (Nat.lt_of_lt_of_le hi h.size) (fun h1 => by
    rcases hs i h1 with h2 | h2
    · exact hn h2
    · omega)).trans (h.block i hi hn)⟩
theorem Moved.then_ {H : Nat → Prop} {w w1 w2 : World} (h : Moved H w w1) (k : Moved H w1 w2) : Moved H w w2 := h.trans (fun _ h => .inl h) k
theorem Moved.of_below {H : Nat → Prop} {w w' : World} (h : Below w.heap.size w w') : Moved H w w' := ⟨h.os, h.tape, h.output, h.size, fun k hk _ => h.block k hk⟩
theorem Moved.grown {H : Nat → Prop} {w w' : World} {row : Option Nat} (hg : w.grownBy w' row) (hr : ∀ k, row = some k → H k) : Moved H w w' :=
  ⟨hg.os, hg.tape, hg.output, hg.size, fun k hk hn => hg.block k hk fun e => hn (hr k e.symm)⟩
theorem Moved.cell {H : Nat → Prop} {w : World} {b : Nat} (hb : H b) (o : Nat) (v : Value) : Moved H w (w.setCell ⟨b, o, none⟩ v) :=
  ⟨rfl, rfl, rfl, by simp [World.setCell], fun k _ hn => heap_setCell_other _ _ _ _ (fun e => hn (e ▸ hb))⟩
theorem SKept.moved {f : StF} {w w' : World} (h : SKept f w w') : Moved f.has w w' := ⟨h.os, h.tape, h.output, h.size, h.block⟩
def REnd (w : World) (base : Nat) (f : RfF) (s : StS) (w' : World) : Prop :=
  ∃ f' : RfF, RAt w' base f' s ∧ f'.b = f.b ∧ (∀ k, f'.has k → f.has k ∨ w.heap.size ≤ k) ∧ Moved f.has w w'
section
variable {w : World} {base : Nat} {f : RfF} {s : StS}
theorem REnd.same (h : RAt w base f s) : REnd w base f s w := ⟨f, h, rfl, fun _ h => .inl h, Moved.refl _ w⟩
theorem REnd.trans {w1 w2 : World} {f1 : RfF} (hs : ∀ k, f1.has k → f.has k ∨ w.heap.size ≤ k) (hb : f1.b = f.b) (hk : Moved f.has w w1) (h : REnd w1 base f1 s w2) : REnd w base f s w2 := by
  obtain ⟨f2, h1, h2, h3, h4⟩ := h
  refine ⟨f2, h1, h2.trans hb, fun k hk2 => ?_, hk.trans hs h4⟩
  rcases h3 k hk2 with h5 | h5
  · exact hs k h5
  · exact .inr (Nat.le_trans hk.size h5)
theorem RAt.cell0 (h : RAt w base f s) : w.cell? ⟨f.b, 0, none⟩ = some f.lv := by rw [cell_of_row _ _ _ _ _ _ h.obj]; rfl
theorem RAt.cell1 (h : RAt w base f s) : w.cell? ⟨f.b, 1, none⟩ = some f.wv := by rw [cell_of_row _ _ _ _ _ _ h.obj]; rfl
theorem RAt.cell2 (h : RAt w base f s) : w.cell? ⟨f.b, 2, none⟩ = some (.int .i64 (clip s.C)) := by rw [cell_of_row _ _ _ _ _ _ h.obj]; rfl
theorem RAt.cell3 (h : RAt w base f s) : w.cell? ⟨f.b, 3, none⟩ = some f.cv := by rw [cell_of_row _ _ _ _ _ _ h.obj]; rfl
theorem RAt.free (h : RAt w base f s) (i : Nat) : w.frozen? ⟨f.b, i, none⟩ = false := frozen_of_row w f.b i _ _ h.obj
theorem RAt.lt (h : RAt w base f s) {k : Nat} (hk : f.has k) : k < w.heap.size := by
  rcases hk with rfl | e | e | e
  · exact (Array.getElem?_eq_some_iff.1 h.obj).1
  · exact (h.last.lt e).2
  · exact (World.ownsRow.lt h.waits k e).2
  · exact (h.count.lt e).2
theorem RAt.ge (h : RAt w base f s) {k : Nat} (hk : f.has k) : base ≤ k := by
  rcases hk with rfl | e | e | e
  · exact h.low
  · exact (h.last.lt e).1
  · exact (World.ownsRow.lt h.waits k e).1
  · exact (h.count.lt e).1
theorem RAt.keep (h : RAt w base f s) {w' : World} (hb : ∀ k, f.has k → w'.heap[k]? = w.heap[k]?) : RAt w' base f s :=
  ⟨h.ok, (hb _ (.inl rfl)).trans h.obj, own_move h.last fun g hg => hb g (.inr (.inl hg)), own_move h.waits fun g hg => hb g (.inr (.inr (.inl hg))), own_move h.count fun g hg => hb g (.inr (.inr (.inr hg))), h.low⟩
theorem RAt.far (h : RAt w base f s) {w' : World} (hB : Below w.heap.size w w') : RAt w' base f s := h.keep fun k hk => hB.block k (h.lt hk)
theorem rwaitsC_length (W : List (Nat × List (BitVec 8))) : (rwaitsC W).length = W.length * 2 := by
  induction W with
  | nil => rfl
  | cons x W ih =>
    show (rwaitC x ++ rwaitsC W).length = _
    rw [List.length_append, ih]
    simp [rwaitC]
    omega
theorem rwaitsC_at (W : List (Nat × List (BitVec 8))) (i j : Nat) (x : Nat × List (BitVec 8)) (v : Value) (hx : W[i]? = some x) (hv : (rwaitC x)[j]? = some v) : (rwaitsC W)[i * 2 + j]? = some v := by
  induction W generalizing i with
  | nil => simp at hx
  | cons y W ih =>
    show (rwaitC y ++ rwaitsC W)[_]? = _
    have hy : (rwaitC y).length = 2 := rfl
    cases i with
    | zero =>
      have e : y = x := by simpa using hx
      subst e
      have hj := (List.getElem?_eq_some_iff.1 hv).1
      rw [List.getElem?_append_left (by omega)]
      simpa using hv
    | succ i =>
      rw [List.getElem?_append_right (by omega), hy, show (i + 1) * 2 + j - 2 = i * 2 + j by omega]
      exact ih i (by simpa using hx)
theorem rwaitsC_snoc (W : List (Nat × List (BitVec 8))) (x : Nat × List (BitVec 8)) : rwaitsC (W ++ [x]) = rwaitsC W ++ rwaitC x := by simp [rwaitsC]
end
end Go.Proofs.Ytggecfecodoigaa
