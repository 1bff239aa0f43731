/-
  A store in memory: its object, its two rows of blocks, what waits, its counts; what its methods leave as it was.
-/
import Derived.Test.YtdmnhgbdeifpbaaStoreOps
namespace Go.Proofs.Ytdmnhgbdeifpbaa
open Go Go.RowKit

/-- Where a store lies. -/
structure StF where
  b : Nat
  l : Nat
  n : Nat
  r : Nat
  wv : Value
def StF.has (f : StF) (k : Nat) : Prop := k = f.b ∨ k = f.l ∨ k = f.n ∨ k = f.r ∨ f.wv.ownBlock = some k
/-- What waits, as cells. -/
def waitC (x : Nat × List (BitVec 8)) : List Value := .int .i64 (x.1 : Int) :: x.2.map B
def waitsC (W : List (Nat × List (BitVec 8))) : List Value := W.flatMap waitC
def objC (f : StF) (n : Nat) (c : Int) : Array Value :=
  #[.slice (some ⟨f.l, 0, none⟩) n n, .slice (some ⟨f.n, 0, none⟩) n n, f.wv, .int .i64 c, .slice (some ⟨f.r, 0, none⟩) n n]
def rowR (R : List Int) : Array Value := (R.map fun x => Value.int .i64 x).toArray
structure StAt (w : World) (base : Nat) (f : StF) (s : StS) : Prop where
  ok : s.Ok
  obj : w.heap[f.b]? = some (.cells (objC f s.L.length s.C) 60 (0, 0))
  last : w.heap[f.l]? = some (.cells (rowB s.L) 66 (0, 0))
  new : w.heap[f.n]? = some (.cells (rowB s.new') 66 (0, 0))
  waits : w.ownsRow base 68 129 f.wv s.W.length (waitsC s.W)
  reads : w.heap[f.r]? = some (.cells (rowR s.R) 3 (0, 0))
  low : base ≤ f.b ∧ base ≤ f.l ∧ base ≤ f.n ∧ base ≤ f.r
  ln : f.l ≠ f.n
/-- What a store's methods leave as it was. -/
structure SKept (f : StF) (w w' : World) : Prop where
  os : w'.os = w.os
  tape : w'.tape = w.tape
  output : w'.output = w.output
  size : w.heap.size ≤ w'.heap.size
  block : ∀ k, k < w.heap.size → ¬ f.has k → w'.heap[k]? = w.heap[k]?
def SEnd (w : World) (base : Nat) (f : StF) (s : StS) (w' : World) : Prop :=
  ∃ f' : StF, StAt w' base f' s ∧ f'.b = f.b ∧ (∀ k, f'.has k → f.has k ∨ w.heap.size ≤ k) ∧ SKept f w w'
theorem SKept.refl (f : StF) (w : World) : SKept f w w := ⟨rfl, rfl, rfl, Nat.le_refl _, fun _ _ _ => rfl⟩
theorem SKept.trans {f f1 : StF} {w w1 w2 : World} (h : SKept f w w1) (hs : ∀ k, f1.has k → f.has k ∨ w.heap.size ≤ k) (k : SKept f1 w1 w2) : SKept f w w2 :=
  ⟨k.os.trans h.os, k.tape.trans h.tape, k.output.trans h.output, Nat.le_trans h.size k.size, fun i hi hn => (k.block i (Nat.lt_of_lt_of_le hi h.size) (fun h1 => by
    rcases hs i h1 with h2 | h2
    · exact hn h2
    · omega)).trans (h.block i hi hn)⟩
theorem SKept.of_below {f : StF} {w w' : World} (h : Below w.heap.size w w') : SKept f w w' := ⟨h.os, h.tape, h.output, h.size, fun k hk _ => h.block k hk⟩
theorem SKept.grown {f : StF} {w w' : World} {row : Option Nat} (hg : w.grownBy w' row) (hr : ∀ k, row = some k → f.has k) : SKept f w w' :=
  ⟨hg.os, hg.tape, hg.output, hg.size, fun k hk hn => hg.block k hk fun e => hn (hr k e.symm)⟩
theorem SKept.cell {f : StF} {w : World} {b : Nat} (hb : f.has b) (o : Nat) (v : Value) : SKept f w (w.setCell ⟨b, o, none⟩ v) :=
  ⟨rfl, rfl, rfl, by simp [World.setCell], fun k _ hn => heap_setCell_other _ _ _ _ (fun e => hn (e ▸ hb))⟩
theorem SKept.cells {f : StF} {w : World} {b : Nat} (hb : f.has b) (o : Nat) (vs : List Value) : SKept f w (w.setCells b o vs) := by
  induction vs generalizing w o with
  | nil => exact SKept.refl f w
  | cons v vs ih =>
    exact SKept.trans (w1 := w.setCell ⟨b, o, none⟩ v) (SKept.cell hb o v) (fun k h => .inl h) (ih (o + 1))
theorem SKept.row {f : StF} {w : World} {b : Nat} (hb : f.has b) (c : Array Value) : SKept f w (w.setRow b c) :=
  ⟨rfl, rfl, rfl, by simp [World.setRow], fun k _ hn => setRow_other w b k c (fun e => hn (e ▸ hb))⟩
theorem SEnd.same {w : World} {base : Nat} {f : StF} {s : StS} (h : StAt w base f s) : SEnd w base f s w := ⟨f, h, rfl, fun _ h => .inl h, SKept.refl f w⟩
theorem SEnd.trans {w w1 w2 : World} {base : Nat} {f : StF} {s : StS} {f1 : StF} (hs : ∀ k, f1.has k → f.has k ∨ w.heap.size ≤ k) (hb : f1.b = f.b) (hk : SKept f w w1) (h : SEnd w1 base f1 s w2) : SEnd w base f s w2 := by
  obtain ⟨f2, h1, h2, h3, h4⟩ := h
  refine ⟨f2, h1, h2.trans hb, fun k hk2 => ?_, hk.trans hs h4⟩
  rcases h3 k hk2 with h5 | h5
  · exact hs k h5
  · exact .inr (Nat.le_trans hk.size h5)

theorem waitC_length {x : Nat × List (BitVec 8)} (h : x.2.length = 128) : (waitC x).length = 129 := by simp [waitC, h]
theorem waitsC_length {n : Nat} {W : List (Nat × List (BitVec 8))} (h : WaitsIn n W) : (waitsC W).length = W.length * 129 := by
  induction W with
  | nil => rfl
  | cons x W ih =>
    have h1 := ih fun y hy => h y (List.mem_cons_of_mem _ hy)
    have h2 := waitC_length (h x (List.mem_cons_self ..)).2
    simp only [waitsC, List.flatMap_cons, List.length_append, List.length_cons] at h1 ⊢
    omega
theorem waitsC_at {n : Nat} {W : List (Nat × List (BitVec 8))} (h : WaitsIn n W) (i j : Nat) (x : Nat × List (BitVec 8)) (v : Value) (hx : W[i]? = some x) (hv : (waitC x)[j]? = some v) : (waitsC W)[i * 129 + j]? = some v := by
  induction W generalizing i with
  | nil => simp at hx
  | cons y W ih =>
    have hy := waitC_length (h y (List.mem_cons_self ..)).2
    show (waitC y ++ waitsC W)[_]? = _
    cases i with
    | zero =>
      have e : y = x := by simpa using hx
      subst e
      have hj := (List.getElem?_eq_some_iff.1 hv).1
      rw [List.getElem?_append_left (by omega)]
      simpa using hv
    | succ i =>
      rw [List.getElem?_append_right (by omega), hy, show (i + 1) * 129 + j - 129 = i * 129 + j by omega]
      exact ih (fun z hz => h z (List.mem_cons_of_mem _ hz)) i (by simpa using hx)
theorem waitsC_snoc (W : List (Nat × List (BitVec 8))) (x : Nat × List (BitVec 8)) : waitsC (W ++ [x]) = waitsC W ++ waitC x := by simp [waitsC]
theorem waitC_one (x : Nat × List (BitVec 8)) : ∀ v ∈ waitC x, v.oneCell' = true := fun v hv => by
  rcases List.mem_cons.1 hv with rfl | hv
  · rfl
  · exact bytes_oneCell _ v hv

section
variable {w : World} {base : Nat} {f : StF} {s : StS}
theorem StAt.cell0 (h : StAt w base f s) : w.cell? ⟨f.b, 0, none⟩ = some (.slice (some ⟨f.l, 0, none⟩) s.L.length s.L.length) := by rw [cell_of_row _ _ _ _ _ _ h.obj]; rfl
theorem StAt.cell1 (h : StAt w base f s) : w.cell? ⟨f.b, 1, none⟩ = some (.slice (some ⟨f.n, 0, none⟩) s.L.length s.L.length) := by rw [cell_of_row _ _ _ _ _ _ h.obj]; rfl
theorem StAt.cell2 (h : StAt w base f s) : w.cell? ⟨f.b, 2, none⟩ = some f.wv := by rw [cell_of_row _ _ _ _ _ _ h.obj]; rfl
theorem StAt.cell3 (h : StAt w base f s) : w.cell? ⟨f.b, 3, none⟩ = some (.int .i64 s.C) := by rw [cell_of_row _ _ _ _ _ _ h.obj]; rfl
theorem StAt.cell4 (h : StAt w base f s) : w.cell? ⟨f.b, 4, none⟩ = some (.slice (some ⟨f.r, 0, none⟩) s.L.length s.L.length) := by rw [cell_of_row _ _ _ _ _ _ h.obj]; rfl
theorem StAt.free (h : StAt w base f s) (i : Nat) : w.frozen? ⟨f.b, i, none⟩ = false := frozen_of_row w f.b i _ _ h.obj
theorem row_ty {w : World} {a b : Nat} {c c' : Array Value} {t t' : TypeId} {fr fr' : Nat × Nat} (h : w.heap[a]? = some (.cells c t fr)) (h' : w.heap[b]? = some (.cells c' t' fr')) (ht : t ≠ t') : a ≠ b := by
  rintro rfl
  rw [h] at h'
  injection h' with h'
  injection h' with _ e
  exact ht e
theorem own_ty {w : World} {base : Nat} {e : TypeId} {m k : Nat} {v : Value} {xs : List Value} (h : w.ownsRow base e m v k xs) {a : Nat} {c : Array Value} {t : TypeId} {fr : Nat × Nat} (ha : w.heap[a]? = some (.cells c t fr)) (ht : t ≠ e) : v.ownBlock ≠ some a := by
  rcases h.2 with ⟨hv, _⟩ | ⟨g, cap, cur, hv, _, hg, _⟩
  · rw [hv]
    intro e'
    cases e'
  · rw [hv]
    intro e'
    injection e' with e'
    have : g = a := e'
    subst this
    exact row_ty ha hg ht rfl
/-- A row of another type is none of the store's. -/
theorem StAt.other (h : StAt w base f s) {k : Nat} {c : Array Value} {t : TypeId} {fr : Nat × Nat} (hk : w.heap[k]? = some (.cells c t fr))
    (h1 : t ≠ 60) (h2 : t ≠ 66) (h3 : t ≠ 68) (h4 : t ≠ 3) : ¬ f.has k := by
  rintro (rfl | rfl | rfl | rfl | e)
  · exact row_ty hk h.obj h1 rfl
  · exact row_ty hk h.last h2 rfl
  · exact row_ty hk h.new h2 rfl
  · exact row_ty hk h.reads h4 rfl
  · exact own_ty h.waits hk h3 e
theorem StAt.ge (h : StAt w base f s) {k : Nat} (hk : f.has k) : base ≤ k := by
  rcases hk with rfl | rfl | rfl | rfl | e
  · exact h.low.1
  · exact h.low.2.1
  · exact h.low.2.2.1
  · exact h.low.2.2.2
  · exact (World.ownsRow.lt h.waits k e).1
theorem StAt.lt (h : StAt w base f s) {k : Nat} (hk : f.has k) : k < w.heap.size := by
  rcases hk with rfl | rfl | rfl | rfl | e
  · exact (Array.getElem?_eq_some_iff.1 h.obj).1
  · exact (Array.getElem?_eq_some_iff.1 h.last).1
  · exact (Array.getElem?_eq_some_iff.1 h.new).1
  · exact (Array.getElem?_eq_some_iff.1 h.reads).1
  · exact (World.ownsRow.lt h.waits k e).2
theorem StAt.below (h : StAt w base f s) {w' : World} (hk : SKept f w w') (hb : base ≤ w.heap.size) : Below base w w' :=
  ⟨hk.os, hk.tape, hk.output, hk.size, fun k hlt => hk.block k (by omega) fun hf => by have := h.ge hf; omega⟩
/-- It stands while others' blocks change. -/
theorem StAt.keep (h : StAt w base f s) {w' : World} (hb : ∀ k, f.has k → w'.heap[k]? = w.heap[k]?) : StAt w' base f s := by
  refine ⟨h.ok, (hb _ (.inl rfl)).trans h.obj, (hb _ (.inr (.inl rfl))).trans h.last, (hb _ (.inr (.inr (.inl rfl)))).trans h.new, ?_, (hb _ (.inr (.inr (.inr (.inl rfl))))).trans h.reads, h.low, h.ln⟩
  refine ⟨h.waits.1, ?_⟩
  rcases h.waits.2 with e | ⟨g, cap, cur, hv, h1, hg, rest⟩
  · exact .inl e
  · exact .inr ⟨g, cap, cur, hv, h1, (hb g (.inr (.inr (.inr (.inr (by rw [hv]; rfl)))))).trans hg, rest⟩
theorem StAt.far (h : StAt w base f s) {w' : World} (hB : Below w.heap.size w w') : StAt w' base f s   := h.keep fun k hk => hB.block k (h.lt hk)
end
end Go.Proofs.Ytdmnhgbdeifpbaa
