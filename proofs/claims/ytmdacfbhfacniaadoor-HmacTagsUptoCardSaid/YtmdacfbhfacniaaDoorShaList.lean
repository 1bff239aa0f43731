/-
  What a hash holds behind some bytes, and how it goes on: no program here.
-/
import Derived.Test.YtmdacfbhfacniaaDoorShaPure
namespace Go.Proofs.YtmdacfbhfacniaaDoor
open Go.RowKit

/-- The state behind k chunks. -/
def chain (g : Nat → BitVec 8) : Nat → St
  | 0 => firstSt
  | k + 1 => compress (fun j => g (64 * k + j)) (chain g k)

theorem sl_congr {f g : Nat → BitVec 8} (h : ∀ j < 64, f j = g j) : ∀ t, t ≤ 64 → sl f t = sl g t
  | 0, _ => rfl
  | t + 1, ht => by
    have ih := sl_congr h t (by omega)
    simp only [sl, ih]
    split
    · rw [h _ (by omega), h _ (by omega), h _ (by omega), h _ (by omega)]
    · rfl
theorem rnds_congr {f g : Nat → BitVec 8} (h : ∀ j < 64, f j = g j) (s : St) : ∀ t, t ≤ 64 → rnds f s t = rnds g s t
  | 0, _ => rfl
  | t + 1, ht => by
    rw [rnds, rnds, rnds_congr h s t (by omega), sched, sched, sl_congr h (t + 1) ht]
theorem compress_congr {f g : Nat → BitVec 8} (h : ∀ j < 64, f j = g j) (s : St) : compress f s = compress g s := by
  rw [compress, compress, rnds_congr h s 64 (by omega)]
theorem chain_congr {f g : Nat → BitVec 8} : ∀ k, (∀ i < 64 * k, f i = g i) → chain f k = chain g k
  | 0, _ => rfl
  | k + 1, h => by
    rw [chain, chain, chain_congr k (fun i hi => h i (by omega))]
    exact compress_congr (fun j hj => h _ (by omega)) _

def gl (l : List (BitVec 8)) : Nat → BitVec 8 := fun i => l.getD i 0
theorem gl_left (l x : List (BitVec 8)) (i : Nat) (h : i < l.length) : gl (l ++ x) i = gl l i := by
  simp [gl, List.getElem?_append, h]
theorem gl_right (l x : List (BitVec 8)) (i : Nat) (h : l.length ≤ i) : gl (l ++ x) i = gl x (i - l.length) := by
  simp [gl, List.getElem?_append, Nat.not_lt.2 h]

/-- The cells of a hash that took the bytes l. -/
def HashS (c : Array Value) (l : List (BitVec 8)) : Prop :=
  c.size = 73 ∧ c[72]? = some (.int .i64 (l.length : Int)) ∧ (∀ i < 8, c[i]? = some (W ((chain (gl l) (l.length / 64)).at i))) ∧
  ∃ f : Nat → BitVec 8, (∀ j < 64, c[8 + j]? = some (B (f j))) ∧ ∀ j < l.length % 64, f j = gl l (64 * (l.length / 64) + j)
/-- The same, but that the state may be whatever as long as nothing came. -/
def HashW (c : Array Value) (l : List (BitVec 8)) : Prop :=
  c.size = 73 ∧ c[72]? = some (.int .i64 (l.length : Int)) ∧ (∃ s : St, (∀ i < 8, c[i]? = some (W (s.at i))) ∧ (l ≠ [] → s = chain (gl l) (l.length / 64))) ∧
  ∃ f : Nat → BitVec 8, (∀ j < 64, c[8 + j]? = some (B (f j))) ∧ ∀ j < l.length % 64, f j = gl l (64 * (l.length / 64) + j)
theorem HashS.weak {c : Array Value} {l : List (BitVec 8)} (h : HashS c l) : HashW c l := ⟨h.1, h.2.1, ⟨_, h.2.2.1, fun _ => rfl⟩, h.2.2.2⟩
theorem HashW.strong {c : Array Value} {l : List (BitVec 8)} (h : HashW c l) (hl : l ≠ []) : HashS c l := by
  obtain ⟨h1, h2, ⟨s, h3, h4⟩, h5⟩ := h
  rw [h4 hl] at h3
  exact ⟨h1, h2, h3, h5⟩

/-- Some bytes laid into the rest, and their number counted. -/
def Spl (c : Array Value) (r : Nat) (x : List (BitVec 8)) (n : Nat) (c2 : Array Value) : Prop :=
  c2.size = c.size ∧ c2[72]? = some (.int .i64 (n : Int)) ∧ (∀ i < 8, c2[i]? = c[i]?) ∧
  ∀ j < 64, c2[8 + j]? = if r ≤ j ∧ j < r + x.length then some (B (gl x (j - r))) else c[8 + j]?

def laidF (f : Nat → BitVec 8) (r : Nat) (x : List (BitVec 8)) : Nat → BitVec 8 := fun j => if r ≤ j ∧ j < r + x.length then gl x (j - r) else f j

theorem laid_cells {c c2 : Array Value} {r n : Nat} {x : List (BitVec 8)} {f : Nat → BitVec 8} (hf : ∀ j < 64, c[8 + j]? = some (B (f j))) (hs : Spl c r x n c2) :
    ∀ j < 64, c2[8 + j]? = some (B (laidF f r x j)) := by
  intro j hj
  rw [hs.2.2.2 j hj, laidF]
  split
  · rfl
  · exact hf j hj

/-- What lies in the rest is the end of what came. -/
theorem laid_is {l x : List (BitVec 8)} {f : Nat → BitVec 8} (hf : ∀ j < l.length % 64, f j = gl l (64 * (l.length / 64) + j)) :
    ∀ j < l.length % 64 + x.length, laidF f (l.length % 64) x j = gl (l ++ x) (64 * (l.length / 64) + j) := by
  intro j hj
  have hd := Nat.div_add_mod l.length 64
  rw [laidF]
  by_cases h : l.length % 64 ≤ j
  · rw [if_pos ⟨h, hj⟩, gl_right l x _ (by omega)]
    congr 1
    omega
  · rw [if_neg (by omega), gl_left l x _ (by omega)]
    exact hf j (by omega)

theorem HashS.more {c c2 : Array Value} {l x : List (BitVec 8)} (h : HashS c l) (hs : Spl c (l.length % 64) x (l.length + x.length) c2) (hq : l.length % 64 + x.length < 64) : HashS c2 (l ++ x) := by
  obtain ⟨h1, h2, h3, f, h4, h5⟩ := h
  have hd := Nat.div_add_mod l.length 64
  have e1 : (l ++ x).length / 64 = l.length / 64 := by rw [List.length_append]; omega
  have e2 : (l ++ x).length % 64 = l.length % 64 + x.length := by rw [List.length_append]; omega
  refine ⟨hs.1.trans h1, by rw [hs.2.1, List.length_append], fun i hi => ?_, laidF f (l.length % 64) x, laid_cells h4 hs, fun j hj => ?_⟩
  · rw [hs.2.2.1 i hi, h3 i hi, e1]
    congr 3
    exact chain_congr _ fun i hi => (gl_left l x i (by omega)).symm
  · rw [e1]
    exact laid_is h5 j (by omega)

/-- A chunk is full: behind the fold. -/
theorem HashS.full {c c2 c3 : Array Value} {l x : List (BitVec 8)} {f : Nat → BitVec 8} (h1 : c.size = 73)
    (h5 : ∀ j < l.length % 64, f j = gl l (64 * (l.length / 64) + j)) (h4 : ∀ j < 64, c[8 + j]? = some (B (f j)))
    (hs : Spl c (l.length % 64) x (l.length + x.length) c2) (hq : l.length % 64 + x.length = 64)
    (k1 : c3.size = c2.size) (k2 : ∀ i < 8, c3[i]? = some (W ((compress (laidF f (l.length % 64) x) (chain (gl l) (l.length / 64))).at i))) (k3 : ∀ i, 8 ≤ i → c3[i]? = c2[i]?) : HashS c3 (l ++ x) := by
  have hd := Nat.div_add_mod l.length 64
  have e1 : (l ++ x).length / 64 = l.length / 64 + 1 := by rw [List.length_append]; omega
  have e2 : (l ++ x).length % 64 = 0 := by rw [List.length_append]; omega
  have hl := laid_is (x := x) h5
  refine ⟨by rw [k1, hs.1, h1], by rw [k3 72 (by omega), hs.2.1, List.length_append], fun i hi => ?_, laidF f (l.length % 64) x, fun j hj => ?_, fun j hj => by omega⟩
  · rw [k2 i hi, e1, chain]
    congr 3
    rw [chain_congr (l.length / 64) (fun i hi => (gl_left l x i (by omega)).symm : ∀ i < 64 * (l.length / 64), gl l i = gl (l ++ x) i)]
    exact compress_congr (fun j hj => hl j (by omega)) _
  · rw [k3 _ (by omega)]
    exact laid_cells h4 hs j hj

theorem Spl_copy (c : Array Value) (r n : Nat) (x : List (BitVec 8)) (h : c.size = 73) (hr : r + x.length ≤ 64) :
    Spl c r x n ((c.toList.take (8 + r) ++ (x.map B ++ c.toList.drop (8 + r + (x.map B).length))).toArray.setIfInBounds 72 (.int .i64 (n : Int))) := by
  have hz : c.toList.length = 73 := by simpa using h
  have hsz : (c.toList.take (8 + r) ++ (x.map B ++ c.toList.drop (8 + r + (x.map B).length))).length = 73 := by simp; omega
  refine ⟨by simp only [Array.size_setIfInBounds, List.size_toArray, hsz, h], ?_, fun i hi => ?_, fun j hj => ?_⟩
  · rw [Array.getElem?_setIfInBounds, if_pos rfl, if_pos (by simp only [List.size_toArray, hsz]; omega)]
  · rw [Array.getElem?_setIfInBounds, if_neg (by omega), List.getElem?_toArray, List.getElem?_append_left (by simp; omega), List.getElem?_take, if_pos (by omega)]
    simp
  · rw [Array.getElem?_setIfInBounds, if_neg (by omega), List.getElem?_toArray]
    by_cases h1 : j < r
    · rw [if_neg (by omega), List.getElem?_append_left (by simp; omega), List.getElem?_take, if_pos (by omega)]
      simp
    · rw [List.getElem?_append_right (by simp; omega)]
      have e : (c.toList.take (8 + r)).length = 8 + r := by simp; omega
      rw [e]
      by_cases h2 : j < r + x.length
      · rw [if_pos ⟨by omega, h2⟩, List.getElem?_append_left (by simp; omega), List.getElem?_map, gl, show 8 + j - (8 + r) = j - r by omega]
        rw [List.getD_eq_getElem?_getD, List.getElem?_eq_getElem (by omega)]
        rfl
      · rw [if_neg (by omega), List.getElem?_append_right (by simp; omega), List.getElem?_drop]
        simp only [List.length_map]
        rw [show 8 + r + x.length + (8 + j - (8 + r) - x.length) = 8 + j by omega]
        simp

theorem copy72 (c : Array Value) (r : Nat) (x : List (BitVec 8)) (h : c.size = 73) (hr : r + x.length ≤ 64) :
    ((c.toList.take (8 + r) ++ (x.map B ++ c.toList.drop (8 + r + (x.map B).length))).toArray)[72]? = c[72]? := by
  have hz : c.toList.length = 73 := by simpa using h
  have e : (c.toList.take (8 + r)).length = 8 + r := by simp; omega
  rw [List.getElem?_toArray, List.getElem?_append_right (by rw [e]; omega), e, List.getElem?_append_right (by simp; omega), List.getElem?_drop]
  simp only [List.length_map]
  rw [show 8 + r + x.length + (72 - (8 + r) - x.length) = 72 by omega]
  simp

theorem pad_0 (n : Nat) : gl (pad n) 0 = 0x80 := rfl
theorem pad_mid (n j : Nat) (h1 : 0 < j) (h2 : j < gap n) : gl (pad n) j = 0 := by
  match j, h1 with
  | j + 1, _ =>
    simp only [gl, pad, List.getD_eq_getElem?_getD, List.getElem?_cons_succ]
    rw [List.getElem?_append_left (by simp; omega)]
    simp only [List.getElem?_replicate]
    split <;> rfl
theorem pad_end (n i : Nat) (h : i < 8) : gl (pad n) (gap n + i) = lenByte n i := by
  have hg := gap_le n
  obtain ⟨g, hgg⟩ : ∃ g, gap n = g + 1 := ⟨gap n - 1, by omega⟩
  rw [hgg, show g + 1 + i = (g + i) + 1 by omega]
  simp only [gl, pad, List.getD_eq_getElem?_getD, List.getElem?_cons_succ, hgg]
  rw [List.getElem?_append_right (by simp)]
  simp [h]

end Go.Proofs.YtmdacfbhfacniaaDoor
