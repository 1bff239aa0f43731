/-
  Layer 12 as plain functions: blocks that last, what waits, what a crash leaves: no program here.
-/
import Derived.Test.YtdmnhgbdeifpbaaCoreOpen
namespace Go.Proofs.Ytdmnhgbdeifpbaa
open Go Go.RowKit

/-- The newest blocks: what lasts, and over it what waits. -/
def newest (L : List (List (BitVec 8))) (W : List (Nat × List (BitVec 8))) : List (List (BitVec 8)) := W.foldl (fun l x => l.set x.1 x.2) L
/-- The first n bytes are new ones. -/
def torn (n : Nat) (b old : List (BitVec 8)) : List (BitVec 8) := b.take n ++ old.drop n
/-- What waits is laid, in order: of the i-th one its first m i bytes. -/
def laid (m : Nat → Nat) : Nat → List (Nat × List (BitVec 8)) → List (List (BitVec 8)) → List (List (BitVec 8))
  | _, [], L => L
  | i, x :: W, L => laid m (i + 1) W (L.set x.1 (torn (m i) x.2 (L.getD x.1 [])))
/-- Blocks of 128 bytes. -/
def Blocks (L : List (List (BitVec 8))) : Prop := ∀ b ∈ L, b.length = 128
def WaitsIn (n : Nat) (W : List (Nat × List (BitVec 8))) : Prop := ∀ x ∈ W, x.1 < n ∧ x.2.length = 128

theorem newest_length (L : List (List (BitVec 8))) (W : List (Nat × List (BitVec 8))) : (newest L W).length = L.length := by
  induction W generalizing L with
  | nil => rfl
  | cons x W ih => exact (ih _).trans (by simp)
theorem newest_snoc (L : List (List (BitVec 8))) (W : List (Nat × List (BitVec 8))) (x : Nat × List (BitVec 8)) : newest L (W ++ [x]) = (newest L W).set x.1 x.2 := by simp [newest]
theorem newest_other (L : List (List (BitVec 8))) (W : List (Nat × List (BitVec 8))) (k : Nat) (h : ∀ x ∈ W, x.1 ≠ k) : (newest L W)[k]? = L[k]? := by
  induction W generalizing L with
  | nil => rfl
  | cons x W ih =>
    refine (ih _ fun y hy => h y (List.mem_cons_of_mem _ hy)).trans ?_
    exact List.getElem?_set_ne (h x (List.mem_cons_self ..))
theorem newest_set (L : List (List (BitVec 8))) (W : List (Nat × List (BitVec 8))) (k : Nat) (b : List (BitVec 8)) (hk : k < L.length) :
    (newest L W).set k b = newest (L.set k b) (W.filter fun x => !(x.1 == k)) := by
  induction W generalizing L with
  | nil => rfl
  | cons x W ih =>
    show (newest (L.set x.1 x.2) W).set k b = _
    rw [ih _ (by simpa using hk)]
    by_cases e : x.1 = k
    · subst e
      simp [newest]
    · have : (x.1 == k) = false := by simpa using e
      rw [List.filter_cons_of_pos (by simp [this])]
      show _ = newest ((L.set k b).set x.1 x.2) _
      rw [List.set_comm _ _ e]
theorem newest_blocks {L : List (List (BitVec 8))} {W : List (Nat × List (BitVec 8))} (hL : Blocks L) (hW : WaitsIn L.length W) : Blocks (newest L W) := by
  induction W generalizing L with
  | nil => exact hL
  | cons x W ih =>
    refine ih (L := L.set x.1 x.2) (fun b hb => ?_) (fun y hy => ?_)
    · rcases List.mem_or_eq_of_mem_set hb with h | rfl
      · exact hL b h
      · exact (hW x (List.mem_cons_self ..)).2
    · rw [List.length_set]
      exact hW y (List.mem_cons_of_mem _ hy)
/-- A read that goes over all that waits. -/
theorem newest_read (L : List (List (BitVec 8))) (W : List (Nat × List (BitVec 8))) (k : Nat) (hk : k < L.length) :
    (newest L W).getD k [] = W.foldl (fun b x => if x.1 = k then x.2 else b) (L.getD k []) := by
  induction W generalizing L with
  | nil => rfl
  | cons x W ih =>
    show (newest (L.set x.1 x.2) W).getD k [] = _
    rw [ih _ (by simpa using hk), List.foldl_cons]
    congr 1
    by_cases e : x.1 = k
    · subst e
      simp [List.getD_eq_getElem?_getD, hk]
    · rw [if_neg e]
      simp [List.getD_eq_getElem?_getD, List.getElem?_set_ne e]
theorem Blocks.set {L : List (List (BitVec 8))} (h : Blocks L) {k : Nat} {b : List (BitVec 8)} (hb : b.length = 128) : Blocks (L.set k b) := fun x hx => by
  rcases List.mem_or_eq_of_mem_set hx with h' | rfl
  · exact h x h'
  · exact hb
theorem Blocks.at {L : List (List (BitVec 8))} (h : Blocks L) {k : Nat} (hk : k < L.length) : (L.getD k []).length = 128 := by
  rw [List.getD_eq_getElem?_getD, List.getElem?_eq_getElem hk]
  exact h _ (List.getElem_mem hk)
theorem torn_length {n : Nat} {b old : List (BitVec 8)} (hn : n ≤ 128) (hb : b.length = 128) (ho : old.length = 128) : (torn n b old).length = 128 := by
  simp [torn]; omega
theorem torn_whole {b old : List (BitVec 8)} (hb : b.length = 128) (ho : old.length = 128) : torn 128 b old = b := by
  unfold torn
  rw [List.take_of_length_le (by omega), List.drop_of_length_le (by omega), List.append_nil]
theorem torn_none (b old : List (BitVec 8)) : torn 0 b old = old := by simp [torn]
theorem laid_length (m : Nat → Nat) (i : Nat) (W : List (Nat × List (BitVec 8))) (L : List (List (BitVec 8))) : (laid m i W L).length = L.length := by
  induction W generalizing L i with
  | nil => rfl
  | cons x W ih => exact (ih _ _).trans (by simp)
theorem laid_snoc (m : Nat → Nat) (i : Nat) (W : List (Nat × List (BitVec 8))) (x : Nat × List (BitVec 8)) (L : List (List (BitVec 8))) :
    laid m i (W ++ [x]) L = (laid m i W L).set x.1 (torn (m (i + W.length)) x.2 ((laid m i W L).getD x.1 [])) := by
  induction W generalizing L i with
  | nil => rfl
  | cons y W ih =>
    show laid m (i + 1) (W ++ [x]) _ = _
    rw [ih]
    have : i + 1 + W.length = i + (y :: W).length := by simp; omega
    rw [this]
    rfl
theorem take_snoc {α : Type} (W : List α) (i : Nat) (x : α) (h : W[i]? = some x) : W.take (i + 1) = W.take i ++ [x] := by
  rw [List.take_add_one, h]
  rfl
theorem laid_step (m : Nat → Nat) (W : List (Nat × List (BitVec 8))) (x : Nat × List (BitVec 8)) (L : List (List (BitVec 8))) (i : Nat) (h : W[i]? = some x) :
    laid m 0 (W.take (i + 1)) L = (laid m 0 (W.take i) L).set x.1 (torn (m i) x.2 ((laid m 0 (W.take i) L).getD x.1 [])) := by
  rw [take_snoc W i x h, laid_snoc]
  have : 0 + (W.take i).length = i := by
    have := (List.getElem?_eq_some_iff.1 h).1
    simp; omega
  rw [this]
theorem laid_blocks {m : Nat → Nat} (hm : ∀ i, m i ≤ 128) {W : List (Nat × List (BitVec 8))} {L : List (List (BitVec 8))} (i : Nat) (hL : Blocks L) (hW : WaitsIn L.length W) : Blocks (laid m i W L) := by
  induction W generalizing L i with
  | nil => exact hL
  | cons x W ih =>
    have h1 := hW x (List.mem_cons_self ..)
    refine ih (L := L.set x.1 _) (i + 1) (hL.set (torn_length (hm i) h1.2 (hL.at h1.1))) (fun y hy => ?_)
    rw [List.length_set]
    exact hW y (List.mem_cons_of_mem _ hy)
theorem laid_other (m : Nat → Nat) (i : Nat) (W : List (Nat × List (BitVec 8))) (L : List (List (BitVec 8))) (k : Nat) (h : ∀ x ∈ W, x.1 ≠ k) : (laid m i W L)[k]? = L[k]? := by
  induction W generalizing L i with
  | nil => rfl
  | cons x W ih =>
    refine (ih _ _ fun y hy => h y (List.mem_cons_of_mem _ hy)).trans ?_
    exact List.getElem?_set_ne (h x (List.mem_cons_self ..))
/-- All bytes of all that waits: the newest ones. -/
theorem laid_all {W : List (Nat × List (BitVec 8))} {L : List (List (BitVec 8))} (i : Nat) (hL : Blocks L) (hW : WaitsIn L.length W) : laid (fun _ => 128) i W L = newest L W := by
  induction W generalizing L i with
  | nil => rfl
  | cons x W ih =>
    have h1 := hW x (List.mem_cons_self ..)
    show laid _ (i + 1) W (L.set x.1 (torn 128 x.2 (L.getD x.1 []))) = newest (L.set x.1 x.2) W
    rw [torn_whole h1.2 (hL.at h1.1)]
    exact ih (i + 1) (hL.set h1.2) (fun y hy => by rw [List.length_set]; exact hW y (List.mem_cons_of_mem _ hy))
theorem WaitsIn.filter {n : Nat} {W : List (Nat × List (BitVec 8))} (h : WaitsIn n W) (p : Nat × List (BitVec 8) → Bool) : WaitsIn n (W.filter p) := fun x hx => h x (List.mem_filter.1 hx).1
theorem WaitsIn.snoc {n : Nat} {W : List (Nat × List (BitVec 8))} (h : WaitsIn n W) {x : Nat × List (BitVec 8)} (h1 : x.1 < n) (h2 : x.2.length = 128) : WaitsIn n (W ++ [x]) := fun y hy => by
  rcases List.mem_append.1 hy with hy | hy
  · exact h y hy
  · obtain rfl := List.mem_singleton.1 hy
    exact ⟨h1, h2⟩
/-- The newest ones while what waits is laid: those that are laid are as they last. -/
def mixed (m : Nat → Nat) (L : List (List (BitVec 8))) (W : List (Nat × List (BitVec 8))) : Nat → List (List (BitVec 8))
  | 0 => newest L W
  | i + 1 => match W[i]? with
    | some x => (mixed m L W i).set x.1 ((laid m 0 (W.take (i + 1)) L).getD x.1 [])
    | none => mixed m L W i
theorem mixed_length (m : Nat → Nat) (L : List (List (BitVec 8))) (W : List (Nat × List (BitVec 8))) (i : Nat) : (mixed m L W i).length = L.length := by
  induction i with
  | zero => exact newest_length L W
  | succ i ih =>
    show (match W[i]? with | some x => _ | none => _ : List (List (BitVec 8))).length = _
    cases W[i]? with
    | none => exact ih
    | some x => simpa using ih
theorem mixed_step (m : Nat → Nat) (L : List (List (BitVec 8))) (W : List (Nat × List (BitVec 8))) (i : Nat) (x : Nat × List (BitVec 8)) (h : W[i]? = some x) :
    mixed m L W (i + 1) = (mixed m L W i).set x.1 ((laid m 0 (W.take (i + 1)) L).getD x.1 []) := by
  show (match W[i]? with | some x => _ | none => _ : List (List (BitVec 8))) = _
  rw [h]
theorem mixed_at (m : Nat → Nat) (L : List (List (BitVec 8))) (W : List (Nat × List (BitVec 8))) (i k : Nat) (hi : i ≤ W.length) (hk : ∀ x ∈ W.drop i, x.1 ≠ k) :
    (mixed m L W i)[k]? = (laid m 0 (W.take i) L)[k]? := by
  induction i with
  | zero => exact newest_other L W k hk
  | succ i ih =>
    have hx := List.getElem?_eq_getElem (show i < W.length by omega)
    rw [mixed_step m L W i _ hx, laid_step m W _ L i hx]
    by_cases e : W[i].1 = k
    · subst e
      have h1 := mixed_length m L W i
      have h2 := laid_length m 0 (W.take i) L
      by_cases hl : W[i].1 < L.length
      · rw [List.getElem?_set_self (by omega), List.getElem?_set_self (by omega), ← laid_step m W _ L i hx, laid_step m W _ L i hx]
        simp [List.getD_eq_getElem?_getD, h2, hl]
      · rw [List.getElem?_eq_none (by simp; omega), List.getElem?_eq_none (by simp; omega)]
    · rw [List.getElem?_set_ne e, List.getElem?_set_ne e]
      refine ih (by omega) fun x hx' => ?_
      rw [List.drop_eq_getElem_cons (show i < W.length by omega)] at hx'
      rcases List.mem_cons.1 hx' with rfl | hx'
      · exact e
      · exact hk x hx'
theorem mixed_end (m : Nat → Nat) (L : List (List (BitVec 8))) (W : List (Nat × List (BitVec 8))) : mixed m L W W.length = laid m 0 W L := by
  apply List.ext_getElem?
  intro k
  rw [mixed_at m L W W.length k (Nat.le_refl _) (by simp), List.take_length]
/-- What one row holds: the blocks' bytes, one behind the other. -/
def flatB (L : List (List (BitVec 8))) : List (BitVec 8) := L.flatten
theorem flatB_length {L : List (List (BitVec 8))} (h : Blocks L) : (flatB L).length = 128 * L.length := by
  induction L with
  | nil => rfl
  | cons b L ih =>
    have h1 := h b (List.mem_cons_self ..)
    have h2 := ih fun x hx => h x (List.mem_cons_of_mem _ hx)
    simp only [flatB, List.flatten_cons, List.length_append, List.length_cons] at h2 ⊢
    omega
theorem flatB_at {L : List (List (BitVec 8))} (h : Blocks L) (k j : Nat) (hk : k < L.length) (hj : j < 128) : (flatB L)[128 * k + j]? = (L.getD k [])[j]? := by
  induction L generalizing k with
  | nil => simp at hk
  | cons b L ih =>
    have h1 := h b (List.mem_cons_self ..)
    unfold flatB
    rw [List.flatten_cons]
    cases k with
    | zero => rw [List.getElem?_append_left (by omega)]; simp
    | succ k =>
      rw [List.getElem?_append_right (by omega), show 128 * (k + 1) + j - b.length = 128 * k + j by omega]
      exact ih (fun x hx => h x (List.mem_cons_of_mem _ hx)) k (by simpa using hk)
end Go.Proofs.Ytdmnhgbdeifpbaa
