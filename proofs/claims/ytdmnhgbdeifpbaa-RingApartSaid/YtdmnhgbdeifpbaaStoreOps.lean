/-
  Layer 12's store as a plain thing: what each act makes of it; what lasts: no program here.
-/
import Derived.Test.YtdmnhgbdeifpbaaStoreRow
namespace Go.Proofs.Ytdmnhgbdeifpbaa
open Go Go.RowKit

/-- A store as it is: what lasts, what waits, the calls that are left, how often each block was read. -/
structure StS where
  L : List (List (BitVec 8))
  W : List (Nat × List (BitVec 8))
  C : Int
  R : List Int
structure StS.Ok (s : StS) : Prop where
  blocks : Blocks s.L
  waits : WaitsIn s.L.length s.W
  reads : s.R.length = s.L.length
  some : 1 ≤ s.L.length
  most : s.L.length ≤ 4096
  calls : -9223372036854775808 ≤ s.C ∧ s.C ≤ 9223372036854775807
  counts : ∀ r ∈ s.R, -9223372036854775808 ≤ r ∧ r ≤ 9223372036854775807
def StS.new (n : Nat) : StS := ⟨List.replicate n zeroB, [], -1, List.replicate n 0⟩
def StS.new' (s : StS) : List (List (BitVec 8)) := newest s.L s.W
def lessCall (c : Int) : Int := if 0 < c then c - 1 else c
def StS.spent (s : StS) : StS := { s with C := lessCall s.C }
def StS.wrote (s : StS) (k : Nat) (b : List (BitVec 8)) : StS := { s with C := lessCall s.C, W := s.W ++ [(k, b)] }
def StS.told (s : StS) (k : Nat) : StS := { s with R := s.R.set k (IntKind.i64.wrap (s.R.getD k 0 + 1)) }
def StS.synced (s : StS) : StS := { s with C := lessCall s.C, L := newest s.L s.W, W := [] }
def crashM (keep : List Bool) (t c : Int) (i : Nat) : Nat :=
  if (i : Int) = t then (if c < 0 ∨ 128 < c then 128 else c.toNat) else if keep.getD i false = true then 128 else 0
def StS.settled (s : StS) (m : Nat → Nat) : StS := { s with L := laid m 0 s.W s.L, W := [] }
def StS.crashed (s : StS) (keep : List Bool) (t c : Int) : StS := { s with L := laid (crashM keep t c) 0 s.W s.L, W := [], C := -1 }
def StS.limited (s : StS) (n : Int) : StS := { s with C := n }
def StS.layd (s : StS) (k : Nat) (b : List (BitVec 8)) : StS := { s with L := s.L.set k b, W := s.W.filter fun x => !(x.1 == k) }
def StS.zeroed (s : StS) : StS := { s with R := List.replicate s.L.length 0 }

theorem lessCall_range {c : Int} (h : -9223372036854775808 ≤ c ∧ c ≤ 9223372036854775807) : -9223372036854775808 ≤ lessCall c ∧ lessCall c ≤ 9223372036854775807 := by
  unfold lessCall
  split <;> omega
theorem wrap_range (x : Int) : -9223372036854775808 ≤ IntKind.i64.wrap x ∧ IntKind.i64.wrap x ≤ 9223372036854775807 := by
  simp [IntKind.wrap, IntKind.bits, IntKind.signed]
  split <;> omega
theorem crashM_le (keep : List Bool) (t c : Int) (i : Nat) : crashM keep t c i ≤ 128 := by
  unfold crashM
  split
  · split <;> omega
  · split <;> omega
theorem ok_new {n : Nat} (h1 : 1 ≤ n) (h2 : n ≤ 4096) : (StS.new n).Ok :=
  ⟨zeros_blocks n, fun x hx => by simp [StS.new] at hx, by simp [StS.new], by simpa [StS.new] using h1, by simpa [StS.new] using h2, by simp [StS.new], fun r hr => by
    obtain ⟨_, rfl⟩ := List.mem_replicate.1 hr
    omega⟩
theorem StS.Ok.spent {s : StS} (h : s.Ok) : s.spent.Ok := ⟨h.blocks, h.waits, h.reads, h.some, h.most, lessCall_range h.calls, h.counts⟩
theorem StS.Ok.wrote {s : StS} (h : s.Ok) {k : Nat} {b : List (BitVec 8)} (hk : k < s.L.length) (hb : b.length = 128) : (s.wrote k b).Ok :=
  ⟨h.blocks, h.waits.snoc hk hb, h.reads, h.some, h.most, lessCall_range h.calls, h.counts⟩
theorem StS.Ok.told {s : StS} (h : s.Ok) (k : Nat) : (s.told k).Ok :=
  ⟨h.blocks, h.waits, by simpa [StS.told] using h.reads, h.some, h.most, h.calls, fun r hr => by
    rcases List.mem_or_eq_of_mem_set hr with hr | rfl
    · exact h.counts r hr
    · exact wrap_range _⟩
theorem StS.Ok.settled {s : StS} (h : s.Ok) {m : Nat → Nat} (hm : ∀ i, m i ≤ 128) : (s.settled m).Ok :=
  ⟨laid_blocks hm 0 h.blocks h.waits, fun x hx => by simp [StS.settled] at hx, by simpa [StS.settled, laid_length] using h.reads, by simpa [StS.settled, laid_length] using h.some,
    by simpa [StS.settled, laid_length] using h.most, h.calls, h.counts⟩
theorem settled_all {s : StS} (h : s.Ok) : s.spent.settled (fun _ => 128) = s.synced := by
  unfold StS.settled StS.synced StS.spent
  rw [laid_all 0 h.blocks h.waits]
theorem StS.Ok.synced {s : StS} (h : s.Ok) : s.synced.Ok := by
  rw [← settled_all h]
  exact h.spent.settled fun _ => Nat.le_refl _
theorem StS.Ok.limited {s : StS} (h : s.Ok) {n : Int} (hn : -9223372036854775808 ≤ n ∧ n ≤ 9223372036854775807) : (s.limited n).Ok :=
  ⟨h.blocks, h.waits, h.reads, h.some, h.most, hn, h.counts⟩
theorem crashed_eq (s : StS) (keep : List Bool) (t c : Int) : s.crashed keep t c = (s.settled (crashM keep t c)).limited (-1) := rfl
theorem StS.Ok.crashed {s : StS} (h : s.Ok) (keep : List Bool) (t c : Int) : (s.crashed keep t c).Ok := (h.settled (crashM_le keep t c)).limited (by omega)
theorem StS.Ok.layd {s : StS} (h : s.Ok) {k : Nat} {b : List (BitVec 8)} (hb : b.length = 128) : (s.layd k b).Ok :=
  ⟨h.blocks.set hb, by simpa [StS.layd] using h.waits.filter _, by simpa [StS.layd] using h.reads, by simpa [StS.layd] using h.some, by simpa [StS.layd] using h.most, h.calls, h.counts⟩
theorem StS.Ok.zeroed {s : StS} (h : s.Ok) : s.zeroed.Ok :=
  ⟨h.blocks, h.waits, by simp [StS.zeroed], h.some, h.most, h.calls, fun r hr => by
    obtain ⟨_, rfl⟩ := List.mem_replicate.1 hr
    omega⟩
theorem new'_length (s : StS) : s.new'.length = s.L.length := newest_length _ _
theorem new'_wrote (s : StS) (k : Nat) (b : List (BitVec 8)) : (s.wrote k b).new' = s.new'.set k b := newest_snoc s.L s.W (k, b)
theorem new'_layd {s : StS} (k : Nat) (b : List (BitVec 8)) (hk : k < s.L.length) : (s.layd k b).new' = s.new'.set k b := (newest_set s.L s.W k b hk).symm
theorem new'_settled (s : StS) (m : Nat → Nat) : (s.settled m).new' = laid m 0 s.W s.L := rfl
theorem StS.Ok.new' {s : StS} (h : s.Ok) : Blocks s.new' := newest_blocks h.blocks h.waits

/-- The bytes of an act's own. -/
def wholeB (b : List (BitVec 8)) : List (BitVec 8) :=
  if b.length = 1 then b else (List.range 128).map fun i => if 0 < b.length then gl b (i % b.length) else 0
theorem wholeB_length (b : List (BitVec 8)) : (wholeB b).length = if b.length = 1 then 1 else 128 := by
  unfold wholeB
  split <;> simp [*]
/-- What is told of a run of writes and syncs: what was written last, and what was synced. -/
structure LastI (s : StS) (want synced : List (List (BitVec 8))) : Prop where
  ok : s.Ok
  eight : s.L.length = 8
  endless : s.C = -1
  lw : want.length = 8
  ls : synced.length = 8
  want : ∀ k < 8, want.getD k [] ≠ [] → s.new'.getD k [] = want.getD k []
  last : ∀ k < 8, synced.getD k [] ≠ [] → s.L.getD k [] = synced.getD k []
theorem lessCall_none : lessCall (-1) = -1 := rfl
theorem LastI.start : LastI (StS.new 8) (List.replicate 8 []) (List.replicate 8 []) :=
  ⟨ok_new (by omega) (by omega), rfl, rfl, rfl, rfl, fun k hk h => by
    exfalso; apply h
    rw [List.getD_eq_getElem?_getD, List.getElem?_replicate, if_pos hk]; rfl, fun k hk h => by
    exfalso; apply h
    rw [List.getD_eq_getElem?_getD, List.getElem?_replicate, if_pos hk]; rfl⟩
theorem LastI.write {s : StS} {want synced : List (List (BitVec 8))} (h : LastI s want synced) {k : Nat} {b : List (BitVec 8)} (hk : k < 8) (hb : b.length = 128) :
    LastI (s.wrote k b) (want.set k b) synced := by
  refine ⟨h.ok.wrote (by rw [h.eight]; exact hk) hb, h.eight, ?_, by simpa using h.lw, h.ls, fun j hj hne => ?_, h.last⟩
  · show lessCall s.C = _
    rw [h.endless]
    rfl
  · rw [new'_wrote]
    have h1 := new'_length s
    have h2 := h.lw
    have h3 := h.eight
    by_cases e : k = j
    · subst e
      simp only [List.getD_eq_getElem?_getD]
      rw [List.getElem?_set_self (by omega), List.getElem?_set_self (by omega)]
    · have hw := h.want j hj
      simp only [List.getD_eq_getElem?_getD] at hw hne ⊢
      rw [List.getElem?_set_ne e] at hne ⊢
      rw [List.getElem?_set_ne e]
      exact hw hne
theorem LastI.sync {s : StS} {want synced : List (List (BitVec 8))} (h : LastI s want synced) : LastI s.synced want want := by
  refine ⟨h.ok.synced, ?_, ?_, h.lw, h.lw, fun j hj hne => ?_, fun j hj hne => ?_⟩
  · show (newest s.L s.W).length = 8
    rw [newest_length]
    exact h.eight
  · show lessCall s.C = _
    rw [h.endless]
    rfl
  · exact h.want j hj hne
  · exact h.want j hj hne
theorem LastI.read {s : StS} {want synced : List (List (BitVec 8))} (h : LastI s want synced) (k : Nat) : LastI (s.told k) want synced :=
  ⟨h.ok.told k, h.eight, h.endless, h.lw, h.ls, h.want, h.last⟩
/-- Behind a crash: what was synced, and did not wait, lasts. -/
theorem LastI.crash {s : StS} {want synced : List (List (BitVec 8))} (h : LastI s want synced) (keep : List Bool) (t c : Int) {k : Nat} (hk : k < 8) (hs : synced.getD k [] ≠ [])
    (hw : ∀ x ∈ s.W, x.1 ≠ k) : (s.crashed keep t c).new'.getD k [] = synced.getD k [] := by
  have h1 : (s.crashed keep t c).new'[k]? = s.L[k]? := laid_other _ 0 s.W s.L k hw
  rw [List.getD_eq_getElem?_getD, h1, ← List.getD_eq_getElem?_getD]
  exact h.last k hk hs
end Go.Proofs.Ytdmnhgbdeifpbaa
