/-
  HMAC as plain functions on lists of bytes.
-/
import Derived.Test.YtmdacfbhfacniaaDoorShaBits
namespace Go.Proofs.YtmdacfbhfacniaaDoor
open Go.RowKit

/-- The sum of some bytes, as bytes. -/
def shaL (l : List (BitVec 8)) : List (BitVec 8) := (List.range 32).map (byteAt (shaSt l))
theorem shaL_length (l : List (BitVec 8)) : (shaL l).length = 32 := by simp [shaL]
theorem Spell_is (s : St) : Spell s = (((List.range 32).map (byteAt s)).map B).toArray := by
  apply Array.ext
  · simp [Spell]
  · intro i h1 h2
    simp [Spell]
theorem ShaA_is (l : List (BitVec 8)) : ShaA l = ((shaL l).map B).toArray := Spell_is (shaSt l)
theorem ShaA_size (l : List (BitVec 8)) : (ShaA l).size = 32 := by simp [ShaA, Spell]

/-- A key of at most 64 bytes. -/
def shortL (k : List (BitVec 8)) : List (BitVec 8) := if 64 < k.length then shaL k else k
theorem shortL_long {k : List (BitVec 8)} (h : 64 < k.length) : shortL k = shaL k := if_pos h
theorem shortL_short {k : List (BitVec 8)} (h : k.length ≤ 64) : shortL k = k := if_neg (by omega)
theorem shortL_length (k : List (BitVec 8)) : (shortL k).length ≤ 64 := by
  unfold shortL
  split
  · rw [shaL_length]; omega
  · omega
/-- A key brought to 64 bytes. -/
def keyL (k : List (BitVec 8)) : List (BitVec 8) := shortL k ++ List.replicate (64 - (shortL k).length) 0
theorem keyL_length (k : List (BitVec 8)) : (keyL k).length = 64 := by
  have := shortL_length k
  simp [keyL]
  omega
def xorL (x : BitVec 8) (l : List (BitVec 8)) : List (BitVec 8) := l.map (· ^^^ x)
theorem xorL_length (x : BitVec 8) (l : List (BitVec 8)) : (xorL x l).length = l.length := by simp [xorL]
def ipad (k : List (BitVec 8)) : List (BitVec 8) := xorL 0x36 (keyL k)
def opad (k : List (BitVec 8)) : List (BitVec 8) := xorL 0x5c (keyL k)
theorem ipad_length (k : List (BitVec 8)) : (ipad k).length = 64 := by rw [ipad, xorL_length, keyL_length]
theorem opad_length (k : List (BitVec 8)) : (opad k).length = 64 := by rw [opad, xorL_length, keyL_length]
/-- What the outer sum is of. -/
def outerL (ik ok m : List (BitVec 8)) : List (BitVec 8) := ok ++ shaL (ik ++ m)
theorem outerL_length (ik ok m : List (BitVec 8)) : (outerL ik ok m).length = ok.length + 32 := by rw [outerL, List.length_append, shaL_length]
def macL (k m : List (BitVec 8)) : List (BitVec 8) := outerL (ipad k) (opad k) m
theorem macL_length (k m : List (BitVec 8)) : (macL k m).length = 96 := by rw [macL, outerL_length, opad_length]

theorem gl_at (l : List (BitVec 8)) (i : Nat) (h : i < l.length) : l[i]? = some (gl l i) := by simp [gl, h]
theorem list_map_at (l : List (BitVec 8)) (i : Nat) (h : i < l.length) : ((l.map B).toArray)[i]? = some (B (gl l i)) := by simp [gl, h]
/-- A row of bytes is a source. -/
theorem src_row {w : World} {g : Nat} {e : TypeId} {fr : Nat × Nat} {m : List (BitVec 8)} (hg : w.heap[g]? = some (.cells ((m.map B).toArray) e fr)) : SrcP w (some ⟨g, 0, none⟩) m.length m :=
  src_new hg fun i hi => list_map_at m i hi
theorem row_one (m : List (BitVec 8)) : ((m.map B).toArray).all (·.oneCell') = true := by
  rw [Array.all_eq_true]
  intro i hi
  simp [B_oneCell]
theorem row_size (m : List (BitVec 8)) : ((m.map B).toArray).size = m.length := by simp
end Go.Proofs.YtmdacfbhfacniaaDoor
