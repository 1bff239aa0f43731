/-
  Part 3 of 42 of what the proof leans on.
-/
import Derived.Test.YtdmnhgbdeifpbaaDoorO2
import Derived.Lib.LaidTab
import Derived.Lib.AppendIntMem
namespace Go.Proofs.YtdmnhgbdeifpbaaDoor
open Go.RowKit
def nameC (c : Nat) : Bool := decide ((97 ≤ c ∧ c ≤ 122) ∨ (48 ≤ c ∧ c ≤ 57) ∨ c = 45)
def nameB (s : List (BitVec 8)) : Bool := (s.all fun c => nameC c.toNat) && decide (1 ≤ s.length ∧ s.length ≤ 16)
structure ItemL where
  kind : Int
  key : List (BitVec 8)
  time : Int
  value : Int
def ItemL.cells (x : ItemL) : Array Value := #[.int .i64 x.kind, Sv x.key, .int .i64 x.time, .int .i64 x.value]
def ItemL.rightB (x : ItemL) : Bool :=
  decide (0 ≤ x.time ∧ x.time ≤ 1099511627776) && if x.kind = 2 then decide (x.key = [] ∧ x.value = 0) else decide (x.kind = 1) && nameB x.key && decide (-1099511627776 ≤ x.value ∧ x.value ≤ 1099511627776)
def ItemL.bytes (x : ItemL) : List (BitVec 8) :=
  if x.kind = 2 then wordL 2 ++ numberL x.time else wordL 1 ++ textL x.key ++ numberL x.time ++ signedL x.value
def listL (l : List ItemL) : List (BitVec 8) := wordL (l.filter (·.rightB)).length ++ (l.filter (·.rightB)).flatMap (·.bytes)
theorem nameB_step (s : List (BitVec 8)) (k : Nat) (h : k < s.length) : (s.take (k + 1)).all (fun c => nameC c.toNat) = ((s.take k).all (fun c => nameC c.toNat) && nameC (gl s k).toNat) := by
  rw [List.take_succ_eq_append_getElem h, List.all_append]; simp [gl, h]
theorem nameB_bad (s : List (BitVec 8)) (k : Nat) (h : k < s.length) (hb : nameC (gl s k).toNat = false) : nameB s = false := by
  unfold nameB
  have : s.all (fun c => nameC c.toNat) = false := by
    rw [Bool.eq_false_iff]; intro ha; rw [List.all_eq_true] at ha
    have := ha (gl s k) (by simp [gl, h])
    rw [this] at hb
    cases hb
  rw [this]; rfl
end Go.Proofs.YtdmnhgbdeifpbaaDoor
