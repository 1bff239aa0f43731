/-
  Part 26 of 53 of what the proof leans on.
-/
import Derived.Test.YtjeeghafachebaaGreatG21
import Derived.Deep.CutBlock
import Derived.Test.YtjeeghafachebaaGreatG16
namespace Go.Proofs.YtjeeghafachebaaGreat
open Go Go.RowKit
end Go.Proofs.YtjeeghafachebaaGreat
namespace Go.Proofs.YtjeeghafachebaaGreat
open Go Go.RowKit
def hullTo (l : List WindowL) (x : WindowL) (j : Nat) : WindowL := (l.take j).foldl (hullW x) x
def restTo (l : List WindowL) (x : WindowL) (j : Nat) : List WindowL := (l.take j).filter fun o => !joinsB o x
def gaveTo (l : List WindowL) (x : WindowL) (j : Nat) : List Nat := (List.range j).filter fun i => joinsB (l.getD i zeroW) x
theorem hullTo_succ {l : List WindowL} {x o : WindowL} {j : Nat} (h : l[j]? = some o) : hullTo l x (j + 1) = hullW x (hullTo l x j) o := by
  rw [hullTo, List.take_add_one, h, List.foldl_append]; rfl
theorem restTo_succ {l : List WindowL} {x o : WindowL} {j : Nat} (h : l[j]? = some o) : restTo l x (j + 1) = restTo l x j ++ (if joinsB o x = true then [] else [o]) := by
  rw [restTo, List.take_add_one, h, List.filter_append]
  congr 1
  cases hj : joinsB o x <;> simp [hj]
theorem gaveTo_succ {l : List WindowL} {x o : WindowL} {j : Nat} (h : l[j]? = some o) : gaveTo l x (j + 1) = gaveTo l x j ++ (if joinsB o x = true then [j] else []) := by
  rw [gaveTo, List.range_succ, List.filter_append]
  congr 1
  have : l.getD j zeroW = o := atW_some h
  cases hj : joinsB o x <;> simp only [List.filter_cons, List.filter_nil, this, hj] <;> rfl
theorem restTo_le (l : List WindowL) (x : WindowL) (j : Nat) : (restTo l x j).length ≤ j := Nat.le_trans (List.length_filter_le _ _) (by simp; omega)
theorem gaveTo_le (l : List WindowL) (x : WindowL) (j : Nat) : (gaveTo l x j).length ≤ j := Nat.le_trans (List.length_filter_le _ _) (by simp)
theorem hullTo_all (l : List WindowL) (x : WindowL) : hullTo l x l.length = became l x := by rw [hullTo, List.take_length]; rfl
theorem restTo_all (l : List WindowL) (x : WindowL) : restTo l x l.length = restW l x := by rw [restTo, List.take_length]; rfl
theorem gaveTo_all (l : List WindowL) (x : WindowL) : gaveTo l x l.length = gaveW l x := rfl
def TakeEnd (w : World) (l : List WindowL) (x : WindowL) (g : List Nat) (e : Ending) (w' : World) : Prop :=
  ∃ v u, e = .returned (.tuple #[v, .agg x.cells, u]) ∧ OwnW w' w.heap.size v l ∧ OwnN w' w.heap.size u g ∧ Below w.heap.size w w'
end Go.Proofs.YtjeeghafachebaaGreat
namespace Go.Proofs.YtjeeghafachebaaGreat
open Go Go.RowKit
end Go.Proofs.YtjeeghafachebaaGreat
