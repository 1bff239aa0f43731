/-
  The contract of the reference's Bytes: a right query's.
-/
import Derived.Test.YteoolfifpmbkeaaDoorQueryRight
import Derived.Test.YteoolfifpmbkeaaDoorRefPen
namespace Go.Proofs.YteoolfifpmbkeaaDoor
open Go Go.RowKit

/-- The bytes of the first j of some numbers. -/
def preB (ns : List Nat) (j : Nat) : List (BitVec 8) := (ns.take j).flatMap wordL
theorem preB_next (ns : List Nat) (j : Nat) (h : j < ns.length) : preB ns (j + 1) = preB ns j ++ wordL (ns.getD j 0) := by
  rw [preB, preB, List.take_succ_eq_append_getElem h, List.flatMap_append]
  simp [h]
theorem preB_len (ns : List Nat) (j : Nat) : (preB ns j).length ≤ 10 * j := by
  have key : ∀ l : List Nat, (l.flatMap wordL).length ≤ 10 * l.length := by
    intro l
    induction l with
    | nil => simp
    | cons x l ih =>
      have := wordL_length x
      rw [List.flatMap_cons, List.length_append, List.length_cons]
      omega
  have h1 := key (ns.take j)
  have h2 : (ns.take j).length ≤ j := List.length_take_le _ _
  unfold preB
  omega
def QBRel (w1 : World) (ns : List Nat) (i s : Value) (wr : World) : Prop := ∃ j : Nat, j ≤ 6 ∧ i = .int .i64 (j : Int) ∧ s = Sv (preB ns j) ∧ Below w1.heap.size w1 wr
theorem six_at (w : World) (n0 n1 n2 n3 n4 n5 j : Nat) (hj : j < 6) : (w.alloc (Obj.cells #[.int .i64 (n0 : Int), .int .i64 (n1 : Int), .int .i64 (n2 : Int), .int .i64 (n3 : Int), .int .i64 (n4 : Int), .int .i64 (n5 : Int)] 3)).cell? ⟨w.heap.size, j, none⟩ = some (.int .i64 (([n0, n1, n2, n3, n4, n5].getD j 0 : Nat) : Int)) := by
  rw [cell_of_row _ _ _ _ _ _ (heap_alloc_new w _)]
  obtain rfl | rfl | rfl | rfl | rfl | rfl : j = 0 ∨ j = 1 ∨ j = 2 ∨ j = 3 ∨ j = 4 ∨ j = 5 := by omega
  all_goals rfl
set_option maxRecDepth 100000 in
set_option maxHeartbeats 2000000 in
theorem rqBytes_yes (w : World) (q : QueryL) (hr : q.rightB = true) : Calls Tryd.prog 13 #[.agg q.cells] w (Below0 w (Sv q.bytes)) := by
  obtain ⟨b1, b2, b3, b4, b5, b6, b7, b8, b9, b10, b11, b12⟩ := rightQ_bd hr
  obtain ⟨w1, hw1⟩ : ∃ W, W = w.alloc (.cells q.cells 23) := ⟨_, rfl⟩
  have HB : Hid (Below w.heap.size w w1) := by rw [hw1]; exact (Below.refl _ w).alloc (Nat.le_refl _) _
  have HC : Hid (∀ w', Below w1.heap.size w1 w' → ∀ i v, q.cells[i]? = some v → w'.cell? ⟨w.heap.size, i, none⟩ = some v) := by rw [hw1]; exact Lib.hid (box_cells w q)
  clear hr
  obtain ⟨kind, size, slide, late, agg, k⟩ := q
  simp only at b1 b2 b3 b4 b5 b6 b7 b8 b9 b10 b11 b12
  obtain ⟨n0, rfl⟩ : ∃ n : Nat, kind = (n : Int) := ⟨kind.toNat, by omega⟩
  obtain ⟨n1, rfl⟩ : ∃ n : Nat, size = (n : Int) := ⟨size.toNat, by omega⟩
  obtain ⟨n2, rfl⟩ : ∃ n : Nat, slide = (n : Int) := ⟨slide.toNat, by omega⟩
  obtain ⟨n3, rfl⟩ : ∃ n : Nat, late = (n : Int) := ⟨late.toNat, by omega⟩
  obtain ⟨n4, rfl⟩ : ∃ n : Nat, agg = (n : Int) := ⟨agg.toNat, by omega⟩
  obtain ⟨n5, rfl⟩ : ∃ n : Nat, k = (n : Int) := ⟨k.toNat, by omega⟩
  obtain ⟨ns, hns⟩ : ∃ l, l = [n0, n1, n2, n3, n4, n5] := ⟨_, rfl⟩
  have hlt9 : ∀ j < 6, ns.getD j 0 < 9223372036854775808 := by
    intro j hj
    rw [hns]
    obtain rfl | rfl | rfl | rfl | rfl | rfl : j = 0 ∨ j = 1 ∨ j = 2 ∨ j = 3 ∨ j = 4 ∨ j = 5 := by omega
    all_goals (simp; omega)
  obtain ⟨T, hT⟩ : ∃ T, T = (QueryL.mk (n0 : Int) n1 n2 n3 n4 n5).bytes := ⟨_, rfl⟩
  have HT : Hid (T = preB ns 6) := by
    rw [hT, hns]
    refine Lib.hid ?_
    simp [QueryL.bytes, numberL, preB, List.append_assoc]
  have HNs : Hid (∀ j < 6, ns.getD j 0 < 9223372036854775808) := Lib.hid hlt9
  have HLs : Hid (ns.length = 6) := by rw [hns]; exact Lib.hid rfl
  have HAt : Hid (∀ w : World, ∀ j < 6, (w.alloc (Obj.cells #[.int .i64 (n0 : Int), .int .i64 (n1 : Int), .int .i64 (n2 : Int), .int .i64 (n3 : Int), .int .i64 (n4 : Int), .int .i64 (n5 : Int)] 3)).cell? ⟨w.heap.size, j, none⟩ = some (.int .i64 ((ns.getD j 0 : Nat) : Int))) := by
    rw [hns]
    exact Lib.hid (fun w j hj => six_at w n0 n1 n2 n3 n4 n5 j hj)
  rw [← hT]
  have c0 := HC.out w1 (Below.refl _ _) 0 _ rfl
  have c1 := HC.out w1 (Below.refl _ _) 1 _ rfl
  have c2 := HC.out w1 (Below.refl _ _) 2 _ rfl
  have c3 := HC.out w1 (Below.refl _ _) 3 _ rfl
  have c4 := HC.out w1 (Below.refl _ _) 4 _ rfl
  have c5 := HC.out w1 (Below.refl _ _) 5 _ rfl
  unfold QueryL.cells at hw1 HC c0 c1 c2 c3 c4 c5 ⊢
  clear hT hns hlt9 b1 b2 b3 b4 b5 b6 b7 b8 b9 b10 b11 b12
  go_enter Tryd.func13, Tryd.ntmps13
  go_upto_region 1 with (fail)
  rw [← hw1]
  clear hw1
  go_wp2_with (fail)
  obtain ⟨g, hg⟩ : ∃ g, g = w1.heap.size := ⟨_, rfl⟩
  obtain ⟨wl, hwl⟩ : ∃ W, W = w1.alloc (Obj.cells #[.int .i64 (n0 : Int), .int .i64 (n1 : Int), .int .i64 (n2 : Int), .int .i64 (n3 : Int), .int .i64 (n4 : Int), .int .i64 (n5 : Int)] 3) := ⟨_, rfl⟩
  have HW : Hid (Below w1.heap.size w1 wl ∧ ∀ w', Below wl.heap.size wl w' → ∀ j < 6, w'.cell? ⟨g, j, none⟩ = some (.int .i64 ((ns.getD j 0 : Nat) : Int))) := by
    have hc := HAt.out w1
    rw [← hwl, ← hg] at hc
    have hb : Below w1.heap.size w1 wl := by rw [hwl]; exact (Below.refl _ w1).alloc (Nat.le_refl _) _
    exact Lib.hid ⟨hb, fun w' h j hj => (h.cell (block_lt_of_cell (hc j hj))).trans (hc j hj)⟩
  rw [← hwl, ← hg]
  clear hwl hg c0 c1 c2 c3 c4 c5
  go_loopw [20, 3] (QBRel wl ns) (fun i _ _ => 6 - (intOf i).toNat)
  case atStart => exact ⟨0, by omega, rfl, rfl, Below.refl _ _⟩
  case round =>
    obtain ⟨j, hj, rfl, rfl, hB⟩ := hrel
    have HBw := Lib.hid hB
    clear hB
    by_cases hlt : j < 6
    · have hc := HW.out.2 _ HBw.out j hlt
      obtain ⟨n, hn⟩ : ∃ n, n = ns.getD j 0 := ⟨_, rfl⟩
      have hn9 := HNs.out j hlt
      have hnx := preB_next ns j (by rw [HLs.out]; exact hlt)
      rw [← hn] at hc hn9 hnx
      have hpl := preB_len ns j
      have hwl2 := wordL_length n
      obtain ⟨p, hp⟩ : ∃ p, p = preB ns j := ⟨_, rfl⟩
      obtain ⟨p2, hp2⟩ : ∃ p, p = preB ns (j + 1) := ⟨_, rfl⟩
      rw [← hp, ← hp2] at hnx
      rw [← hp] at hpl ⊢
      have HA : Hid (∀ w, (binOp .add 9 (Sv p) (Sv (wordL n))).run Tryd.prog w = .ok (Sv p2) w) := Lib.hid (fun w => by rw [hnx]; exact run_add_Sv w p (wordL n) (by omega))
      have HN : Hid (∀ w', Calls Tryd.prog 27 #[.int .i64 (n : Int)] w' (Below0 w' (Sv (wordL n)))) := Lib.hid (fun w' => rpNumber_any w' n hn9)
      have HP2 := Lib.hid hp2
      clear hn hn9 hnx hpl hwl2 hp hp2
      go_wp2_with (fail)
      refine (HN.out _).mono ?_
      rintro e w3 ⟨rfl, hB⟩
      have H3 := Lib.hid (HBw.out.trans (hB.mono HBw.out.size))
      have h1 := HA.out
      clear hB hc
      dsimp only
      go_wp2_with (fail)
      go_roundw
      case rel => exact ⟨j + 1, hlt, by go_num, by rw [HP2.out], H3.out⟩
      case measure => simp [intOf]; omega
    · obtain rfl : j = 6 := by omega
      rw [← HT.out]
      clear hlt hj
      go_wp2_with (fail)
      go_ret
      exact ⟨rfl, HB.out.trans ((HW.out.1.trans (HBw.out.mono HW.out.1.size)).mono HB.out.size)⟩
end Go.Proofs.YteoolfifpmbkeaaDoor
