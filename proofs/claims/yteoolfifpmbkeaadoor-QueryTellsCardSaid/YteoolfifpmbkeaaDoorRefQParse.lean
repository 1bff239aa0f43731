/-
  The contract of the reference's Parse of a query.
-/
import Derived.Test.YteoolfifpmbkeaaDoorQueryBack
import Derived.Test.YteoolfifpmbkeaaDoorRefQRight
import Derived.Test.YteoolfifpmbkeaaDoorRefQText
import Derived.Test.YteoolfifpmbkeaaDoorRefSplit
import Derived.Test.YteoolfifpmbkeaaDoorRefNumber
import Derived.Deep.CutBlock
namespace Go.Proofs.YteoolfifpmbkeaaDoor
open Go Go.RowKit

theorem splitQ_len (s : List (BitVec 8)) : ∀ x ∈ splitL s, x.length ≤ s.length := by
  have key : ∀ (l : List (BitVec 8)) (p : List (List (BitVec 8)) × List (BitVec 8)) (m : Nat), (∀ x ∈ p.1, x.length ≤ m) → p.2.length ≤ m → ∀ x ∈ (l.foldl splitStep p).1 ++ [(l.foldl splitStep p).2], x.length ≤ m + l.length := by
    intro l
    induction l with
    | nil =>
      intro p m h1 h2 x hx
      rcases List.mem_append.1 hx with hx | hx
      · have := h1 x hx
        simp
        omega
      · rw [List.mem_singleton.1 hx]
        simp
        exact h2
    | cons c l ih =>
      intro p m h1 h2 x hx
      rw [List.foldl_cons] at hx
      have := ih (splitStep p c) (m + 1) (by
        unfold splitStep
        split
        · intro y hy
          rcases List.mem_append.1 hy with hy | hy
          · have := h1 y hy; omega
          · rw [List.mem_singleton.1 hy]; omega
        · intro y hy
          have := h1 y hy; omega) (by
        unfold splitStep
        split
        · simp
        · simp; omega) x hx
      rw [List.length_cons]
      omega
  intro x hx
  have := key s ([], []) 0 (by simp) (by simp) x hx
  omega
theorem splitQ_count : ∀ ws : List (List (BitVec 8)), ws.length ≤ (joinL ws).length + 1
  | [] => by simp
  | [_] => by simp
  | a :: b :: r => by
    have := splitQ_count (b :: r)
    rw [joinL]
    simp only [List.length_append, List.length_cons] at this ⊢
    have e : bBlank.length = 1 := rfl
    omega
theorem infoInt : (Tryd.prog.info? 3).map (fun i => (i.zero, i.size, i.bytes)) = some (some (.int .i64 0), 1, 8) := by kernel_rfl
/-- The reference's state: the result's row at w's end, the words at g, the query's row at qb. -/
def RP (w : World) (g qb : Nat) (ws : List (List (BitVec 8))) (q : QueryL) (w' : World) : Prop :=
  Below w.heap.size w w' ∧ w'.heap[w.heap.size]? = some (.cells zeroQ.cells 23 (0, 0)) ∧ w'.heap[qb]? = some (.cells q.cells 23 (0, 0)) ∧ WordsAt w' g ws ∧ w.heap.size < g ∧ g < qb
theorem RP.below {w w' w2 : World} {g qb : Nat} {ws : List (List (BitVec 8))} {q : QueryL} (h : RP w g qb ws q w') (hB : Below w'.heap.size w' w2) : RP w g qb ws q w2 := by
  obtain ⟨h1, h2, h3, h4, h5, h6⟩ := h
  exact ⟨h1.trans (hB.mono h1.size), (hB.block _ (Array.getElem?_eq_some_iff.1 h2).1).trans h2, (hB.block _ (Array.getElem?_eq_some_iff.1 h3).1).trans h3, fun j x hj => (hB.cell (block_lt_of_cell (h4 j x hj))).trans (h4 j x hj), h5, h6⟩
theorem RP.own {w w' w2 : World} {g qb : Nat} {ws : List (List (BitVec 8))} {q : QueryL} {row : Option Nat} (h : RP w g qb ws q w') (hg : w'.grownBy w2 row) (hne : ∀ k, row = some k → qb < k) : RP w g qb ws q w2 := by
  obtain ⟨h1, h2, h3, h4, h5, h6⟩ := h
  have far : ∀ k, k ≤ qb → some k ≠ row := fun k hk e => by have := hne k e.symm; omega
  refine ⟨h1.trans ⟨hg.os, hg.tape, hg.output, Nat.le_trans (Nat.le_refl _) hg.size, fun k hk => hg.block k (Nat.lt_of_lt_of_le hk h1.size) (far k (by omega))⟩, (hg.block _ (Array.getElem?_eq_some_iff.1 h2).1 (far _ (by omega))).trans h2, (hg.block _ (Array.getElem?_eq_some_iff.1 h3).1 (far _ (Nat.le_refl _))).trans h3, fun j x hj => ?_, h5, h6⟩
  exact hg.cell (h4 j x hj) (far g (by omega))
theorem RP.cell {w w' : World} {g qb : Nat} {ws : List (List (BitVec 8))} {q : QueryL} (h : RP w g qb ws q w') (i : Nat) {v : Value} (hi : q.cells[i]? = some v) : w'.cell? ⟨qb, i, none⟩ = some v := by
  rw [cell_of_row _ _ _ _ _ _ h.2.2.1]
  exact hi
theorem RP.fro {w w' : World} {g qb : Nat} {ws : List (List (BitVec 8))} {q : QueryL} (h : RP w g qb ws q w') (i : Nat) : w'.frozen? ⟨qb, i, none⟩ = false := frozen_of_row _ _ _ _ _ h.2.2.1
theorem RP.set {w w' : World} {g qb : Nat} {ws : List (List (BitVec 8))} {q q2 : QueryL} (h : RP w g qb ws q w') (i : Nat) (v : Value) (hy : q2.cells = q.cells.setIfInBounds i v) : RP w g qb ws q2 (w'.setCell ⟨qb, i, none⟩ v) := by
  obtain ⟨h1, h2, h3, h4, h5, h6⟩ := h
  refine ⟨h1.trans ⟨rfl, rfl, rfl, by simp [World.setCell], fun k hk => heap_setCell_other _ _ _ _ (by show k ≠ qb; omega)⟩, (heap_setCell_other _ _ _ _ (by show w.heap.size ≠ qb; omega)).trans h2, ?_, fun j x hj => ?_, h5, h6⟩
  · rw [hy]
    exact heap_setCell_same _ _ _ _ _ _ h3
  · exact cell_of_heap (h4 j x hj) (heap_setCell_other _ _ _ _ (by show g ≠ qb; omega))
theorem RP.fin {w w' : World} {g qb : Nat} {ws : List (List (BitVec 8))} {q : QueryL} (h : RP w g qb ws q w') (cs : Array Value) : Below w.heap.size w (w'.setRow w.heap.size cs) ∧ (w'.setRow w.heap.size cs).heap[w.heap.size]? = some (.cells cs 23 (0, 0)) :=
  ⟨h.1.trans ⟨rfl, rfl, rfl, by simp [World.setRow], fun k hk => setRow_other _ _ _ _ (by omega)⟩, setRow_heap _ _ _ _ _ _ h.2.1⟩
/-- A number that a search has found by place i; 0: not yet. -/
def upTo (k : Int) (i : Nat) : Int := if k ≤ i then k else 0
theorem kind_is (w : List (BitVec 8)) (i : Nat) (h : i < 3) : w = kindsL.getD (i + 1) [] ↔ kindOf w = (i : Int) + 1 := by
  have e : kindsL.getD (i + 1) [] = kindW ((i : Int) + 1) := by rw [kindW_at (i + 1) (by omega)]; rfl
  rw [e]
  constructor
  · intro hw
    rw [hw]
    exact kindOf_W (by omega)
  · intro hk
    rw [← hk]
    exact (kindW_of (by omega)).symm
theorem agg_is (w : List (BitVec 8)) (i : Nat) (h : i < 7) : w = aggsL.getD (i + 1) [] ↔ aggOf w = (i : Int) + 1 := by
  have e : aggsL.getD (i + 1) [] = aggW ((i : Int) + 1) := by rw [aggW_at (i + 1) (by omega)]; rfl
  rw [e]
  constructor
  · intro hw
    rw [hw]
    exact aggOf_W (by omega)
  · intro hk
    rw [← hk]
    exact (aggW_of (by omega)).symm
theorem kindOf_bd (w : List (BitVec 8)) : 0 ≤ kindOf w ∧ kindOf w ≤ 3 := by
  unfold kindOf
  repeat' split
  all_goals omega
theorem aggOf_bd (w : List (BitVec 8)) : 0 ≤ aggOf w ∧ aggOf w ≤ 7 := by
  unfold aggOf
  repeat' split
  all_goals omega
theorem upTo_hit {k : Int} {i : Nat} (h : k = (i : Int) + 1) : upTo k (i + 1) = (i : Int) + 1 := by unfold upTo; rw [if_pos (by omega), h]
theorem upTo_miss {k : Int} {i : Nat} (h : k ≠ (i : Int) + 1) : upTo k (i + 1) = upTo k i := by
  unfold upTo
  by_cases h1 : k ≤ i
  · rw [if_pos h1, if_pos (by omega)]
  · rw [if_neg h1, if_neg (by omega)]
theorem words3_at (w : World) (j : Nat) (hj : j < 3) : (w.alloc (Obj.cells #[.string ⟨#[116, 117, 109, 98, 108, 105, 110, 103]⟩, .string ⟨#[115, 108, 105, 100, 105, 110, 103]⟩, .string ⟨#[115, 101, 115, 115, 105, 111, 110]⟩] 9)).cell? ⟨w.heap.size, j, none⟩ = some (Sv (kindsL.getD (j + 1) [])) := by
  rw [cell_of_row _ _ _ _ _ _ (heap_alloc_new w _)]
  obtain rfl | rfl | rfl : j = 0 ∨ j = 1 ∨ j = 2 := by omega
  all_goals rfl
/-- A row of words behind the query's row. -/
def RowAt (g : Nat) (l : List (List (BitVec 8))) (n : Nat) (w : World) : Prop := ∀ j < n, w.cell? ⟨g, j, none⟩ = some (Sv (l.getD (j + 1) []))
theorem RowAt.set {g qb n : Nat} {l : List (List (BitVec 8))} {w : World} {i : Nat} {v : Value} (h : RowAt g l n w) (hne : qb < g) : RowAt g l n (w.setCell ⟨qb, i, none⟩ v) := fun j hj =>
  cell_of_heap (h j hj) (heap_setCell_other _ _ _ _ (by show g ≠ qb; omega))
def RPRel1 (w : World) (g qb g3 : Nat) (ws : List (List (BitVec 8))) (kd : Int) (i : Value) (wr : World) : Prop :=
  ∃ j : Nat, j ≤ 3 ∧ i = .int .i64 (j : Int) ∧ RP w g qb ws ⟨upTo kd j, 0, 0, 0, 0, 0⟩ wr ∧ RowAt g3 kindsL 3 wr
def RPRel3 (w : World) (g qb g7 : Nat) (ws : List (List (BitVec 8))) (kd n0 sl lt ag : Int) (i : Value) (wr : World) : Prop :=
  ∃ j : Nat, j ≤ 7 ∧ i = .int .i64 (j : Int) ∧ RP w g qb ws ⟨kd, n0, sl, lt, upTo ag j, 0⟩ wr ∧ RowAt g7 aggsL 7 wr
/-- Behind the numbers: those read by now, and where the rest begins. -/
def RPNums (w : World) (g qb : Nat) (wd : List (BitVec 8)) (r : List (List (BitVec 8))) (kd : Int) (v i : Value) (wr : World) : Prop :=
  ∃ (j : Nat) (ns : List Int), j ≤ r.length ∧ ns.length = j ∧ i = .int .i64 ((j : Int) + 1) ∧ Own wr (qb + 1) 3 v (ns.map fun n => .int .i64 n) ∧ RP w g qb (wd :: r) ⟨kd, 0, 0, 0, 0, 0⟩ wr ∧ numsF r [] = numsF (r.drop j) ns
def RPCut (w : World) (g qb : Nat) (wd : List (BitVec 8)) (r : List (List (BitVec 8))) (kd : Int) (v i : Value) (wr : World) : Prop :=
  ∃ (j : Nat) (ns : List Int), j ≤ r.length ∧ ns.length = j ∧ i = .int .i64 ((j : Int) + 1) ∧ Own wr (qb + 1) 3 v (ns.map fun n => .int .i64 n) ∧ RP w g qb (wd :: r) ⟨kd, 0, 0, 0, 0, 0⟩ wr ∧ numsF r [] = some (ns, r.drop j)
set_option maxRecDepth 100000 in
set_option maxHeartbeats 8000000 in
theorem rqParse_any (w : World) (s : List (BitVec 8)) (hl : s.length ≤ 900) :
    Calls Tryd.prog 9 #[Sv s] w (Below0 w (.tuple #[.agg (parseQ s).1.cells, .bool (parseQ s).2])) := by
  obtain ⟨w0, hw0⟩ : ∃ W, W = w.alloc (.cells #[.int .i64 0, .int .i64 0, .int .i64 0, .int .i64 0, .int .i64 0, .int .i64 0] 23) := ⟨_, rfl⟩
  have H0 : Hid (Below w.heap.size w w0 ∧ w0.heap[w.heap.size]? = some (.cells zeroQ.cells 23 (0, 0))) := by
    rw [hw0]
    exact Lib.hid ⟨(Below.refl _ w).alloc (Nat.le_refl _) _, heap_alloc_new w _⟩
  have HS := Lib.hid (erSplit_cap w0 s hl)
  have hlen := splitQ_len s
  have hne : splitL s ≠ [] := by unfold splitL; simp
  obtain ⟨P, hP⟩ : ∃ P, P = Below0 w (.tuple #[.agg (parseQ s).1.cells, .bool (parseQ s).2]) := ⟨_, rfl⟩
  rw [← hP]
  rw [← refQ_eq] at hP
  obtain ⟨ws, hws⟩ : ∃ ws, ws = splitL s := ⟨_, rfl⟩
  rw [← hws] at HS hP hlen hne
  obtain ⟨wd, r, rfl⟩ : ∃ a b, ws = a :: b := by
    cases ws with
    | nil => exact absurd rfl hne
    | cons a b => exact ⟨a, b, rfl⟩
  have HP := Lib.hid hP
  have HLn : Hid (∀ x ∈ wd :: r, x.length ≤ 900) := Lib.hid (fun x hx => Nat.le_trans (hlen x hx) hl)
  obtain ⟨N, hN⟩ : ∃ N, N = (wd :: r).length := ⟨_, rfl⟩
  rw [← hN] at HS
  have hN1 : N = r.length + 1 := hN
  have HNl := Lib.hid hN1
  have HCn : Hid (r.length ≤ 900) := by
    have h1 := splitQ_count (wd :: r)
    rw [hws, join_split] at h1
    rw [← hws, List.length_cons] at h1
    exact Lib.hid (by omega)
  obtain ⟨kd, hkd⟩ : ∃ k, k = kindOf wd := ⟨_, rfl⟩
  have HKd := Lib.hid hkd
  clear hl hlen hne hP hws hN hN1 hkd
  go_enter Tryd.func9, Tryd.ntmps9
  go_upto_region 1 with (fail)
  rw [← hw0]
  clear hw0
  go_wp2_with (fail)
  refine HS.out.mono ?_
  rintro e w1 ⟨g, cap, rfl, hg0, hW, hB, hcap⟩
  have HCap := Lib.hid hcap
  have H1 : Hid (Below w.heap.size w w1 ∧ w1.heap[w.heap.size]? = some (.cells zeroQ.cells 23 (0, 0)) ∧ w.heap.size < g ∧ g < w1.heap.size ∧ WordsAt w1 g (wd :: r)) := by
    have h2 := (Array.getElem?_eq_some_iff.1 H0.out.2).1
    have hgl := block_lt_of_cell (hW 0 wd rfl)
    exact Lib.hid ⟨H0.out.1.trans (hB.mono H0.out.1.size), (hB.block _ h2).trans H0.out.2, by omega, hgl, hW⟩
  clear hB hW hg0 hcap
  dsimp only
  go_upto_region 3 with (fail)
  obtain ⟨qb, hqb⟩ : ∃ x, x = w1.heap.size := ⟨_, rfl⟩
  obtain ⟨w2, hw2⟩ : ∃ W, W = w1.alloc (.cells #[.int .i64 0, .int .i64 0, .int .i64 0, .int .i64 0, .int .i64 0, .int .i64 0] 23) := ⟨_, rfl⟩
  have H2 : Hid (RP w g qb (wd :: r) zeroQ w2) := by
    have hb : Below w1.heap.size w1 w2 := by rw [hw2]; exact (Below.refl _ w1).alloc (Nat.le_refl _) _
    obtain ⟨k1, k2, k3, k4, k5⟩ := H1.out
    refine Lib.hid ⟨k1.trans (hb.mono k1.size), (hb.block _ (Array.getElem?_eq_some_iff.1 k2).1).trans k2, ?_, fun j x hj => (hb.cell (block_lt_of_cell (k5 j x hj))).trans (k5 j x hj), k3, by omega⟩
    rw [hw2, hqb]
    exact heap_alloc_new _ _
  rw [← hw2, ← hqb]
  clear hw2 hqb
  go_wp2_with (fail)
  obtain ⟨g3, hg3⟩ : ∃ x, x = w2.heap.size := ⟨_, rfl⟩
  obtain ⟨w3, hw3⟩ : ∃ W, W = w2.alloc (Obj.cells #[.string ⟨#[116, 117, 109, 98, 108, 105, 110, 103]⟩, .string ⟨#[115, 108, 105, 100, 105, 110, 103]⟩, .string ⟨#[115, 101, 115, 115, 105, 111, 110]⟩] 9) := ⟨_, rfl⟩
  have H3 : Hid (RP w g qb (wd :: r) zeroQ w3 ∧ RowAt g3 kindsL 3 w3 ∧ qb < g3) := by
    rw [hw3, hg3]
    have := (Array.getElem?_eq_some_iff.1 H2.out.2.2.1).1
    exact Lib.hid ⟨H2.out.below ((Below.refl _ w2).alloc (Nat.le_refl _) _), fun j hj => words3_at w2 j hj, this⟩
  rw [← hw3, ← hg3]
  clear hw3 hg3
  go_loopw [23] (RPRel1 w g qb g3 (wd :: r) kd) (fun i _ => 3 - (intOf i).toNat)
  case atStart => exact ⟨0, by omega, rfl, by have := kindOf_bd wd; rw [show upTo kd 0 = 0 by unfold upTo; rw [HKd.out]; split <;> omega]; exact H3.out.1, H3.out.2.1⟩
  case round =>
    obtain ⟨j, hj, rfl, hA, hR⟩ := hrel
    have HA := Lib.hid (And.intro hA hR)
    clear hA hR
    by_cases hlt : j < 3
    · have c0 : wr.cell? ⟨g, 0, none⟩ = some (Sv wd) := HA.out.1.2.2.2.1 0 wd rfl
      have c1 := HA.out.2 j hlt
      obtain ⟨x, hx⟩ : ∃ x, x = kindsL.getD (j + 1) [] := ⟨_, rfl⟩
      rw [← hx] at c1
      have hN0 : (0 : Int) < (N : Int) := by have := HNl.out; omega
      have hN1 : 0 < N := by have := HNl.out; omega
      have hki := kind_is wd j hlt
      rw [← hx, ← HKd.out] at hki
      have HKi := Lib.hid hki
      clear hki hx
      by_cases hd : wd = x
      · have he : decide (wd = x) = true := decide_eq_true hd
        have HU : Hid (upTo kd (j + 1) = (j : Int) + 1) := Lib.hid (upTo_hit (HKi.out.1 hd))
        have f := HA.out.1.fro 0
        have g1 : wr.cell? ⟨qb, 0, none⟩ = _ := HA.out.1.cell 0 rfl
        clear hd
        go_wp2_with (fail)
        go_roundw
        case rel => exact ⟨j + 1, hlt, by go_num, by rw [HU.out]; exact HA.out.1.set 0 _ rfl, HA.out.2.set H3.out.2.2⟩
        case measure => simp [intOf]; omega
      · have he : decide (wd = x) = false := decide_eq_false hd
        have HU : Hid (upTo kd (j + 1) = upTo kd j) := Lib.hid (upTo_miss fun e => hd (HKi.out.2 e))
        clear hd
        go_wp2_with (fail)
        go_roundw
        case rel => exact ⟨j + 1, hlt, by go_num, by rw [HU.out]; exact HA.out.1, HA.out.2⟩
        case measure => simp [intOf]; omega
    · obtain rfl : j = 3 := by omega
      rw [show ((3 : Nat) : Int) = 3 from rfl]
      clear hlt hj
      have HA3 : Hid (RP w g qb (wd :: r) ⟨kd, 0, 0, 0, 0, 0⟩ wr) := by
        have h := HA.out.1
        rw [show upTo kd 3 = kd by have := kindOf_bd wd; unfold upTo; rw [HKd.out]; exact if_pos (by omega)] at h
        exact Lib.hid h
      clear HA
      go_upto_block 2 with (fail)
      obtain ⟨wb, rfl⟩ : ∃ x, x = wr := ⟨wr, rfl⟩
      go_cut [8, 9] from 10 to 64 (fun s8 s9 wx => RPCut w g qb wd r kd s8 s9 wx)
      case first =>
        go_wp2_with (fail)
        go_loopw [8, 9] (RPNums w g qb wd r kd) (fun _ i _ => r.length + 1 - (intOf i).toNat)
        case atStart => exact ⟨0, [], Nat.zero_le _, rfl, rfl, Own.nil _ _ _, HA3.out, rfl⟩
        case round =>
          obtain ⟨j, ns, hj, hns, rfl, hO, hA, hF⟩ := hrel
          have HO := Lib.hid (And.intro hO (And.intro hA (And.intro hF hns)))
          clear hO hA hF hns
          by_cases hlt : j < r.length
          · obtain ⟨x, hx⟩ : ∃ x, x = r[j] := ⟨_, rfl⟩
            have hdr : r.drop j = x :: r.drop (j + 1) := by rw [hx]; exact List.drop_eq_getElem_cons hlt
            have hxm : x ∈ wd :: r := by rw [hx]; exact List.mem_cons_of_mem _ (List.getElem_mem hlt)
            have hxl := HLn.out x hxm
            have c0 : wr.cell? ⟨g, j + 1, none⟩ = some (Sv x) := HO.out.2.1.2.2.2.1 (j + 1) x (by rw [List.getElem?_cons_succ, List.getElem?_eq_getElem hlt, hx])
            have hD := Lib.hid hdr
            have hNi : (j : Int) + 1 < (N : Int) := by have := HNl.out; omega
            have hNn : j + 1 < N := by have := HNl.out; omega
            clear hx hxm hdr
            by_cases hla : x = wLate
            · have hne : ∀ w, (binOp .neq 9 (Sv x) (.string ⟨#[108, 97, 116, 101]⟩)).run Tryd.prog w = .ok (.bool false) w := fun w => by
                have := run_neq_Sv w x wLate
                rw [decide_eq_true hla] at this
                exact this
              have HQ : Hid (numsF r [] = some (ns, r.drop j)) := by
                rw [HO.out.2.2.1, hD.out, numsF, if_pos hla]
                exact Lib.hid rfl
              clear hla hxl
              go_wp2_with (fail)
              go_meet
              exact ⟨j, ns, hj, HO.out.2.2.2, rfl, HO.out.1, HO.out.2.1, HQ.out⟩
            · have hne : ∀ w, (binOp .neq 9 (Sv x) (.string ⟨#[108, 97, 116, 101]⟩)).run Tryd.prog w = .ok (.bool true) w := fun w => by
                have := run_neq_Sv w x wLate
                rw [decide_eq_false hla] at this
                exact this
              obtain ⟨n, hn⟩ : ∃ n, n = (refNum x).1 := ⟨_, rfl⟩
              obtain ⟨k, hk⟩ : ∃ k, k = (refNum x).2 := ⟨_, rfl⟩
              have HNb : Hid (∀ w', Calls Tryd.prog 24 #[Sv x] w' fun e w'' => e = .returned (.tuple #[.int .i64 n, .bool k]) ∧ w'' = w') := by
                rw [hn, hk]
                exact Lib.hid (fun w' => erNumber_any w' x (by omega))
              have HE : Hid (numsF r [] = if k = true then numsF (r.drop (j + 1)) (ns ++ [n]) else none) := by
                rw [HO.out.2.2.1, hD.out, numsF, if_neg hla, hn, hk]
                exact Lib.hid rfl
              clear hla hxl hn hk
              cases k with
              | false =>
                go_wp2_with (fail)
                refine (HNb.out wr).mono ?_
                rintro e w' ⟨rfl, hw⟩
                subst w'
                dsimp only
                have HF : Hid (∀ wz, Below w.heap.size w wz → P (.returned (.tuple #[.agg zeroQ.cells, .bool false])) wz) := by
                  refine Lib.hid (fun wz h => ?_)
                  have e : refQ (wd :: r) = (zeroQ, false) := by
                    show refW wd r = _
                    rw [refW, HE.out]
                    rfl
                  rw [HP.out, e]
                  exact ⟨rfl, h⟩
                clear c0 hne
                go_upto_region 14 with (fail)
                refine wp_region_lit ?_
                first
                  | (refine wpList_store_row rfl _ _ _ rfl w.heap.size zeroQ.cells rfl rfl 23 zeroQ.cells HO.out.2.1.2.1 query_size rfl (query_one _) ?_)
                  | (iterate 1 go_step
                     refine wpList_store_row rfl _ _ _ rfl w.heap.size zeroQ.cells rfl rfl 23 zeroQ.cells HO.out.2.1.2.1 query_size rfl (query_one _) ?_)
                  | (iterate 2 go_step
                     refine wpList_store_row rfl _ _ _ rfl w.heap.size zeroQ.cells rfl rfl 23 zeroQ.cells HO.out.2.1.2.1 query_size rfl (query_one _) ?_)
                  | (iterate 3 go_step
                     refine wpList_store_row rfl _ _ _ rfl w.heap.size zeroQ.cells rfl rfl 23 zeroQ.cells HO.out.2.1.2.1 query_size rfl (query_one _) ?_)
                  | (iterate 4 go_step
                     refine wpList_store_row rfl _ _ _ rfl w.heap.size zeroQ.cells rfl rfl 23 zeroQ.cells HO.out.2.1.2.1 query_size rfl (query_one _) ?_)
                  | (iterate 5 go_step
                     refine wpList_store_row rfl _ _ _ rfl w.heap.size zeroQ.cells rfl rfl 23 zeroQ.cells HO.out.2.1.2.1 query_size rfl (query_one _) ?_)
                  | (iterate 6 go_step
                     refine wpList_store_row rfl _ _ _ rfl w.heap.size zeroQ.cells rfl rfl 23 zeroQ.cells HO.out.2.1.2.1 query_size rfl (query_one _) ?_)
                  | (iterate 7 go_step
                     refine wpList_store_row rfl _ _ _ rfl w.heap.size zeroQ.cells rfl rfl 23 zeroQ.cells HO.out.2.1.2.1 query_size rfl (query_one _) ?_)
                  | (iterate 8 go_step
                     refine wpList_store_row rfl _ _ _ rfl w.heap.size zeroQ.cells rfl rfl 23 zeroQ.cells HO.out.2.1.2.1 query_size rfl (query_one _) ?_)
                  | (iterate 9 go_step
                     refine wpList_store_row rfl _ _ _ rfl w.heap.size zeroQ.cells rfl rfl 23 zeroQ.cells HO.out.2.1.2.1 query_size rfl (query_one _) ?_)
                have HZ := Lib.hid (HO.out.2.1.fin zeroQ.cells)
                obtain ⟨wz, hwz⟩ : ∃ W, W = wr.setRow w.heap.size zeroQ.cells := ⟨_, rfl⟩
                rw [← hwz] at HZ ⊢
                clear hwz
                go_wp2_with (fail)
                exact bodyPost_ret (v := .tuple #[.agg zeroQ.cells, .bool false]) ((results_cell_row_tmp (p := 2) (u := 3) (ty := 23) rfl _ _ w.heap.size 23 zeroQ.cells (0, 0) _ rfl HZ.out.2 Tryd.underlying23 rfl query_size).trans rfl) rfl (HF.out _ HZ.out.1)
              | true =>
                go_wp2_with (fail)
                refine (HNb.out wr).mono ?_
                rintro e w' ⟨rfl, hw⟩
                subst w'
                dsimp only
                have HQl : Hid (qb < wr.heap.size) := Lib.hid (Array.getElem?_eq_some_iff.1 HO.out.2.1.2.2.1).1
                have HE2 : Hid (numsF r [] = numsF (r.drop (j + 1)) (ns ++ [n])) := by rw [HE.out]; exact Lib.hid rfl
                clear c0 hne
                go_upto_region 15 with (fail)
                refine wp_region_lit ?_
                first
                | (iterate 5 go_step
                   refine wpList_push Tryd.underlying52 infoInt rfl rfl (.tmp 59) (.tmp 61) rfl (qb + 1) _ (ns.map fun n => Value.int .i64 n) rfl (HO.out.1.alloc _) (.int .i64 n) wr.heap.size rfl (by rw [cell_of_row _ _ _ _ _ _ (heap_alloc_new wr _)]; rfl) rfl (by have := HCn.out; have := HO.out.2.2.2; simp; omega) (by have := HQl.out; simp; omega) (by omega) ?_)
                | (iterate 6 go_step
                   refine wpList_push Tryd.underlying52 infoInt rfl rfl (.tmp 59) (.tmp 61) rfl (qb + 1) _ (ns.map fun n => Value.int .i64 n) rfl (HO.out.1.alloc _) (.int .i64 n) wr.heap.size rfl (by rw [cell_of_row _ _ _ _ _ _ (heap_alloc_new wr _)]; rfl) rfl (by have := HCn.out; have := HO.out.2.2.2; simp; omega) (by have := HQl.out; simp; omega) (by omega) ?_)
                | (iterate 7 go_step
                   refine wpList_push Tryd.underlying52 infoInt rfl rfl (.tmp 59) (.tmp 61) rfl (qb + 1) _ (ns.map fun n => Value.int .i64 n) rfl (HO.out.1.alloc _) (.int .i64 n) wr.heap.size rfl (by rw [cell_of_row _ _ _ _ _ _ (heap_alloc_new wr _)]; rfl) rfl (by have := HCn.out; have := HO.out.2.2.2; simp; omega) (by have := HQl.out; simp; omega) (by omega) ?_)
                | (iterate 8 go_step
                   refine wpList_push Tryd.underlying52 infoInt rfl rfl (.tmp 59) (.tmp 61) rfl (qb + 1) _ (ns.map fun n => Value.int .i64 n) rfl (HO.out.1.alloc _) (.int .i64 n) wr.heap.size rfl (by rw [cell_of_row _ _ _ _ _ _ (heap_alloc_new wr _)]; rfl) rfl (by have := HCn.out; have := HO.out.2.2.2; simp; omega) (by have := HQl.out; simp; omega) (by omega) ?_)
                | (iterate 9 go_step
                   refine wpList_push Tryd.underlying52 infoInt rfl rfl (.tmp 59) (.tmp 61) rfl (qb + 1) _ (ns.map fun n => Value.int .i64 n) rfl (HO.out.1.alloc _) (.int .i64 n) wr.heap.size rfl (by rw [cell_of_row _ _ _ _ _ _ (heap_alloc_new wr _)]; rfl) rfl (by have := HCn.out; have := HO.out.2.2.2; simp; omega) (by have := HQl.out; simp; omega) (by omega) ?_)
                | (iterate 10 go_step
                   refine wpList_push Tryd.underlying52 infoInt rfl rfl (.tmp 59) (.tmp 61) rfl (qb + 1) _ (ns.map fun n => Value.int .i64 n) rfl (HO.out.1.alloc _) (.int .i64 n) wr.heap.size rfl (by rw [cell_of_row _ _ _ _ _ _ (heap_alloc_new wr _)]; rfl) rfl (by have := HCn.out; have := HO.out.2.2.2; simp; omega) (by have := HQl.out; simp; omega) (by omega) ?_)
                | (iterate 11 go_step
                   refine wpList_push Tryd.underlying52 infoInt rfl rfl (.tmp 59) (.tmp 61) rfl (qb + 1) _ (ns.map fun n => Value.int .i64 n) rfl (HO.out.1.alloc _) (.int .i64 n) wr.heap.size rfl (by rw [cell_of_row _ _ _ _ _ _ (heap_alloc_new wr _)]; rfl) rfl (by have := HCn.out; have := HO.out.2.2.2; simp; omega) (by have := HQl.out; simp; omega) (by omega) ?_)
                | (iterate 12 go_step
                   refine wpList_push Tryd.underlying52 infoInt rfl rfl (.tmp 59) (.tmp 61) rfl (qb + 1) _ (ns.map fun n => Value.int .i64 n) rfl (HO.out.1.alloc _) (.int .i64 n) wr.heap.size rfl (by rw [cell_of_row _ _ _ _ _ _ (heap_alloc_new wr _)]; rfl) rfl (by have := HCn.out; have := HO.out.2.2.2; simp; omega) (by have := HQl.out; simp; omega) (by omega) ?_)
                | (iterate 13 go_step
                   refine wpList_push Tryd.underlying52 infoInt rfl rfl (.tmp 59) (.tmp 61) rfl (qb + 1) _ (ns.map fun n => Value.int .i64 n) rfl (HO.out.1.alloc _) (.int .i64 n) wr.heap.size rfl (by rw [cell_of_row _ _ _ _ _ _ (heap_alloc_new wr _)]; rfl) rfl (by have := HCn.out; have := HO.out.2.2.2; simp; omega) (by have := HQl.out; simp; omega) (by omega) ?_)
                intro v' w4 g1 g2 g3'
                have HR3 : Hid (RPNums w g qb wd r kd v' (.int .i64 ((j : Int) + 1 + 1)) w4) := by
                  obtain ⟨h1, h2, h3, h4⟩ := HO.out
                  have h5 := h2.below ((Below.refl _ wr).alloc (Nat.le_refl _) (.cells #[.int .i64 n] 3))
                  refine Lib.hid ⟨j + 1, ns ++ [n], hlt, by simp [h4], by go_num, ?_, h5.own g2 fun k hk => ?_, HE2.out⟩
                  · rw [List.map_append]
                    exact g1
                  · have := (h1.alloc (.cells #[.int .i64 n] 3)).lt k hk
                    omega
                have hj9 : (j : Int) ≤ 1000 := by have := HCn.out; omega
                clear g1 g2 g3'
                go_wp2_with (fail)
                go_roundw
                case rel => exact HR3.out
                case measure => simp [intOf]; omega
          · have hNi : ¬ (j : Int) + 1 < (N : Int) := by have := HNl.out; omega
            have hNn : ¬ j + 1 < N := by have := HNl.out; omega
            have HQ : Hid (numsF r [] = some (ns, r.drop j)) := by
              rw [HO.out.2.2.1, List.drop_eq_nil_of_le (by omega)]
              exact Lib.hid rfl
            go_wp2_with (fail)
            go_meet
            exact ⟨j, ns, hj, HO.out.2.2.2, rfl, HO.out.1, HO.out.2.1, HQ.out⟩
      case rest =>
        obtain ⟨wn, rfl⟩ : ∃ x, x = wc := ⟨wc, rfl⟩
        obtain ⟨j, ns, hj, hns, rfl, hO, hA, hF⟩ := hcut
        obtain ⟨na, nc, rfl⟩ := hO.form
        have hlenM : (ns.map fun n => Value.int .i64 n).length = j := by rw [List.length_map, hns]
        have HO := Lib.hid (And.intro hO (And.intro hA hns))
        have HRf0 : Hid (refQ (wd :: r) = if badPre kd ns (r.drop j) = true then (zeroQ, false) else tailQ kd (ns.getD 0 0) (if ns.length = 2 then ns.getD 1 0 else 0) ((r.drop j).getD 1 []) ((r.drop j).getD 2 []) ((r.drop j).drop 3)) := by
          have e : refQ (wd :: r) = refW wd r := rfl
          rw [e, refW, hF, ← HKd.out]
          exact Lib.hid rfl
        rw [hlenM]
        rw [hlenM] at HO
        obtain ⟨bad, hbad⟩ : ∃ b, b = badPre kd ns (r.drop j) := ⟨_, rfl⟩
        rw [← hbad] at HRf0
        have HBd : Hid (bad = decide (j < 1 ∨ 2 < j ∨ (j = 2 ∧ kd ≠ 2) ∨ N ≤ j + 3)) := by
          have hN := HNl.out
          refine Lib.hid ?_
          rw [hbad, badPre, hns, List.length_drop, Bool.eq_iff_iff]
          simp only [Bool.or_eq_true, Bool.and_eq_true, decide_eq_true_eq]
          omega
        have hj9 : (j : Int) ≤ 1000 := by have := HCn.out; omega
        have c0 : wn.cell? ⟨qb, 0, none⟩ = some (.int .i64 kd) := hA.cell 0 rfl
        clear hO hA hF hns hlenM hbad
        go_upto_region 17 with (fail)
        go_cut [89] from 65 to 89 (fun s wx => s = .bool bad ∧ wx = wn)
        case first =>
          by_cases b1 : j < 1
          · have b1' : (j : Int) < 1 := by omega
            have HQ : Hid (bad = true) := by rw [HBd.out]; exact Lib.hid (decide_eq_true (.inl b1))
            clear b1
            go_wp2_with (fail)
            go_meet
            exact ⟨by rw [HQ.out], rfl⟩
          by_cases b2 : 2 < j
          · have b1' : ¬ (j : Int) < 1 := by omega
            have b2' : (2 : Int) < (j : Int) := by omega
            have HQ : Hid (bad = true) := by rw [HBd.out]; exact Lib.hid (decide_eq_true (.inr (.inl b2)))
            clear b1 b2
            go_wp2_with (fail)
            go_meet
            exact ⟨by rw [HQ.out], rfl⟩
          have b1' : ¬ (j : Int) < 1 := by omega
          have b2' : ¬ (2 : Int) < (j : Int) := by omega
          by_cases b3 : j = 2 ∧ kd ≠ 2
          · have e1 : ((j : Int) == 2) = true := by simp; omega
            have e2 : (kd != 2) = true := by simpa using b3.2
            have HQ : Hid (bad = true) := by rw [HBd.out]; exact Lib.hid (decide_eq_true (.inr (.inr (.inl b3))))
            clear b1 b2 b3
            go_wp2_with (fail)
            go_meet
            exact ⟨by rw [HQ.out], rfl⟩
          by_cases b4 : N ≤ j + 3
          · have HQ : Hid (bad = true) := by rw [HBd.out]; exact Lib.hid (decide_eq_true (.inr (.inr (.inr b4))))
            have b4' : decide ((N : Int) ≤ (j : Int) + 1 + 2) = true := decide_eq_true (by omega)
            by_cases two : j = 2
            · have e1 : ((j : Int) == 2) = true := by simp; omega
              have e2 : (kd != 2) = false := by
                have : kd = 2 := Classical.not_not.1 fun e => b3 ⟨two, e⟩
                simpa using this
              clear b1 b2 b3 b4 two
              go_wp2_with (fail)
              go_meet
              exact ⟨by rw [HQ.out], rfl⟩
            · have e1 : ((j : Int) == 2) = false := by simp; omega
              clear b1 b2 b3 b4 two
              go_wp2_with (fail)
              go_meet
              exact ⟨by rw [HQ.out], rfl⟩
          · have HQ : Hid (bad = false) := by rw [HBd.out]; exact Lib.hid (decide_eq_false (by omega))
            have b4' : decide ((N : Int) ≤ (j : Int) + 1 + 2) = false := decide_eq_false (by omega)
            by_cases two : j = 2
            · have e1 : ((j : Int) == 2) = true := by simp; omega
              have e2 : (kd != 2) = false := by
                have : kd = 2 := Classical.not_not.1 fun e => b3 ⟨two, e⟩
                simpa using this
              clear b1 b2 b3 b4 two
              go_wp2_with (fail)
              go_meet
              exact ⟨by rw [HQ.out], rfl⟩
            · have e1 : ((j : Int) == 2) = false := by simp; omega
              clear b1 b2 b3 b4 two
              go_wp2_with (fail)
              go_meet
              exact ⟨by rw [HQ.out], rfl⟩
        case rest =>
          obtain ⟨rfl, hw⟩ := hcut
          subst wc
          clear c0
          cases bad with
          | true =>
            have HF : Hid (∀ wz, Below w.heap.size w wz → P (.returned (.tuple #[.agg zeroQ.cells, .bool false])) wz) := by
              refine Lib.hid (fun wz h => ?_)
              rw [HP.out, HRf0.out, if_pos rfl]
              exact ⟨rfl, h⟩
            go_upto_region 18 with (fail)
            refine wp_region_lit ?_
            first
              | (refine wpList_store_row rfl _ _ _ rfl w.heap.size zeroQ.cells rfl rfl 23 zeroQ.cells HO.out.2.1.2.1 query_size rfl (query_one _) ?_)
              | (iterate 1 go_step
                 refine wpList_store_row rfl _ _ _ rfl w.heap.size zeroQ.cells rfl rfl 23 zeroQ.cells HO.out.2.1.2.1 query_size rfl (query_one _) ?_)
              | (iterate 2 go_step
                 refine wpList_store_row rfl _ _ _ rfl w.heap.size zeroQ.cells rfl rfl 23 zeroQ.cells HO.out.2.1.2.1 query_size rfl (query_one _) ?_)
              | (iterate 3 go_step
                 refine wpList_store_row rfl _ _ _ rfl w.heap.size zeroQ.cells rfl rfl 23 zeroQ.cells HO.out.2.1.2.1 query_size rfl (query_one _) ?_)
              | (iterate 4 go_step
                 refine wpList_store_row rfl _ _ _ rfl w.heap.size zeroQ.cells rfl rfl 23 zeroQ.cells HO.out.2.1.2.1 query_size rfl (query_one _) ?_)
              | (iterate 5 go_step
                 refine wpList_store_row rfl _ _ _ rfl w.heap.size zeroQ.cells rfl rfl 23 zeroQ.cells HO.out.2.1.2.1 query_size rfl (query_one _) ?_)
              | (iterate 6 go_step
                 refine wpList_store_row rfl _ _ _ rfl w.heap.size zeroQ.cells rfl rfl 23 zeroQ.cells HO.out.2.1.2.1 query_size rfl (query_one _) ?_)
              | (iterate 7 go_step
                 refine wpList_store_row rfl _ _ _ rfl w.heap.size zeroQ.cells rfl rfl 23 zeroQ.cells HO.out.2.1.2.1 query_size rfl (query_one _) ?_)
              | (iterate 8 go_step
                 refine wpList_store_row rfl _ _ _ rfl w.heap.size zeroQ.cells rfl rfl 23 zeroQ.cells HO.out.2.1.2.1 query_size rfl (query_one _) ?_)
              | (iterate 9 go_step
                 refine wpList_store_row rfl _ _ _ rfl w.heap.size zeroQ.cells rfl rfl 23 zeroQ.cells HO.out.2.1.2.1 query_size rfl (query_one _) ?_)
            have HZ := Lib.hid (HO.out.2.1.fin zeroQ.cells)
            obtain ⟨wz, hwz⟩ : ∃ W, W = wn.setRow w.heap.size zeroQ.cells := ⟨_, rfl⟩
            rw [← hwz] at HZ ⊢
            clear hwz
            go_wp2_with (fail)
            exact bodyPost_ret (v := .tuple #[.agg zeroQ.cells, .bool false]) ((results_cell_row_tmp (p := 2) (u := 3) (ty := 23) rfl _ _ w.heap.size 23 zeroQ.cells (0, 0) _ rfl HZ.out.2 Tryd.underlying23 rfl query_size).trans rfl) rfl (HF.out _ HZ.out.1)
          | false =>
            have HGd : Hid (¬ (j < 1 ∨ 2 < j ∨ (j = 2 ∧ kd ≠ 2) ∨ N ≤ j + 3)) := Lib.hid (of_decide_eq_false HBd.out.symm)
            obtain ⟨x0, lw, aw, rest, hdrop⟩ : ∃ a b c d, r.drop j = a :: b :: c :: d := by
              have h1 : 3 ≤ (r.drop j).length := by
                have := HGd.out
                have := HNl.out
                rw [List.length_drop]
                omega
              match hd : r.drop j, h1 with
              | a :: b :: c :: d, _ => exact ⟨a, b, c, d, rfl⟩
              | [], h1 => simp at h1
              | [_], h1 => simp at h1
              | [_, _], h1 => simp at h1
            have hget : ∀ i, (wd :: r)[j + 1 + i]? = (r.drop j)[i]? := fun i => by
              rw [show j + 1 + i = (j + i) + 1 by omega, List.getElem?_cons_succ, List.getElem?_drop]
            have hmem : ∀ x ∈ r.drop j, x ∈ wd :: r := fun x hx => List.mem_cons_of_mem _ (List.mem_of_mem_drop hx)
            rw [hdrop] at hget hmem
            obtain ⟨RL, hRL⟩ : ∃ n, n = rest.length := ⟨_, rfl⟩
            have hRN : N = j + 4 + RL := by
              have h1 : (r.drop j).length = 3 + RL := by rw [hdrop, hRL]; simp; omega
              have := HNl.out
              rw [List.length_drop] at h1
              omega
            have HRN := Lib.hid hRN
            have HRl := Lib.hid hRL
            obtain ⟨n0, hn0⟩ : ∃ n, n = ns.getD 0 0 := ⟨_, rfl⟩
            obtain ⟨n1, hn1⟩ : ∃ n, n = ns.getD 1 0 := ⟨_, rfl⟩
            obtain ⟨ag, hag⟩ : ∃ n, n = aggOf aw := ⟨_, rfl⟩
            obtain ⟨lt, hlt⟩ : ∃ n, n = (refNum lw).1 := ⟨_, rfl⟩
            obtain ⟨k1, hk1⟩ : ∃ n, n = (refNum lw).2 := ⟨_, rfl⟩
            have HAg : Hid (0 ≤ ag ∧ ag ≤ 7 ∧ ∀ i < 7, (aw = aggsL.getD (i + 1) [] ↔ ag = (i : Int) + 1)) := by
              rw [hag]
              exact Lib.hid ⟨(aggOf_bd aw).1, (aggOf_bd aw).2, fun i hi => agg_is aw i hi⟩
            have HRf : Hid (refQ (wd :: r) = tailQ kd n0 (if j = 2 then n1 else 0) lw aw rest) := by
              rw [HRf0.out, if_neg (by decide), hdrop, HO.out.2.2, hn0, hn1]
              exact Lib.hid rfl
            have HWs : Hid (∀ w', WordsAt w' g (wd :: r) → w'.cell? ⟨g, j + 1 + 1, none⟩ = some (Sv lw) ∧ w'.cell? ⟨g, j + 1 + 2, none⟩ = some (Sv aw) ∧ ∀ i y, rest[i]? = some y → w'.cell? ⟨g, j + 4 + i, none⟩ = some (Sv y)) := by
              refine Lib.hid (fun w' h => ⟨h _ _ (hget 1), h _ _ (hget 2), fun i y hy => ?_⟩)
              have := h (j + 1 + (3 + i)) y (by rw [hget, show 3 + i = i + 1 + 1 + 1 by omega]; exact hy)
              rwa [show j + 1 + (3 + i) = j + 4 + i by omega] at this
            have HNl1 : Hid (∀ w', Calls Tryd.prog 24 #[Sv lw] w' fun e w'' => e = .returned (.tuple #[.int .i64 lt, .bool k1]) ∧ w'' = w') := by
              rw [hlt, hk1]
              exact Lib.hid (fun w' => erNumber_any w' lw (by have := HLn.out lw (hmem lw (by simp)); omega))
            obtain ⟨ra, hra⟩ : ∃ a : Option Addr, a = if cap = j + 4 then some ⟨g, 0, none⟩ else some ⟨g, 0 + (j + 4), none⟩ := ⟨_, rfl⟩
            obtain ⟨rc, hrc⟩ : ∃ c, c = cap - (j + 4) := ⟨_, rfl⟩
            have HSl : Hid (∀ w, (Instr.slice 49 (.slice (some ⟨g, 0, none⟩) N cap) (some (.int .i64 ((j : Int) + 1 + 3))) none none).run Tryd.prog w = .ok (.slice ra RL rc) w) := by
              refine Lib.hid (fun w => ?_)
              have h := run_slice_sl_l (P := Tryd.prog) 49 9 Tryd.underlying49 sizeStr g 0 N cap (j + 4) (by omega) w
              rw [show ((j + 4 : Nat) : Int) = (j : Int) + 1 + 3 by omega, show N - (j + 4) = RL by omega, ← hra, ← hrc] at h
              exact h
            have HRs : Hid ((∀ y ∈ rest, y.length ≤ 900) ∧ (RL = 1 → ∃ y, rest = [y] ∧ ra = some ⟨g, j + 4, none⟩) ∧ (rest = [] ↔ RL = 0)) := by
              refine Lib.hid ⟨fun y hy => HLn.out y (hmem y (by simp [hy])), fun h => ?_, ?_⟩
              · rw [h] at hRL
                obtain ⟨y, hy⟩ : ∃ y, rest = [y] := by
                  match rest, hRL with
                  | [y], _ => exact ⟨y, rfl⟩
                refine ⟨y, hy, ?_⟩
                have hc := HCap.out
                rw [hra, if_neg (by omega), Nat.zero_add]
              · rw [hRL]
                exact List.length_eq_zero_iff.symm
            have hjp : 0 < j := by have := HGd.out; omega
            obtain ⟨nb, hnb⟩ : ∃ nb, na = some ⟨nb, 0, none⟩ ∧ qb + 1 ≤ nb ∧ wn.cell? ⟨nb, 0, none⟩ = some (.int .i64 n0) ∧ (j = 2 → wn.cell? ⟨nb, 1, none⟩ = some (.int .i64 n1)) := by
              have hO := HO.out.1
              have hm : (ns.map fun n => Value.int .i64 n).length = j := by rw [List.length_map, HO.out.2.2]
              have hO' : Own wn (qb + 1) 3 (.slice na (ns.map fun n => Value.int .i64 n).length nc) (ns.map fun n => Value.int .i64 n) := by rw [hm]; exact hO
              obtain ⟨nb, c, e, h1, _⟩ := hO'.form1 (by rw [hm]; exact hjp)
              injection e with e1 _ e3
              subst e1
              refine ⟨nb, rfl, h1, ?_, fun h2 => ?_⟩
              · rw [hO'.cellAt 0 (by rw [hm]; exact hjp), hn0]
                rcases ns with _ | ⟨a, _⟩
                · have := HO.out.2.2; simp at this; omega
                · rfl
              · rw [hO'.cellAt 1 (by rw [hm]; omega), hn1]
                rcases ns with _ | ⟨a, _ | ⟨b, _⟩⟩
                · have := HO.out.2.2; simp at this; omega
                · have := HO.out.2.2; simp at this; omega
                · rfl
            obtain ⟨rfl, hnb1, hnb2, hnb3⟩ := hnb
            have hjp' : (0 : Int) < (j : Int) := by omega
            have i1 : (j : Int) + 1 + 1 < (N : Int) := by omega
            have i1n : j + 1 + 1 < N := by omega
            have i2 : (j : Int) + 1 + 2 < (N : Int) := by omega
            have i2n : j + 1 + 2 < N := by omega
            by_cases two : j = 2
            · have e2j : ((j : Int) == 2) = true := by simp; omega
              have hj1 : (1 : Int) < (j : Int) := by omega
              have hj1n : 1 < j := by omega
              have HNb : Hid (qb + 1 ≤ nb ∧ wn.cell? ⟨nb, 0, none⟩ = some (.int .i64 n0) ∧ wn.cell? ⟨nb, 1, none⟩ = some (.int .i64 n1)) := Lib.hid ⟨hnb1, hnb2, hnb3 two⟩
              have HRg : Hid (refQ (wd :: r) = tailQ kd n0 n1 lw aw rest) := by rw [HRf.out, if_pos two]; exact Lib.hid rfl
              have HDf := Lib.hid (And.intro hag (And.intro hlt hk1))
              clear hnb1 hnb2 hnb3 hag hlt hk1 hn0 hn1 hra hrc hRL hRN hdrop hget hmem two
              have S4 : Hid (RP w g qb (wd :: r) ⟨kd, 0, 0, 0, 0, 0⟩ wn) := Lib.hid HO.out.2.1
              have c8 : wn.cell? ⟨nb, 0, none⟩ = some (.int .i64 n0) := HNb.out.2.1
              have f := S4.out.fro 1
              have g1 : wn.cell? ⟨qb, 1, none⟩ = _ := S4.out.cell 1 rfl
              go_upto_region 20 with (fail)
              clear f g1 c8
              obtain ⟨w5, hw⟩ : ∃ W, W = wn.setCell ⟨qb, 1, none⟩ (.int .i64 n0) := ⟨_, rfl⟩
              rw [← hw]
              have S5 : Hid (RP w g qb (wd :: r) ⟨kd, n0, 0, 0, 0, 0⟩ w5) := by rw [hw]; exact Lib.hid (S4.out.set 1 _ rfl)
              have HC9 : Hid (w5.cell? ⟨nb, 1, none⟩ = some (.int .i64 n1)) := by
                rw [hw]
                exact Lib.hid (cell_of_heap HNb.out.2.2 (heap_setCell_other _ _ _ _ (by show nb ≠ qb; have := HNb.out.1; omega)))
              clear hw
              have c9 := HC9.out
              have f := S5.out.fro 2
              have g1 : w5.cell? ⟨qb, 2, none⟩ = _ := S5.out.cell 2 rfl
              go_upto_region 22 with (fail)
              clear f g1 c9
              obtain ⟨w6, hw⟩ : ∃ W, W = w5.setCell ⟨qb, 2, none⟩ (.int .i64 n1) := ⟨_, rfl⟩
              rw [← hw]
              have S6 : Hid (RP w g qb (wd :: r) ⟨kd, n0, n1, 0, 0, 0⟩ w6) := by rw [hw]; exact Lib.hid (S5.out.set 2 _ rfl)
              clear hw
              have d1 := (HWs.out w6 S6.out.2.2.2.1).1
              go_wp2_with (fail)
              refine (HNl1.out w6).mono ?_
              rintro e w' ⟨rfl, hw⟩
              subst w'
              have f := S6.out.fro 3
              have g1 : w6.cell? ⟨qb, 3, none⟩ = _ := S6.out.cell 3 rfl
              dsimp only
              go_upto_region 24 with (fail)
              clear f g1 d1
              obtain ⟨w7, hw⟩ : ∃ W, W = w6.setCell ⟨qb, 3, none⟩ (.int .i64 lt) := ⟨_, rfl⟩
              rw [← hw]
              have S7 : Hid (RP w g qb (wd :: r) ⟨kd, n0, n1, lt, 0, 0⟩ w7) := by rw [hw]; exact Lib.hid (S6.out.set 3 _ rfl)
              clear hw
              go_wp2_with (fail)
              obtain ⟨g7, hg7⟩ : ∃ x, x = w7.heap.size := ⟨_, rfl⟩
              obtain ⟨w8, hw8⟩ : ∃ W, W = w7.alloc (Obj.cells #[.string ⟨#[99, 111, 117, 110, 116]⟩, .string ⟨#[115, 117, 109]⟩, .string ⟨#[109, 105, 110]⟩, .string ⟨#[109, 97, 120]⟩, .string ⟨#[109, 101, 97, 110]⟩, .string ⟨#[116, 111, 112]⟩, .string ⟨#[115, 119, 105, 110, 103]⟩] 9) := ⟨_, rfl⟩
              have H8 : Hid (RP w g qb (wd :: r) ⟨kd, n0, n1, lt, 0, 0⟩ w8 ∧ RowAt g7 aggsL 7 w8 ∧ qb < g7) := by
                rw [hw8, hg7]
                have := (Array.getElem?_eq_some_iff.1 S7.out.2.2.1).1
                exact Lib.hid ⟨S7.out.below ((Below.refl _ w7).alloc (Nat.le_refl _) _), fun j hj => words7_at w7 j hj, this⟩
              rw [← hw8, ← hg7]
              clear hw8 hg7
              go_loopw [115] (RPRel3 w g qb g7 (wd :: r) kd n0 n1 lt ag) (fun i _ => 7 - (intOf i).toNat)
              case atStart => exact ⟨0, by omega, rfl, by have := HAg.out.1; rw [show upTo ag 0 = 0 by unfold upTo; split <;> omega]; exact H8.out.1, H8.out.2.1⟩
              case round =>
                obtain ⟨i, hi, rfl, hA, hR⟩ := hrel
                have HA := Lib.hid (And.intro hA hR)
                clear hA hR
                by_cases hlt : i < 7
                · have c0 := (HWs.out wr HA.out.1.2.2.2.1).2.1
                  have c1 := HA.out.2 i hlt
                  obtain ⟨x, hx⟩ : ∃ x, x = aggsL.getD (i + 1) [] := ⟨_, rfl⟩
                  rw [← hx] at c1
                  have hki := HAg.out.2.2 i hlt
                  rw [← hx] at hki
                  have HKi := Lib.hid hki
                  clear hki hx
                  by_cases hd : aw = x
                  · have he : decide (aw = x) = true := decide_eq_true hd
                    have HU : Hid (upTo ag (i + 1) = (i : Int) + 1) := Lib.hid (upTo_hit (HKi.out.1 hd))
                    have f := HA.out.1.fro 4
                    have g1 : wr.cell? ⟨qb, 4, none⟩ = _ := HA.out.1.cell 4 rfl
                    clear hd
                    go_wp2_with (fail)
                    go_roundw
                    case rel => exact ⟨i + 1, hlt, by go_num, by rw [HU.out]; exact HA.out.1.set 4 _ rfl, HA.out.2.set H8.out.2.2⟩
                    case measure => simp [intOf]; omega
                  · have he : decide (aw = x) = false := decide_eq_false hd
                    have HU : Hid (upTo ag (i + 1) = upTo ag i) := Lib.hid (upTo_miss fun e => hd (HKi.out.2 e))
                    clear hd
                    go_wp2_with (fail)
                    go_roundw
                    case rel => exact ⟨i + 1, hlt, by go_num, by rw [HU.out]; exact HA.out.1, HA.out.2⟩
                    case measure => simp [intOf]; omega
                · obtain rfl : i = 7 := by omega
                  rw [show ((7 : Nat) : Int) = 7 from rfl]
                  clear hlt hi
                  have S9 : Hid (RP w g qb (wd :: r) ⟨kd, n0, n1, lt, ag, 0⟩ wr) := by
                    have h := HA.out.1
                    rw [show upTo ag 7 = ag by have := HAg.out.2.1; unfold upTo; exact if_pos (by omega)] at h
                    exact Lib.hid h
                  clear HA
                  have hslice := HSl.out
                  have d4 : wr.cell? ⟨qb, 4, none⟩ = some (.int .i64 ag) := S9.out.cell 4 rfl
                  by_cases a6 : ag = 6
                  · have e6 : (ag == 6) = true := by simpa using a6
                    by_cases l1 : RL = 1
                    · have el : ((RL : Int) == 1) = true := by rw [l1]; rfl
                      obtain ⟨y, rfl, hra⟩ := HRs.out.2.1 l1
                      have HY : Hid (wr.cell? ⟨g, j + 4, none⟩ = some (Sv y)) := Lib.hid ((HWs.out wr S9.out.2.2.2.1).2.2 0 y rfl)
                      obtain ⟨kk, hkk⟩ : ∃ n, n = (refNum y).1 := ⟨_, rfl⟩
                      obtain ⟨k2, hk2⟩ : ∃ n, n = (refNum y).2 := ⟨_, rfl⟩
                      have HNy : Hid (∀ w', Calls Tryd.prog 24 #[Sv y] w' fun e w'' => e = .returned (.tuple #[.int .i64 kk, .bool k2]) ∧ w'' = w') := by
                        rw [hkk, hk2]
                        exact Lib.hid (fun w' => erNumber_any w' y (by have := HRs.out.1 y (by simp); omega))
                      have HRq : Hid (refQ (wd :: r) = if (k1 = true ∧ k2 = true) ∧ (QueryL.mk kd n0 n1 lt ag kk).rightB = true then ((QueryL.mk kd n0 n1 lt ag kk), true) else (zeroQ, false)) := by
                        rw [HRg.out, tailQ, if_pos ⟨by rw [← HDf.out.1]; exact a6, rfl⟩, List.headD_cons, ← HDf.out.1, ← HDf.out.2.1, ← HDf.out.2.2, ← hkk, ← hk2]
                        exact Lib.hid rfl
                      have hr0 : (0 : Int) < (RL : Int) := by omega
                      have hr0n : 0 < RL := by omega
                      clear a6 l1 hkk hk2
                      subst hra
                      have dY := HY.out
                      go_wp2_with (fail)
                      refine (HNy.out wr).mono ?_
                      rintro e w' ⟨rfl, hw⟩
                      subst w'
                      have f := S9.out.fro 5
                      have g5 : wr.cell? ⟨qb, 5, none⟩ = _ := S9.out.cell 5 rfl
                      dsimp only
                      cases k1 with
                      | false =>
                        have HF : Hid (∀ wz, Below w.heap.size w wz → P (.returned (.tuple #[.agg zeroQ.cells, .bool false])) wz) := by
                          refine Lib.hid (fun wz h => ?_)
                          rw [HP.out, HRq.out, if_neg (by simp)]
                          exact ⟨rfl, h⟩
                        go_upto_region 35 with (fail)
                        clear f g5 dY d4 hslice
                        obtain ⟨wt, hw⟩ : ∃ W, W = wr.setCell ⟨qb, 5, none⟩ (.int .i64 kk) := ⟨_, rfl⟩
                        rw [← hw]
                        have ST : Hid (RP w g qb (wd :: r) (QueryL.mk kd n0 n1 lt ag kk) wt) := by rw [hw]; exact Lib.hid (S9.out.set 5 _ rfl)
                        clear hw
                        go_upto_region 37 with (fail)
                        refine wp_region_lit ?_
                        first
                          | (refine wpList_store_row rfl _ _ _ rfl w.heap.size zeroQ.cells rfl rfl 23 zeroQ.cells ST.out.2.1 query_size rfl (query_one _) ?_)
                          | (iterate 1 go_step
                             refine wpList_store_row rfl _ _ _ rfl w.heap.size zeroQ.cells rfl rfl 23 zeroQ.cells ST.out.2.1 query_size rfl (query_one _) ?_)
                          | (iterate 2 go_step
                             refine wpList_store_row rfl _ _ _ rfl w.heap.size zeroQ.cells rfl rfl 23 zeroQ.cells ST.out.2.1 query_size rfl (query_one _) ?_)
                          | (iterate 3 go_step
                             refine wpList_store_row rfl _ _ _ rfl w.heap.size zeroQ.cells rfl rfl 23 zeroQ.cells ST.out.2.1 query_size rfl (query_one _) ?_)
                          | (iterate 4 go_step
                             refine wpList_store_row rfl _ _ _ rfl w.heap.size zeroQ.cells rfl rfl 23 zeroQ.cells ST.out.2.1 query_size rfl (query_one _) ?_)
                          | (iterate 5 go_step
                             refine wpList_store_row rfl _ _ _ rfl w.heap.size zeroQ.cells rfl rfl 23 zeroQ.cells ST.out.2.1 query_size rfl (query_one _) ?_)
                          | (iterate 6 go_step
                             refine wpList_store_row rfl _ _ _ rfl w.heap.size zeroQ.cells rfl rfl 23 zeroQ.cells ST.out.2.1 query_size rfl (query_one _) ?_)
                          | (iterate 7 go_step
                             refine wpList_store_row rfl _ _ _ rfl w.heap.size zeroQ.cells rfl rfl 23 zeroQ.cells ST.out.2.1 query_size rfl (query_one _) ?_)
                          | (iterate 8 go_step
                             refine wpList_store_row rfl _ _ _ rfl w.heap.size zeroQ.cells rfl rfl 23 zeroQ.cells ST.out.2.1 query_size rfl (query_one _) ?_)
                          | (iterate 9 go_step
                             refine wpList_store_row rfl _ _ _ rfl w.heap.size zeroQ.cells rfl rfl 23 zeroQ.cells ST.out.2.1 query_size rfl (query_one _) ?_)
                        have HZ := Lib.hid (ST.out.fin zeroQ.cells)
                        obtain ⟨wz, hwz⟩ : ∃ W, W = wt.setRow w.heap.size zeroQ.cells := ⟨_, rfl⟩
                        rw [← hwz] at HZ ⊢
                        clear hwz
                        go_wp2_with (fail)
                        exact bodyPost_ret (v := .tuple #[.agg zeroQ.cells, .bool false]) ((results_cell_row_tmp (p := 2) (u := 3) (ty := 23) rfl _ _ w.heap.size 23 zeroQ.cells (0, 0) _ rfl HZ.out.2 Tryd.underlying23 rfl query_size).trans rfl) rfl (HF.out _ HZ.out.1)
                      | true =>
                        cases k2 with
                        | false =>
                          have HF : Hid (∀ wz, Below w.heap.size w wz → P (.returned (.tuple #[.agg zeroQ.cells, .bool false])) wz) := by
                            refine Lib.hid (fun wz h => ?_)
                            rw [HP.out, HRq.out, if_neg (by simp)]
                            exact ⟨rfl, h⟩
                          go_upto_region 35 with (fail)
                          clear f g5 dY d4 hslice
                          obtain ⟨wt, hw⟩ : ∃ W, W = wr.setCell ⟨qb, 5, none⟩ (.int .i64 kk) := ⟨_, rfl⟩
                          rw [← hw]
                          have ST : Hid (RP w g qb (wd :: r) (QueryL.mk kd n0 n1 lt ag kk) wt) := by rw [hw]; exact Lib.hid (S9.out.set 5 _ rfl)
                          clear hw
                          go_upto_region 37 with (fail)
                          refine wp_region_lit ?_
                          first
                            | (refine wpList_store_row rfl _ _ _ rfl w.heap.size zeroQ.cells rfl rfl 23 zeroQ.cells ST.out.2.1 query_size rfl (query_one _) ?_)
                            | (iterate 1 go_step
                               refine wpList_store_row rfl _ _ _ rfl w.heap.size zeroQ.cells rfl rfl 23 zeroQ.cells ST.out.2.1 query_size rfl (query_one _) ?_)
                            | (iterate 2 go_step
                               refine wpList_store_row rfl _ _ _ rfl w.heap.size zeroQ.cells rfl rfl 23 zeroQ.cells ST.out.2.1 query_size rfl (query_one _) ?_)
                            | (iterate 3 go_step
                               refine wpList_store_row rfl _ _ _ rfl w.heap.size zeroQ.cells rfl rfl 23 zeroQ.cells ST.out.2.1 query_size rfl (query_one _) ?_)
                            | (iterate 4 go_step
                               refine wpList_store_row rfl _ _ _ rfl w.heap.size zeroQ.cells rfl rfl 23 zeroQ.cells ST.out.2.1 query_size rfl (query_one _) ?_)
                            | (iterate 5 go_step
                               refine wpList_store_row rfl _ _ _ rfl w.heap.size zeroQ.cells rfl rfl 23 zeroQ.cells ST.out.2.1 query_size rfl (query_one _) ?_)
                            | (iterate 6 go_step
                               refine wpList_store_row rfl _ _ _ rfl w.heap.size zeroQ.cells rfl rfl 23 zeroQ.cells ST.out.2.1 query_size rfl (query_one _) ?_)
                            | (iterate 7 go_step
                               refine wpList_store_row rfl _ _ _ rfl w.heap.size zeroQ.cells rfl rfl 23 zeroQ.cells ST.out.2.1 query_size rfl (query_one _) ?_)
                            | (iterate 8 go_step
                               refine wpList_store_row rfl _ _ _ rfl w.heap.size zeroQ.cells rfl rfl 23 zeroQ.cells ST.out.2.1 query_size rfl (query_one _) ?_)
                            | (iterate 9 go_step
                               refine wpList_store_row rfl _ _ _ rfl w.heap.size zeroQ.cells rfl rfl 23 zeroQ.cells ST.out.2.1 query_size rfl (query_one _) ?_)
                          have HZ := Lib.hid (ST.out.fin zeroQ.cells)
                          obtain ⟨wz, hwz⟩ : ∃ W, W = wt.setRow w.heap.size zeroQ.cells := ⟨_, rfl⟩
                          rw [← hwz] at HZ ⊢
                          clear hwz
                          go_wp2_with (fail)
                          exact bodyPost_ret (v := .tuple #[.agg zeroQ.cells, .bool false]) ((results_cell_row_tmp (p := 2) (u := 3) (ty := 23) rfl _ _ w.heap.size 23 zeroQ.cells (0, 0) _ rfl HZ.out.2 Tryd.underlying23 rfl query_size).trans rfl) rfl (HF.out _ HZ.out.1)
                        | true =>
                          go_upto_region 35 with (fail)
                          clear f g5 dY d4 hslice
                          obtain ⟨wt, hw⟩ : ∃ W, W = wr.setCell ⟨qb, 5, none⟩ (.int .i64 kk) := ⟨_, rfl⟩
                          rw [← hw]
                          have ST : Hid (RP w g qb (wd :: r) (QueryL.mk kd n0 n1 lt ag kk) wt) := by rw [hw]; exact Lib.hid (S9.out.set 5 _ rfl)
                          clear hw
                          obtain ⟨rb, hrb⟩ : ∃ b, b = (QueryL.mk kd n0 n1 lt ag kk).rightB := ⟨_, rfl⟩
                          have HRt : Hid (Calls Tryd.prog 6 #[.agg (QueryL.mk kd n0 n1 lt ag kk).cells] wt (Below0 wt (.bool rb))) := by
                            rw [hrb]
                            exact Lib.hid (rqRight_any wt _)
                          unfold QueryL.cells at HRt
                          have Hrb := Lib.hid hrb
                          clear hrb
                          have d0 : wt.cell? ⟨qb, 0, none⟩ = some (.int .i64 kd) := ST.out.cell 0 rfl
                          have d1 : wt.cell? ⟨qb, 1, none⟩ = some (.int .i64 n0) := ST.out.cell 1 rfl
                          have d2 : wt.cell? ⟨qb, 2, none⟩ = some (.int .i64 n1) := ST.out.cell 2 rfl
                          have d3 : wt.cell? ⟨qb, 3, none⟩ = some (.int .i64 lt) := ST.out.cell 3 rfl
                          have d4 : wt.cell? ⟨qb, 4, none⟩ = some (.int .i64 ag) := ST.out.cell 4 rfl
                          have d5 : wt.cell? ⟨qb, 5, none⟩ = some (.int .i64 kk) := ST.out.cell 5 rfl
                          go_wp2_with (fail)
                          refine HRt.out.mono ?_
                          rintro e wv ⟨rfl, hB⟩
                          have SV := Lib.hid (ST.out.below hB)
                          clear hB d0 d1 d2 d3 d4 d5
                          dsimp only
                          cases rb with
                          | false =>
                            have HF : Hid (∀ wz, Below w.heap.size w wz → P (.returned (.tuple #[.agg zeroQ.cells, .bool false])) wz) := by
                              refine Lib.hid (fun wz h => ?_)
                              rw [HP.out, HRq.out, if_neg (by rw [← Hrb.out]; simp)]
                              exact ⟨rfl, h⟩
                            go_upto_region 37 with (fail)
                            refine wp_region_lit ?_
                            first
                              | (refine wpList_store_row rfl _ _ _ rfl w.heap.size zeroQ.cells rfl rfl 23 zeroQ.cells SV.out.2.1 query_size rfl (query_one _) ?_)
                              | (iterate 1 go_step
                                 refine wpList_store_row rfl _ _ _ rfl w.heap.size zeroQ.cells rfl rfl 23 zeroQ.cells SV.out.2.1 query_size rfl (query_one _) ?_)
                              | (iterate 2 go_step
                                 refine wpList_store_row rfl _ _ _ rfl w.heap.size zeroQ.cells rfl rfl 23 zeroQ.cells SV.out.2.1 query_size rfl (query_one _) ?_)
                              | (iterate 3 go_step
                                 refine wpList_store_row rfl _ _ _ rfl w.heap.size zeroQ.cells rfl rfl 23 zeroQ.cells SV.out.2.1 query_size rfl (query_one _) ?_)
                              | (iterate 4 go_step
                                 refine wpList_store_row rfl _ _ _ rfl w.heap.size zeroQ.cells rfl rfl 23 zeroQ.cells SV.out.2.1 query_size rfl (query_one _) ?_)
                              | (iterate 5 go_step
                                 refine wpList_store_row rfl _ _ _ rfl w.heap.size zeroQ.cells rfl rfl 23 zeroQ.cells SV.out.2.1 query_size rfl (query_one _) ?_)
                              | (iterate 6 go_step
                                 refine wpList_store_row rfl _ _ _ rfl w.heap.size zeroQ.cells rfl rfl 23 zeroQ.cells SV.out.2.1 query_size rfl (query_one _) ?_)
                              | (iterate 7 go_step
                                 refine wpList_store_row rfl _ _ _ rfl w.heap.size zeroQ.cells rfl rfl 23 zeroQ.cells SV.out.2.1 query_size rfl (query_one _) ?_)
                              | (iterate 8 go_step
                                 refine wpList_store_row rfl _ _ _ rfl w.heap.size zeroQ.cells rfl rfl 23 zeroQ.cells SV.out.2.1 query_size rfl (query_one _) ?_)
                              | (iterate 9 go_step
                                 refine wpList_store_row rfl _ _ _ rfl w.heap.size zeroQ.cells rfl rfl 23 zeroQ.cells SV.out.2.1 query_size rfl (query_one _) ?_)
                            have HZ := Lib.hid (SV.out.fin zeroQ.cells)
                            obtain ⟨wz, hwz⟩ : ∃ W, W = wv.setRow w.heap.size zeroQ.cells := ⟨_, rfl⟩
                            rw [← hwz] at HZ ⊢
                            clear hwz
                            go_wp2_with (fail)
                            exact bodyPost_ret (v := .tuple #[.agg zeroQ.cells, .bool false]) ((results_cell_row_tmp (p := 2) (u := 3) (ty := 23) rfl _ _ w.heap.size 23 zeroQ.cells (0, 0) _ rfl HZ.out.2 Tryd.underlying23 rfl query_size).trans rfl) rfl (HF.out _ HZ.out.1)
                          | true =>
                            have HF : Hid (∀ wz, Below w.heap.size w wz → P (.returned (.tuple #[.agg (QueryL.mk kd n0 n1 lt ag kk).cells, .bool true])) wz) := by
                              refine Lib.hid (fun wz h => ?_)
                              rw [HP.out, HRq.out, if_pos ⟨⟨by trivial, by trivial⟩, Hrb.out.symm⟩]
                              exact ⟨rfl, h⟩
                            have d0 : wv.cell? ⟨qb, 0, none⟩ = some (.int .i64 kd) := SV.out.cell 0 rfl
                            have d1 : wv.cell? ⟨qb, 1, none⟩ = some (.int .i64 n0) := SV.out.cell 1 rfl
                            have d2 : wv.cell? ⟨qb, 2, none⟩ = some (.int .i64 n1) := SV.out.cell 2 rfl
                            have d3 : wv.cell? ⟨qb, 3, none⟩ = some (.int .i64 lt) := SV.out.cell 3 rfl
                            have d4 : wv.cell? ⟨qb, 4, none⟩ = some (.int .i64 ag) := SV.out.cell 4 rfl
                            have d5 : wv.cell? ⟨qb, 5, none⟩ = some (.int .i64 kk) := SV.out.cell 5 rfl
                            go_upto_region 38 with (fail)
                            refine wp_region_lit ?_
                            first
                              | (refine wpList_store_row rfl _ _ _ rfl w.heap.size (QueryL.mk kd n0 n1 lt ag kk).cells rfl rfl 23 zeroQ.cells SV.out.2.1 query_size rfl (query_one _) ?_)
                              | (iterate 1 go_step
                                 refine wpList_store_row rfl _ _ _ rfl w.heap.size (QueryL.mk kd n0 n1 lt ag kk).cells rfl rfl 23 zeroQ.cells SV.out.2.1 query_size rfl (query_one _) ?_)
                              | (iterate 2 go_step
                                 refine wpList_store_row rfl _ _ _ rfl w.heap.size (QueryL.mk kd n0 n1 lt ag kk).cells rfl rfl 23 zeroQ.cells SV.out.2.1 query_size rfl (query_one _) ?_)
                              | (iterate 3 go_step
                                 refine wpList_store_row rfl _ _ _ rfl w.heap.size (QueryL.mk kd n0 n1 lt ag kk).cells rfl rfl 23 zeroQ.cells SV.out.2.1 query_size rfl (query_one _) ?_)
                              | (iterate 4 go_step
                                 refine wpList_store_row rfl _ _ _ rfl w.heap.size (QueryL.mk kd n0 n1 lt ag kk).cells rfl rfl 23 zeroQ.cells SV.out.2.1 query_size rfl (query_one _) ?_)
                              | (iterate 5 go_step
                                 refine wpList_store_row rfl _ _ _ rfl w.heap.size (QueryL.mk kd n0 n1 lt ag kk).cells rfl rfl 23 zeroQ.cells SV.out.2.1 query_size rfl (query_one _) ?_)
                              | (iterate 6 go_step
                                 refine wpList_store_row rfl _ _ _ rfl w.heap.size (QueryL.mk kd n0 n1 lt ag kk).cells rfl rfl 23 zeroQ.cells SV.out.2.1 query_size rfl (query_one _) ?_)
                              | (iterate 7 go_step
                                 refine wpList_store_row rfl _ _ _ rfl w.heap.size (QueryL.mk kd n0 n1 lt ag kk).cells rfl rfl 23 zeroQ.cells SV.out.2.1 query_size rfl (query_one _) ?_)
                              | (iterate 8 go_step
                                 refine wpList_store_row rfl _ _ _ rfl w.heap.size (QueryL.mk kd n0 n1 lt ag kk).cells rfl rfl 23 zeroQ.cells SV.out.2.1 query_size rfl (query_one _) ?_)
                              | (iterate 9 go_step
                                 refine wpList_store_row rfl _ _ _ rfl w.heap.size (QueryL.mk kd n0 n1 lt ag kk).cells rfl rfl 23 zeroQ.cells SV.out.2.1 query_size rfl (query_one _) ?_)
                            have HZ := Lib.hid (SV.out.fin (QueryL.mk kd n0 n1 lt ag kk).cells)
                            obtain ⟨wz, hwz⟩ : ∃ W, W = wv.setRow w.heap.size (QueryL.mk kd n0 n1 lt ag kk).cells := ⟨_, rfl⟩
                            rw [← hwz] at HZ ⊢
                            clear hwz
                            go_wp2_with (fail)
                            exact bodyPost_ret (v := .tuple #[.agg (QueryL.mk kd n0 n1 lt ag kk).cells, .bool true]) ((results_cell_row_tmp (p := 2) (u := 3) (ty := 23) rfl _ _ w.heap.size 23 (QueryL.mk kd n0 n1 lt ag kk).cells (0, 0) _ rfl HZ.out.2 Tryd.underlying23 rfl query_size).trans rfl) rfl (HF.out _ HZ.out.1)
                    · have el : ((RL : Int) == 1) = false := by simp; omega
                      have HRq : Hid (refQ (wd :: r) = if (k1 = true ∧ rest = []) ∧ (QueryL.mk kd n0 n1 lt ag 0).rightB = true then ((QueryL.mk kd n0 n1 lt ag 0), true) else (zeroQ, false)) := by
                        rw [HRg.out, tailQ, if_neg (by rintro ⟨_, h⟩; exact l1 (HRl.out.trans h)), ← HDf.out.1, ← HDf.out.2.1, ← HDf.out.2.2]
                        exact Lib.hid rfl
                      clear a6 l1
                      cases k1 with
                      | false =>
                        have HF : Hid (∀ wz, Below w.heap.size w wz → P (.returned (.tuple #[.agg zeroQ.cells, .bool false])) wz) := by
                          refine Lib.hid (fun wz h => ?_)
                          rw [HP.out, HRq.out, if_neg (by simp)]
                          exact ⟨rfl, h⟩
                        go_upto_region 37 with (fail)
                        refine wp_region_lit ?_
                        first
                          | (refine wpList_store_row rfl _ _ _ rfl w.heap.size zeroQ.cells rfl rfl 23 zeroQ.cells S9.out.2.1 query_size rfl (query_one _) ?_)
                          | (iterate 1 go_step
                             refine wpList_store_row rfl _ _ _ rfl w.heap.size zeroQ.cells rfl rfl 23 zeroQ.cells S9.out.2.1 query_size rfl (query_one _) ?_)
                          | (iterate 2 go_step
                             refine wpList_store_row rfl _ _ _ rfl w.heap.size zeroQ.cells rfl rfl 23 zeroQ.cells S9.out.2.1 query_size rfl (query_one _) ?_)
                          | (iterate 3 go_step
                             refine wpList_store_row rfl _ _ _ rfl w.heap.size zeroQ.cells rfl rfl 23 zeroQ.cells S9.out.2.1 query_size rfl (query_one _) ?_)
                          | (iterate 4 go_step
                             refine wpList_store_row rfl _ _ _ rfl w.heap.size zeroQ.cells rfl rfl 23 zeroQ.cells S9.out.2.1 query_size rfl (query_one _) ?_)
                          | (iterate 5 go_step
                             refine wpList_store_row rfl _ _ _ rfl w.heap.size zeroQ.cells rfl rfl 23 zeroQ.cells S9.out.2.1 query_size rfl (query_one _) ?_)
                          | (iterate 6 go_step
                             refine wpList_store_row rfl _ _ _ rfl w.heap.size zeroQ.cells rfl rfl 23 zeroQ.cells S9.out.2.1 query_size rfl (query_one _) ?_)
                          | (iterate 7 go_step
                             refine wpList_store_row rfl _ _ _ rfl w.heap.size zeroQ.cells rfl rfl 23 zeroQ.cells S9.out.2.1 query_size rfl (query_one _) ?_)
                          | (iterate 8 go_step
                             refine wpList_store_row rfl _ _ _ rfl w.heap.size zeroQ.cells rfl rfl 23 zeroQ.cells S9.out.2.1 query_size rfl (query_one _) ?_)
                          | (iterate 9 go_step
                             refine wpList_store_row rfl _ _ _ rfl w.heap.size zeroQ.cells rfl rfl 23 zeroQ.cells S9.out.2.1 query_size rfl (query_one _) ?_)
                        have HZ := Lib.hid (S9.out.fin zeroQ.cells)
                        obtain ⟨wz, hwz⟩ : ∃ W, W = wr.setRow w.heap.size zeroQ.cells := ⟨_, rfl⟩
                        rw [← hwz] at HZ ⊢
                        clear hwz
                        go_wp2_with (fail)
                        exact bodyPost_ret (v := .tuple #[.agg zeroQ.cells, .bool false]) ((results_cell_row_tmp (p := 2) (u := 3) (ty := 23) rfl _ _ w.heap.size 23 zeroQ.cells (0, 0) _ rfl HZ.out.2 Tryd.underlying23 rfl query_size).trans rfl) rfl (HF.out _ HZ.out.1)
                      | true =>
                        rcases Nat.eq_zero_or_pos RL with hz | hz
                        · subst hz
                          clear d4
                          obtain ⟨rb, hrb⟩ : ∃ b, b = (QueryL.mk kd n0 n1 lt ag 0).rightB := ⟨_, rfl⟩
                          have HRt : Hid (Calls Tryd.prog 6 #[.agg (QueryL.mk kd n0 n1 lt ag 0).cells] wr (Below0 wr (.bool rb))) := by
                            rw [hrb]
                            exact Lib.hid (rqRight_any wr _)
                          unfold QueryL.cells at HRt
                          have Hrb := Lib.hid hrb
                          clear hrb
                          have d0 : wr.cell? ⟨qb, 0, none⟩ = some (.int .i64 kd) := S9.out.cell 0 rfl
                          have d1 : wr.cell? ⟨qb, 1, none⟩ = some (.int .i64 n0) := S9.out.cell 1 rfl
                          have d2 : wr.cell? ⟨qb, 2, none⟩ = some (.int .i64 n1) := S9.out.cell 2 rfl
                          have d3 : wr.cell? ⟨qb, 3, none⟩ = some (.int .i64 lt) := S9.out.cell 3 rfl
                          have d4 : wr.cell? ⟨qb, 4, none⟩ = some (.int .i64 ag) := S9.out.cell 4 rfl
                          have d5 : wr.cell? ⟨qb, 5, none⟩ = some (.int .i64 0) := S9.out.cell 5 rfl
                          go_wp2_with (fail)
                          refine HRt.out.mono ?_
                          rintro e wv ⟨rfl, hB⟩
                          have SV := Lib.hid (S9.out.below hB)
                          clear hB d0 d1 d2 d3 d4 d5
                          dsimp only
                          cases rb with
                          | false =>
                            have HF : Hid (∀ wz, Below w.heap.size w wz → P (.returned (.tuple #[.agg zeroQ.cells, .bool false])) wz) := by
                              refine Lib.hid (fun wz h => ?_)
                              rw [HP.out, HRq.out, if_neg (by rw [← Hrb.out]; simp)]
                              exact ⟨rfl, h⟩
                            go_upto_region 37 with (fail)
                            refine wp_region_lit ?_
                            first
                              | (refine wpList_store_row rfl _ _ _ rfl w.heap.size zeroQ.cells rfl rfl 23 zeroQ.cells SV.out.2.1 query_size rfl (query_one _) ?_)
                              | (iterate 1 go_step
                                 refine wpList_store_row rfl _ _ _ rfl w.heap.size zeroQ.cells rfl rfl 23 zeroQ.cells SV.out.2.1 query_size rfl (query_one _) ?_)
                              | (iterate 2 go_step
                                 refine wpList_store_row rfl _ _ _ rfl w.heap.size zeroQ.cells rfl rfl 23 zeroQ.cells SV.out.2.1 query_size rfl (query_one _) ?_)
                              | (iterate 3 go_step
                                 refine wpList_store_row rfl _ _ _ rfl w.heap.size zeroQ.cells rfl rfl 23 zeroQ.cells SV.out.2.1 query_size rfl (query_one _) ?_)
                              | (iterate 4 go_step
                                 refine wpList_store_row rfl _ _ _ rfl w.heap.size zeroQ.cells rfl rfl 23 zeroQ.cells SV.out.2.1 query_size rfl (query_one _) ?_)
                              | (iterate 5 go_step
                                 refine wpList_store_row rfl _ _ _ rfl w.heap.size zeroQ.cells rfl rfl 23 zeroQ.cells SV.out.2.1 query_size rfl (query_one _) ?_)
                              | (iterate 6 go_step
                                 refine wpList_store_row rfl _ _ _ rfl w.heap.size zeroQ.cells rfl rfl 23 zeroQ.cells SV.out.2.1 query_size rfl (query_one _) ?_)
                              | (iterate 7 go_step
                                 refine wpList_store_row rfl _ _ _ rfl w.heap.size zeroQ.cells rfl rfl 23 zeroQ.cells SV.out.2.1 query_size rfl (query_one _) ?_)
                              | (iterate 8 go_step
                                 refine wpList_store_row rfl _ _ _ rfl w.heap.size zeroQ.cells rfl rfl 23 zeroQ.cells SV.out.2.1 query_size rfl (query_one _) ?_)
                              | (iterate 9 go_step
                                 refine wpList_store_row rfl _ _ _ rfl w.heap.size zeroQ.cells rfl rfl 23 zeroQ.cells SV.out.2.1 query_size rfl (query_one _) ?_)
                            have HZ := Lib.hid (SV.out.fin zeroQ.cells)
                            obtain ⟨wz, hwz⟩ : ∃ W, W = wv.setRow w.heap.size zeroQ.cells := ⟨_, rfl⟩
                            rw [← hwz] at HZ ⊢
                            clear hwz
                            go_wp2_with (fail)
                            exact bodyPost_ret (v := .tuple #[.agg zeroQ.cells, .bool false]) ((results_cell_row_tmp (p := 2) (u := 3) (ty := 23) rfl _ _ w.heap.size 23 zeroQ.cells (0, 0) _ rfl HZ.out.2 Tryd.underlying23 rfl query_size).trans rfl) rfl (HF.out _ HZ.out.1)
                          | true =>
                            have HF : Hid (∀ wz, Below w.heap.size w wz → P (.returned (.tuple #[.agg (QueryL.mk kd n0 n1 lt ag 0).cells, .bool true])) wz) := by
                              refine Lib.hid (fun wz h => ?_)
                              rw [HP.out, HRq.out, if_pos ⟨⟨by trivial, HRs.out.2.2.2 (by trivial)⟩, Hrb.out.symm⟩]
                              exact ⟨rfl, h⟩
                            have d0 : wv.cell? ⟨qb, 0, none⟩ = some (.int .i64 kd) := SV.out.cell 0 rfl
                            have d1 : wv.cell? ⟨qb, 1, none⟩ = some (.int .i64 n0) := SV.out.cell 1 rfl
                            have d2 : wv.cell? ⟨qb, 2, none⟩ = some (.int .i64 n1) := SV.out.cell 2 rfl
                            have d3 : wv.cell? ⟨qb, 3, none⟩ = some (.int .i64 lt) := SV.out.cell 3 rfl
                            have d4 : wv.cell? ⟨qb, 4, none⟩ = some (.int .i64 ag) := SV.out.cell 4 rfl
                            have d5 : wv.cell? ⟨qb, 5, none⟩ = some (.int .i64 0) := SV.out.cell 5 rfl
                            go_upto_region 38 with (fail)
                            refine wp_region_lit ?_
                            first
                              | (refine wpList_store_row rfl _ _ _ rfl w.heap.size (QueryL.mk kd n0 n1 lt ag 0).cells rfl rfl 23 zeroQ.cells SV.out.2.1 query_size rfl (query_one _) ?_)
                              | (iterate 1 go_step
                                 refine wpList_store_row rfl _ _ _ rfl w.heap.size (QueryL.mk kd n0 n1 lt ag 0).cells rfl rfl 23 zeroQ.cells SV.out.2.1 query_size rfl (query_one _) ?_)
                              | (iterate 2 go_step
                                 refine wpList_store_row rfl _ _ _ rfl w.heap.size (QueryL.mk kd n0 n1 lt ag 0).cells rfl rfl 23 zeroQ.cells SV.out.2.1 query_size rfl (query_one _) ?_)
                              | (iterate 3 go_step
                                 refine wpList_store_row rfl _ _ _ rfl w.heap.size (QueryL.mk kd n0 n1 lt ag 0).cells rfl rfl 23 zeroQ.cells SV.out.2.1 query_size rfl (query_one _) ?_)
                              | (iterate 4 go_step
                                 refine wpList_store_row rfl _ _ _ rfl w.heap.size (QueryL.mk kd n0 n1 lt ag 0).cells rfl rfl 23 zeroQ.cells SV.out.2.1 query_size rfl (query_one _) ?_)
                              | (iterate 5 go_step
                                 refine wpList_store_row rfl _ _ _ rfl w.heap.size (QueryL.mk kd n0 n1 lt ag 0).cells rfl rfl 23 zeroQ.cells SV.out.2.1 query_size rfl (query_one _) ?_)
                              | (iterate 6 go_step
                                 refine wpList_store_row rfl _ _ _ rfl w.heap.size (QueryL.mk kd n0 n1 lt ag 0).cells rfl rfl 23 zeroQ.cells SV.out.2.1 query_size rfl (query_one _) ?_)
                              | (iterate 7 go_step
                                 refine wpList_store_row rfl _ _ _ rfl w.heap.size (QueryL.mk kd n0 n1 lt ag 0).cells rfl rfl 23 zeroQ.cells SV.out.2.1 query_size rfl (query_one _) ?_)
                              | (iterate 8 go_step
                                 refine wpList_store_row rfl _ _ _ rfl w.heap.size (QueryL.mk kd n0 n1 lt ag 0).cells rfl rfl 23 zeroQ.cells SV.out.2.1 query_size rfl (query_one _) ?_)
                              | (iterate 9 go_step
                                 refine wpList_store_row rfl _ _ _ rfl w.heap.size (QueryL.mk kd n0 n1 lt ag 0).cells rfl rfl 23 zeroQ.cells SV.out.2.1 query_size rfl (query_one _) ?_)
                            have HZ := Lib.hid (SV.out.fin (QueryL.mk kd n0 n1 lt ag 0).cells)
                            obtain ⟨wz, hwz⟩ : ∃ W, W = wv.setRow w.heap.size (QueryL.mk kd n0 n1 lt ag 0).cells := ⟨_, rfl⟩
                            rw [← hwz] at HZ ⊢
                            clear hwz
                            go_wp2_with (fail)
                            exact bodyPost_ret (v := .tuple #[.agg (QueryL.mk kd n0 n1 lt ag 0).cells, .bool true]) ((results_cell_row_tmp (p := 2) (u := 3) (ty := 23) rfl _ _ w.heap.size 23 (QueryL.mk kd n0 n1 lt ag 0).cells (0, 0) _ rfl HZ.out.2 Tryd.underlying23 rfl query_size).trans rfl) rfl (HF.out _ HZ.out.1)
                        · have hz' : (0 : Int) < (RL : Int) := by omega
                          have HF : Hid (∀ wz, Below w.heap.size w wz → P (.returned (.tuple #[.agg zeroQ.cells, .bool false])) wz) := by
                            refine Lib.hid (fun wz h => ?_)
                            rw [HP.out, HRq.out, if_neg (by rintro ⟨⟨_, h⟩, _⟩; have := HRs.out.2.2.1 h; omega)]
                            exact ⟨rfl, h⟩
                          clear hz
                          go_upto_region 37 with (fail)
                          refine wp_region_lit ?_
                          first
                            | (refine wpList_store_row rfl _ _ _ rfl w.heap.size zeroQ.cells rfl rfl 23 zeroQ.cells S9.out.2.1 query_size rfl (query_one _) ?_)
                            | (iterate 1 go_step
                               refine wpList_store_row rfl _ _ _ rfl w.heap.size zeroQ.cells rfl rfl 23 zeroQ.cells S9.out.2.1 query_size rfl (query_one _) ?_)
                            | (iterate 2 go_step
                               refine wpList_store_row rfl _ _ _ rfl w.heap.size zeroQ.cells rfl rfl 23 zeroQ.cells S9.out.2.1 query_size rfl (query_one _) ?_)
                            | (iterate 3 go_step
                               refine wpList_store_row rfl _ _ _ rfl w.heap.size zeroQ.cells rfl rfl 23 zeroQ.cells S9.out.2.1 query_size rfl (query_one _) ?_)
                            | (iterate 4 go_step
                               refine wpList_store_row rfl _ _ _ rfl w.heap.size zeroQ.cells rfl rfl 23 zeroQ.cells S9.out.2.1 query_size rfl (query_one _) ?_)
                            | (iterate 5 go_step
                               refine wpList_store_row rfl _ _ _ rfl w.heap.size zeroQ.cells rfl rfl 23 zeroQ.cells S9.out.2.1 query_size rfl (query_one _) ?_)
                            | (iterate 6 go_step
                               refine wpList_store_row rfl _ _ _ rfl w.heap.size zeroQ.cells rfl rfl 23 zeroQ.cells S9.out.2.1 query_size rfl (query_one _) ?_)
                            | (iterate 7 go_step
                               refine wpList_store_row rfl _ _ _ rfl w.heap.size zeroQ.cells rfl rfl 23 zeroQ.cells S9.out.2.1 query_size rfl (query_one _) ?_)
                            | (iterate 8 go_step
                               refine wpList_store_row rfl _ _ _ rfl w.heap.size zeroQ.cells rfl rfl 23 zeroQ.cells S9.out.2.1 query_size rfl (query_one _) ?_)
                            | (iterate 9 go_step
                               refine wpList_store_row rfl _ _ _ rfl w.heap.size zeroQ.cells rfl rfl 23 zeroQ.cells S9.out.2.1 query_size rfl (query_one _) ?_)
                          have HZ := Lib.hid (S9.out.fin zeroQ.cells)
                          obtain ⟨wz, hwz⟩ : ∃ W, W = wr.setRow w.heap.size zeroQ.cells := ⟨_, rfl⟩
                          rw [← hwz] at HZ ⊢
                          clear hwz
                          go_wp2_with (fail)
                          exact bodyPost_ret (v := .tuple #[.agg zeroQ.cells, .bool false]) ((results_cell_row_tmp (p := 2) (u := 3) (ty := 23) rfl _ _ w.heap.size 23 zeroQ.cells (0, 0) _ rfl HZ.out.2 Tryd.underlying23 rfl query_size).trans rfl) rfl (HF.out _ HZ.out.1)
                  · have e6 : (ag == 6) = false := by simpa using a6
                    have HRq : Hid (refQ (wd :: r) = if (k1 = true ∧ rest = []) ∧ (QueryL.mk kd n0 n1 lt ag 0).rightB = true then ((QueryL.mk kd n0 n1 lt ag 0), true) else (zeroQ, false)) := by
                      rw [HRg.out, tailQ, if_neg (by rintro ⟨h, _⟩; exact a6 (by rw [HDf.out.1]; exact h)), ← HDf.out.1, ← HDf.out.2.1, ← HDf.out.2.2]
                      exact Lib.hid rfl
                    clear a6
                    cases k1 with
                    | false =>
                      have HF : Hid (∀ wz, Below w.heap.size w wz → P (.returned (.tuple #[.agg zeroQ.cells, .bool false])) wz) := by
                        refine Lib.hid (fun wz h => ?_)
                        rw [HP.out, HRq.out, if_neg (by simp)]
                        exact ⟨rfl, h⟩
                      go_upto_region 37 with (fail)
                      refine wp_region_lit ?_
                      first
                        | (refine wpList_store_row rfl _ _ _ rfl w.heap.size zeroQ.cells rfl rfl 23 zeroQ.cells S9.out.2.1 query_size rfl (query_one _) ?_)
                        | (iterate 1 go_step
                           refine wpList_store_row rfl _ _ _ rfl w.heap.size zeroQ.cells rfl rfl 23 zeroQ.cells S9.out.2.1 query_size rfl (query_one _) ?_)
                        | (iterate 2 go_step
                           refine wpList_store_row rfl _ _ _ rfl w.heap.size zeroQ.cells rfl rfl 23 zeroQ.cells S9.out.2.1 query_size rfl (query_one _) ?_)
                        | (iterate 3 go_step
                           refine wpList_store_row rfl _ _ _ rfl w.heap.size zeroQ.cells rfl rfl 23 zeroQ.cells S9.out.2.1 query_size rfl (query_one _) ?_)
                        | (iterate 4 go_step
                           refine wpList_store_row rfl _ _ _ rfl w.heap.size zeroQ.cells rfl rfl 23 zeroQ.cells S9.out.2.1 query_size rfl (query_one _) ?_)
                        | (iterate 5 go_step
                           refine wpList_store_row rfl _ _ _ rfl w.heap.size zeroQ.cells rfl rfl 23 zeroQ.cells S9.out.2.1 query_size rfl (query_one _) ?_)
                        | (iterate 6 go_step
                           refine wpList_store_row rfl _ _ _ rfl w.heap.size zeroQ.cells rfl rfl 23 zeroQ.cells S9.out.2.1 query_size rfl (query_one _) ?_)
                        | (iterate 7 go_step
                           refine wpList_store_row rfl _ _ _ rfl w.heap.size zeroQ.cells rfl rfl 23 zeroQ.cells S9.out.2.1 query_size rfl (query_one _) ?_)
                        | (iterate 8 go_step
                           refine wpList_store_row rfl _ _ _ rfl w.heap.size zeroQ.cells rfl rfl 23 zeroQ.cells S9.out.2.1 query_size rfl (query_one _) ?_)
                        | (iterate 9 go_step
                           refine wpList_store_row rfl _ _ _ rfl w.heap.size zeroQ.cells rfl rfl 23 zeroQ.cells S9.out.2.1 query_size rfl (query_one _) ?_)
                      have HZ := Lib.hid (S9.out.fin zeroQ.cells)
                      obtain ⟨wz, hwz⟩ : ∃ W, W = wr.setRow w.heap.size zeroQ.cells := ⟨_, rfl⟩
                      rw [← hwz] at HZ ⊢
                      clear hwz
                      go_wp2_with (fail)
                      exact bodyPost_ret (v := .tuple #[.agg zeroQ.cells, .bool false]) ((results_cell_row_tmp (p := 2) (u := 3) (ty := 23) rfl _ _ w.heap.size 23 zeroQ.cells (0, 0) _ rfl HZ.out.2 Tryd.underlying23 rfl query_size).trans rfl) rfl (HF.out _ HZ.out.1)
                    | true =>
                      rcases Nat.eq_zero_or_pos RL with hz | hz
                      · subst hz
                        clear d4
                        obtain ⟨rb, hrb⟩ : ∃ b, b = (QueryL.mk kd n0 n1 lt ag 0).rightB := ⟨_, rfl⟩
                        have HRt : Hid (Calls Tryd.prog 6 #[.agg (QueryL.mk kd n0 n1 lt ag 0).cells] wr (Below0 wr (.bool rb))) := by
                          rw [hrb]
                          exact Lib.hid (rqRight_any wr _)
                        unfold QueryL.cells at HRt
                        have Hrb := Lib.hid hrb
                        clear hrb
                        have d0 : wr.cell? ⟨qb, 0, none⟩ = some (.int .i64 kd) := S9.out.cell 0 rfl
                        have d1 : wr.cell? ⟨qb, 1, none⟩ = some (.int .i64 n0) := S9.out.cell 1 rfl
                        have d2 : wr.cell? ⟨qb, 2, none⟩ = some (.int .i64 n1) := S9.out.cell 2 rfl
                        have d3 : wr.cell? ⟨qb, 3, none⟩ = some (.int .i64 lt) := S9.out.cell 3 rfl
                        have d4 : wr.cell? ⟨qb, 4, none⟩ = some (.int .i64 ag) := S9.out.cell 4 rfl
                        have d5 : wr.cell? ⟨qb, 5, none⟩ = some (.int .i64 0) := S9.out.cell 5 rfl
                        go_wp2_with (fail)
                        refine HRt.out.mono ?_
                        rintro e wv ⟨rfl, hB⟩
                        have SV := Lib.hid (S9.out.below hB)
                        clear hB d0 d1 d2 d3 d4 d5
                        dsimp only
                        cases rb with
                        | false =>
                          have HF : Hid (∀ wz, Below w.heap.size w wz → P (.returned (.tuple #[.agg zeroQ.cells, .bool false])) wz) := by
                            refine Lib.hid (fun wz h => ?_)
                            rw [HP.out, HRq.out, if_neg (by rw [← Hrb.out]; simp)]
                            exact ⟨rfl, h⟩
                          go_upto_region 37 with (fail)
                          refine wp_region_lit ?_
                          first
                            | (refine wpList_store_row rfl _ _ _ rfl w.heap.size zeroQ.cells rfl rfl 23 zeroQ.cells SV.out.2.1 query_size rfl (query_one _) ?_)
                            | (iterate 1 go_step
                               refine wpList_store_row rfl _ _ _ rfl w.heap.size zeroQ.cells rfl rfl 23 zeroQ.cells SV.out.2.1 query_size rfl (query_one _) ?_)
                            | (iterate 2 go_step
                               refine wpList_store_row rfl _ _ _ rfl w.heap.size zeroQ.cells rfl rfl 23 zeroQ.cells SV.out.2.1 query_size rfl (query_one _) ?_)
                            | (iterate 3 go_step
                               refine wpList_store_row rfl _ _ _ rfl w.heap.size zeroQ.cells rfl rfl 23 zeroQ.cells SV.out.2.1 query_size rfl (query_one _) ?_)
                            | (iterate 4 go_step
                               refine wpList_store_row rfl _ _ _ rfl w.heap.size zeroQ.cells rfl rfl 23 zeroQ.cells SV.out.2.1 query_size rfl (query_one _) ?_)
                            | (iterate 5 go_step
                               refine wpList_store_row rfl _ _ _ rfl w.heap.size zeroQ.cells rfl rfl 23 zeroQ.cells SV.out.2.1 query_size rfl (query_one _) ?_)
                            | (iterate 6 go_step
                               refine wpList_store_row rfl _ _ _ rfl w.heap.size zeroQ.cells rfl rfl 23 zeroQ.cells SV.out.2.1 query_size rfl (query_one _) ?_)
                            | (iterate 7 go_step
                               refine wpList_store_row rfl _ _ _ rfl w.heap.size zeroQ.cells rfl rfl 23 zeroQ.cells SV.out.2.1 query_size rfl (query_one _) ?_)
                            | (iterate 8 go_step
                               refine wpList_store_row rfl _ _ _ rfl w.heap.size zeroQ.cells rfl rfl 23 zeroQ.cells SV.out.2.1 query_size rfl (query_one _) ?_)
                            | (iterate 9 go_step
                               refine wpList_store_row rfl _ _ _ rfl w.heap.size zeroQ.cells rfl rfl 23 zeroQ.cells SV.out.2.1 query_size rfl (query_one _) ?_)
                          have HZ := Lib.hid (SV.out.fin zeroQ.cells)
                          obtain ⟨wz, hwz⟩ : ∃ W, W = wv.setRow w.heap.size zeroQ.cells := ⟨_, rfl⟩
                          rw [← hwz] at HZ ⊢
                          clear hwz
                          go_wp2_with (fail)
                          exact bodyPost_ret (v := .tuple #[.agg zeroQ.cells, .bool false]) ((results_cell_row_tmp (p := 2) (u := 3) (ty := 23) rfl _ _ w.heap.size 23 zeroQ.cells (0, 0) _ rfl HZ.out.2 Tryd.underlying23 rfl query_size).trans rfl) rfl (HF.out _ HZ.out.1)
                        | true =>
                          have HF : Hid (∀ wz, Below w.heap.size w wz → P (.returned (.tuple #[.agg (QueryL.mk kd n0 n1 lt ag 0).cells, .bool true])) wz) := by
                            refine Lib.hid (fun wz h => ?_)
                            rw [HP.out, HRq.out, if_pos ⟨⟨by trivial, HRs.out.2.2.2 (by trivial)⟩, Hrb.out.symm⟩]
                            exact ⟨rfl, h⟩
                          have d0 : wv.cell? ⟨qb, 0, none⟩ = some (.int .i64 kd) := SV.out.cell 0 rfl
                          have d1 : wv.cell? ⟨qb, 1, none⟩ = some (.int .i64 n0) := SV.out.cell 1 rfl
                          have d2 : wv.cell? ⟨qb, 2, none⟩ = some (.int .i64 n1) := SV.out.cell 2 rfl
                          have d3 : wv.cell? ⟨qb, 3, none⟩ = some (.int .i64 lt) := SV.out.cell 3 rfl
                          have d4 : wv.cell? ⟨qb, 4, none⟩ = some (.int .i64 ag) := SV.out.cell 4 rfl
                          have d5 : wv.cell? ⟨qb, 5, none⟩ = some (.int .i64 0) := SV.out.cell 5 rfl
                          go_upto_region 38 with (fail)
                          refine wp_region_lit ?_
                          first
                            | (refine wpList_store_row rfl _ _ _ rfl w.heap.size (QueryL.mk kd n0 n1 lt ag 0).cells rfl rfl 23 zeroQ.cells SV.out.2.1 query_size rfl (query_one _) ?_)
                            | (iterate 1 go_step
                               refine wpList_store_row rfl _ _ _ rfl w.heap.size (QueryL.mk kd n0 n1 lt ag 0).cells rfl rfl 23 zeroQ.cells SV.out.2.1 query_size rfl (query_one _) ?_)
                            | (iterate 2 go_step
                               refine wpList_store_row rfl _ _ _ rfl w.heap.size (QueryL.mk kd n0 n1 lt ag 0).cells rfl rfl 23 zeroQ.cells SV.out.2.1 query_size rfl (query_one _) ?_)
                            | (iterate 3 go_step
                               refine wpList_store_row rfl _ _ _ rfl w.heap.size (QueryL.mk kd n0 n1 lt ag 0).cells rfl rfl 23 zeroQ.cells SV.out.2.1 query_size rfl (query_one _) ?_)
                            | (iterate 4 go_step
                               refine wpList_store_row rfl _ _ _ rfl w.heap.size (QueryL.mk kd n0 n1 lt ag 0).cells rfl rfl 23 zeroQ.cells SV.out.2.1 query_size rfl (query_one _) ?_)
                            | (iterate 5 go_step
                               refine wpList_store_row rfl _ _ _ rfl w.heap.size (QueryL.mk kd n0 n1 lt ag 0).cells rfl rfl 23 zeroQ.cells SV.out.2.1 query_size rfl (query_one _) ?_)
                            | (iterate 6 go_step
                               refine wpList_store_row rfl _ _ _ rfl w.heap.size (QueryL.mk kd n0 n1 lt ag 0).cells rfl rfl 23 zeroQ.cells SV.out.2.1 query_size rfl (query_one _) ?_)
                            | (iterate 7 go_step
                               refine wpList_store_row rfl _ _ _ rfl w.heap.size (QueryL.mk kd n0 n1 lt ag 0).cells rfl rfl 23 zeroQ.cells SV.out.2.1 query_size rfl (query_one _) ?_)
                            | (iterate 8 go_step
                               refine wpList_store_row rfl _ _ _ rfl w.heap.size (QueryL.mk kd n0 n1 lt ag 0).cells rfl rfl 23 zeroQ.cells SV.out.2.1 query_size rfl (query_one _) ?_)
                            | (iterate 9 go_step
                               refine wpList_store_row rfl _ _ _ rfl w.heap.size (QueryL.mk kd n0 n1 lt ag 0).cells rfl rfl 23 zeroQ.cells SV.out.2.1 query_size rfl (query_one _) ?_)
                          have HZ := Lib.hid (SV.out.fin (QueryL.mk kd n0 n1 lt ag 0).cells)
                          obtain ⟨wz, hwz⟩ : ∃ W, W = wv.setRow w.heap.size (QueryL.mk kd n0 n1 lt ag 0).cells := ⟨_, rfl⟩
                          rw [← hwz] at HZ ⊢
                          clear hwz
                          go_wp2_with (fail)
                          exact bodyPost_ret (v := .tuple #[.agg (QueryL.mk kd n0 n1 lt ag 0).cells, .bool true]) ((results_cell_row_tmp (p := 2) (u := 3) (ty := 23) rfl _ _ w.heap.size 23 (QueryL.mk kd n0 n1 lt ag 0).cells (0, 0) _ rfl HZ.out.2 Tryd.underlying23 rfl query_size).trans rfl) rfl (HF.out _ HZ.out.1)
                      · have hz' : (0 : Int) < (RL : Int) := by omega
                        have HF : Hid (∀ wz, Below w.heap.size w wz → P (.returned (.tuple #[.agg zeroQ.cells, .bool false])) wz) := by
                          refine Lib.hid (fun wz h => ?_)
                          rw [HP.out, HRq.out, if_neg (by rintro ⟨⟨_, h⟩, _⟩; have := HRs.out.2.2.1 h; omega)]
                          exact ⟨rfl, h⟩
                        clear hz
                        go_upto_region 37 with (fail)
                        refine wp_region_lit ?_
                        first
                          | (refine wpList_store_row rfl _ _ _ rfl w.heap.size zeroQ.cells rfl rfl 23 zeroQ.cells S9.out.2.1 query_size rfl (query_one _) ?_)
                          | (iterate 1 go_step
                             refine wpList_store_row rfl _ _ _ rfl w.heap.size zeroQ.cells rfl rfl 23 zeroQ.cells S9.out.2.1 query_size rfl (query_one _) ?_)
                          | (iterate 2 go_step
                             refine wpList_store_row rfl _ _ _ rfl w.heap.size zeroQ.cells rfl rfl 23 zeroQ.cells S9.out.2.1 query_size rfl (query_one _) ?_)
                          | (iterate 3 go_step
                             refine wpList_store_row rfl _ _ _ rfl w.heap.size zeroQ.cells rfl rfl 23 zeroQ.cells S9.out.2.1 query_size rfl (query_one _) ?_)
                          | (iterate 4 go_step
                             refine wpList_store_row rfl _ _ _ rfl w.heap.size zeroQ.cells rfl rfl 23 zeroQ.cells S9.out.2.1 query_size rfl (query_one _) ?_)
                          | (iterate 5 go_step
                             refine wpList_store_row rfl _ _ _ rfl w.heap.size zeroQ.cells rfl rfl 23 zeroQ.cells S9.out.2.1 query_size rfl (query_one _) ?_)
                          | (iterate 6 go_step
                             refine wpList_store_row rfl _ _ _ rfl w.heap.size zeroQ.cells rfl rfl 23 zeroQ.cells S9.out.2.1 query_size rfl (query_one _) ?_)
                          | (iterate 7 go_step
                             refine wpList_store_row rfl _ _ _ rfl w.heap.size zeroQ.cells rfl rfl 23 zeroQ.cells S9.out.2.1 query_size rfl (query_one _) ?_)
                          | (iterate 8 go_step
                             refine wpList_store_row rfl _ _ _ rfl w.heap.size zeroQ.cells rfl rfl 23 zeroQ.cells S9.out.2.1 query_size rfl (query_one _) ?_)
                          | (iterate 9 go_step
                             refine wpList_store_row rfl _ _ _ rfl w.heap.size zeroQ.cells rfl rfl 23 zeroQ.cells S9.out.2.1 query_size rfl (query_one _) ?_)
                        have HZ := Lib.hid (S9.out.fin zeroQ.cells)
                        obtain ⟨wz, hwz⟩ : ∃ W, W = wr.setRow w.heap.size zeroQ.cells := ⟨_, rfl⟩
                        rw [← hwz] at HZ ⊢
                        clear hwz
                        go_wp2_with (fail)
                        exact bodyPost_ret (v := .tuple #[.agg zeroQ.cells, .bool false]) ((results_cell_row_tmp (p := 2) (u := 3) (ty := 23) rfl _ _ w.heap.size 23 zeroQ.cells (0, 0) _ rfl HZ.out.2 Tryd.underlying23 rfl query_size).trans rfl) rfl (HF.out _ HZ.out.1)
            · have e2j : ((j : Int) == 2) = false := by simp; omega
              have HNb : Hid (qb + 1 ≤ nb ∧ wn.cell? ⟨nb, 0, none⟩ = some (.int .i64 n0) ∧ True) := Lib.hid ⟨hnb1, hnb2, trivial⟩
              have HRg : Hid (refQ (wd :: r) = tailQ kd n0 0 lw aw rest) := by rw [HRf.out, if_neg two]; exact Lib.hid rfl
              have HDf := Lib.hid (And.intro hag (And.intro hlt hk1))
              clear hnb1 hnb2 hnb3 hag hlt hk1 hn0 hn1 hra hrc hRL hRN hdrop hget hmem two
              have S4 : Hid (RP w g qb (wd :: r) ⟨kd, 0, 0, 0, 0, 0⟩ wn) := Lib.hid HO.out.2.1
              have c8 : wn.cell? ⟨nb, 0, none⟩ = some (.int .i64 n0) := HNb.out.2.1
              have f := S4.out.fro 1
              have g1 : wn.cell? ⟨qb, 1, none⟩ = _ := S4.out.cell 1 rfl
              go_upto_region 20 with (fail)
              clear f g1 c8
              obtain ⟨w5, hw⟩ : ∃ W, W = wn.setCell ⟨qb, 1, none⟩ (.int .i64 n0) := ⟨_, rfl⟩
              rw [← hw]
              have S5 : Hid (RP w g qb (wd :: r) ⟨kd, n0, 0, 0, 0, 0⟩ w5) := by rw [hw]; exact Lib.hid (S4.out.set 1 _ rfl)
              clear hw
              go_upto_region 22 with (fail)
              obtain ⟨w6, rfl⟩ : ∃ x, x = w5 := ⟨w5, rfl⟩
              have S6 := S5
              have d1 := (HWs.out w6 S6.out.2.2.2.1).1
              go_wp2_with (fail)
              refine (HNl1.out w6).mono ?_
              rintro e w' ⟨rfl, hw⟩
              subst w'
              have f := S6.out.fro 3
              have g1 : w6.cell? ⟨qb, 3, none⟩ = _ := S6.out.cell 3 rfl
              dsimp only
              go_upto_region 24 with (fail)
              clear f g1 d1
              obtain ⟨w7, hw⟩ : ∃ W, W = w6.setCell ⟨qb, 3, none⟩ (.int .i64 lt) := ⟨_, rfl⟩
              rw [← hw]
              have S7 : Hid (RP w g qb (wd :: r) ⟨kd, n0, 0, lt, 0, 0⟩ w7) := by rw [hw]; exact Lib.hid (S6.out.set 3 _ rfl)
              clear hw
              go_wp2_with (fail)
              obtain ⟨g7, hg7⟩ : ∃ x, x = w7.heap.size := ⟨_, rfl⟩
              obtain ⟨w8, hw8⟩ : ∃ W, W = w7.alloc (Obj.cells #[.string ⟨#[99, 111, 117, 110, 116]⟩, .string ⟨#[115, 117, 109]⟩, .string ⟨#[109, 105, 110]⟩, .string ⟨#[109, 97, 120]⟩, .string ⟨#[109, 101, 97, 110]⟩, .string ⟨#[116, 111, 112]⟩, .string ⟨#[115, 119, 105, 110, 103]⟩] 9) := ⟨_, rfl⟩
              have H8 : Hid (RP w g qb (wd :: r) ⟨kd, n0, 0, lt, 0, 0⟩ w8 ∧ RowAt g7 aggsL 7 w8 ∧ qb < g7) := by
                rw [hw8, hg7]
                have := (Array.getElem?_eq_some_iff.1 S7.out.2.2.1).1
                exact Lib.hid ⟨S7.out.below ((Below.refl _ w7).alloc (Nat.le_refl _) _), fun j hj => words7_at w7 j hj, this⟩
              rw [← hw8, ← hg7]
              clear hw8 hg7
              go_loopw [115] (RPRel3 w g qb g7 (wd :: r) kd n0 0 lt ag) (fun i _ => 7 - (intOf i).toNat)
              case atStart => exact ⟨0, by omega, rfl, by have := HAg.out.1; rw [show upTo ag 0 = 0 by unfold upTo; split <;> omega]; exact H8.out.1, H8.out.2.1⟩
              case round =>
                obtain ⟨i, hi, rfl, hA, hR⟩ := hrel
                have HA := Lib.hid (And.intro hA hR)
                clear hA hR
                by_cases hlt : i < 7
                · have c0 := (HWs.out wr HA.out.1.2.2.2.1).2.1
                  have c1 := HA.out.2 i hlt
                  obtain ⟨x, hx⟩ : ∃ x, x = aggsL.getD (i + 1) [] := ⟨_, rfl⟩
                  rw [← hx] at c1
                  have hki := HAg.out.2.2 i hlt
                  rw [← hx] at hki
                  have HKi := Lib.hid hki
                  clear hki hx
                  by_cases hd : aw = x
                  · have he : decide (aw = x) = true := decide_eq_true hd
                    have HU : Hid (upTo ag (i + 1) = (i : Int) + 1) := Lib.hid (upTo_hit (HKi.out.1 hd))
                    have f := HA.out.1.fro 4
                    have g1 : wr.cell? ⟨qb, 4, none⟩ = _ := HA.out.1.cell 4 rfl
                    clear hd
                    go_wp2_with (fail)
                    go_roundw
                    case rel => exact ⟨i + 1, hlt, by go_num, by rw [HU.out]; exact HA.out.1.set 4 _ rfl, HA.out.2.set H8.out.2.2⟩
                    case measure => simp [intOf]; omega
                  · have he : decide (aw = x) = false := decide_eq_false hd
                    have HU : Hid (upTo ag (i + 1) = upTo ag i) := Lib.hid (upTo_miss fun e => hd (HKi.out.2 e))
                    clear hd
                    go_wp2_with (fail)
                    go_roundw
                    case rel => exact ⟨i + 1, hlt, by go_num, by rw [HU.out]; exact HA.out.1, HA.out.2⟩
                    case measure => simp [intOf]; omega
                · obtain rfl : i = 7 := by omega
                  rw [show ((7 : Nat) : Int) = 7 from rfl]
                  clear hlt hi
                  have S9 : Hid (RP w g qb (wd :: r) ⟨kd, n0, 0, lt, ag, 0⟩ wr) := by
                    have h := HA.out.1
                    rw [show upTo ag 7 = ag by have := HAg.out.2.1; unfold upTo; exact if_pos (by omega)] at h
                    exact Lib.hid h
                  clear HA
                  have hslice := HSl.out
                  have d4 : wr.cell? ⟨qb, 4, none⟩ = some (.int .i64 ag) := S9.out.cell 4 rfl
                  by_cases a6 : ag = 6
                  · have e6 : (ag == 6) = true := by simpa using a6
                    by_cases l1 : RL = 1
                    · have el : ((RL : Int) == 1) = true := by rw [l1]; rfl
                      obtain ⟨y, rfl, hra⟩ := HRs.out.2.1 l1
                      have HY : Hid (wr.cell? ⟨g, j + 4, none⟩ = some (Sv y)) := Lib.hid ((HWs.out wr S9.out.2.2.2.1).2.2 0 y rfl)
                      obtain ⟨kk, hkk⟩ : ∃ n, n = (refNum y).1 := ⟨_, rfl⟩
                      obtain ⟨k2, hk2⟩ : ∃ n, n = (refNum y).2 := ⟨_, rfl⟩
                      have HNy : Hid (∀ w', Calls Tryd.prog 24 #[Sv y] w' fun e w'' => e = .returned (.tuple #[.int .i64 kk, .bool k2]) ∧ w'' = w') := by
                        rw [hkk, hk2]
                        exact Lib.hid (fun w' => erNumber_any w' y (by have := HRs.out.1 y (by simp); omega))
                      have HRq : Hid (refQ (wd :: r) = if (k1 = true ∧ k2 = true) ∧ (QueryL.mk kd n0 0 lt ag kk).rightB = true then ((QueryL.mk kd n0 0 lt ag kk), true) else (zeroQ, false)) := by
                        rw [HRg.out, tailQ, if_pos ⟨by rw [← HDf.out.1]; exact a6, rfl⟩, List.headD_cons, ← HDf.out.1, ← HDf.out.2.1, ← HDf.out.2.2, ← hkk, ← hk2]
                        exact Lib.hid rfl
                      have hr0 : (0 : Int) < (RL : Int) := by omega
                      have hr0n : 0 < RL := by omega
                      clear a6 l1 hkk hk2
                      subst hra
                      have dY := HY.out
                      go_wp2_with (fail)
                      refine (HNy.out wr).mono ?_
                      rintro e w' ⟨rfl, hw⟩
                      subst w'
                      have f := S9.out.fro 5
                      have g5 : wr.cell? ⟨qb, 5, none⟩ = _ := S9.out.cell 5 rfl
                      dsimp only
                      cases k1 with
                      | false =>
                        have HF : Hid (∀ wz, Below w.heap.size w wz → P (.returned (.tuple #[.agg zeroQ.cells, .bool false])) wz) := by
                          refine Lib.hid (fun wz h => ?_)
                          rw [HP.out, HRq.out, if_neg (by simp)]
                          exact ⟨rfl, h⟩
                        go_upto_region 35 with (fail)
                        clear f g5 dY d4 hslice
                        obtain ⟨wt, hw⟩ : ∃ W, W = wr.setCell ⟨qb, 5, none⟩ (.int .i64 kk) := ⟨_, rfl⟩
                        rw [← hw]
                        have ST : Hid (RP w g qb (wd :: r) (QueryL.mk kd n0 0 lt ag kk) wt) := by rw [hw]; exact Lib.hid (S9.out.set 5 _ rfl)
                        clear hw
                        go_upto_region 37 with (fail)
                        refine wp_region_lit ?_
                        first
                          | (refine wpList_store_row rfl _ _ _ rfl w.heap.size zeroQ.cells rfl rfl 23 zeroQ.cells ST.out.2.1 query_size rfl (query_one _) ?_)
                          | (iterate 1 go_step
                             refine wpList_store_row rfl _ _ _ rfl w.heap.size zeroQ.cells rfl rfl 23 zeroQ.cells ST.out.2.1 query_size rfl (query_one _) ?_)
                          | (iterate 2 go_step
                             refine wpList_store_row rfl _ _ _ rfl w.heap.size zeroQ.cells rfl rfl 23 zeroQ.cells ST.out.2.1 query_size rfl (query_one _) ?_)
                          | (iterate 3 go_step
                             refine wpList_store_row rfl _ _ _ rfl w.heap.size zeroQ.cells rfl rfl 23 zeroQ.cells ST.out.2.1 query_size rfl (query_one _) ?_)
                          | (iterate 4 go_step
                             refine wpList_store_row rfl _ _ _ rfl w.heap.size zeroQ.cells rfl rfl 23 zeroQ.cells ST.out.2.1 query_size rfl (query_one _) ?_)
                          | (iterate 5 go_step
                             refine wpList_store_row rfl _ _ _ rfl w.heap.size zeroQ.cells rfl rfl 23 zeroQ.cells ST.out.2.1 query_size rfl (query_one _) ?_)
                          | (iterate 6 go_step
                             refine wpList_store_row rfl _ _ _ rfl w.heap.size zeroQ.cells rfl rfl 23 zeroQ.cells ST.out.2.1 query_size rfl (query_one _) ?_)
                          | (iterate 7 go_step
                             refine wpList_store_row rfl _ _ _ rfl w.heap.size zeroQ.cells rfl rfl 23 zeroQ.cells ST.out.2.1 query_size rfl (query_one _) ?_)
                          | (iterate 8 go_step
                             refine wpList_store_row rfl _ _ _ rfl w.heap.size zeroQ.cells rfl rfl 23 zeroQ.cells ST.out.2.1 query_size rfl (query_one _) ?_)
                          | (iterate 9 go_step
                             refine wpList_store_row rfl _ _ _ rfl w.heap.size zeroQ.cells rfl rfl 23 zeroQ.cells ST.out.2.1 query_size rfl (query_one _) ?_)
                        have HZ := Lib.hid (ST.out.fin zeroQ.cells)
                        obtain ⟨wz, hwz⟩ : ∃ W, W = wt.setRow w.heap.size zeroQ.cells := ⟨_, rfl⟩
                        rw [← hwz] at HZ ⊢
                        clear hwz
                        go_wp2_with (fail)
                        exact bodyPost_ret (v := .tuple #[.agg zeroQ.cells, .bool false]) ((results_cell_row_tmp (p := 2) (u := 3) (ty := 23) rfl _ _ w.heap.size 23 zeroQ.cells (0, 0) _ rfl HZ.out.2 Tryd.underlying23 rfl query_size).trans rfl) rfl (HF.out _ HZ.out.1)
                      | true =>
                        cases k2 with
                        | false =>
                          have HF : Hid (∀ wz, Below w.heap.size w wz → P (.returned (.tuple #[.agg zeroQ.cells, .bool false])) wz) := by
                            refine Lib.hid (fun wz h => ?_)
                            rw [HP.out, HRq.out, if_neg (by simp)]
                            exact ⟨rfl, h⟩
                          go_upto_region 35 with (fail)
                          clear f g5 dY d4 hslice
                          obtain ⟨wt, hw⟩ : ∃ W, W = wr.setCell ⟨qb, 5, none⟩ (.int .i64 kk) := ⟨_, rfl⟩
                          rw [← hw]
                          have ST : Hid (RP w g qb (wd :: r) (QueryL.mk kd n0 0 lt ag kk) wt) := by rw [hw]; exact Lib.hid (S9.out.set 5 _ rfl)
                          clear hw
                          go_upto_region 37 with (fail)
                          refine wp_region_lit ?_
                          first
                            | (refine wpList_store_row rfl _ _ _ rfl w.heap.size zeroQ.cells rfl rfl 23 zeroQ.cells ST.out.2.1 query_size rfl (query_one _) ?_)
                            | (iterate 1 go_step
                               refine wpList_store_row rfl _ _ _ rfl w.heap.size zeroQ.cells rfl rfl 23 zeroQ.cells ST.out.2.1 query_size rfl (query_one _) ?_)
                            | (iterate 2 go_step
                               refine wpList_store_row rfl _ _ _ rfl w.heap.size zeroQ.cells rfl rfl 23 zeroQ.cells ST.out.2.1 query_size rfl (query_one _) ?_)
                            | (iterate 3 go_step
                               refine wpList_store_row rfl _ _ _ rfl w.heap.size zeroQ.cells rfl rfl 23 zeroQ.cells ST.out.2.1 query_size rfl (query_one _) ?_)
                            | (iterate 4 go_step
                               refine wpList_store_row rfl _ _ _ rfl w.heap.size zeroQ.cells rfl rfl 23 zeroQ.cells ST.out.2.1 query_size rfl (query_one _) ?_)
                            | (iterate 5 go_step
                               refine wpList_store_row rfl _ _ _ rfl w.heap.size zeroQ.cells rfl rfl 23 zeroQ.cells ST.out.2.1 query_size rfl (query_one _) ?_)
                            | (iterate 6 go_step
                               refine wpList_store_row rfl _ _ _ rfl w.heap.size zeroQ.cells rfl rfl 23 zeroQ.cells ST.out.2.1 query_size rfl (query_one _) ?_)
                            | (iterate 7 go_step
                               refine wpList_store_row rfl _ _ _ rfl w.heap.size zeroQ.cells rfl rfl 23 zeroQ.cells ST.out.2.1 query_size rfl (query_one _) ?_)
                            | (iterate 8 go_step
                               refine wpList_store_row rfl _ _ _ rfl w.heap.size zeroQ.cells rfl rfl 23 zeroQ.cells ST.out.2.1 query_size rfl (query_one _) ?_)
                            | (iterate 9 go_step
                               refine wpList_store_row rfl _ _ _ rfl w.heap.size zeroQ.cells rfl rfl 23 zeroQ.cells ST.out.2.1 query_size rfl (query_one _) ?_)
                          have HZ := Lib.hid (ST.out.fin zeroQ.cells)
                          obtain ⟨wz, hwz⟩ : ∃ W, W = wt.setRow w.heap.size zeroQ.cells := ⟨_, rfl⟩
                          rw [← hwz] at HZ ⊢
                          clear hwz
                          go_wp2_with (fail)
                          exact bodyPost_ret (v := .tuple #[.agg zeroQ.cells, .bool false]) ((results_cell_row_tmp (p := 2) (u := 3) (ty := 23) rfl _ _ w.heap.size 23 zeroQ.cells (0, 0) _ rfl HZ.out.2 Tryd.underlying23 rfl query_size).trans rfl) rfl (HF.out _ HZ.out.1)
                        | true =>
                          go_upto_region 35 with (fail)
                          clear f g5 dY d4 hslice
                          obtain ⟨wt, hw⟩ : ∃ W, W = wr.setCell ⟨qb, 5, none⟩ (.int .i64 kk) := ⟨_, rfl⟩
                          rw [← hw]
                          have ST : Hid (RP w g qb (wd :: r) (QueryL.mk kd n0 0 lt ag kk) wt) := by rw [hw]; exact Lib.hid (S9.out.set 5 _ rfl)
                          clear hw
                          obtain ⟨rb, hrb⟩ : ∃ b, b = (QueryL.mk kd n0 0 lt ag kk).rightB := ⟨_, rfl⟩
                          have HRt : Hid (Calls Tryd.prog 6 #[.agg (QueryL.mk kd n0 0 lt ag kk).cells] wt (Below0 wt (.bool rb))) := by
                            rw [hrb]
                            exact Lib.hid (rqRight_any wt _)
                          unfold QueryL.cells at HRt
                          have Hrb := Lib.hid hrb
                          clear hrb
                          have d0 : wt.cell? ⟨qb, 0, none⟩ = some (.int .i64 kd) := ST.out.cell 0 rfl
                          have d1 : wt.cell? ⟨qb, 1, none⟩ = some (.int .i64 n0) := ST.out.cell 1 rfl
                          have d2 : wt.cell? ⟨qb, 2, none⟩ = some (.int .i64 0) := ST.out.cell 2 rfl
                          have d3 : wt.cell? ⟨qb, 3, none⟩ = some (.int .i64 lt) := ST.out.cell 3 rfl
                          have d4 : wt.cell? ⟨qb, 4, none⟩ = some (.int .i64 ag) := ST.out.cell 4 rfl
                          have d5 : wt.cell? ⟨qb, 5, none⟩ = some (.int .i64 kk) := ST.out.cell 5 rfl
                          go_wp2_with (fail)
                          refine HRt.out.mono ?_
                          rintro e wv ⟨rfl, hB⟩
                          have SV := Lib.hid (ST.out.below hB)
                          clear hB d0 d1 d2 d3 d4 d5
                          dsimp only
                          cases rb with
                          | false =>
                            have HF : Hid (∀ wz, Below w.heap.size w wz → P (.returned (.tuple #[.agg zeroQ.cells, .bool false])) wz) := by
                              refine Lib.hid (fun wz h => ?_)
                              rw [HP.out, HRq.out, if_neg (by rw [← Hrb.out]; simp)]
                              exact ⟨rfl, h⟩
                            go_upto_region 37 with (fail)
                            refine wp_region_lit ?_
                            first
                              | (refine wpList_store_row rfl _ _ _ rfl w.heap.size zeroQ.cells rfl rfl 23 zeroQ.cells SV.out.2.1 query_size rfl (query_one _) ?_)
                              | (iterate 1 go_step
                                 refine wpList_store_row rfl _ _ _ rfl w.heap.size zeroQ.cells rfl rfl 23 zeroQ.cells SV.out.2.1 query_size rfl (query_one _) ?_)
                              | (iterate 2 go_step
                                 refine wpList_store_row rfl _ _ _ rfl w.heap.size zeroQ.cells rfl rfl 23 zeroQ.cells SV.out.2.1 query_size rfl (query_one _) ?_)
                              | (iterate 3 go_step
                                 refine wpList_store_row rfl _ _ _ rfl w.heap.size zeroQ.cells rfl rfl 23 zeroQ.cells SV.out.2.1 query_size rfl (query_one _) ?_)
                              | (iterate 4 go_step
                                 refine wpList_store_row rfl _ _ _ rfl w.heap.size zeroQ.cells rfl rfl 23 zeroQ.cells SV.out.2.1 query_size rfl (query_one _) ?_)
                              | (iterate 5 go_step
                                 refine wpList_store_row rfl _ _ _ rfl w.heap.size zeroQ.cells rfl rfl 23 zeroQ.cells SV.out.2.1 query_size rfl (query_one _) ?_)
                              | (iterate 6 go_step
                                 refine wpList_store_row rfl _ _ _ rfl w.heap.size zeroQ.cells rfl rfl 23 zeroQ.cells SV.out.2.1 query_size rfl (query_one _) ?_)
                              | (iterate 7 go_step
                                 refine wpList_store_row rfl _ _ _ rfl w.heap.size zeroQ.cells rfl rfl 23 zeroQ.cells SV.out.2.1 query_size rfl (query_one _) ?_)
                              | (iterate 8 go_step
                                 refine wpList_store_row rfl _ _ _ rfl w.heap.size zeroQ.cells rfl rfl 23 zeroQ.cells SV.out.2.1 query_size rfl (query_one _) ?_)
                              | (iterate 9 go_step
                                 refine wpList_store_row rfl _ _ _ rfl w.heap.size zeroQ.cells rfl rfl 23 zeroQ.cells SV.out.2.1 query_size rfl (query_one _) ?_)
                            have HZ := Lib.hid (SV.out.fin zeroQ.cells)
                            obtain ⟨wz, hwz⟩ : ∃ W, W = wv.setRow w.heap.size zeroQ.cells := ⟨_, rfl⟩
                            rw [← hwz] at HZ ⊢
                            clear hwz
                            go_wp2_with (fail)
                            exact bodyPost_ret (v := .tuple #[.agg zeroQ.cells, .bool false]) ((results_cell_row_tmp (p := 2) (u := 3) (ty := 23) rfl _ _ w.heap.size 23 zeroQ.cells (0, 0) _ rfl HZ.out.2 Tryd.underlying23 rfl query_size).trans rfl) rfl (HF.out _ HZ.out.1)
                          | true =>
                            have HF : Hid (∀ wz, Below w.heap.size w wz → P (.returned (.tuple #[.agg (QueryL.mk kd n0 0 lt ag kk).cells, .bool true])) wz) := by
                              refine Lib.hid (fun wz h => ?_)
                              rw [HP.out, HRq.out, if_pos ⟨⟨by trivial, by trivial⟩, Hrb.out.symm⟩]
                              exact ⟨rfl, h⟩
                            have d0 : wv.cell? ⟨qb, 0, none⟩ = some (.int .i64 kd) := SV.out.cell 0 rfl
                            have d1 : wv.cell? ⟨qb, 1, none⟩ = some (.int .i64 n0) := SV.out.cell 1 rfl
                            have d2 : wv.cell? ⟨qb, 2, none⟩ = some (.int .i64 0) := SV.out.cell 2 rfl
                            have d3 : wv.cell? ⟨qb, 3, none⟩ = some (.int .i64 lt) := SV.out.cell 3 rfl
                            have d4 : wv.cell? ⟨qb, 4, none⟩ = some (.int .i64 ag) := SV.out.cell 4 rfl
                            have d5 : wv.cell? ⟨qb, 5, none⟩ = some (.int .i64 kk) := SV.out.cell 5 rfl
                            go_upto_region 38 with (fail)
                            refine wp_region_lit ?_
                            first
                              | (refine wpList_store_row rfl _ _ _ rfl w.heap.size (QueryL.mk kd n0 0 lt ag kk).cells rfl rfl 23 zeroQ.cells SV.out.2.1 query_size rfl (query_one _) ?_)
                              | (iterate 1 go_step
                                 refine wpList_store_row rfl _ _ _ rfl w.heap.size (QueryL.mk kd n0 0 lt ag kk).cells rfl rfl 23 zeroQ.cells SV.out.2.1 query_size rfl (query_one _) ?_)
                              | (iterate 2 go_step
                                 refine wpList_store_row rfl _ _ _ rfl w.heap.size (QueryL.mk kd n0 0 lt ag kk).cells rfl rfl 23 zeroQ.cells SV.out.2.1 query_size rfl (query_one _) ?_)
                              | (iterate 3 go_step
                                 refine wpList_store_row rfl _ _ _ rfl w.heap.size (QueryL.mk kd n0 0 lt ag kk).cells rfl rfl 23 zeroQ.cells SV.out.2.1 query_size rfl (query_one _) ?_)
                              | (iterate 4 go_step
                                 refine wpList_store_row rfl _ _ _ rfl w.heap.size (QueryL.mk kd n0 0 lt ag kk).cells rfl rfl 23 zeroQ.cells SV.out.2.1 query_size rfl (query_one _) ?_)
                              | (iterate 5 go_step
                                 refine wpList_store_row rfl _ _ _ rfl w.heap.size (QueryL.mk kd n0 0 lt ag kk).cells rfl rfl 23 zeroQ.cells SV.out.2.1 query_size rfl (query_one _) ?_)
                              | (iterate 6 go_step
                                 refine wpList_store_row rfl _ _ _ rfl w.heap.size (QueryL.mk kd n0 0 lt ag kk).cells rfl rfl 23 zeroQ.cells SV.out.2.1 query_size rfl (query_one _) ?_)
                              | (iterate 7 go_step
                                 refine wpList_store_row rfl _ _ _ rfl w.heap.size (QueryL.mk kd n0 0 lt ag kk).cells rfl rfl 23 zeroQ.cells SV.out.2.1 query_size rfl (query_one _) ?_)
                              | (iterate 8 go_step
                                 refine wpList_store_row rfl _ _ _ rfl w.heap.size (QueryL.mk kd n0 0 lt ag kk).cells rfl rfl 23 zeroQ.cells SV.out.2.1 query_size rfl (query_one _) ?_)
                              | (iterate 9 go_step
                                 refine wpList_store_row rfl _ _ _ rfl w.heap.size (QueryL.mk kd n0 0 lt ag kk).cells rfl rfl 23 zeroQ.cells SV.out.2.1 query_size rfl (query_one _) ?_)
                            have HZ := Lib.hid (SV.out.fin (QueryL.mk kd n0 0 lt ag kk).cells)
                            obtain ⟨wz, hwz⟩ : ∃ W, W = wv.setRow w.heap.size (QueryL.mk kd n0 0 lt ag kk).cells := ⟨_, rfl⟩
                            rw [← hwz] at HZ ⊢
                            clear hwz
                            go_wp2_with (fail)
                            exact bodyPost_ret (v := .tuple #[.agg (QueryL.mk kd n0 0 lt ag kk).cells, .bool true]) ((results_cell_row_tmp (p := 2) (u := 3) (ty := 23) rfl _ _ w.heap.size 23 (QueryL.mk kd n0 0 lt ag kk).cells (0, 0) _ rfl HZ.out.2 Tryd.underlying23 rfl query_size).trans rfl) rfl (HF.out _ HZ.out.1)
                    · have el : ((RL : Int) == 1) = false := by simp; omega
                      have HRq : Hid (refQ (wd :: r) = if (k1 = true ∧ rest = []) ∧ (QueryL.mk kd n0 0 lt ag 0).rightB = true then ((QueryL.mk kd n0 0 lt ag 0), true) else (zeroQ, false)) := by
                        rw [HRg.out, tailQ, if_neg (by rintro ⟨_, h⟩; exact l1 (HRl.out.trans h)), ← HDf.out.1, ← HDf.out.2.1, ← HDf.out.2.2]
                        exact Lib.hid rfl
                      clear a6 l1
                      cases k1 with
                      | false =>
                        have HF : Hid (∀ wz, Below w.heap.size w wz → P (.returned (.tuple #[.agg zeroQ.cells, .bool false])) wz) := by
                          refine Lib.hid (fun wz h => ?_)
                          rw [HP.out, HRq.out, if_neg (by simp)]
                          exact ⟨rfl, h⟩
                        go_upto_region 37 with (fail)
                        refine wp_region_lit ?_
                        first
                          | (refine wpList_store_row rfl _ _ _ rfl w.heap.size zeroQ.cells rfl rfl 23 zeroQ.cells S9.out.2.1 query_size rfl (query_one _) ?_)
                          | (iterate 1 go_step
                             refine wpList_store_row rfl _ _ _ rfl w.heap.size zeroQ.cells rfl rfl 23 zeroQ.cells S9.out.2.1 query_size rfl (query_one _) ?_)
                          | (iterate 2 go_step
                             refine wpList_store_row rfl _ _ _ rfl w.heap.size zeroQ.cells rfl rfl 23 zeroQ.cells S9.out.2.1 query_size rfl (query_one _) ?_)
                          | (iterate 3 go_step
                             refine wpList_store_row rfl _ _ _ rfl w.heap.size zeroQ.cells rfl rfl 23 zeroQ.cells S9.out.2.1 query_size rfl (query_one _) ?_)
                          | (iterate 4 go_step
                             refine wpList_store_row rfl _ _ _ rfl w.heap.size zeroQ.cells rfl rfl 23 zeroQ.cells S9.out.2.1 query_size rfl (query_one _) ?_)
                          | (iterate 5 go_step
                             refine wpList_store_row rfl _ _ _ rfl w.heap.size zeroQ.cells rfl rfl 23 zeroQ.cells S9.out.2.1 query_size rfl (query_one _) ?_)
                          | (iterate 6 go_step
                             refine wpList_store_row rfl _ _ _ rfl w.heap.size zeroQ.cells rfl rfl 23 zeroQ.cells S9.out.2.1 query_size rfl (query_one _) ?_)
                          | (iterate 7 go_step
                             refine wpList_store_row rfl _ _ _ rfl w.heap.size zeroQ.cells rfl rfl 23 zeroQ.cells S9.out.2.1 query_size rfl (query_one _) ?_)
                          | (iterate 8 go_step
                             refine wpList_store_row rfl _ _ _ rfl w.heap.size zeroQ.cells rfl rfl 23 zeroQ.cells S9.out.2.1 query_size rfl (query_one _) ?_)
                          | (iterate 9 go_step
                             refine wpList_store_row rfl _ _ _ rfl w.heap.size zeroQ.cells rfl rfl 23 zeroQ.cells S9.out.2.1 query_size rfl (query_one _) ?_)
                        have HZ := Lib.hid (S9.out.fin zeroQ.cells)
                        obtain ⟨wz, hwz⟩ : ∃ W, W = wr.setRow w.heap.size zeroQ.cells := ⟨_, rfl⟩
                        rw [← hwz] at HZ ⊢
                        clear hwz
                        go_wp2_with (fail)
                        exact bodyPost_ret (v := .tuple #[.agg zeroQ.cells, .bool false]) ((results_cell_row_tmp (p := 2) (u := 3) (ty := 23) rfl _ _ w.heap.size 23 zeroQ.cells (0, 0) _ rfl HZ.out.2 Tryd.underlying23 rfl query_size).trans rfl) rfl (HF.out _ HZ.out.1)
                      | true =>
                        rcases Nat.eq_zero_or_pos RL with hz | hz
                        · subst hz
                          clear d4
                          obtain ⟨rb, hrb⟩ : ∃ b, b = (QueryL.mk kd n0 0 lt ag 0).rightB := ⟨_, rfl⟩
                          have HRt : Hid (Calls Tryd.prog 6 #[.agg (QueryL.mk kd n0 0 lt ag 0).cells] wr (Below0 wr (.bool rb))) := by
                            rw [hrb]
                            exact Lib.hid (rqRight_any wr _)
                          unfold QueryL.cells at HRt
                          have Hrb := Lib.hid hrb
                          clear hrb
                          have d0 : wr.cell? ⟨qb, 0, none⟩ = some (.int .i64 kd) := S9.out.cell 0 rfl
                          have d1 : wr.cell? ⟨qb, 1, none⟩ = some (.int .i64 n0) := S9.out.cell 1 rfl
                          have d2 : wr.cell? ⟨qb, 2, none⟩ = some (.int .i64 0) := S9.out.cell 2 rfl
                          have d3 : wr.cell? ⟨qb, 3, none⟩ = some (.int .i64 lt) := S9.out.cell 3 rfl
                          have d4 : wr.cell? ⟨qb, 4, none⟩ = some (.int .i64 ag) := S9.out.cell 4 rfl
                          have d5 : wr.cell? ⟨qb, 5, none⟩ = some (.int .i64 0) := S9.out.cell 5 rfl
                          go_wp2_with (fail)
                          refine HRt.out.mono ?_
                          rintro e wv ⟨rfl, hB⟩
                          have SV := Lib.hid (S9.out.below hB)
                          clear hB d0 d1 d2 d3 d4 d5
                          dsimp only
                          cases rb with
                          | false =>
                            have HF : Hid (∀ wz, Below w.heap.size w wz → P (.returned (.tuple #[.agg zeroQ.cells, .bool false])) wz) := by
                              refine Lib.hid (fun wz h => ?_)
                              rw [HP.out, HRq.out, if_neg (by rw [← Hrb.out]; simp)]
                              exact ⟨rfl, h⟩
                            go_upto_region 37 with (fail)
                            refine wp_region_lit ?_
                            first
                              | (refine wpList_store_row rfl _ _ _ rfl w.heap.size zeroQ.cells rfl rfl 23 zeroQ.cells SV.out.2.1 query_size rfl (query_one _) ?_)
                              | (iterate 1 go_step
                                 refine wpList_store_row rfl _ _ _ rfl w.heap.size zeroQ.cells rfl rfl 23 zeroQ.cells SV.out.2.1 query_size rfl (query_one _) ?_)
                              | (iterate 2 go_step
                                 refine wpList_store_row rfl _ _ _ rfl w.heap.size zeroQ.cells rfl rfl 23 zeroQ.cells SV.out.2.1 query_size rfl (query_one _) ?_)
                              | (iterate 3 go_step
                                 refine wpList_store_row rfl _ _ _ rfl w.heap.size zeroQ.cells rfl rfl 23 zeroQ.cells SV.out.2.1 query_size rfl (query_one _) ?_)
                              | (iterate 4 go_step
                                 refine wpList_store_row rfl _ _ _ rfl w.heap.size zeroQ.cells rfl rfl 23 zeroQ.cells SV.out.2.1 query_size rfl (query_one _) ?_)
                              | (iterate 5 go_step
                                 refine wpList_store_row rfl _ _ _ rfl w.heap.size zeroQ.cells rfl rfl 23 zeroQ.cells SV.out.2.1 query_size rfl (query_one _) ?_)
                              | (iterate 6 go_step
                                 refine wpList_store_row rfl _ _ _ rfl w.heap.size zeroQ.cells rfl rfl 23 zeroQ.cells SV.out.2.1 query_size rfl (query_one _) ?_)
                              | (iterate 7 go_step
                                 refine wpList_store_row rfl _ _ _ rfl w.heap.size zeroQ.cells rfl rfl 23 zeroQ.cells SV.out.2.1 query_size rfl (query_one _) ?_)
                              | (iterate 8 go_step
                                 refine wpList_store_row rfl _ _ _ rfl w.heap.size zeroQ.cells rfl rfl 23 zeroQ.cells SV.out.2.1 query_size rfl (query_one _) ?_)
                              | (iterate 9 go_step
                                 refine wpList_store_row rfl _ _ _ rfl w.heap.size zeroQ.cells rfl rfl 23 zeroQ.cells SV.out.2.1 query_size rfl (query_one _) ?_)
                            have HZ := Lib.hid (SV.out.fin zeroQ.cells)
                            obtain ⟨wz, hwz⟩ : ∃ W, W = wv.setRow w.heap.size zeroQ.cells := ⟨_, rfl⟩
                            rw [← hwz] at HZ ⊢
                            clear hwz
                            go_wp2_with (fail)
                            exact bodyPost_ret (v := .tuple #[.agg zeroQ.cells, .bool false]) ((results_cell_row_tmp (p := 2) (u := 3) (ty := 23) rfl _ _ w.heap.size 23 zeroQ.cells (0, 0) _ rfl HZ.out.2 Tryd.underlying23 rfl query_size).trans rfl) rfl (HF.out _ HZ.out.1)
                          | true =>
                            have HF : Hid (∀ wz, Below w.heap.size w wz → P (.returned (.tuple #[.agg (QueryL.mk kd n0 0 lt ag 0).cells, .bool true])) wz) := by
                              refine Lib.hid (fun wz h => ?_)
                              rw [HP.out, HRq.out, if_pos ⟨⟨by trivial, HRs.out.2.2.2 (by trivial)⟩, Hrb.out.symm⟩]
                              exact ⟨rfl, h⟩
                            have d0 : wv.cell? ⟨qb, 0, none⟩ = some (.int .i64 kd) := SV.out.cell 0 rfl
                            have d1 : wv.cell? ⟨qb, 1, none⟩ = some (.int .i64 n0) := SV.out.cell 1 rfl
                            have d2 : wv.cell? ⟨qb, 2, none⟩ = some (.int .i64 0) := SV.out.cell 2 rfl
                            have d3 : wv.cell? ⟨qb, 3, none⟩ = some (.int .i64 lt) := SV.out.cell 3 rfl
                            have d4 : wv.cell? ⟨qb, 4, none⟩ = some (.int .i64 ag) := SV.out.cell 4 rfl
                            have d5 : wv.cell? ⟨qb, 5, none⟩ = some (.int .i64 0) := SV.out.cell 5 rfl
                            go_upto_region 38 with (fail)
                            refine wp_region_lit ?_
                            first
                              | (refine wpList_store_row rfl _ _ _ rfl w.heap.size (QueryL.mk kd n0 0 lt ag 0).cells rfl rfl 23 zeroQ.cells SV.out.2.1 query_size rfl (query_one _) ?_)
                              | (iterate 1 go_step
                                 refine wpList_store_row rfl _ _ _ rfl w.heap.size (QueryL.mk kd n0 0 lt ag 0).cells rfl rfl 23 zeroQ.cells SV.out.2.1 query_size rfl (query_one _) ?_)
                              | (iterate 2 go_step
                                 refine wpList_store_row rfl _ _ _ rfl w.heap.size (QueryL.mk kd n0 0 lt ag 0).cells rfl rfl 23 zeroQ.cells SV.out.2.1 query_size rfl (query_one _) ?_)
                              | (iterate 3 go_step
                                 refine wpList_store_row rfl _ _ _ rfl w.heap.size (QueryL.mk kd n0 0 lt ag 0).cells rfl rfl 23 zeroQ.cells SV.out.2.1 query_size rfl (query_one _) ?_)
                              | (iterate 4 go_step
                                 refine wpList_store_row rfl _ _ _ rfl w.heap.size (QueryL.mk kd n0 0 lt ag 0).cells rfl rfl 23 zeroQ.cells SV.out.2.1 query_size rfl (query_one _) ?_)
                              | (iterate 5 go_step
                                 refine wpList_store_row rfl _ _ _ rfl w.heap.size (QueryL.mk kd n0 0 lt ag 0).cells rfl rfl 23 zeroQ.cells SV.out.2.1 query_size rfl (query_one _) ?_)
                              | (iterate 6 go_step
                                 refine wpList_store_row rfl _ _ _ rfl w.heap.size (QueryL.mk kd n0 0 lt ag 0).cells rfl rfl 23 zeroQ.cells SV.out.2.1 query_size rfl (query_one _) ?_)
                              | (iterate 7 go_step
                                 refine wpList_store_row rfl _ _ _ rfl w.heap.size (QueryL.mk kd n0 0 lt ag 0).cells rfl rfl 23 zeroQ.cells SV.out.2.1 query_size rfl (query_one _) ?_)
                              | (iterate 8 go_step
                                 refine wpList_store_row rfl _ _ _ rfl w.heap.size (QueryL.mk kd n0 0 lt ag 0).cells rfl rfl 23 zeroQ.cells SV.out.2.1 query_size rfl (query_one _) ?_)
                              | (iterate 9 go_step
                                 refine wpList_store_row rfl _ _ _ rfl w.heap.size (QueryL.mk kd n0 0 lt ag 0).cells rfl rfl 23 zeroQ.cells SV.out.2.1 query_size rfl (query_one _) ?_)
                            have HZ := Lib.hid (SV.out.fin (QueryL.mk kd n0 0 lt ag 0).cells)
                            obtain ⟨wz, hwz⟩ : ∃ W, W = wv.setRow w.heap.size (QueryL.mk kd n0 0 lt ag 0).cells := ⟨_, rfl⟩
                            rw [← hwz] at HZ ⊢
                            clear hwz
                            go_wp2_with (fail)
                            exact bodyPost_ret (v := .tuple #[.agg (QueryL.mk kd n0 0 lt ag 0).cells, .bool true]) ((results_cell_row_tmp (p := 2) (u := 3) (ty := 23) rfl _ _ w.heap.size 23 (QueryL.mk kd n0 0 lt ag 0).cells (0, 0) _ rfl HZ.out.2 Tryd.underlying23 rfl query_size).trans rfl) rfl (HF.out _ HZ.out.1)
                        · have hz' : (0 : Int) < (RL : Int) := by omega
                          have HF : Hid (∀ wz, Below w.heap.size w wz → P (.returned (.tuple #[.agg zeroQ.cells, .bool false])) wz) := by
                            refine Lib.hid (fun wz h => ?_)
                            rw [HP.out, HRq.out, if_neg (by rintro ⟨⟨_, h⟩, _⟩; have := HRs.out.2.2.1 h; omega)]
                            exact ⟨rfl, h⟩
                          clear hz
                          go_upto_region 37 with (fail)
                          refine wp_region_lit ?_
                          first
                            | (refine wpList_store_row rfl _ _ _ rfl w.heap.size zeroQ.cells rfl rfl 23 zeroQ.cells S9.out.2.1 query_size rfl (query_one _) ?_)
                            | (iterate 1 go_step
                               refine wpList_store_row rfl _ _ _ rfl w.heap.size zeroQ.cells rfl rfl 23 zeroQ.cells S9.out.2.1 query_size rfl (query_one _) ?_)
                            | (iterate 2 go_step
                               refine wpList_store_row rfl _ _ _ rfl w.heap.size zeroQ.cells rfl rfl 23 zeroQ.cells S9.out.2.1 query_size rfl (query_one _) ?_)
                            | (iterate 3 go_step
                               refine wpList_store_row rfl _ _ _ rfl w.heap.size zeroQ.cells rfl rfl 23 zeroQ.cells S9.out.2.1 query_size rfl (query_one _) ?_)
                            | (iterate 4 go_step
                               refine wpList_store_row rfl _ _ _ rfl w.heap.size zeroQ.cells rfl rfl 23 zeroQ.cells S9.out.2.1 query_size rfl (query_one _) ?_)
                            | (iterate 5 go_step
                               refine wpList_store_row rfl _ _ _ rfl w.heap.size zeroQ.cells rfl rfl 23 zeroQ.cells S9.out.2.1 query_size rfl (query_one _) ?_)
                            | (iterate 6 go_step
                               refine wpList_store_row rfl _ _ _ rfl w.heap.size zeroQ.cells rfl rfl 23 zeroQ.cells S9.out.2.1 query_size rfl (query_one _) ?_)
                            | (iterate 7 go_step
                               refine wpList_store_row rfl _ _ _ rfl w.heap.size zeroQ.cells rfl rfl 23 zeroQ.cells S9.out.2.1 query_size rfl (query_one _) ?_)
                            | (iterate 8 go_step
                               refine wpList_store_row rfl _ _ _ rfl w.heap.size zeroQ.cells rfl rfl 23 zeroQ.cells S9.out.2.1 query_size rfl (query_one _) ?_)
                            | (iterate 9 go_step
                               refine wpList_store_row rfl _ _ _ rfl w.heap.size zeroQ.cells rfl rfl 23 zeroQ.cells S9.out.2.1 query_size rfl (query_one _) ?_)
                          have HZ := Lib.hid (S9.out.fin zeroQ.cells)
                          obtain ⟨wz, hwz⟩ : ∃ W, W = wr.setRow w.heap.size zeroQ.cells := ⟨_, rfl⟩
                          rw [← hwz] at HZ ⊢
                          clear hwz
                          go_wp2_with (fail)
                          exact bodyPost_ret (v := .tuple #[.agg zeroQ.cells, .bool false]) ((results_cell_row_tmp (p := 2) (u := 3) (ty := 23) rfl _ _ w.heap.size 23 zeroQ.cells (0, 0) _ rfl HZ.out.2 Tryd.underlying23 rfl query_size).trans rfl) rfl (HF.out _ HZ.out.1)
                  · have e6 : (ag == 6) = false := by simpa using a6
                    have HRq : Hid (refQ (wd :: r) = if (k1 = true ∧ rest = []) ∧ (QueryL.mk kd n0 0 lt ag 0).rightB = true then ((QueryL.mk kd n0 0 lt ag 0), true) else (zeroQ, false)) := by
                      rw [HRg.out, tailQ, if_neg (by rintro ⟨h, _⟩; exact a6 (by rw [HDf.out.1]; exact h)), ← HDf.out.1, ← HDf.out.2.1, ← HDf.out.2.2]
                      exact Lib.hid rfl
                    clear a6
                    cases k1 with
                    | false =>
                      have HF : Hid (∀ wz, Below w.heap.size w wz → P (.returned (.tuple #[.agg zeroQ.cells, .bool false])) wz) := by
                        refine Lib.hid (fun wz h => ?_)
                        rw [HP.out, HRq.out, if_neg (by simp)]
                        exact ⟨rfl, h⟩
                      go_upto_region 37 with (fail)
                      refine wp_region_lit ?_
                      first
                        | (refine wpList_store_row rfl _ _ _ rfl w.heap.size zeroQ.cells rfl rfl 23 zeroQ.cells S9.out.2.1 query_size rfl (query_one _) ?_)
                        | (iterate 1 go_step
                           refine wpList_store_row rfl _ _ _ rfl w.heap.size zeroQ.cells rfl rfl 23 zeroQ.cells S9.out.2.1 query_size rfl (query_one _) ?_)
                        | (iterate 2 go_step
                           refine wpList_store_row rfl _ _ _ rfl w.heap.size zeroQ.cells rfl rfl 23 zeroQ.cells S9.out.2.1 query_size rfl (query_one _) ?_)
                        | (iterate 3 go_step
                           refine wpList_store_row rfl _ _ _ rfl w.heap.size zeroQ.cells rfl rfl 23 zeroQ.cells S9.out.2.1 query_size rfl (query_one _) ?_)
                        | (iterate 4 go_step
                           refine wpList_store_row rfl _ _ _ rfl w.heap.size zeroQ.cells rfl rfl 23 zeroQ.cells S9.out.2.1 query_size rfl (query_one _) ?_)
                        | (iterate 5 go_step
                           refine wpList_store_row rfl _ _ _ rfl w.heap.size zeroQ.cells rfl rfl 23 zeroQ.cells S9.out.2.1 query_size rfl (query_one _) ?_)
                        | (iterate 6 go_step
                           refine wpList_store_row rfl _ _ _ rfl w.heap.size zeroQ.cells rfl rfl 23 zeroQ.cells S9.out.2.1 query_size rfl (query_one _) ?_)
                        | (iterate 7 go_step
                           refine wpList_store_row rfl _ _ _ rfl w.heap.size zeroQ.cells rfl rfl 23 zeroQ.cells S9.out.2.1 query_size rfl (query_one _) ?_)
                        | (iterate 8 go_step
                           refine wpList_store_row rfl _ _ _ rfl w.heap.size zeroQ.cells rfl rfl 23 zeroQ.cells S9.out.2.1 query_size rfl (query_one _) ?_)
                        | (iterate 9 go_step
                           refine wpList_store_row rfl _ _ _ rfl w.heap.size zeroQ.cells rfl rfl 23 zeroQ.cells S9.out.2.1 query_size rfl (query_one _) ?_)
                      have HZ := Lib.hid (S9.out.fin zeroQ.cells)
                      obtain ⟨wz, hwz⟩ : ∃ W, W = wr.setRow w.heap.size zeroQ.cells := ⟨_, rfl⟩
                      rw [← hwz] at HZ ⊢
                      clear hwz
                      go_wp2_with (fail)
                      exact bodyPost_ret (v := .tuple #[.agg zeroQ.cells, .bool false]) ((results_cell_row_tmp (p := 2) (u := 3) (ty := 23) rfl _ _ w.heap.size 23 zeroQ.cells (0, 0) _ rfl HZ.out.2 Tryd.underlying23 rfl query_size).trans rfl) rfl (HF.out _ HZ.out.1)
                    | true =>
                      rcases Nat.eq_zero_or_pos RL with hz | hz
                      · subst hz
                        clear d4
                        obtain ⟨rb, hrb⟩ : ∃ b, b = (QueryL.mk kd n0 0 lt ag 0).rightB := ⟨_, rfl⟩
                        have HRt : Hid (Calls Tryd.prog 6 #[.agg (QueryL.mk kd n0 0 lt ag 0).cells] wr (Below0 wr (.bool rb))) := by
                          rw [hrb]
                          exact Lib.hid (rqRight_any wr _)
                        unfold QueryL.cells at HRt
                        have Hrb := Lib.hid hrb
                        clear hrb
                        have d0 : wr.cell? ⟨qb, 0, none⟩ = some (.int .i64 kd) := S9.out.cell 0 rfl
                        have d1 : wr.cell? ⟨qb, 1, none⟩ = some (.int .i64 n0) := S9.out.cell 1 rfl
                        have d2 : wr.cell? ⟨qb, 2, none⟩ = some (.int .i64 0) := S9.out.cell 2 rfl
                        have d3 : wr.cell? ⟨qb, 3, none⟩ = some (.int .i64 lt) := S9.out.cell 3 rfl
                        have d4 : wr.cell? ⟨qb, 4, none⟩ = some (.int .i64 ag) := S9.out.cell 4 rfl
                        have d5 : wr.cell? ⟨qb, 5, none⟩ = some (.int .i64 0) := S9.out.cell 5 rfl
                        go_wp2_with (fail)
                        refine HRt.out.mono ?_
                        rintro e wv ⟨rfl, hB⟩
                        have SV := Lib.hid (S9.out.below hB)
                        clear hB d0 d1 d2 d3 d4 d5
                        dsimp only
                        cases rb with
                        | false =>
                          have HF : Hid (∀ wz, Below w.heap.size w wz → P (.returned (.tuple #[.agg zeroQ.cells, .bool false])) wz) := by
                            refine Lib.hid (fun wz h => ?_)
                            rw [HP.out, HRq.out, if_neg (by rw [← Hrb.out]; simp)]
                            exact ⟨rfl, h⟩
                          go_upto_region 37 with (fail)
                          refine wp_region_lit ?_
                          first
                            | (refine wpList_store_row rfl _ _ _ rfl w.heap.size zeroQ.cells rfl rfl 23 zeroQ.cells SV.out.2.1 query_size rfl (query_one _) ?_)
                            | (iterate 1 go_step
                               refine wpList_store_row rfl _ _ _ rfl w.heap.size zeroQ.cells rfl rfl 23 zeroQ.cells SV.out.2.1 query_size rfl (query_one _) ?_)
                            | (iterate 2 go_step
                               refine wpList_store_row rfl _ _ _ rfl w.heap.size zeroQ.cells rfl rfl 23 zeroQ.cells SV.out.2.1 query_size rfl (query_one _) ?_)
                            | (iterate 3 go_step
                               refine wpList_store_row rfl _ _ _ rfl w.heap.size zeroQ.cells rfl rfl 23 zeroQ.cells SV.out.2.1 query_size rfl (query_one _) ?_)
                            | (iterate 4 go_step
                               refine wpList_store_row rfl _ _ _ rfl w.heap.size zeroQ.cells rfl rfl 23 zeroQ.cells SV.out.2.1 query_size rfl (query_one _) ?_)
                            | (iterate 5 go_step
                               refine wpList_store_row rfl _ _ _ rfl w.heap.size zeroQ.cells rfl rfl 23 zeroQ.cells SV.out.2.1 query_size rfl (query_one _) ?_)
                            | (iterate 6 go_step
                               refine wpList_store_row rfl _ _ _ rfl w.heap.size zeroQ.cells rfl rfl 23 zeroQ.cells SV.out.2.1 query_size rfl (query_one _) ?_)
                            | (iterate 7 go_step
                               refine wpList_store_row rfl _ _ _ rfl w.heap.size zeroQ.cells rfl rfl 23 zeroQ.cells SV.out.2.1 query_size rfl (query_one _) ?_)
                            | (iterate 8 go_step
                               refine wpList_store_row rfl _ _ _ rfl w.heap.size zeroQ.cells rfl rfl 23 zeroQ.cells SV.out.2.1 query_size rfl (query_one _) ?_)
                            | (iterate 9 go_step
                               refine wpList_store_row rfl _ _ _ rfl w.heap.size zeroQ.cells rfl rfl 23 zeroQ.cells SV.out.2.1 query_size rfl (query_one _) ?_)
                          have HZ := Lib.hid (SV.out.fin zeroQ.cells)
                          obtain ⟨wz, hwz⟩ : ∃ W, W = wv.setRow w.heap.size zeroQ.cells := ⟨_, rfl⟩
                          rw [← hwz] at HZ ⊢
                          clear hwz
                          go_wp2_with (fail)
                          exact bodyPost_ret (v := .tuple #[.agg zeroQ.cells, .bool false]) ((results_cell_row_tmp (p := 2) (u := 3) (ty := 23) rfl _ _ w.heap.size 23 zeroQ.cells (0, 0) _ rfl HZ.out.2 Tryd.underlying23 rfl query_size).trans rfl) rfl (HF.out _ HZ.out.1)
                        | true =>
                          have HF : Hid (∀ wz, Below w.heap.size w wz → P (.returned (.tuple #[.agg (QueryL.mk kd n0 0 lt ag 0).cells, .bool true])) wz) := by
                            refine Lib.hid (fun wz h => ?_)
                            rw [HP.out, HRq.out, if_pos ⟨⟨by trivial, HRs.out.2.2.2 (by trivial)⟩, Hrb.out.symm⟩]
                            exact ⟨rfl, h⟩
                          have d0 : wv.cell? ⟨qb, 0, none⟩ = some (.int .i64 kd) := SV.out.cell 0 rfl
                          have d1 : wv.cell? ⟨qb, 1, none⟩ = some (.int .i64 n0) := SV.out.cell 1 rfl
                          have d2 : wv.cell? ⟨qb, 2, none⟩ = some (.int .i64 0) := SV.out.cell 2 rfl
                          have d3 : wv.cell? ⟨qb, 3, none⟩ = some (.int .i64 lt) := SV.out.cell 3 rfl
                          have d4 : wv.cell? ⟨qb, 4, none⟩ = some (.int .i64 ag) := SV.out.cell 4 rfl
                          have d5 : wv.cell? ⟨qb, 5, none⟩ = some (.int .i64 0) := SV.out.cell 5 rfl
                          go_upto_region 38 with (fail)
                          refine wp_region_lit ?_
                          first
                            | (refine wpList_store_row rfl _ _ _ rfl w.heap.size (QueryL.mk kd n0 0 lt ag 0).cells rfl rfl 23 zeroQ.cells SV.out.2.1 query_size rfl (query_one _) ?_)
                            | (iterate 1 go_step
                               refine wpList_store_row rfl _ _ _ rfl w.heap.size (QueryL.mk kd n0 0 lt ag 0).cells rfl rfl 23 zeroQ.cells SV.out.2.1 query_size rfl (query_one _) ?_)
                            | (iterate 2 go_step
                               refine wpList_store_row rfl _ _ _ rfl w.heap.size (QueryL.mk kd n0 0 lt ag 0).cells rfl rfl 23 zeroQ.cells SV.out.2.1 query_size rfl (query_one _) ?_)
                            | (iterate 3 go_step
                               refine wpList_store_row rfl _ _ _ rfl w.heap.size (QueryL.mk kd n0 0 lt ag 0).cells rfl rfl 23 zeroQ.cells SV.out.2.1 query_size rfl (query_one _) ?_)
                            | (iterate 4 go_step
                               refine wpList_store_row rfl _ _ _ rfl w.heap.size (QueryL.mk kd n0 0 lt ag 0).cells rfl rfl 23 zeroQ.cells SV.out.2.1 query_size rfl (query_one _) ?_)
                            | (iterate 5 go_step
                               refine wpList_store_row rfl _ _ _ rfl w.heap.size (QueryL.mk kd n0 0 lt ag 0).cells rfl rfl 23 zeroQ.cells SV.out.2.1 query_size rfl (query_one _) ?_)
                            | (iterate 6 go_step
                               refine wpList_store_row rfl _ _ _ rfl w.heap.size (QueryL.mk kd n0 0 lt ag 0).cells rfl rfl 23 zeroQ.cells SV.out.2.1 query_size rfl (query_one _) ?_)
                            | (iterate 7 go_step
                               refine wpList_store_row rfl _ _ _ rfl w.heap.size (QueryL.mk kd n0 0 lt ag 0).cells rfl rfl 23 zeroQ.cells SV.out.2.1 query_size rfl (query_one _) ?_)
                            | (iterate 8 go_step
                               refine wpList_store_row rfl _ _ _ rfl w.heap.size (QueryL.mk kd n0 0 lt ag 0).cells rfl rfl 23 zeroQ.cells SV.out.2.1 query_size rfl (query_one _) ?_)
                            | (iterate 9 go_step
                               refine wpList_store_row rfl _ _ _ rfl w.heap.size (QueryL.mk kd n0 0 lt ag 0).cells rfl rfl 23 zeroQ.cells SV.out.2.1 query_size rfl (query_one _) ?_)
                          have HZ := Lib.hid (SV.out.fin (QueryL.mk kd n0 0 lt ag 0).cells)
                          obtain ⟨wz, hwz⟩ : ∃ W, W = wv.setRow w.heap.size (QueryL.mk kd n0 0 lt ag 0).cells := ⟨_, rfl⟩
                          rw [← hwz] at HZ ⊢
                          clear hwz
                          go_wp2_with (fail)
                          exact bodyPost_ret (v := .tuple #[.agg (QueryL.mk kd n0 0 lt ag 0).cells, .bool true]) ((results_cell_row_tmp (p := 2) (u := 3) (ty := 23) rfl _ _ w.heap.size 23 (QueryL.mk kd n0 0 lt ag 0).cells (0, 0) _ rfl HZ.out.2 Tryd.underlying23 rfl query_size).trans rfl) rfl (HF.out _ HZ.out.1)
                      · have hz' : (0 : Int) < (RL : Int) := by omega
                        have HF : Hid (∀ wz, Below w.heap.size w wz → P (.returned (.tuple #[.agg zeroQ.cells, .bool false])) wz) := by
                          refine Lib.hid (fun wz h => ?_)
                          rw [HP.out, HRq.out, if_neg (by rintro ⟨⟨_, h⟩, _⟩; have := HRs.out.2.2.1 h; omega)]
                          exact ⟨rfl, h⟩
                        clear hz
                        go_upto_region 37 with (fail)
                        refine wp_region_lit ?_
                        first
                          | (refine wpList_store_row rfl _ _ _ rfl w.heap.size zeroQ.cells rfl rfl 23 zeroQ.cells S9.out.2.1 query_size rfl (query_one _) ?_)
                          | (iterate 1 go_step
                             refine wpList_store_row rfl _ _ _ rfl w.heap.size zeroQ.cells rfl rfl 23 zeroQ.cells S9.out.2.1 query_size rfl (query_one _) ?_)
                          | (iterate 2 go_step
                             refine wpList_store_row rfl _ _ _ rfl w.heap.size zeroQ.cells rfl rfl 23 zeroQ.cells S9.out.2.1 query_size rfl (query_one _) ?_)
                          | (iterate 3 go_step
                             refine wpList_store_row rfl _ _ _ rfl w.heap.size zeroQ.cells rfl rfl 23 zeroQ.cells S9.out.2.1 query_size rfl (query_one _) ?_)
                          | (iterate 4 go_step
                             refine wpList_store_row rfl _ _ _ rfl w.heap.size zeroQ.cells rfl rfl 23 zeroQ.cells S9.out.2.1 query_size rfl (query_one _) ?_)
                          | (iterate 5 go_step
                             refine wpList_store_row rfl _ _ _ rfl w.heap.size zeroQ.cells rfl rfl 23 zeroQ.cells S9.out.2.1 query_size rfl (query_one _) ?_)
                          | (iterate 6 go_step
                             refine wpList_store_row rfl _ _ _ rfl w.heap.size zeroQ.cells rfl rfl 23 zeroQ.cells S9.out.2.1 query_size rfl (query_one _) ?_)
                          | (iterate 7 go_step
                             refine wpList_store_row rfl _ _ _ rfl w.heap.size zeroQ.cells rfl rfl 23 zeroQ.cells S9.out.2.1 query_size rfl (query_one _) ?_)
                          | (iterate 8 go_step
                             refine wpList_store_row rfl _ _ _ rfl w.heap.size zeroQ.cells rfl rfl 23 zeroQ.cells S9.out.2.1 query_size rfl (query_one _) ?_)
                          | (iterate 9 go_step
                             refine wpList_store_row rfl _ _ _ rfl w.heap.size zeroQ.cells rfl rfl 23 zeroQ.cells S9.out.2.1 query_size rfl (query_one _) ?_)
                        have HZ := Lib.hid (S9.out.fin zeroQ.cells)
                        obtain ⟨wz, hwz⟩ : ∃ W, W = wr.setRow w.heap.size zeroQ.cells := ⟨_, rfl⟩
                        rw [← hwz] at HZ ⊢
                        clear hwz
                        go_wp2_with (fail)
                        exact bodyPost_ret (v := .tuple #[.agg zeroQ.cells, .bool false]) ((results_cell_row_tmp (p := 2) (u := 3) (ty := 23) rfl _ _ w.heap.size 23 zeroQ.cells (0, 0) _ rfl HZ.out.2 Tryd.underlying23 rfl query_size).trans rfl) rfl (HF.out _ HZ.out.1)
end Go.Proofs.YteoolfifpmbkeaaDoor
