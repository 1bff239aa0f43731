/-
  What each statement of layer 5 asks first.
-/
import Derived.Test.YtmjanplhgpcbeaaDoorEventParse
import Derived.Test.YtmjanplhgpcbeaaDoorEventTape
import Derived.Test.YtmjanplhgpcbeaaDoorLocal
namespace Go.Proofs.YtmjanplhgpcbeaaDoor
open Go Go.RowKit

def annL : List (BitVec 8) := [97, 110, 110]
def x1 : ItemL := ⟨1, annL, 12, -3⟩
def x2 : ItemL := ⟨2, [], 15, 0⟩
def s1L : List (BitVec 8) := [101, 118, 101, 110, 116, 32, 97, 110, 110, 32, 49, 50, 32, 45, 51]
def s2L : List (BitVec 8) := [109, 97, 114, 107, 32, 49, 53]
def s3L : List (BitVec 8) := [109, 97, 114, 107, 32, 45, 49]
theorem x1_right : x1.rightB = true := by decide
theorem x2_right : x2.rightB = true := by decide
theorem itoa_12 : Lib.itoa 12 = [49, 50] := by simp [Lib.itoa, Lib.decDigits]
theorem itoa_m3 : Lib.itoa (-3) = [45, 51] := by simp [Lib.itoa, Lib.decDigits]
theorem itoa_15 : Lib.itoa 15 = [49, 53] := by simp [Lib.itoa, Lib.decDigits]
theorem x1_text : x1.text = s1L := by
  have e : x1.text = bEvent ++ annL ++ bBlank ++ itoaL 12 ++ bBlank ++ itoaL (-3) := rfl
  rw [e, itoaL_bv, itoaL_bv, itoa_12, itoa_m3]
  decide
theorem x2_text : x2.text = s2L := by
  have e : x2.text = bMark ++ itoaL 15 := rfl
  rw [e, itoaL_bv, itoa_15]
  decide
theorem s1_parse : parseL s1L = (x1, true) := by rw [← x1_text]; exact parseL_text x1_right
theorem s2_parse : parseL s2L = (x2, true) := by rw [← x2_text]; exact parseL_text x2_right
theorem s3_parse : parseL s3L = (zeroI, false) := by
  have hw : wordsOf s3L = [wMark, [45, 49]] := by decide +kernel
  have hn : numL [45, 49] = -1 := by decide +kernel
  have hi : itemW (wordsOf s3L) = ⟨2, [], -1, 0⟩ := by rw [hw, itemW, if_pos rfl, hn]
  have hr : (itemW (wordsOf s3L)).rightB = false := by rw [hi]; decide
  rw [parseL, if_neg (by rw [hr]; simp)]
def VF (Vs : List Value) (A B : World → Value → Prop) (i : Nat) (w : World) (v : Value) : Prop := cond (Nat.beq i 23) (A w v) (cond (Nat.beq i 24) (B w v) (v = Vs.getD i undef))
def wkF (i : Nat) : Bool := Nat.beq i 23 || Nat.beq i 24
def erF (i : Nat) : Bool := Nat.beq i 24 || Nat.beq i 25
theorem VF_st (Vs : List Value) (A B : World → Value → Prop) (hA : ∀ w w' v, Below w.heap.size w w' → A w v → A w' v) (hB : ∀ w w' v, Below w.heap.size w w' → B w v → B w' v) : ∀ i w w' v, Below w.heap.size w w' → VF Vs A B i w v → VF Vs A B i w' v := by
  intro i w w' v h
  unfold VF
  cases Nat.beq i 23
  · cases Nat.beq i 24
    · exact id
    · exact hB w w' v h
  · exact hA w w' v h
theorem VF_free (Vs : List Value) (A B : World → Value → Prop) : ∀ i w w' v, wkF i = false → VF Vs A B i w v → VF Vs A B i w' v := by
  intro i w w' v h
  unfold wkF at h
  simp only [Bool.or_eq_false_iff] at h
  unfold VF
  rw [h.1, h.2]
  exact id
def stB (m : List (BitVec 8)) (w : World) (v : Value) : Prop := ∃ sa sc, v = .slice sa m.length sc ∧ (sa = none → sc = 0) ∧ SrcP w sa m.length m
def stR (B0 : Nat) (m : List (BitVec 8)) (w : World) (v : Value) : Prop := ∃ rb base, v = .pointer (some ⟨rb, 0, none⟩) ∧ B0 ≤ rb ∧ base ≤ w.heap.size ∧ RdAt base w rb ⟨m, 0⟩
theorem stB_st (m : List (BitVec 8)) : ∀ w w' v, Below w.heap.size w w' → stB m w v → stB m w' v := fun _ _ _ hB ⟨sa, sc, h1, h2, h3⟩ => ⟨sa, sc, h1, h2, h3.below hB⟩
theorem stR_st (B0 : Nat) (m : List (BitVec 8)) : ∀ w w' v, Below w.heap.size w w' → stR B0 m w v → stR B0 m w' v := fun _ _ _ hB ⟨rb, base, h1, h2, h3, h4⟩ => ⟨rb, base, h1, h2, Nat.le_trans h3 hB.size, h4.below hB⟩
def RowI (w : World) (g : Nat) (x : ItemL) : Prop := w.heap[g]? = some (.cells x.cells 23 (0, 0))
theorem RowI.below {w w' : World} {g : Nat} {x : ItemL} (h : RowI w g x) (hB : Below w.heap.size w w') : RowI w' g x := (hB.block _ (Array.getElem?_eq_some_iff.1 h).1).trans h
theorem RowI.cell {w : World} {g : Nat} {x : ItemL} (h : RowI w g x) : ∀ (i : Nat) (v : Value), x.cells[i]? = some v → w.cell? ⟨g, i, none⟩ = some v := fun i v hi => by
  rw [cell_of_row _ _ _ _ _ _ h]
  exact hi
theorem cells4 {w : World} {g : Nat} {x : ItemL} (h : ∀ (i : Nat) (v : Value), x.cells[i]? = some v → w.cell? ⟨g, i, none⟩ = some v) : w.cell? ⟨g, 0, none⟩ = some (.int .i64 x.kind) ∧ w.cell? ⟨g, 1, none⟩ = some (Sv x.key) ∧ w.cell? ⟨g, 2, none⟩ = some (.int .i64 x.time) ∧ w.cell? ⟨g, 3, none⟩ = some (.int .i64 x.value) :=
  ⟨h 0 _ rfl, h 1 _ rfl, h 2 _ rfl, h 3 _ rfl⟩
theorem stored_row (w : World) (x : ItemL) : RowI ((w.alloc (Obj.cells #[.int .i64 0, .string ⟨#[]⟩, .int .i64 0, .int .i64 0] 23)).setRow w.heap.size x.cells) w.heap.size x ∧ Below w.heap.size w ((w.alloc (Obj.cells #[.int .i64 0, .string ⟨#[]⟩, .int .i64 0, .int .i64 0] 23)).setRow w.heap.size x.cells) :=
  ⟨setRow_heap _ _ _ _ _ _ (heap_alloc_new w _), ((Below.refl _ w).alloc (Nat.le_refl _) _).trans ⟨rfl, rfl, rfl, by simp [World.setRow], fun i hi => setRow_other _ _ _ _ (by omega)⟩⟩
set_option maxRecDepth 100000 in
set_option maxHeartbeats 4000000 in
theorem efirst_any (w : World) (hL : LibIn w) : Calls Tryd.prog 6 #[] w (Below0 w (.bool true)) := by
  have HL := Lib.hid hL
  have HP1 : Hid (Calls Tryd.prog 12 #[.string ⟨#[101, 118, 101, 110, 116, 32, 97, 110, 110, 32, 49, 50, 32, 45, 51]⟩] w (Below0 w (.tuple #[.agg #[.int .i64 1, Sv annL, .int .i64 12, .int .i64 (-3)], .bool true]))) := by
    have h := eparse_any w s1L (by decide) hL
    rw [s1_parse] at h
    exact Lib.hid h
  have HP2 : Hid (∀ w', Below w.heap.size w w' → Calls Tryd.prog 12 #[.string ⟨#[109, 97, 114, 107, 32, 49, 53]⟩] w' (Below0 w' (.tuple #[.agg #[.int .i64 2, Sv [], .int .i64 15, .int .i64 0], .bool true]))) := by
    refine Lib.hid (fun w' hB => ?_)
    have h := eparse_any w' s2L (by decide) (hL.below hB)
    rw [s2_parse] at h
    exact h
  have HP3 : Hid (∀ w', Below w.heap.size w w' → Calls Tryd.prog 12 #[.string ⟨#[109, 97, 114, 107, 32, 45, 49]⟩] w' (Below0 w' (.tuple #[.agg #[.int .i64 0, Sv [], .int .i64 0, .int .i64 0], .bool false]))) := by
    refine Lib.hid (fun w' hB => ?_)
    have h := eparse_any w' s3L (by decide) (hL.below hB)
    rw [s3_parse] at h
    exact h
  clear hL
  go_enter Tryd.func6, Tryd.ntmps6
  go_wp2_with (fail)
  refine HP1.out.mono ?_
  rintro e v1 ⟨rfl, hB⟩
  have B1 := Lib.hid hB
  clear hB
  dsimp only
  first
    | (iterate 8 go_step
       refine wpList_store_row rfl _ _ _ rfl v1.heap.size (x1).cells rfl rfl 23 zeroI.cells (heap_alloc_new v1 _) item_size rfl (item_one1 _) ?_)
    | (iterate 9 go_step
       refine wpList_store_row rfl _ _ _ rfl v1.heap.size (x1).cells rfl rfl 23 zeroI.cells (heap_alloc_new v1 _) item_size rfl (item_one1 _) ?_)
    | (iterate 10 go_step
       refine wpList_store_row rfl _ _ _ rfl v1.heap.size (x1).cells rfl rfl 23 zeroI.cells (heap_alloc_new v1 _) item_size rfl (item_one1 _) ?_)
    | (iterate 11 go_step
       refine wpList_store_row rfl _ _ _ rfl v1.heap.size (x1).cells rfl rfl 23 zeroI.cells (heap_alloc_new v1 _) item_size rfl (item_one1 _) ?_)
    | (iterate 12 go_step
       refine wpList_store_row rfl _ _ _ rfl v1.heap.size (x1).cells rfl rfl 23 zeroI.cells (heap_alloc_new v1 _) item_size rfl (item_one1 _) ?_)
    | (iterate 13 go_step
       refine wpList_store_row rfl _ _ _ rfl v1.heap.size (x1).cells rfl rfl 23 zeroI.cells (heap_alloc_new v1 _) item_size rfl (item_one1 _) ?_)
    | (iterate 14 go_step
       refine wpList_store_row rfl _ _ _ rfl v1.heap.size (x1).cells rfl rfl 23 zeroI.cells (heap_alloc_new v1 _) item_size rfl (item_one1 _) ?_)
    | (iterate 15 go_step
       refine wpList_store_row rfl _ _ _ rfl v1.heap.size (x1).cells rfl rfl 23 zeroI.cells (heap_alloc_new v1 _) item_size rfl (item_one1 _) ?_)
    | (iterate 16 go_step
       refine wpList_store_row rfl _ _ _ rfl v1.heap.size (x1).cells rfl rfl 23 zeroI.cells (heap_alloc_new v1 _) item_size rfl (item_one1 _) ?_)
    | (iterate 17 go_step
       refine wpList_store_row rfl _ _ _ rfl v1.heap.size (x1).cells rfl rfl 23 zeroI.cells (heap_alloc_new v1 _) item_size rfl (item_one1 _) ?_)
    | (iterate 18 go_step
       refine wpList_store_row rfl _ _ _ rfl v1.heap.size (x1).cells rfl rfl 23 zeroI.cells (heap_alloc_new v1 _) item_size rfl (item_one1 _) ?_)
    | (iterate 19 go_step
       refine wpList_store_row rfl _ _ _ rfl v1.heap.size (x1).cells rfl rfl 23 zeroI.cells (heap_alloc_new v1 _) item_size rfl (item_one1 _) ?_)
    | (iterate 20 go_step
       refine wpList_store_row rfl _ _ _ rfl v1.heap.size (x1).cells rfl rfl 23 zeroI.cells (heap_alloc_new v1 _) item_size rfl (item_one1 _) ?_)
    | (iterate 21 go_step
       refine wpList_store_row rfl _ _ _ rfl v1.heap.size (x1).cells rfl rfl 23 zeroI.cells (heap_alloc_new v1 _) item_size rfl (item_one1 _) ?_)
  obtain ⟨w1, hw1⟩ : ∃ W, W = (v1.alloc (Obj.cells #[.int .i64 0, .string ⟨#[]⟩, .int .i64 0, .int .i64 0] 23)).setRow v1.heap.size x1.cells := ⟨_, rfl⟩
  obtain ⟨b1, hb1⟩ : ∃ b, b = v1.heap.size := ⟨_, rfl⟩
  have H1 : Hid (RowI w1 b1 x1 ∧ Below w.heap.size w w1) := by
    obtain ⟨k1, k2⟩ := stored_row v1 x1
    rw [hw1, hb1]
    exact Lib.hid ⟨k1, B1.out.trans (k2.mono B1.out.size)⟩
  rw [← hw1, ← hb1]
  clear hw1 hb1
  go_wp2_with (fail)
  refine (HP2.out w1 H1.out.2).mono ?_
  rintro e v2 ⟨rfl, hB⟩
  have B2 : Hid (RowI v2 b1 x1 ∧ Below w.heap.size w v2) := Lib.hid ⟨H1.out.1.below hB, H1.out.2.trans (hB.mono H1.out.2.size)⟩
  clear hB
  dsimp only
  first
    | (iterate 8 go_step
       refine wpList_store_row rfl _ _ _ rfl v2.heap.size (x2).cells rfl rfl 23 zeroI.cells (heap_alloc_new v2 _) item_size rfl (item_one1 _) ?_)
    | (iterate 9 go_step
       refine wpList_store_row rfl _ _ _ rfl v2.heap.size (x2).cells rfl rfl 23 zeroI.cells (heap_alloc_new v2 _) item_size rfl (item_one1 _) ?_)
    | (iterate 10 go_step
       refine wpList_store_row rfl _ _ _ rfl v2.heap.size (x2).cells rfl rfl 23 zeroI.cells (heap_alloc_new v2 _) item_size rfl (item_one1 _) ?_)
    | (iterate 11 go_step
       refine wpList_store_row rfl _ _ _ rfl v2.heap.size (x2).cells rfl rfl 23 zeroI.cells (heap_alloc_new v2 _) item_size rfl (item_one1 _) ?_)
    | (iterate 12 go_step
       refine wpList_store_row rfl _ _ _ rfl v2.heap.size (x2).cells rfl rfl 23 zeroI.cells (heap_alloc_new v2 _) item_size rfl (item_one1 _) ?_)
    | (iterate 13 go_step
       refine wpList_store_row rfl _ _ _ rfl v2.heap.size (x2).cells rfl rfl 23 zeroI.cells (heap_alloc_new v2 _) item_size rfl (item_one1 _) ?_)
    | (iterate 14 go_step
       refine wpList_store_row rfl _ _ _ rfl v2.heap.size (x2).cells rfl rfl 23 zeroI.cells (heap_alloc_new v2 _) item_size rfl (item_one1 _) ?_)
    | (iterate 15 go_step
       refine wpList_store_row rfl _ _ _ rfl v2.heap.size (x2).cells rfl rfl 23 zeroI.cells (heap_alloc_new v2 _) item_size rfl (item_one1 _) ?_)
    | (iterate 16 go_step
       refine wpList_store_row rfl _ _ _ rfl v2.heap.size (x2).cells rfl rfl 23 zeroI.cells (heap_alloc_new v2 _) item_size rfl (item_one1 _) ?_)
    | (iterate 17 go_step
       refine wpList_store_row rfl _ _ _ rfl v2.heap.size (x2).cells rfl rfl 23 zeroI.cells (heap_alloc_new v2 _) item_size rfl (item_one1 _) ?_)
    | (iterate 18 go_step
       refine wpList_store_row rfl _ _ _ rfl v2.heap.size (x2).cells rfl rfl 23 zeroI.cells (heap_alloc_new v2 _) item_size rfl (item_one1 _) ?_)
    | (iterate 19 go_step
       refine wpList_store_row rfl _ _ _ rfl v2.heap.size (x2).cells rfl rfl 23 zeroI.cells (heap_alloc_new v2 _) item_size rfl (item_one1 _) ?_)
    | (iterate 20 go_step
       refine wpList_store_row rfl _ _ _ rfl v2.heap.size (x2).cells rfl rfl 23 zeroI.cells (heap_alloc_new v2 _) item_size rfl (item_one1 _) ?_)
    | (iterate 21 go_step
       refine wpList_store_row rfl _ _ _ rfl v2.heap.size (x2).cells rfl rfl 23 zeroI.cells (heap_alloc_new v2 _) item_size rfl (item_one1 _) ?_)
  obtain ⟨w2, hw2⟩ : ∃ W, W = (v2.alloc (Obj.cells #[.int .i64 0, .string ⟨#[]⟩, .int .i64 0, .int .i64 0] 23)).setRow v2.heap.size x2.cells := ⟨_, rfl⟩
  obtain ⟨b2, hb2⟩ : ∃ b, b = v2.heap.size := ⟨_, rfl⟩
  have H2 : Hid (RowI w2 b1 x1 ∧ RowI w2 b2 x2 ∧ Below w.heap.size w w2) := by
    obtain ⟨k1, k2⟩ := stored_row v2 x2
    rw [hw2, hb2]
    exact Lib.hid ⟨B2.out.1.below k2, k1, B2.out.2.trans (k2.mono B2.out.2.size)⟩
  rw [← hw2, ← hb2]
  clear hw2 hb2
  go_wp2_with (fail)
  refine (HP3.out w2 H2.out.2.2).mono ?_
  rintro e v3 ⟨rfl, hB⟩
  have B3 : Hid (RowI v3 b1 x1 ∧ RowI v3 b2 x2 ∧ Below w.heap.size w v3) := Lib.hid ⟨H2.out.1.below hB, H2.out.2.1.below hB, H2.out.2.2.trans (hB.mono H2.out.2.2.size)⟩
  clear hB
  dsimp only
  first
    | (iterate 8 go_step
       refine wpList_store_row rfl _ _ _ rfl v3.heap.size (zeroI).cells rfl rfl 23 zeroI.cells (heap_alloc_new v3 _) item_size rfl (item_one1 _) ?_)
    | (iterate 9 go_step
       refine wpList_store_row rfl _ _ _ rfl v3.heap.size (zeroI).cells rfl rfl 23 zeroI.cells (heap_alloc_new v3 _) item_size rfl (item_one1 _) ?_)
    | (iterate 10 go_step
       refine wpList_store_row rfl _ _ _ rfl v3.heap.size (zeroI).cells rfl rfl 23 zeroI.cells (heap_alloc_new v3 _) item_size rfl (item_one1 _) ?_)
    | (iterate 11 go_step
       refine wpList_store_row rfl _ _ _ rfl v3.heap.size (zeroI).cells rfl rfl 23 zeroI.cells (heap_alloc_new v3 _) item_size rfl (item_one1 _) ?_)
    | (iterate 12 go_step
       refine wpList_store_row rfl _ _ _ rfl v3.heap.size (zeroI).cells rfl rfl 23 zeroI.cells (heap_alloc_new v3 _) item_size rfl (item_one1 _) ?_)
    | (iterate 13 go_step
       refine wpList_store_row rfl _ _ _ rfl v3.heap.size (zeroI).cells rfl rfl 23 zeroI.cells (heap_alloc_new v3 _) item_size rfl (item_one1 _) ?_)
    | (iterate 14 go_step
       refine wpList_store_row rfl _ _ _ rfl v3.heap.size (zeroI).cells rfl rfl 23 zeroI.cells (heap_alloc_new v3 _) item_size rfl (item_one1 _) ?_)
    | (iterate 15 go_step
       refine wpList_store_row rfl _ _ _ rfl v3.heap.size (zeroI).cells rfl rfl 23 zeroI.cells (heap_alloc_new v3 _) item_size rfl (item_one1 _) ?_)
    | (iterate 16 go_step
       refine wpList_store_row rfl _ _ _ rfl v3.heap.size (zeroI).cells rfl rfl 23 zeroI.cells (heap_alloc_new v3 _) item_size rfl (item_one1 _) ?_)
    | (iterate 17 go_step
       refine wpList_store_row rfl _ _ _ rfl v3.heap.size (zeroI).cells rfl rfl 23 zeroI.cells (heap_alloc_new v3 _) item_size rfl (item_one1 _) ?_)
    | (iterate 18 go_step
       refine wpList_store_row rfl _ _ _ rfl v3.heap.size (zeroI).cells rfl rfl 23 zeroI.cells (heap_alloc_new v3 _) item_size rfl (item_one1 _) ?_)
    | (iterate 19 go_step
       refine wpList_store_row rfl _ _ _ rfl v3.heap.size (zeroI).cells rfl rfl 23 zeroI.cells (heap_alloc_new v3 _) item_size rfl (item_one1 _) ?_)
    | (iterate 20 go_step
       refine wpList_store_row rfl _ _ _ rfl v3.heap.size (zeroI).cells rfl rfl 23 zeroI.cells (heap_alloc_new v3 _) item_size rfl (item_one1 _) ?_)
    | (iterate 21 go_step
       refine wpList_store_row rfl _ _ _ rfl v3.heap.size (zeroI).cells rfl rfl 23 zeroI.cells (heap_alloc_new v3 _) item_size rfl (item_one1 _) ?_)
  obtain ⟨w3, hw3⟩ : ∃ W, W = (v3.alloc (Obj.cells #[.int .i64 0, .string ⟨#[]⟩, .int .i64 0, .int .i64 0] 23)).setRow v3.heap.size zeroI.cells := ⟨_, rfl⟩
  obtain ⟨b3, hb3⟩ : ∃ b, b = v3.heap.size := ⟨_, rfl⟩
  have H3 : Hid (RowI w3 b1 x1 ∧ RowI w3 b2 x2 ∧ Below w.heap.size w w3) := by
    obtain ⟨k1, k2⟩ := stored_row v3 zeroI
    rw [hw3]
    exact Lib.hid ⟨B3.out.1.below k2, B3.out.2.1.below k2, B3.out.2.2.trans (k2.mono B3.out.2.2.size)⟩
  rw [← hw3, ← hb3]
  clear hw3 hb3
  go_upto_region 5 with (fail)
  obtain ⟨w4, hw4⟩ : ∃ W, W = w3.alloc (.cells #[.slice none 0 0] 31) := ⟨_, rfl⟩
  obtain ⟨b, hb⟩ : ∃ b, b = w3.heap.size := ⟨_, rfl⟩
  have H4 : Hid (RowI w4 b1 x1 ∧ RowI w4 b2 x2 ∧ PenAt (fun k => k < b) w4 b [] ∧ b < w4.heap.size ∧ w.heap.size ≤ b ∧ Below w.heap.size w w4) := by
    have hB : Below w3.heap.size w3 w4 := by rw [hw4]; exact (Below.refl _ w3).alloc (Nat.le_refl _) _
    refine Lib.hid ⟨H3.out.1.below hB, H3.out.2.1.below hB, by rw [hw4, hb]; exact PenAt.new _ w3, by rw [hw4, hb]; simp, by rw [hb]; exact H3.out.2.2.size, H3.out.2.2.trans (hB.mono H3.out.2.2.size)⟩
  rw [← hw4, ← hb]
  clear hw4 hb
  obtain ⟨d0, d1, d2, d3⟩ := cells4 H4.out.1.cell
  simp only [x1] at d0 d1 d2 d3
  have HPut : Hid (Calls Tryd.prog 11 #[.pointer (some ⟨b, 0, none⟩), .agg #[.int .i64 1, Sv annL, .int .i64 12, .int .i64 (-3)]] w4 (PenEnd (fun k => k < b) b w4 x1.bytes (.bool true))) := by
    have h := eput_yes w4 (fun k => k < b) b [] x1 x1_right H4.out.2.2.1 (fun k hk => Nat.lt_trans hk H4.out.2.2.2.1) (by decide)
    rw [List.nil_append] at h
    exact Lib.hid h
  go_wp2_with (fail)
  refine HPut.out.mono ?_
  rintro e w5 ⟨rfl, hp, hk⟩
  have H5 : Hid (RowI w5 b1 x1 ∧ RowI w5 b2 x2 ∧ PenAt (fun k => k < b) w5 b x1.bytes ∧ Below w.heap.size w w5) := by
    obtain ⟨k1, k2, k3, k4, k5, k6⟩ := H4.out
    have n1 : b1 ≠ b := by
      rintro rfl
      obtain ⟨v, hv, _⟩ := k3
      unfold RowI at k1
      rw [hv] at k1
      injection k1 with k1
      injection k1 with _ e2
      exact absurd e2 (by decide)
    have n2 : b2 ≠ b := by
      rintro rfl
      obtain ⟨v, hv, _⟩ := k3
      unfold RowI at k2
      rw [hv] at k2
      injection k2 with k2
      injection k2 with _ e2
      exact absurd e2 (by decide)
    exact Lib.hid ⟨hk.row k1 (by decide) n1, hk.row k2 (by decide) n2, hp, k6.trans (hk.below (B := w.heap.size) (fun k hk => by omega) k5 (by omega))⟩
  clear hp hk d0 d1 d2 d3
  obtain ⟨d0, d1, d2, d3⟩ := cells4 H5.out.1.cell
  obtain ⟨f0, f1, f2, f3⟩ := cells4 H5.out.2.1.cell
  simp only [x1] at d0 d1 d2 d3
  simp only [x2] at f0 f1 f2 f3
  obtain ⟨w6, hw6⟩ : ∃ W, W = w5.alloc (.cells #[.int .i64 1, Sv annL, .int .i64 12, .int .i64 (-3), .int .i64 0, .string ⟨#[]⟩, .int .i64 0, .int .i64 0, .int .i64 2, Sv [], .int .i64 15, .int .i64 0] 23) := ⟨_, rfl⟩
  have HBy : Hid (Below w5.heap.size w5 w6 ∧ Calls Tryd.prog 26 #[.slice (some ⟨w5.heap.size, 0, none⟩) 3 3] w6 (BytesEnd w6 (listL [x1, zeroI, x2]))) := by
    have hB : Below w5.heap.size w5 w6 := by rw [hw6]; exact (Below.refl _ w5).alloc (Nat.le_refl _) _
    refine Lib.hid ⟨hB, ebytes_any w6 (some ⟨w5.heap.size, 0, none⟩) 3 [x1, zeroI, x2] (.inr ⟨_, _, rfl, fun i x hx j v hv => ?_⟩) (by decide) (by decide)⟩
    rw [hw6, cell_of_row _ _ _ _ _ _ (heap_alloc_new w5 _)]
    have hj := cells_lt hv
    match i, hx with
    | 0, hx =>
      cases hx
      match j, hv with
      | 0, hv => exact hv
      | 1, hv => exact hv
      | 2, hv => exact hv
      | 3, hv => exact hv
      | k + 4, _ => omega
    | 1, hx =>
      cases hx
      match j, hv with
      | 0, hv => exact hv
      | 1, hv => exact hv
      | 2, hv => exact hv
      | 3, hv => exact hv
      | k + 4, _ => omega
    | 2, hx =>
      cases hx
      match j, hv with
      | 0, hv => exact hv
      | 1, hv => exact hv
      | 2, hv => exact hv
      | 3, hv => exact hv
      | k + 4, _ => omega
    | k + 3, hx => simp at hx
  dsimp only
  go_wp2_with (fail)
  rw [← hw6]
  clear hw6 d0 d1 d2 d3 f0 f1 f2 f3
  refine HBy.out.2.mono ?_
  rintro e w7 ⟨sa, sc, rfl, k1, k2, k3, k4, k5⟩
  have H7 : Hid (RowI w7 b1 x1 ∧ RowI w7 b2 x2 ∧ PenAt (fun k => k < b) w7 b x1.bytes ∧ Below w.heap.size w w7) := by
    obtain ⟨q1, q2, q3, q4⟩ := H5.out
    have hB : Below w5.heap.size w5 w7 := HBy.out.1.trans (k5.mono HBy.out.1.size)
    exact Lib.hid ⟨q1.below hB, q2.below hB, q3.below hB, q4.trans (hB.mono q4.size)⟩
  have HRd := Lib.hid (eread_any w7 sa sc (listL [x1, zeroI, x2]).length (listL [x1, zeroI, x2]) rfl k4.srcP k3 (by decide))
  obtain ⟨N, hN⟩ : ∃ N, N = (listL [x1, zeroI, x2]).length := ⟨_, rfl⟩
  rw [← hN] at HRd ⊢
  clear k1 k2 k3 k4 k5 hN
  dsimp only
  go_wp2_with (fail)
  refine HRd.out.mono ?_
  rintro e w8 ⟨v, rfl, ho, hB⟩
  have hT : readT (listL [x1, zeroI, x2]) = ([x1, x2], 0) := by
    rw [readT_back _ (by decide)]
    rfl
  rw [hT] at ho ⊢
  obtain ⟨va, vc, rfl, hat⟩ := ho.form
  obtain ⟨x, vb, vo, hx, rfl, f0, f1, f2, f3⟩ := hat.get (t := 1) (by decide)
  obtain rfl : x2 = x := by simpa using hx
  have H8 : Hid (RowI w8 b1 x1 ∧ RowI w8 b2 x2 ∧ PenAt (fun k => k < b) w8 b x1.bytes ∧ Below w.heap.size w w8) := by
    obtain ⟨q1, q2, q3, q4⟩ := H7.out
    exact Lib.hid ⟨q1.below hB, q2.below hB, q3.below hB, q4.trans (hB.mono q4.size)⟩
  have HE : Hid (w8.cell? ⟨vb, vo + 1 * 4, none⟩ = some (.int .i64 x2.kind) ∧ w8.cell? ⟨vb, vo + 1 * 4 + 1, none⟩ = some (Sv x2.key) ∧ w8.cell? ⟨vb, vo + 1 * 4 + 2, none⟩ = some (.int .i64 x2.time) ∧ w8.cell? ⟨vb, vo + 1 * 4 + 3, none⟩ = some (.int .i64 x2.value)) := Lib.hid ⟨f0, f1, f2, f3⟩
  clear ho hB hT hat hx f0 f1 f2 f3
  dsimp only
  rw [show ([x1, x2] : List ItemL).length = 2 from rfl]
  go_upto_region 7 with (fail)
  obtain ⟨W0, hW0⟩ : ∃ W : World, W = w8 := ⟨_, rfl⟩
  have hD : Below w8.heap.size w8 W0 := by rw [hW0]; exact Below.refl _ w8
  have HW : Hid (Below w.heap.size w W0) := Lib.hid (H8.out.2.2.2.trans (hD.mono H8.out.2.2.2.size))
  obtain ⟨VA, hVA⟩ : ∃ V, V = Value.agg x1.cells := ⟨_, rfl⟩
  obtain ⟨VB, hVB⟩ : ∃ V, V = Value.agg x2.cells := ⟨_, rfl⟩
  obtain ⟨T1, hT1⟩ : ∃ T, T = x1.text := ⟨_, rfl⟩
  have HV : Hid (VA = Value.agg x1.cells ∧ VB = Value.agg x2.cells ∧ (∀ w, (binOp .eql 23 VA VA).run Tryd.prog w = .ok (.bool true) w) ∧ (∀ w op o1 o2, (eqGuard op 23 o1 o2 VA VA).run Tryd.prog w = .ok () w) ∧
      (∀ w, (binOp .eql 23 VB VB).run Tryd.prog w = .ok (.bool true) w) ∧ ∀ w op o1 o2, (eqGuard op 23 o1 o2 VB VB).run Tryd.prog w = .ok () w) := by
    refine Lib.hid ⟨hVA, hVB, ?_, ?_, ?_, ?_⟩
    · intro w; rw [hVA, run_eql_item, (sameI_iff x1 x1).2 rfl]
    · intro w op o1 o2; rw [hVA]; exact run_guard_item w op o1 o2 x1 x1
    · intro w; rw [hVB, run_eql_item, (sameI_iff x2 x2).2 rfl]
    · intro w op o1 o2; rw [hVB]; exact run_guard_item w op o1 o2 x2 x2
  have HT : Hid (∀ w, (binOp .eql 9 (Sv T1) (.string ⟨#[101, 118, 101, 110, 116, 32, 97, 110, 110, 32, 49, 50, 32, 45, 51]⟩)).run Tryd.prog w = .ok (.bool true) w) := by
    refine Lib.hid (fun w => ?_)
    have h := run_eql_Sv w T1 s1L
    rw [hT1, x1_text, decide_eq_true rfl] at h
    rw [hT1, x1_text]
    exact h
  have HR : Hid (∀ w', Below W0.heap.size W0 w' → (∀ (i : Nat) (v : Value), x1.cells[i]? = some v → w'.cell? ⟨b1, i, none⟩ = some v) ∧ (∀ (i : Nat) (v : Value), x2.cells[i]? = some v → w'.cell? ⟨b2, i, none⟩ = some v) ∧ PenAt (fun k => k < b) w' b x1.bytes ∧
      (w'.cell? ⟨vb, vo + 4, none⟩ = some (.int .i64 x2.kind) ∧ w'.cell? ⟨vb, vo + 4 + 1, none⟩ = some (Sv x2.key) ∧ w'.cell? ⟨vb, vo + 4 + 2, none⟩ = some (.int .i64 x2.time) ∧ w'.cell? ⟨vb, vo + 4 + 3, none⟩ = some (.int .i64 x2.value)) ∧
      Calls Tryd.prog 16 #[VA] w' (Below0 w' (Sv T1))) := by
    refine Lib.hid (fun w' h => ?_)
    obtain ⟨q1, q2, q3, q4⟩ := H8.out
    obtain ⟨g0, g1, g2, g3⟩ := HE.out
    have hB : Below w8.heap.size w8 w' := hD.trans (h.mono hD.size)
    refine ⟨(q1.below hB).cell, (q2.below hB).cell, q3.below hB, ⟨(hB.cell (block_lt_of_cell g0)).trans g0, (hB.cell (block_lt_of_cell g1)).trans g1, (hB.cell (block_lt_of_cell g2)).trans g2, (hB.cell (block_lt_of_cell g3)).trans g3⟩, ?_⟩
    rw [hVA, hT1]
    exact etext_yes w' x1 x1_right (HL.out.below (q4.trans (hB.mono q4.size))).1
  have HRt : ∀ w', Hid (Calls Tryd.prog 14 #[VA] w' (Below0 w' (.bool true))) := fun w' => by
    rw [hVA]
    exact Lib.hid (eright_any w' x1 (by decide))
  have HNy : ∀ w', Hid (Calls Tryd.prog 17 #[.string ⟨#[97, 110, 110]⟩] w' fun e w'' => e = .returned (.bool true) ∧ w'' = w') := fun w' => Lib.hid (ename_any w' [97, 110, 110] (by decide))
  have HNn : ∀ w', Hid (Calls Tryd.prog 17 #[.string ⟨#[]⟩] w' fun e w'' => e = .returned (.bool false) ∧ w'' = w') := fun w' => Lib.hid (ename_any w' [] (by decide))
  clear hVA hVB hT1 hD
  rw [← hW0]
  clear hW0
  refine wp_region_brk (by kernel_rfl) (VF ((Value.bool true) :: (Value.bool true) :: (Value.bool true) :: (Value.bool true) :: (Value.bool true) :: (Value.bool false) :: (Value.bool true) :: (Value.bool true) :: (Value.bool true) :: (Value.pointer (some ⟨b1, 3, none⟩)) :: (Value.int .i64 (-3)) :: (Value.bool true) :: (Value.bool true) :: (Value.bool true) :: (Value.pointer (some ⟨b2, 2, none⟩)) :: (Value.int .i64 15) :: (Value.bool true) :: (Value.bool true) :: (Value.bool true) :: (Value.bool true) :: (Value.bool true) :: (Value.bool true) :: (Value.pointer (some ⟨b, 0, none⟩)) :: undef :: undef :: VA :: VA :: (Value.bool true) :: (Value.bool true) :: (Value.bool true) :: (Value.int .i64 0) :: (Value.bool true) :: (Value.bool true) :: (Value.bool true) :: (Value.slice (some ⟨vb, vo, none⟩) 2 vc) :: (Value.int .i64 2) :: (Value.bool true) :: (Value.bool true) :: (Value.bool true) :: (Value.slice (some ⟨vb, vo, none⟩) 2 vc) :: (Value.pointer (some ⟨vb, vo + 4, none⟩)) :: VB :: VB :: (Value.bool true) :: (Value.bool true) :: (Value.bool true) :: VA :: Sv T1 :: (Value.bool true) :: (Value.bool true) :: (Value.bool true) :: VA :: (Value.bool true) :: (Value.bool true) :: (Value.bool true) :: (Value.bool true) :: (Value.bool true) :: (Value.bool true) :: (Value.bool false) :: (Value.bool true) :: (Value.bool true) :: (Value.bool true) :: ([] : List Value)) (stB x1.bytes) (stR W0.heap.size x1.bytes)) (fun w' => Below W0.heap.size W0 w') (fun w w' => Below w.heap.size w w') wkF erF 25 (VF_st _ _ _ (stB_st _) (stR_st _ _)) (VF_free _ _ _) (by kernel_rfl) (by kernel_rfl) (Below.refl _ W0).drew ⟨trivial, trivial, fun _ _ h => h, trivial, trivial, fun _ _ h => h, fun _ _ h => h, trivial, trivial, fun _ _ h => h, fun _ _ h => h, fun _ _ h => h, trivial, trivial, fun _ _ h => h, fun _ _ h => h, fun _ _ h => h, trivial, trivial, fun _ _ h => h, trivial, trivial, fun _ _ h => h, fun _ _ h => h, fun _ _ h => h, fun _ _ h => h, fun _ _ h => h, fun _ _ h => h, trivial, trivial, fun _ _ h => h, fun _ _ h => h, trivial, trivial, fun _ _ h => h, fun _ _ h => h, fun _ _ h => h, trivial, trivial, fun _ _ h => h, fun _ _ h => h, fun _ _ h => h, fun _ _ h => h, fun _ _ h => h, trivial, trivial, fun _ _ h => h, fun _ _ h => h, fun _ _ h => h, trivial, trivial, fun _ _ h => h, fun _ _ h => h, trivial, trivial, fun _ _ h => h, trivial, trivial, fun _ _ h => h, fun _ _ h => h, trivial, trivial, trivial⟩ ?_ ?_
  · refine ⟨?_, ?_, ?_, ?_, ?_, ?_, ?_, ?_, ?_, ?_, ?_, ?_, ?_, ?_, ?_, ?_, ?_, ?_, ?_, ?_, ?_, ?_, ?_, ?_, ?_, ?_, ?_, ?_, ?_, ?_, ?_, ?_, ?_, ?_, ?_, ?_, ?_, ?_, ?_, ?_, ?_, ?_, ?_, ?_, ?_, ?_, ?_, ?_, ?_, ?_, ?_, ?_, ?_, ?_, ?_, ?_, ?_, ?_, ?_, ?_, ?_, ?_, trivial⟩
    · intro a w' hG hout hpre K hK
      have q2 := ev_of ((hout 2 rfl).trans (show _ = .bool true from rfl))
      clear hout hpre
      go_step
      exact hK _ _ rfl hG (fun _ => Below.refl _ _)
    · intro a w' hG hout hpre K hK
      obtain ⟨p0, _⟩ := hpre
      have q37 := ev_of ((show (_ ∨ _) → a.eval (.tmp 37) = .bool true from p0) (.inr rfl))
      clear hout p0
      go_step
      exact hK _ _ rfl hG (fun _ => Below.refl _ _)
    · intro a w' hG hout hpre K hK
      have q4 := ev_of ((hout 4 rfl).trans (show _ = .bool true from rfl))
      clear hout hpre
      go_step
      exact hK _ _ rfl hG (fun _ => Below.refl _ _)
    · intro a w' hG hout hpre K hK
      obtain ⟨p0, p1, _⟩ := hpre
      have q38 := ev_of ((show (_ ∨ _) → a.eval (.tmp 38) = .bool true from p0) (.inr rfl))
      have q39 := ev_of ((show (_ ∨ _) → a.eval (.tmp 39) = .bool true from p1) (.inr rfl))
      clear hout p0 p1
      go_step
      exact hK _ _ rfl hG (fun _ => Below.refl _ _)
    · intro a w' hG hout hpre K hK
      obtain ⟨p0, _⟩ := hpre
      have q40 := ev_of ((show (_ ∨ _) → a.eval (.tmp 40) = .bool true from p0) (.inr rfl))
      clear hout p0
      go_step
      exact hK _ _ rfl hG (fun _ => Below.refl _ _)
    · intro a w' hG hout hpre K hK
      have q6 := ev_of ((hout 6 rfl).trans (show _ = .bool false from rfl))
      clear hout hpre
      go_step
      exact hK _ _ rfl hG (fun _ => Below.refl _ _)
    · intro a w' hG hout hpre K hK
      obtain ⟨p0, _⟩ := hpre
      have q42 := ev_of ((show (_ ∨ _) → a.eval (.tmp 42) = .bool false from p0) (.inr rfl))
      clear hout p0
      go_step
      exact hK _ _ rfl hG (fun _ => Below.refl _ _)
    · intro a w' hG hout hpre K hK
      obtain ⟨p0, p1, _⟩ := hpre
      have q41 := ev_of ((show (_ ∨ _) → a.eval (.tmp 41) = .bool true from p0) (.inr rfl))
      have q43 := ev_of ((show (_ ∨ _) → a.eval (.tmp 43) = .bool true from p1) (.inr rfl))
      clear hout p0 p1
      go_step
      exact hK _ _ rfl hG (fun _ => Below.refl _ _)
    · intro a w' hG hout hpre K hK
      obtain ⟨p0, _⟩ := hpre
      have q44 := ev_of ((show (_ ∨ _) → a.eval (.tmp 44) = .bool true from p0) (.inr rfl))
      clear hout p0
      go_step
      exact hK _ _ rfl hG (fun _ => Below.refl _ _)
    · intro a w' hG hout hpre K hK
      have q1 := ev_of ((hout 1 rfl).trans (show _ = .pointer (some ⟨b1, 0, none⟩) from rfl))
      clear hout hpre
      go_step
      exact hK _ _ rfl hG (fun _ => Below.refl _ _)
    · intro a w' hG hout hpre K hK
      obtain ⟨p0, _⟩ := hpre
      have q46 := ev_of ((show (_ ∨ _) → a.eval (.tmp 46) = .pointer (some ⟨b1, 3, none⟩) from p0) (.inr rfl))
      have hc : w'.cell? ⟨b1, 3, none⟩ = some (.int .i64 (-3)) := (HR.out w' hG).1 3 _ rfl
      clear hout p0
      go_step
      exact hK _ _ rfl hG (fun _ => Below.refl _ _)
    · intro a w' hG hout hpre K hK
      obtain ⟨p0, _⟩ := hpre
      have q47 := ev_of ((show (_ ∨ _) → a.eval (.tmp 47) = .int .i64 (-3) from p0) (.inr rfl))
      clear hout p0
      go_step
      exact hK _ _ rfl hG (fun _ => Below.refl _ _)
    · intro a w' hG hout hpre K hK
      obtain ⟨p0, p1, _⟩ := hpre
      have q45 := ev_of ((show (_ ∨ _) → a.eval (.tmp 45) = .bool true from p0) (.inr rfl))
      have q48 := ev_of ((show (_ ∨ _) → a.eval (.tmp 48) = .bool true from p1) (.inr rfl))
      clear hout p0 p1
      go_step
      exact hK _ _ rfl hG (fun _ => Below.refl _ _)
    · intro a w' hG hout hpre K hK
      obtain ⟨p0, _⟩ := hpre
      have q49 := ev_of ((show (_ ∨ _) → a.eval (.tmp 49) = .bool true from p0) (.inr rfl))
      clear hout p0
      go_step
      exact hK _ _ rfl hG (fun _ => Below.refl _ _)
    · intro a w' hG hout hpre K hK
      have q3 := ev_of ((hout 3 rfl).trans (show _ = .pointer (some ⟨b2, 0, none⟩) from rfl))
      clear hout hpre
      go_step
      exact hK _ _ rfl hG (fun _ => Below.refl _ _)
    · intro a w' hG hout hpre K hK
      obtain ⟨p0, _⟩ := hpre
      have q51 := ev_of ((show (_ ∨ _) → a.eval (.tmp 51) = .pointer (some ⟨b2, 2, none⟩) from p0) (.inr rfl))
      have hc : w'.cell? ⟨b2, 2, none⟩ = some (.int .i64 15) := (HR.out w' hG).2.1 2 _ rfl
      clear hout p0
      go_step
      exact hK _ _ rfl hG (fun _ => Below.refl _ _)
    · intro a w' hG hout hpre K hK
      obtain ⟨p0, _⟩ := hpre
      have q52 := ev_of ((show (_ ∨ _) → a.eval (.tmp 52) = .int .i64 15 from p0) (.inr rfl))
      clear hout p0
      go_step
      exact hK _ _ rfl hG (fun _ => Below.refl _ _)
    · intro a w' hG hout hpre K hK
      obtain ⟨p0, p1, _⟩ := hpre
      have q50 := ev_of ((show (_ ∨ _) → a.eval (.tmp 50) = .bool true from p0) (.inr rfl))
      have q53 := ev_of ((show (_ ∨ _) → a.eval (.tmp 53) = .bool true from p1) (.inr rfl))
      clear hout p0 p1
      go_step
      exact hK _ _ rfl hG (fun _ => Below.refl _ _)
    · intro a w' hG hout hpre K hK
      obtain ⟨p0, _⟩ := hpre
      have q54 := ev_of ((show (_ ∨ _) → a.eval (.tmp 54) = .bool true from p0) (.inr rfl))
      clear hout p0
      go_step
      exact hK _ _ rfl hG (fun _ => Below.refl _ _)
    · intro a w' hG hout hpre K hK
      have q8 := ev_of ((hout 8 rfl).trans (show _ = .bool true from rfl))
      clear hout hpre
      go_step
      exact hK _ _ rfl hG (fun _ => Below.refl _ _)
    · intro a w' hG hout hpre K hK
      obtain ⟨p0, p1, _⟩ := hpre
      have q55 := ev_of ((show (_ ∨ _) → a.eval (.tmp 55) = .bool true from p0) (.inr rfl))
      have q56 := ev_of ((show (_ ∨ _) → a.eval (.tmp 56) = .bool true from p1) (.inr rfl))
      clear hout p0 p1
      go_step
      exact hK _ _ rfl hG (fun _ => Below.refl _ _)
    · intro a w' hG hout hpre K hK
      obtain ⟨p0, _⟩ := hpre
      have q57 := ev_of ((show (_ ∨ _) → a.eval (.tmp 57) = .bool true from p0) (.inr rfl))
      clear hout p0
      go_step
      exact hK _ _ rfl hG (fun _ => Below.refl _ _)
    · intro a w' hG hout hpre K hK
      have q7 := ev_of ((hout 7 rfl).trans (show _ = .pointer (some ⟨b, 0, none⟩) from rfl))
      clear hout hpre
      go_step
      exact hK _ _ rfl hG (fun _ => Below.refl _ _)
    · intro a w' hG hout hpre K hK
      obtain ⟨p0, _⟩ := hpre
      have q59 := ev_of ((show (_ ∨ _) → a.eval (.tmp 59) = .pointer (some ⟨b, 0, none⟩) from p0) (.inr rfl))
      have HS := Lib.hid (pbytes_any w' (fun k => k < b) b x1.bytes ((HR.out w' hG).2.2.1) (by decide))
      clear hout p0
      go_step
      refine HS.out.mono ?_
      rintro e w3 ⟨sa, sc, rfl, k1, k2, k3, k4, k5⟩
      exact hK _ _ ⟨sa, sc, rfl, k3, k4.srcP⟩ (hG.trans (k5.mono hG.size)) (fun _ => k5)
    · intro a w' hG hout hpre K hK
      obtain ⟨p0, _⟩ := hpre
      obtain ⟨sa, sc, hv, k3, k4⟩ := (show (_ ∨ _) → (∃ sa sc, a.eval (.tmp 60) = .slice sa x1.bytes.length sc ∧ (sa = none → sc = 0) ∧ SrcP w' sa x1.bytes.length x1.bytes) from p0) (.inl rfl)
      have q60 := ev_of hv
      have HS := Lib.hid (rread_any w' sa sc x1.bytes.length x1.bytes rfl k4 k3 (by decide))
      clear hout p0 hv k3 k4
      go_step
      refine HS.out.mono ?_
      rintro e w3 ⟨rb, rfl, k1, k2, k3⟩
      exact hK _ _ ⟨rb, w3.heap.size, rfl, Nat.le_trans hG.size k2, Nat.le_refl _, k1⟩ (hG.trans (k3.mono hG.size)) (fun _ => k3)
    · intro a w' hG hout hpre K hK
      obtain ⟨p0, _⟩ := hpre
      obtain ⟨rb, base, hv, k1, k2, k3⟩ := (show (_ ∨ _) → (∃ rb base, a.eval (.tmp 61) = .pointer (some ⟨rb, 0, none⟩) ∧ W0.heap.size ≤ rb ∧ base ≤ w'.heap.size ∧ RdAt base w' rb ⟨x1.bytes, 0⟩) from p0) (.inl rfl)
      have q61 := ev_of hv
      have HS : Hid (Calls Tryd.prog 22 #[.pointer (some ⟨rb, 0, none⟩)] w' (RdEnd base w' rb ⟨[], 0⟩ VA)) := by
        have h := eget_any w' base rb ⟨x1.bytes, 0⟩ k3 k2
        have hb := item_back x1_right []
        rw [List.append_nil] at hb
        rw [hb] at h
        rw [HV.out.1]
        exact Lib.hid h
      have k4 := Lib.hid k1
      clear hout p0 hv k1 k2 k3
      go_step
      refine HS.out.mono ?_
      rintro e w3 ⟨rfl, _, k5⟩
      exact hK _ _ rfl (hG.trans ⟨k5.os, k5.tape, k5.output, k5.size, fun j hj => k5.block j (by have := hG.size; omega) (by have := k4.out; simp; omega)⟩) (fun h => absurd rfl h)
    · intro a w' hG hout hpre K hK
      have q1 := ev_of ((hout 1 rfl).trans (show _ = .pointer (some ⟨b1, 0, none⟩) from rfl))
      obtain ⟨d0, d1, d2, d3⟩ := cells4 (HR.out w' hG).1
      clear hout hpre
      go_step
      exact hK _ _ HV.out.1.symm hG (fun _ => Below.refl _ _)
    · intro a w' hG hout hpre K hK
      obtain ⟨p0, p1, _⟩ := hpre
      have q62 := ev_of ((show (_ ∨ _) → a.eval (.tmp 62) = VA from p0) (.inr rfl))
      have q63 := ev_of ((show (_ ∨ _) → a.eval (.tmp 63) = VA from p1) (.inr rfl))
      have he := HV.out.2.2.1
      have hgd := HV.out.2.2.2.1
      clear hout p0 p1
      go_step
      exact hK _ _ rfl hG (fun _ => Below.refl _ _)
    · intro a w' hG hout hpre K hK
      obtain ⟨p0, p1, _⟩ := hpre
      have q58 := ev_of ((show (_ ∨ _) → a.eval (.tmp 58) = .bool true from p0) (.inr rfl))
      have q64 := ev_of ((show (_ ∨ _) → a.eval (.tmp 64) = .bool true from p1) (.inr rfl))
      clear hout p0 p1
      go_step
      exact hK _ _ rfl hG (fun _ => Below.refl _ _)
    · intro a w' hG hout hpre K hK
      obtain ⟨p0, _⟩ := hpre
      have q65 := ev_of ((show (_ ∨ _) → a.eval (.tmp 65) = .bool true from p0) (.inr rfl))
      clear hout p0
      go_step
      exact hK _ _ rfl hG (fun _ => Below.refl _ _)
    · intro a w' hG hout hpre K hK
      have q10 := ev_of ((hout 10 rfl).trans (show _ = .int .i64 0 from rfl))
      clear hout hpre
      go_step
      exact hK _ _ rfl hG (fun _ => Below.refl _ _)
    · intro a w' hG hout hpre K hK
      obtain ⟨p0, _⟩ := hpre
      have q67 := ev_of ((show (_ ∨ _) → a.eval (.tmp 67) = .int .i64 0 from p0) (.inr rfl))
      clear hout p0
      go_step
      exact hK _ _ rfl hG (fun _ => Below.refl _ _)
    · intro a w' hG hout hpre K hK
      obtain ⟨p0, p1, _⟩ := hpre
      have q66 := ev_of ((show (_ ∨ _) → a.eval (.tmp 66) = .bool true from p0) (.inr rfl))
      have q68 := ev_of ((show (_ ∨ _) → a.eval (.tmp 68) = .bool true from p1) (.inr rfl))
      clear hout p0 p1
      go_step
      exact hK _ _ rfl hG (fun _ => Below.refl _ _)
    · intro a w' hG hout hpre K hK
      obtain ⟨p0, _⟩ := hpre
      have q69 := ev_of ((show (_ ∨ _) → a.eval (.tmp 69) = .bool true from p0) (.inr rfl))
      clear hout p0
      go_step
      exact hK _ _ rfl hG (fun _ => Below.refl _ _)
    · intro a w' hG hout hpre K hK
      have q9 := ev_of ((hout 9 rfl).trans (show _ = .slice (some ⟨vb, vo, none⟩) 2 vc from rfl))
      clear hout hpre
      go_step
      exact hK _ _ rfl hG (fun _ => Below.refl _ _)
    · intro a w' hG hout hpre K hK
      obtain ⟨p0, _⟩ := hpre
      have q71 := ev_of ((show (_ ∨ _) → a.eval (.tmp 71) = .slice (some ⟨vb, vo, none⟩) 2 vc from p0) (.inr rfl))
      clear hout p0
      go_step
      exact hK _ _ rfl hG (fun _ => Below.refl _ _)
    · intro a w' hG hout hpre K hK
      obtain ⟨p0, _⟩ := hpre
      have q72 := ev_of ((show (_ ∨ _) → a.eval (.tmp 72) = .int .i64 2 from p0) (.inr rfl))
      clear hout p0
      go_step
      exact hK _ _ rfl hG (fun _ => Below.refl _ _)
    · intro a w' hG hout hpre K hK
      obtain ⟨p0, p1, _⟩ := hpre
      have q70 := ev_of ((show (_ ∨ _) → a.eval (.tmp 70) = .bool true from p0) (.inr rfl))
      have q73 := ev_of ((show (_ ∨ _) → a.eval (.tmp 73) = .bool true from p1) (.inr rfl))
      clear hout p0 p1
      go_step
      exact hK _ _ rfl hG (fun _ => Below.refl _ _)
    · intro a w' hG hout hpre K hK
      obtain ⟨p0, _⟩ := hpre
      have q74 := ev_of ((show (_ ∨ _) → a.eval (.tmp 74) = .bool true from p0) (.inr rfl))
      clear hout p0
      go_step
      exact hK _ _ rfl hG (fun _ => Below.refl _ _)
    · intro a w' hG hout hpre K hK
      have q9 := ev_of ((hout 9 rfl).trans (show _ = .slice (some ⟨vb, vo, none⟩) 2 vc from rfl))
      clear hout hpre
      go_step
      exact hK _ _ rfl hG (fun _ => Below.refl _ _)
    · intro a w' hG hout hpre K hK
      obtain ⟨p0, _⟩ := hpre
      have q76 := ev_of ((show (_ ∨ _) → a.eval (.tmp 76) = .slice (some ⟨vb, vo, none⟩) 2 vc from p0) (.inr rfl))
      clear hout p0
      go_step
      exact hK _ _ rfl hG (fun _ => Below.refl _ _)
    · intro a w' hG hout hpre K hK
      obtain ⟨p0, _⟩ := hpre
      have q77 := ev_of ((show (_ ∨ _) → a.eval (.tmp 77) = .pointer (some ⟨vb, vo + 4, none⟩) from p0) (.inr rfl))
      obtain ⟨d0, d1, d2, d3⟩ := (HR.out w' hG).2.2.2.1
      clear hout p0
      go_step
      exact hK _ _ HV.out.2.1.symm hG (fun _ => Below.refl _ _)
    · intro a w' hG hout hpre K hK
      have q3 := ev_of ((hout 3 rfl).trans (show _ = .pointer (some ⟨b2, 0, none⟩) from rfl))
      obtain ⟨d0, d1, d2, d3⟩ := cells4 (HR.out w' hG).2.1
      clear hout hpre
      go_step
      exact hK _ _ HV.out.2.1.symm hG (fun _ => Below.refl _ _)
    · intro a w' hG hout hpre K hK
      obtain ⟨p0, p1, _⟩ := hpre
      have q78 := ev_of ((show (_ ∨ _) → a.eval (.tmp 78) = VB from p0) (.inr rfl))
      have q79 := ev_of ((show (_ ∨ _) → a.eval (.tmp 79) = VB from p1) (.inr rfl))
      have he := HV.out.2.2.2.2.1
      have hgd := HV.out.2.2.2.2.2
      clear hout p0 p1
      go_step
      exact hK _ _ rfl hG (fun _ => Below.refl _ _)
    · intro a w' hG hout hpre K hK
      obtain ⟨p0, p1, _⟩ := hpre
      have q75 := ev_of ((show (_ ∨ _) → a.eval (.tmp 75) = .bool true from p0) (.inr rfl))
      have q80 := ev_of ((show (_ ∨ _) → a.eval (.tmp 80) = .bool true from p1) (.inr rfl))
      clear hout p0 p1
      go_step
      exact hK _ _ rfl hG (fun _ => Below.refl _ _)
    · intro a w' hG hout hpre K hK
      obtain ⟨p0, _⟩ := hpre
      have q81 := ev_of ((show (_ ∨ _) → a.eval (.tmp 81) = .bool true from p0) (.inr rfl))
      clear hout p0
      go_step
      exact hK _ _ rfl hG (fun _ => Below.refl _ _)
    · intro a w' hG hout hpre K hK
      have q1 := ev_of ((hout 1 rfl).trans (show _ = .pointer (some ⟨b1, 0, none⟩) from rfl))
      obtain ⟨d0, d1, d2, d3⟩ := cells4 (HR.out w' hG).1
      clear hout hpre
      go_step
      exact hK _ _ HV.out.1.symm hG (fun _ => Below.refl _ _)
    · intro a w' hG hout hpre K hK
      obtain ⟨p0, _⟩ := hpre
      have q83 := ev_of ((show (_ ∨ _) → a.eval (.tmp 83) = VA from p0) (.inr rfl))
      have HS := Lib.hid ((HR.out w' hG).2.2.2.2)
      clear hout p0
      go_step
      refine HS.out.mono ?_
      rintro e w3 ⟨rfl, hB⟩
      exact hK _ _ rfl (hG.trans (hB.mono hG.size)) (fun _ => hB)
    · intro a w' hG hout hpre K hK
      obtain ⟨p0, _⟩ := hpre
      have q84 := ev_of ((show (_ ∨ _) → a.eval (.tmp 84) = Sv T1 from p0) (.inr rfl))
      have he := HT.out
      clear hout p0
      go_step
      exact hK _ _ rfl hG (fun _ => Below.refl _ _)
    · intro a w' hG hout hpre K hK
      obtain ⟨p0, p1, _⟩ := hpre
      have q82 := ev_of ((show (_ ∨ _) → a.eval (.tmp 82) = .bool true from p0) (.inr rfl))
      have q85 := ev_of ((show (_ ∨ _) → a.eval (.tmp 85) = .bool true from p1) (.inr rfl))
      clear hout p0 p1
      go_step
      exact hK _ _ rfl hG (fun _ => Below.refl _ _)
    · intro a w' hG hout hpre K hK
      obtain ⟨p0, _⟩ := hpre
      have q86 := ev_of ((show (_ ∨ _) → a.eval (.tmp 86) = .bool true from p0) (.inr rfl))
      clear hout p0
      go_step
      exact hK _ _ rfl hG (fun _ => Below.refl _ _)
    · intro a w' hG hout hpre K hK
      have q1 := ev_of ((hout 1 rfl).trans (show _ = .pointer (some ⟨b1, 0, none⟩) from rfl))
      obtain ⟨d0, d1, d2, d3⟩ := cells4 (HR.out w' hG).1
      clear hout hpre
      go_step
      exact hK _ _ HV.out.1.symm hG (fun _ => Below.refl _ _)
    · intro a w' hG hout hpre K hK
      obtain ⟨p0, _⟩ := hpre
      have q88 := ev_of ((show (_ ∨ _) → a.eval (.tmp 88) = VA from p0) (.inr rfl))
      have HS := HRt w'
      clear hout p0
      go_step
      refine HS.out.mono ?_
      rintro e w3 ⟨rfl, hB⟩
      exact hK _ _ rfl (hG.trans (hB.mono hG.size)) (fun _ => hB)
    · intro a w' hG hout hpre K hK
      obtain ⟨p0, p1, _⟩ := hpre
      have q87 := ev_of ((show (_ ∨ _) → a.eval (.tmp 87) = .bool true from p0) (.inr rfl))
      have q89 := ev_of ((show (_ ∨ _) → a.eval (.tmp 89) = .bool true from p1) (.inr rfl))
      clear hout p0 p1
      go_step
      exact hK _ _ rfl hG (fun _ => Below.refl _ _)
    · intro a w' hG hout hpre K hK
      obtain ⟨p0, _⟩ := hpre
      have q90 := ev_of ((show (_ ∨ _) → a.eval (.tmp 90) = .bool true from p0) (.inr rfl))
      clear hout p0
      go_step
      exact hK _ _ rfl hG (fun _ => Below.refl _ _)
    · intro a w' hG hout hpre K hK
      have HS := HNy w'
      clear hout hpre
      go_step
      refine HS.out.mono ?_
      rintro e w3 ⟨rfl, hw3⟩
      subst w3
      exact hK _ _ rfl hG (fun _ => Below.refl _ _)
    · intro a w' hG hout hpre K hK
      obtain ⟨p0, p1, _⟩ := hpre
      have q91 := ev_of ((show (_ ∨ _) → a.eval (.tmp 91) = .bool true from p0) (.inr rfl))
      have q92 := ev_of ((show (_ ∨ _) → a.eval (.tmp 92) = .bool true from p1) (.inr rfl))
      clear hout p0 p1
      go_step
      exact hK _ _ rfl hG (fun _ => Below.refl _ _)
    · intro a w' hG hout hpre K hK
      obtain ⟨p0, _⟩ := hpre
      have q93 := ev_of ((show (_ ∨ _) → a.eval (.tmp 93) = .bool true from p0) (.inr rfl))
      clear hout p0
      go_step
      exact hK _ _ rfl hG (fun _ => Below.refl _ _)
    · intro a w' hG hout hpre K hK
      have HS := HNn w'
      clear hout hpre
      go_step
      refine HS.out.mono ?_
      rintro e w3 ⟨rfl, hw3⟩
      subst w3
      exact hK _ _ rfl hG (fun _ => Below.refl _ _)
    · intro a w' hG hout hpre K hK
      obtain ⟨p0, _⟩ := hpre
      have q95 := ev_of ((show (_ ∨ _) → a.eval (.tmp 95) = .bool false from p0) (.inr rfl))
      clear hout p0
      go_step
      exact hK _ _ rfl hG (fun _ => Below.refl _ _)
    · intro a w' hG hout hpre K hK
      obtain ⟨p0, p1, _⟩ := hpre
      have q94 := ev_of ((show (_ ∨ _) → a.eval (.tmp 94) = .bool true from p0) (.inr rfl))
      have q96 := ev_of ((show (_ ∨ _) → a.eval (.tmp 96) = .bool true from p1) (.inr rfl))
      clear hout p0 p1
      go_step
      exact hK _ _ rfl hG (fun _ => Below.refl _ _)
    · intro a w' hG hout hpre K hK
      obtain ⟨p0, _⟩ := hpre
      have q97 := ev_of ((show (_ ∨ _) → a.eval (.tmp 97) = .bool true from p0) (.inr rfl))
      clear hout p0
      go_step
      exact hK _ _ rfl hG (fun _ => Below.refl _ _)
  · intro a w' hG hd hsz hout hleft
    have hr : a.eval (.tmp 0) = .bool true := hleft 61 0 rfl rfl
    clear hout hleft
    go_wp2_with (fail)
    refine bodyPost_ret (v := .bool true) ?_ (hd.trans rfl) ⟨rfl, HW.out.trans (hG.mono HW.out.size)⟩
    rw [results_tmp rfl, ← hr]
    rfl
end Go.Proofs.YtmjanplhgpcbeaaDoor
