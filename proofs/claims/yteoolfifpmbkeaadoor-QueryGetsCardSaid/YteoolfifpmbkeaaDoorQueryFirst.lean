/-
  What each statement of layer 6 asks first.
-/
import Derived.Test.YteoolfifpmbkeaaDoorQueryBack
import Derived.Test.YteoolfifpmbkeaaDoorQueryPut
import Derived.Test.YteoolfifpmbkeaaDoorQueryGet
import Derived.Test.YteoolfifpmbkeaaDoorQuerySame
import Derived.Test.YteoolfifpmbkeaaDoorPenBackPure
import Derived.Test.YteoolfifpmbkeaaDoorStage
namespace Go.Proofs.YteoolfifpmbkeaaDoor
open Go Go.RowKit

/-- What is put is got, plain. -/
theorem query_back {q : QueryL} (h : q.rightB = true) (r : List (BitVec 8)) : (TapeL.mk (q.bytes ++ r) 0).query = (q, ⟨r, 0⟩) := by
  obtain ⟨b1, b2, b3, b4, b5, b6, b7, b8, b9, b10, b11, b12⟩ := rightQ_bd h
  have key : (TapeL.mk (q.bytes ++ r) 0).query0 = (q, ⟨r, 0⟩) := by
    obtain ⟨kind, size, slide, late, agg, k⟩ := q
    simp only at b1 b2 b3 b4 b5 b6 b7 b8 b9 b10 b11 b12
    obtain ⟨n0, rfl⟩ : ∃ n : Nat, kind = (n : Int) := ⟨kind.toNat, by omega⟩
    obtain ⟨n1, rfl⟩ : ∃ n : Nat, size = (n : Int) := ⟨size.toNat, by omega⟩
    obtain ⟨n2, rfl⟩ : ∃ n : Nat, slide = (n : Int) := ⟨slide.toNat, by omega⟩
    obtain ⟨n3, rfl⟩ : ∃ n : Nat, late = (n : Int) := ⟨late.toNat, by omega⟩
    obtain ⟨n4, rfl⟩ : ∃ n : Nat, agg = (n : Int) := ⟨agg.toNat, by omega⟩
    obtain ⟨n5, rfl⟩ : ∃ n : Nat, k = (n : Int) := ⟨k.toNat, by omega⟩
    have e : (QueryL.mk (n0 : Int) n1 n2 n3 n4 n5).bytes ++ r = wordL n0 ++ (wordL n1 ++ (wordL n2 ++ (wordL n3 ++ (wordL n4 ++ (wordL n5 ++ r))))) := by
      simp only [QueryL.bytes, numberL, Int.toNat_natCast, List.append_assoc]
    have e0 := back_number n0 9223372036854775807 (by omega) (by omega) (wordL n1 ++ (wordL n2 ++ (wordL n3 ++ (wordL n4 ++ (wordL n5 ++ r)))))
    have e1 := back_number n1 9223372036854775807 (by omega) (by omega) (wordL n2 ++ (wordL n3 ++ (wordL n4 ++ (wordL n5 ++ r))))
    have e2 := back_number n2 9223372036854775807 (by omega) (by omega) (wordL n3 ++ (wordL n4 ++ (wordL n5 ++ r)))
    have e3 := back_number n3 9223372036854775807 (by omega) (by omega) (wordL n4 ++ (wordL n5 ++ r))
    have e4 := back_number n4 9223372036854775807 (by omega) (by omega) (wordL n5 ++ r)
    have e5 := back_number n5 9223372036854775807 (by omega) (by omega) r
    rw [e]
    simp only [TapeL.query0, TapeL.six, e0, e1, e2, e3, e4, e5]
  rw [TapeL.query, key]
  simp only [TapeL.lastQ, h, if_true]
def qS : QueryL := ⟨2, 10, 5, 3, 6, 2⟩
def sS : List (BitVec 8) := [115, 108, 105, 100, 105, 110, 103, 32, 49, 48, 32, 53, 32, 108, 97, 116, 101, 32, 51, 32, 116, 111, 112, 32, 50]
def sN : List (BitVec 8) := [115, 108, 105, 100, 105, 110, 103, 32, 49, 48, 32, 108, 97, 116, 101, 32, 51, 32, 116, 111, 112, 32, 50]
def bS : List (BitVec 8) := qS.bytes
theorem qS_right : qS.rightB = true := by decide
theorem itoa_n2 : Lib.itoa 2 = [50] := by simp [Lib.itoa, Lib.decDigits]
theorem itoa_n3 : Lib.itoa 3 = [51] := by simp [Lib.itoa, Lib.decDigits]
theorem itoa_n5 : Lib.itoa 5 = [53] := by simp [Lib.itoa, Lib.decDigits]
theorem itoa_n10 : Lib.itoa 10 = [49, 48] := by simp [Lib.itoa, Lib.decDigits]
theorem qS_text : qS.text = sS := by
  have e : qS.text = wSliding ++ bBlank ++ itoaL 10 ++ (bBlank ++ itoaL 5) ++ (bBlank ++ wLate ++ bBlank ++ itoaL 3 ++ bBlank ++ wTop) ++ (bBlank ++ itoaL 2) := rfl
  rw [e, itoaL_bv, itoaL_bv, itoaL_bv, itoaL_bv, itoa_n10, itoa_n5, itoa_n3, itoa_n2]
  decide
theorem sS_parse : parseQ sS = (qS, true) := by rw [← qS_text]; exact parse_text qS_right
theorem sN_parse : parseQ sN = (zeroQ, false) := by
  have hr : (askedL sN).rightB = false := by decide +kernel
  rw [parseQ, if_neg (by rw [hr]; simp)]
theorem qS_get : (TapeL.mk bS 0).query = (qS, ⟨[], 0⟩) := by
  have h := query_back qS_right []
  rw [List.append_nil] at h
  exact h
theorem qS_slides : qS.slides = 2 := by decide
theorem zeroQ_slides : zeroQ.slides = 0 := by decide
set_option maxRecDepth 100000 in
set_option maxHeartbeats 4000000 in
theorem qfirst_any (w : World) (hI : QueryIn w) : Calls Tryd.prog 5 #[] w (Below0 w (.bool true)) := by
  have HI : Hid (∀ w', Below w.heap.size w w' → QueryIn w') := Lib.hid (fun w' h => hI.below h)
  have HP1 : Hid (∀ w', Below w.heap.size w w' → Calls Tryd.prog 8 #[.string ⟨#[115, 108, 105, 100, 105, 110, 103, 32, 49, 48, 32, 53, 32, 108, 97, 116, 101, 32, 51, 32, 116, 111, 112, 32, 50]⟩] w' (Below0 w' (.tuple #[.agg qS.cells, .bool true]))) := by
    refine Lib.hid (fun w' h => ?_)
    have h := qparse_any w' sS (by decide) (hI.below h)
    rw [sS_parse] at h
    exact h
  have HP2 : Hid (∀ w', Below w.heap.size w w' → Calls Tryd.prog 8 #[.string ⟨#[115, 108, 105, 100, 105, 110, 103, 32, 49, 48, 32, 108, 97, 116, 101, 32, 51, 32, 116, 111, 112, 32, 50]⟩] w' (Below0 w' (.tuple #[.agg zeroQ.cells, .bool false]))) := by
    refine Lib.hid (fun w' h => ?_)
    have h := qparse_any w' sN (by decide) (hI.below h)
    rw [sN_parse] at h
    exact h
  clear hI
  go_enter Tryd.func5, Tryd.ntmps5
  go_wp2_with (fail)
  refine (HP1.out w (Below.refl _ _)).mono ?_
  rintro e v1 ⟨rfl, hB⟩
  have B1 : Hid (Below w.heap.size w v1) := Lib.hid hB
  clear hB
  dsimp only
  first
    | (refine wpList_store_row rfl _ _ _ rfl v1.heap.size qS.cells rfl rfl 23 zeroQ.cells (heap_alloc_new v1 _) query_size rfl (query_one _) ?_)
    | (iterate 1 go_step
       refine wpList_store_row rfl _ _ _ rfl v1.heap.size qS.cells rfl rfl 23 zeroQ.cells (heap_alloc_new v1 _) query_size rfl (query_one _) ?_)
    | (iterate 2 go_step
       refine wpList_store_row rfl _ _ _ rfl v1.heap.size qS.cells rfl rfl 23 zeroQ.cells (heap_alloc_new v1 _) query_size rfl (query_one _) ?_)
    | (iterate 3 go_step
       refine wpList_store_row rfl _ _ _ rfl v1.heap.size qS.cells rfl rfl 23 zeroQ.cells (heap_alloc_new v1 _) query_size rfl (query_one _) ?_)
    | (iterate 4 go_step
       refine wpList_store_row rfl _ _ _ rfl v1.heap.size qS.cells rfl rfl 23 zeroQ.cells (heap_alloc_new v1 _) query_size rfl (query_one _) ?_)
    | (iterate 5 go_step
       refine wpList_store_row rfl _ _ _ rfl v1.heap.size qS.cells rfl rfl 23 zeroQ.cells (heap_alloc_new v1 _) query_size rfl (query_one _) ?_)
    | (iterate 6 go_step
       refine wpList_store_row rfl _ _ _ rfl v1.heap.size qS.cells rfl rfl 23 zeroQ.cells (heap_alloc_new v1 _) query_size rfl (query_one _) ?_)
    | (iterate 7 go_step
       refine wpList_store_row rfl _ _ _ rfl v1.heap.size qS.cells rfl rfl 23 zeroQ.cells (heap_alloc_new v1 _) query_size rfl (query_one _) ?_)
    | (iterate 8 go_step
       refine wpList_store_row rfl _ _ _ rfl v1.heap.size qS.cells rfl rfl 23 zeroQ.cells (heap_alloc_new v1 _) query_size rfl (query_one _) ?_)
    | (iterate 9 go_step
       refine wpList_store_row rfl _ _ _ rfl v1.heap.size qS.cells rfl rfl 23 zeroQ.cells (heap_alloc_new v1 _) query_size rfl (query_one _) ?_)
    | (iterate 10 go_step
       refine wpList_store_row rfl _ _ _ rfl v1.heap.size qS.cells rfl rfl 23 zeroQ.cells (heap_alloc_new v1 _) query_size rfl (query_one _) ?_)
    | (iterate 11 go_step
       refine wpList_store_row rfl _ _ _ rfl v1.heap.size qS.cells rfl rfl 23 zeroQ.cells (heap_alloc_new v1 _) query_size rfl (query_one _) ?_)
    | (iterate 12 go_step
       refine wpList_store_row rfl _ _ _ rfl v1.heap.size qS.cells rfl rfl 23 zeroQ.cells (heap_alloc_new v1 _) query_size rfl (query_one _) ?_)
    | (iterate 13 go_step
       refine wpList_store_row rfl _ _ _ rfl v1.heap.size qS.cells rfl rfl 23 zeroQ.cells (heap_alloc_new v1 _) query_size rfl (query_one _) ?_)
  obtain ⟨w1, hw⟩ : ∃ W, W = (v1.alloc (Obj.cells #[.int .i64 0, .int .i64 0, .int .i64 0, .int .i64 0, .int .i64 0, .int .i64 0] 23)).setRow v1.heap.size qS.cells := ⟨_, rfl⟩
  obtain ⟨b1, hb⟩ : ∃ b, b = v1.heap.size := ⟨_, rfl⟩
  have H1 : Hid (RowQ w1 b1 qS ∧ Below w.heap.size w w1) := by
    obtain ⟨k1, k2⟩ := stored_query v1 qS
    rw [hw, hb]
    exact Lib.hid ⟨k1, B1.out.trans (k2.mono B1.out.size)⟩
  rw [← hw, ← hb]
  clear hw hb B1
  go_wp2_with (fail)
  refine (HP2.out w1 H1.out.2).mono ?_
  rintro e v2 ⟨rfl, hB⟩
  have B2 : Hid (RowQ v2 b1 qS ∧ Below w.heap.size w v2) := Lib.hid ⟨H1.out.1.below hB, H1.out.2.trans (hB.mono H1.out.2.size)⟩
  clear hB
  dsimp only
  first
    | (refine wpList_store_row rfl _ _ _ rfl v2.heap.size zeroQ.cells rfl rfl 23 zeroQ.cells (heap_alloc_new v2 _) query_size rfl (query_one _) ?_)
    | (iterate 1 go_step
       refine wpList_store_row rfl _ _ _ rfl v2.heap.size zeroQ.cells rfl rfl 23 zeroQ.cells (heap_alloc_new v2 _) query_size rfl (query_one _) ?_)
    | (iterate 2 go_step
       refine wpList_store_row rfl _ _ _ rfl v2.heap.size zeroQ.cells rfl rfl 23 zeroQ.cells (heap_alloc_new v2 _) query_size rfl (query_one _) ?_)
    | (iterate 3 go_step
       refine wpList_store_row rfl _ _ _ rfl v2.heap.size zeroQ.cells rfl rfl 23 zeroQ.cells (heap_alloc_new v2 _) query_size rfl (query_one _) ?_)
    | (iterate 4 go_step
       refine wpList_store_row rfl _ _ _ rfl v2.heap.size zeroQ.cells rfl rfl 23 zeroQ.cells (heap_alloc_new v2 _) query_size rfl (query_one _) ?_)
    | (iterate 5 go_step
       refine wpList_store_row rfl _ _ _ rfl v2.heap.size zeroQ.cells rfl rfl 23 zeroQ.cells (heap_alloc_new v2 _) query_size rfl (query_one _) ?_)
    | (iterate 6 go_step
       refine wpList_store_row rfl _ _ _ rfl v2.heap.size zeroQ.cells rfl rfl 23 zeroQ.cells (heap_alloc_new v2 _) query_size rfl (query_one _) ?_)
    | (iterate 7 go_step
       refine wpList_store_row rfl _ _ _ rfl v2.heap.size zeroQ.cells rfl rfl 23 zeroQ.cells (heap_alloc_new v2 _) query_size rfl (query_one _) ?_)
    | (iterate 8 go_step
       refine wpList_store_row rfl _ _ _ rfl v2.heap.size zeroQ.cells rfl rfl 23 zeroQ.cells (heap_alloc_new v2 _) query_size rfl (query_one _) ?_)
    | (iterate 9 go_step
       refine wpList_store_row rfl _ _ _ rfl v2.heap.size zeroQ.cells rfl rfl 23 zeroQ.cells (heap_alloc_new v2 _) query_size rfl (query_one _) ?_)
    | (iterate 10 go_step
       refine wpList_store_row rfl _ _ _ rfl v2.heap.size zeroQ.cells rfl rfl 23 zeroQ.cells (heap_alloc_new v2 _) query_size rfl (query_one _) ?_)
    | (iterate 11 go_step
       refine wpList_store_row rfl _ _ _ rfl v2.heap.size zeroQ.cells rfl rfl 23 zeroQ.cells (heap_alloc_new v2 _) query_size rfl (query_one _) ?_)
    | (iterate 12 go_step
       refine wpList_store_row rfl _ _ _ rfl v2.heap.size zeroQ.cells rfl rfl 23 zeroQ.cells (heap_alloc_new v2 _) query_size rfl (query_one _) ?_)
    | (iterate 13 go_step
       refine wpList_store_row rfl _ _ _ rfl v2.heap.size zeroQ.cells rfl rfl 23 zeroQ.cells (heap_alloc_new v2 _) query_size rfl (query_one _) ?_)
  obtain ⟨w2, hw⟩ : ∃ W, W = (v2.alloc (Obj.cells #[.int .i64 0, .int .i64 0, .int .i64 0, .int .i64 0, .int .i64 0, .int .i64 0] 23)).setRow v2.heap.size zeroQ.cells := ⟨_, rfl⟩
  obtain ⟨b2, hb⟩ : ∃ b, b = v2.heap.size := ⟨_, rfl⟩
  have H2 : Hid (RowQ w2 b1 qS ∧ Below w.heap.size w w2) := by
    obtain ⟨_, k2⟩ := stored_query v2 zeroQ
    rw [hw]
    exact Lib.hid ⟨B2.out.1.below k2, B2.out.2.trans (k2.mono B2.out.2.size)⟩
  rw [← hw, ← hb]
  clear hw hb B2
  go_upto_region 4 with (fail)
  obtain ⟨w3, hw⟩ : ∃ W, W = w2.alloc (.cells #[.slice none 0 0] 34) := ⟨_, rfl⟩
  obtain ⟨pb, hb⟩ : ∃ b, b = w2.heap.size := ⟨_, rfl⟩
  have H3 : Hid (RowQ w3 b1 qS ∧ PenAt (fun k => k < pb) w3 pb [] ∧ b1 < pb ∧ pb < w3.heap.size ∧ w.heap.size ≤ pb ∧ Below w.heap.size w w3) := by
    have hB : Below w2.heap.size w2 w3 := by rw [hw]; exact (Below.refl _ w2).alloc (Nat.le_refl _) _
    obtain ⟨k1, k2⟩ := H2.out
    refine Lib.hid ⟨k1.below hB, by rw [hw, hb]; exact PenAt.new _ w2, by rw [hb]; exact k1.lt, by rw [hw, hb]; simp, by rw [hb]; exact k2.size, k2.trans (hB.mono k2.size)⟩
  rw [← hw, ← hb]
  clear hw hb
  obtain ⟨VA, hVA⟩ : ∃ V, V = Value.agg qS.cells := ⟨_, rfl⟩
  have HPut : Hid (Calls Tryd.prog 16 #[.pointer (some ⟨pb, 0, none⟩), .agg #[.int .i64 2, .int .i64 10, .int .i64 5, .int .i64 3, .int .i64 6, .int .i64 2]] w3 (fun e w' => e = .returned (.bool true) ∧ RowQ w' b1 qS ∧ PenAt (fun k => k < pb) w' pb bS ∧ Below w.heap.size w w')) := by
    obtain ⟨k1, k2, k3, k4, k5, k6⟩ := H3.out
    have h := qput_yes w3 (fun k => k < pb) pb [] qS qS_right k2 (fun k hk => Nat.lt_trans hk k4) (by decide)
    rw [List.nil_append] at h
    refine Lib.hid (h.mono ?_)
    rintro e w' ⟨rfl, hp, hk⟩
    exact ⟨rfl, hk.row k1 (by decide) (by omega), hp, k6.trans (hk.below (B := w.heap.size) (fun k hk => by omega) k5 (by omega))⟩
  obtain ⟨d0, d1, d2, d3, d4, d5⟩ : D6 w3 b1 2 10 5 3 6 2 := H3.out.1.d6
  go_wp2_with (fail)
  refine HPut.out.mono ?_
  rintro e W0 ⟨rfl, h1, h2, h3⟩
  have H4 := Lib.hid (And.intro h1 (And.intro h2 h3))
  clear h1 h2 h3 d0 d1 d2 d3 d4 d5 HPut
  dsimp only
  go_upto_region 5 with (fail)
  have HW : Hid (Below w.heap.size w W0) := Lib.hid H4.out.2.2
  have HG0 : Hid (Below W0.heap.size W0 W0.drew) := (Below.refl _ W0).drew
  obtain ⟨VZ, hVZ⟩ : ∃ V, V = Value.agg zeroQ.cells := ⟨_, rfl⟩
  have HV : Hid (VA = Value.agg qS.cells ∧ VZ = Value.agg zeroQ.cells ∧ (∀ w, (binOp .eql 23 VA VA).run Tryd.prog w = .ok (.bool true) w) ∧ ∀ w op o1 o2, (eqGuard op 23 o1 o2 VA VA).run Tryd.prog w = .ok () w) := by
    refine Lib.hid ⟨hVA, hVZ, ?_, ?_⟩
    · intro w; rw [hVA, run_eql_query, (sameQ_iff _ _).2 rfl]
    · intro w op o1 o2; rw [hVA]; exact run_guard_query w op o1 o2 _ _
  have HR : Hid (∀ w', Below W0.heap.size W0 w' → RowQ w' b1 qS ∧ PenAt (fun k => k < pb) w' pb bS) := Lib.hid (fun w' h => ⟨H4.out.1.below h, H4.out.2.1.below h⟩)
  have HBu : Hid (Tryd.prog.built 23 [(0, .int .i64 2), (1, .int .i64 10), (2, .int .i64 5), (3, .int .i64 3), (4, .int .i64 6), (5, .int .i64 2)] = some #[.int .i64 2, .int .i64 10, .int .i64 5, .int .i64 3, .int .i64 6, .int .i64 2] ∧ Tryd.prog.built 23 [] = some #[.int .i64 0, .int .i64 0, .int .i64 0, .int .i64 0, .int .i64 0, .int .i64 0]) := Lib.hid ⟨by kernel_rfl, by kernel_rfl⟩
  have HCl : Hid ((∀ w', Calls Tryd.prog 12 #[VA] w' (Below0 w' (.int .i64 2))) ∧ (∀ w', Calls Tryd.prog 10 #[VA] w' (Below0 w' (.bool true))) ∧ (∀ w', Calls Tryd.prog 12 #[VZ] w' (Below0 w' (.int .i64 0)))) := by
    rw [hVA, hVZ]
    refine Lib.hid ⟨fun w' => ?_, fun w' => ?_, fun w' => ?_⟩
    · have h := qslides_any w' qS; rw [qS_slides] at h; exact h
    · have h := qright_any w' qS; rw [qS_right] at h; exact h
    · have h := qslides_any w' zeroQ; rw [zeroQ_slides] at h; exact h
  have HTx : Hid (∀ w', Below W0.heap.size W0 w' → Calls Tryd.prog 11 #[VA] w' (Below0 w' (Sv sS))) := by
    rw [hVA, ← qS_text]
    exact Lib.hid (fun w' h => by
      have hq := HI.out w' (HW.out.trans (h.mono HW.out.size))
      exact qtext_yes w' qS qS_right hq.1 hq.2.2.2)
  have HEq : Hid (∀ w, (binOp .eql 9 (Sv sS) (.string ⟨#[115, 108, 105, 100, 105, 110, 103, 32, 49, 48, 32, 53, 32, 108, 97, 116, 101, 32, 51, 32, 116, 111, 112, 32, 50]⟩)).run Tryd.prog w = .ok (.bool true) w) := Lib.hid (fun w => by
    have h := run_eql_Sv w sS sS
    rwa [decide_eq_true rfl] at h)
  clear hVA hVZ
  refine wp_region_stage_frame (by kernel_rfl) [none, none, none, none, none, none, none, none, none, none, none, none, none, none, none, some 0, some 1, some 2, none, none, none, none, none, none, none, none, none, none, none, none, none, none, none, none, none, none, none, none, none, none, none] [15, 16, 17] (VY ((Value.bool true) :: (Value.bool true) :: (Value.bool false) :: (Value.bool true) :: (Value.bool true) :: (Value.bool true) :: VA :: VA :: (Value.bool true) :: (Value.bool true) :: (Value.bool true) :: (Value.bool true) :: (Value.bool true) :: (Value.bool true) :: (Value.pointer (some ⟨pb, 0, none⟩)) :: undef :: undef :: VA :: VA :: (Value.bool true) :: (Value.bool true) :: (Value.bool true) :: VA :: (Value.int .i64 2) :: (Value.bool true) :: (Value.bool true) :: (Value.bool true) :: VA :: (Value.bool true) :: (Value.bool true) :: (Value.bool true) :: VA :: Sv sS :: (Value.bool true) :: (Value.bool true) :: (Value.bool true) :: VZ :: (Value.int .i64 0) :: (Value.bool true) :: (Value.bool true) :: (Value.bool true) :: ([] : List Value)) 15 1 (fun w v => ∃ sa sc, v = .slice sa bS.length sc ∧ (sa = none → sc = 0) ∧ SrcP w sa bS.length bS) 16 2 (fun w v => ∃ rb base, v = .pointer (some ⟨rb, 0, none⟩) ∧ W0.heap.size ≤ rb ∧ base ≤ w.heap.size ∧ RdAt base w rb ⟨bS, 0⟩)) (fun _ w' => Below W0.heap.size W0 w') (fun w w' => Below w.heap.size w w') (VY_st _ _ _ _ _ _ _ _ (fun w w' v h ⟨sa, sc, h1, h2, h3⟩ => ⟨sa, sc, h1, h2, h3.below h⟩) (fun w w' v h ⟨rb, base, h1, h2, h3, h4⟩ => ⟨rb, base, h1, h2, Nat.le_trans h3 h.size, h4.below h⟩)) (by kernel_rfl) (by kernel_rfl) (by kernel_rfl) HG0.out (fun _ => ⟨trivial, trivial, fun _ _ h => h, fun _ _ h => h, trivial, trivial, fun _ _ h => h, fun _ _ h => h, fun _ _ h => h, trivial, trivial, fun _ _ h => h, trivial, trivial, fun _ _ h => h, fun _ _ h => h, fun _ _ h => h, fun _ _ h => h, fun _ _ h => h, fun _ _ h => h, trivial, trivial, fun _ _ h => h, fun _ _ h => h, fun _ _ h => h, trivial, trivial, fun _ _ h => h, fun _ _ h => h, trivial, trivial, fun _ _ h => h, fun _ _ h => h, fun _ _ h => h, trivial, trivial, fun _ _ h => h, fun _ _ h => h, fun _ _ h => h, trivial, trivial, trivial⟩) ?_ ?_
  · refine ⟨?_, ?_, ?_, ?_, ?_, ?_, ?_, ?_, ?_, ?_, ?_, ?_, ?_, ?_, ?_, ?_, ?_, ?_, ?_, ?_, ?_, ?_, ?_, ?_, ?_, ?_, ?_, ?_, ?_, ?_, ?_, ?_, ?_, ?_, ?_, ?_, ?_, ?_, ?_, ?_, ?_, trivial⟩
    · intro k a w' hG hout hpre K hK
      have q2 := ev_of ((hout 2 rfl).trans (show _ = .bool true from rfl))
      clear hout hpre
      go_step
      exact hK _ _ rfl hG (Below.refl _ _)
    · intro k a w' hG hout hpre K hK
      obtain ⟨p0, _⟩ := hpre
      have q20 := ev_of (show a.eval (.tmp 20) = .bool true from p0)
      clear hout p0
      go_step
      exact hK _ _ rfl hG (Below.refl _ _)
    · intro k a w' hG hout hpre K hK
      have q4 := ev_of ((hout 4 rfl).trans (show _ = .bool false from rfl))
      clear hout hpre
      go_step
      exact hK _ _ rfl hG (Below.refl _ _)
    · intro k a w' hG hout hpre K hK
      obtain ⟨p0, _⟩ := hpre
      have q22 := ev_of (show a.eval (.tmp 22) = .bool false from p0)
      clear hout p0
      go_step
      exact hK _ _ rfl hG (Below.refl _ _)
    · intro k a w' hG hout hpre K hK
      obtain ⟨p0, p1, _⟩ := hpre
      have q21 := ev_of (show a.eval (.tmp 21) = .bool true from p0)
      have q23 := ev_of (show a.eval (.tmp 23) = .bool true from p1)
      clear hout p0 p1
      go_step
      exact hK _ _ rfl hG (Below.refl _ _)
    · intro k a w' hG hout hpre K hK
      obtain ⟨p0, _⟩ := hpre
      have q24 := ev_of (show a.eval (.tmp 24) = .bool true from p0)
      clear hout p0
      go_step
      exact hK _ _ rfl hG (Below.refl _ _)
    · intro k a w' hG hout hpre K hK
      have q1 := ev_of ((hout 1 rfl).trans (show _ = .pointer (some ⟨b1, 0, none⟩) from rfl))
      obtain ⟨d0, d1, d2, d3, d4, d5⟩ := (HR.out w' hG).1.d6
      clear hout hpre
      go_step
      exact hK _ _ HV.out.1.symm hG (Below.refl _ _)
    · intro k a w' hG hout hpre K hK
      have hbuilt := HBu.out.1
      clear hout hpre
      go_step
      exact hK _ _ HV.out.1.symm hG (Below.refl _ _)
    · intro k a w' hG hout hpre K hK
      obtain ⟨p0, p1, _⟩ := hpre
      have q26 := ev_of (show a.eval (.tmp 26) = VA from p0)
      have q27 := ev_of (show a.eval (.tmp 27) = VA from p1)
      have he := HV.out.2.2.1
      have hgd := HV.out.2.2.2
      clear hout p0 p1
      go_step
      exact hK _ _ rfl hG (Below.refl _ _)
    · intro k a w' hG hout hpre K hK
      obtain ⟨p0, p1, _⟩ := hpre
      have q25 := ev_of (show a.eval (.tmp 25) = .bool true from p0)
      have q28 := ev_of (show a.eval (.tmp 28) = .bool true from p1)
      clear hout p0 p1
      go_step
      exact hK _ _ rfl hG (Below.refl _ _)
    · intro k a w' hG hout hpre K hK
      obtain ⟨p0, _⟩ := hpre
      have q29 := ev_of (show a.eval (.tmp 29) = .bool true from p0)
      clear hout p0
      go_step
      exact hK _ _ rfl hG (Below.refl _ _)
    · intro k a w' hG hout hpre K hK
      have q6 := ev_of ((hout 6 rfl).trans (show _ = .bool true from rfl))
      clear hout hpre
      go_step
      exact hK _ _ rfl hG (Below.refl _ _)
    · intro k a w' hG hout hpre K hK
      obtain ⟨p0, p1, _⟩ := hpre
      have q30 := ev_of (show a.eval (.tmp 30) = .bool true from p0)
      have q31 := ev_of (show a.eval (.tmp 31) = .bool true from p1)
      clear hout p0 p1
      go_step
      exact hK _ _ rfl hG (Below.refl _ _)
    · intro k a w' hG hout hpre K hK
      obtain ⟨p0, _⟩ := hpre
      have q32 := ev_of (show a.eval (.tmp 32) = .bool true from p0)
      clear hout p0
      go_step
      exact hK _ _ rfl hG (Below.refl _ _)
    · intro k a w' hG hout hpre K hK
      have q5 := ev_of ((hout 5 rfl).trans (show _ = .pointer (some ⟨pb, 0, none⟩) from rfl))
      clear hout hpre
      go_step
      exact hK _ _ rfl hG (Below.refl _ _)
    · intro a w' hG hout hpre K hK
      obtain ⟨p0, _⟩ := hpre
      have q34 := ev_of (show a.eval (.tmp 34) = .pointer (some ⟨pb, 0, none⟩) from p0)
      have HS := Lib.hid (pbytes_any w' (fun k => k < pb) pb bS (HR.out w' hG).2 (by decide))
      clear hout p0
      go_step
      refine HS.out.mono ?_
      rintro e w3 ⟨sa, sc, rfl, k1, k2, k3, k4, k5⟩
      exact hK _ _ (fun _ => ⟨sa, sc, rfl, k3, k4.srcP⟩) (hG.trans (k5.mono hG.size)) (VY_next (by decide) (by decide))
    · intro a w' hG hout hpre K hK
      obtain ⟨p0, _⟩ := hpre
      obtain ⟨sa, sc, hv, k3, k4⟩ := (show (1 = 1) → (∃ sa sc, a.eval (.tmp 35) = .slice sa bS.length sc ∧ (sa = none → sc = 0) ∧ SrcP w' sa bS.length bS) from p0) rfl
      have q := ev_of hv
      have HS := Lib.hid (rread_any w' sa sc bS.length bS rfl k4 k3 (by decide))
      clear hout p0 hv k3 k4
      go_step
      refine HS.out.mono ?_
      rintro e w3 ⟨rb, rfl, k1, k2, k3⟩
      exact hK _ _ (fun _ => ⟨rb, w3.heap.size, rfl, Nat.le_trans hG.size k2, Nat.le_refl _, k1⟩) (hG.trans (k3.mono hG.size)) (VY_next (by decide) (by decide))
    · intro a w' hG hout hpre K hK
      obtain ⟨p0, _⟩ := hpre
      obtain ⟨rb, base, hv, k1, k2, k3⟩ := (show (2 = 2) → (∃ rb base, a.eval (.tmp 36) = .pointer (some ⟨rb, 0, none⟩) ∧ W0.heap.size ≤ rb ∧ base ≤ w'.heap.size ∧ RdAt base w' rb ⟨bS, 0⟩) from p0) rfl
      have q := ev_of hv
      have HS : Hid (Calls Tryd.prog 14 #[.pointer (some ⟨rb, 0, none⟩)] w' (RdEnd base w' rb ⟨[], 0⟩ VA)) := by
        have h := qget_any w' base rb ⟨bS, 0⟩ k3 k2
        rw [qS_get] at h
        rw [HV.out.1]
        exact Lib.hid h
      have k4 := Lib.hid k1
      clear hout p0 hv k1 k2 k3
      go_step
      refine HS.out.mono ?_
      rintro e w3 ⟨rfl, _, k5⟩
      exact hK _ _ rfl (hG.trans ⟨k5.os, k5.tape, k5.output, k5.size, fun j hj => k5.block j (by have := hG.size; omega) (by have := k4.out; simp; omega)⟩) (VY_next (by decide) (by decide))
    · intro k a w' hG hout hpre K hK
      have q1 := ev_of ((hout 1 rfl).trans (show _ = .pointer (some ⟨b1, 0, none⟩) from rfl))
      obtain ⟨d0, d1, d2, d3, d4, d5⟩ := (HR.out w' hG).1.d6
      clear hout hpre
      go_step
      exact hK _ _ HV.out.1.symm hG (Below.refl _ _)
    · intro k a w' hG hout hpre K hK
      obtain ⟨p0, p1, _⟩ := hpre
      have q37 := ev_of (show a.eval (.tmp 37) = VA from p0)
      have q38 := ev_of (show a.eval (.tmp 38) = VA from p1)
      have he := HV.out.2.2.1
      have hgd := HV.out.2.2.2
      clear hout p0 p1
      go_step
      exact hK _ _ rfl hG (Below.refl _ _)
    · intro k a w' hG hout hpre K hK
      obtain ⟨p0, p1, _⟩ := hpre
      have q33 := ev_of (show a.eval (.tmp 33) = .bool true from p0)
      have q39 := ev_of (show a.eval (.tmp 39) = .bool true from p1)
      clear hout p0 p1
      go_step
      exact hK _ _ rfl hG (Below.refl _ _)
    · intro k a w' hG hout hpre K hK
      obtain ⟨p0, _⟩ := hpre
      have q40 := ev_of (show a.eval (.tmp 40) = .bool true from p0)
      clear hout p0
      go_step
      exact hK _ _ rfl hG (Below.refl _ _)
    · intro k a w' hG hout hpre K hK
      have q1 := ev_of ((hout 1 rfl).trans (show _ = .pointer (some ⟨b1, 0, none⟩) from rfl))
      obtain ⟨d0, d1, d2, d3, d4, d5⟩ := (HR.out w' hG).1.d6
      clear hout hpre
      go_step
      exact hK _ _ HV.out.1.symm hG (Below.refl _ _)
    · intro k a w' hG hout hpre K hK
      obtain ⟨p0, _⟩ := hpre
      have q42 := ev_of (show a.eval (.tmp 42) = VA from p0)
      have HS := Lib.hid (HCl.out.1 w')
      clear hout p0
      go_step
      refine HS.out.mono ?_
      rintro e w3 ⟨rfl, hB⟩
      exact hK _ _ rfl (hG.trans (hB.mono hG.size)) hB
    · intro k a w' hG hout hpre K hK
      obtain ⟨p0, _⟩ := hpre
      have q43 := ev_of (show a.eval (.tmp 43) = .int .i64 2 from p0)
      clear hout p0
      go_step
      exact hK _ _ rfl hG (Below.refl _ _)
    · intro k a w' hG hout hpre K hK
      obtain ⟨p0, p1, _⟩ := hpre
      have q41 := ev_of (show a.eval (.tmp 41) = .bool true from p0)
      have q44 := ev_of (show a.eval (.tmp 44) = .bool true from p1)
      clear hout p0 p1
      go_step
      exact hK _ _ rfl hG (Below.refl _ _)
    · intro k a w' hG hout hpre K hK
      obtain ⟨p0, _⟩ := hpre
      have q45 := ev_of (show a.eval (.tmp 45) = .bool true from p0)
      clear hout p0
      go_step
      exact hK _ _ rfl hG (Below.refl _ _)
    · intro k a w' hG hout hpre K hK
      have q1 := ev_of ((hout 1 rfl).trans (show _ = .pointer (some ⟨b1, 0, none⟩) from rfl))
      obtain ⟨d0, d1, d2, d3, d4, d5⟩ := (HR.out w' hG).1.d6
      clear hout hpre
      go_step
      exact hK _ _ HV.out.1.symm hG (Below.refl _ _)
    · intro k a w' hG hout hpre K hK
      obtain ⟨p0, _⟩ := hpre
      have q47 := ev_of (show a.eval (.tmp 47) = VA from p0)
      have HS := Lib.hid (HCl.out.2.1 w')
      clear hout p0
      go_step
      refine HS.out.mono ?_
      rintro e w3 ⟨rfl, hB⟩
      exact hK _ _ rfl (hG.trans (hB.mono hG.size)) hB
    · intro k a w' hG hout hpre K hK
      obtain ⟨p0, p1, _⟩ := hpre
      have q46 := ev_of (show a.eval (.tmp 46) = .bool true from p0)
      have q48 := ev_of (show a.eval (.tmp 48) = .bool true from p1)
      clear hout p0 p1
      go_step
      exact hK _ _ rfl hG (Below.refl _ _)
    · intro k a w' hG hout hpre K hK
      obtain ⟨p0, _⟩ := hpre
      have q49 := ev_of (show a.eval (.tmp 49) = .bool true from p0)
      clear hout p0
      go_step
      exact hK _ _ rfl hG (Below.refl _ _)
    · intro k a w' hG hout hpre K hK
      have q1 := ev_of ((hout 1 rfl).trans (show _ = .pointer (some ⟨b1, 0, none⟩) from rfl))
      obtain ⟨d0, d1, d2, d3, d4, d5⟩ := (HR.out w' hG).1.d6
      clear hout hpre
      go_step
      exact hK _ _ HV.out.1.symm hG (Below.refl _ _)
    · intro k a w' hG hout hpre K hK
      obtain ⟨p0, _⟩ := hpre
      have q51 := ev_of (show a.eval (.tmp 51) = VA from p0)
      have HS := Lib.hid (HTx.out w' hG)
      clear hout p0
      go_step
      refine HS.out.mono ?_
      rintro e w3 ⟨rfl, hB⟩
      exact hK _ _ rfl (hG.trans (hB.mono hG.size)) hB
    · intro k a w' hG hout hpre K hK
      obtain ⟨p0, _⟩ := hpre
      have q52 := ev_of (show a.eval (.tmp 52) = Sv sS from p0)
      have he := HEq.out
      clear hout p0
      go_step
      exact hK _ _ rfl hG (Below.refl _ _)
    · intro k a w' hG hout hpre K hK
      obtain ⟨p0, p1, _⟩ := hpre
      have q50 := ev_of (show a.eval (.tmp 50) = .bool true from p0)
      have q53 := ev_of (show a.eval (.tmp 53) = .bool true from p1)
      clear hout p0 p1
      go_step
      exact hK _ _ rfl hG (Below.refl _ _)
    · intro k a w' hG hout hpre K hK
      obtain ⟨p0, _⟩ := hpre
      have q54 := ev_of (show a.eval (.tmp 54) = .bool true from p0)
      clear hout p0
      go_step
      exact hK _ _ rfl hG (Below.refl _ _)
    · intro k a w' hG hout hpre K hK
      have hbuilt := HBu.out.2
      clear hout hpre
      go_step
      exact hK _ _ HV.out.2.1.symm hG (Below.refl _ _)
    · intro k a w' hG hout hpre K hK
      obtain ⟨p0, _⟩ := hpre
      have q56 := ev_of (show a.eval (.tmp 56) = VZ from p0)
      have HS := Lib.hid (HCl.out.2.2 w')
      clear hout p0
      go_step
      refine HS.out.mono ?_
      rintro e w3 ⟨rfl, hB⟩
      exact hK _ _ rfl (hG.trans (hB.mono hG.size)) hB
    · intro k a w' hG hout hpre K hK
      obtain ⟨p0, _⟩ := hpre
      have q57 := ev_of (show a.eval (.tmp 57) = .int .i64 0 from p0)
      clear hout p0
      go_step
      exact hK _ _ rfl hG (Below.refl _ _)
    · intro k a w' hG hout hpre K hK
      obtain ⟨p0, p1, _⟩ := hpre
      have q55 := ev_of (show a.eval (.tmp 55) = .bool true from p0)
      have q58 := ev_of (show a.eval (.tmp 58) = .bool true from p1)
      clear hout p0 p1
      go_step
      exact hK _ _ rfl hG (Below.refl _ _)
    · intro k a w' hG hout hpre K hK
      obtain ⟨p0, _⟩ := hpre
      have q59 := ev_of (show a.eval (.tmp 59) = .bool true from p0)
      clear hout p0
      go_step
      exact hK _ _ rfl hG (Below.refl _ _)
  · intro vs w2 hG hlen hV
    match vs, hlen, hV with
    | v0 :: v1 :: v2 :: v3 :: v4 :: v5 :: v6 :: v7 :: v8 :: v9 :: v10 :: v11 :: v12 :: v13 :: v14 :: v15 :: v16 :: v17 :: v18 :: v19 :: v20 :: v21 :: v22 :: v23 :: v24 :: v25 :: v26 :: v27 :: v28 :: v29 :: v30 :: v31 :: v32 :: v33 :: v34 :: v35 :: v36 :: v37 :: v38 :: v39 :: v40 :: [], _, hV =>
      obtain rfl : v40 = .bool true := (hV 40 0 v40 rfl rfl)
      clear hV
      simp only [putsL, List.tail_cons, List.headD_cons]
      simp only [Act.put, List.setIfInBounds_toArray, List.set_cons_succ, List.set_cons_zero]
      have HZ : Hid (Below w.heap.size w w2) := HW.out.trans (hG.mono HW.out.size)
      clear hG
      go_wp2_with (fail)
      go_ret
      exact ⟨rfl, HZ.out⟩
end Go.Proofs.YteoolfifpmbkeaaDoor
