/-
  QueryTells, whatever query and text it is called with.
-/
import Derived.Test.YteoolfifpmbkeaaDoorQueryFirst
import Derived.Test.YteoolfifpmbkeaaDoorRefQParse
import Derived.Test.YteoolfifpmbkeaaDoorReadTwo
namespace Go.Proofs.YteoolfifpmbkeaaDoor
open Go Go.RowKit

theorem slides_lt {size slide : Int} (h : 1 ≤ slide) (n : Int) : n < (size + slide - 1) / slide ↔ n * slide < size := by
  have h1 : n + 1 ≤ (size + slide - 1) / slide ↔ (n + 1) * slide ≤ size + slide - 1 := Int.le_ediv_iff_mul_le (by omega)
  have h2 : (n + 1) * slide = n * slide + slide := by rw [Int.add_mul, Int.one_mul]
  constructor
  · intro h3
    have := h1.1 (by omega)
    omega
  · intro h3
    have := h1.2 (by omega)
    omega
theorem slides_bd {size slide : Int} (h : 1 ≤ slide) (h1 : 1 ≤ size) (h2 : size ≤ 16 * slide) : 1 ≤ (size + slide - 1) / slide ∧ (size + slide - 1) / slide ≤ 16 := by
  have a := slides_lt (size := size) h 0
  have b := slides_lt (size := size) h 16
  constructor
  · have := a.2 (by omega)
    omega
  · have := mt b.1 (by omega)
    omega
def SlRel (nn : Int) (v : Value) : Prop := ∃ n : Nat, 1 ≤ n ∧ (n : Int) ≤ nn ∧ v = .int .i64 (n : Int)
set_option maxRecDepth 100000 in
set_option maxHeartbeats 4000000 in
theorem queryTells_any (w : World) (x : QueryL) (s : List (BitVec 8)) (hI : QueryIn w) :
    Calls Tryd.prog 3 #[.agg x.cells, Sv s] w (Below0 w (.bool true)) := by
  obtain ⟨w0, hw0⟩ : ∃ W, W = w.alloc (.cells x.cells 23) := ⟨_, rfl⟩
  obtain ⟨xb, hxb⟩ : ∃ b, b = w.heap.size := ⟨_, rfl⟩
  have H0 : Hid (RowQ w0 xb x ∧ Below w.heap.size w w0) := by
    rw [hw0, hxb]
    exact Lib.hid ⟨heap_alloc_new w _, (Below.refl _ w).alloc (Nat.le_refl _) _⟩
  have HF := Lib.hid (qfirst_any w0 (hI.below H0.out.2))
  have HLb : Hid (∀ w', Below w.heap.size w w' → QueryIn w') := Lib.hid (fun w' h => hI.below h)
  obtain ⟨M, hM⟩ : ∃ m, m = s.length := ⟨_, rfl⟩
  have HM := Lib.hid hM
  have hlen : ∀ w ty, (Builtin.len_ #[9] ty #[Sv s]).run Tryd.prog w = .ok (.int .i64 (M : Int)) w := by
    rw [hM]
    exact fun w ty => run_len_Sv w ty s
  obtain ⟨X, hX⟩ : ∃ X : QueryL, X = x := ⟨_, rfl⟩
  have HX := Lib.hid hX
  rw [← hX] at H0
  obtain ⟨kind, size, slide, late, agg, tk⟩ := x
  have HXe : Hid (Value.agg #[.int .i64 kind, .int .i64 size, .int .i64 slide, .int .i64 late, .int .i64 agg, .int .i64 tk] = Value.agg X.cells) := by rw [HX.out]; exact Lib.hid rfl
  unfold QueryL.cells at hw0
  unfold QueryL.cells
  simp only at hw0 ⊢
  clear hM hI hX
  go_enter Tryd.func3, Tryd.ntmps3
  go_upto_region 1 with (fail)
  rw [← hw0, ← hxb]
  clear hw0 hxb
  go_wp2_with (fail)
  refine HF.out.mono ?_
  rintro e w1 ⟨rfl, hB⟩
  have H1 : Hid (RowQ w1 xb X ∧ Below w.heap.size w w1) := Lib.hid ⟨H0.out.1.below hB, H0.out.2.trans (hB.mono H0.out.2.size)⟩
  clear hB
  dsimp only
  by_cases hm2 : 200 < M
  · have hm2' : (200 : Int) < (M : Int) := by omega
    clear hm2
    go_wp2_with (fail)
    go_ret
    exact ⟨rfl, H1.out.2⟩
  have hm2' : ¬ (200 : Int) < (M : Int) := by omega
  have HS2 : Hid (s.length ≤ 200) := Lib.hid (by have := HM.out; omega)
  clear hm2
  obtain ⟨r, hr⟩ : ∃ r, r = X.rightB := ⟨_, rfl⟩
  have HRr := Lib.hid hr
  obtain ⟨tt, htt⟩ : ∃ t, t = X.told := ⟨_, rfl⟩
  have HTt := Lib.hid htt
  obtain ⟨nn, hnn⟩ : ∃ n, n = X.slides := ⟨_, rfl⟩
  have HNn := Lib.hid hnn
  clear hr htt hnn
  have HRb1 : Hid (Calls Tryd.prog 6 #[.agg #[.int .i64 kind, .int .i64 size, .int .i64 slide, .int .i64 late, .int .i64 agg, .int .i64 tk]] w1 (Below0 w1 (.bool r))) := by
    rw [HXe.out, HRr.out]
    exact Lib.hid (rqRight_any w1 X)
  obtain ⟨d0, d1, d2, d3, d4, d5⟩ : D6 w1 xb kind size slide late agg tk := by
    have h := H1.out.1.d6
    rw [HX.out] at h
    exact h
  go_wp2_with (fail)
  refine HRb1.out.mono ?_
  rintro e w2 ⟨rfl, hB⟩
  have H2 : Hid (RowQ w2 xb X ∧ Below w.heap.size w w2) := Lib.hid ⟨H1.out.1.below hB, H1.out.2.trans (hB.mono H1.out.2.size)⟩
  clear hB d0 d1 d2 d3 d4 d5 HRb1
  dsimp only
  go_upto_if 17 with (fail)
  go_cut [5, 6] from 18 to 31 (fun s5 s6 wx => s5 = Sv tt ∧ s6 = .int .i64 nn ∧ Below w2.heap.size w2 wx)
  case first =>
    cases r with
    | false =>
      have HE : Hid (tt = [] ∧ nn = 0) := by
        rw [HTt.out, HNn.out, QueryL.told, QueryL.slides, ← HRr.out]
        exact Lib.hid ⟨rfl, rfl⟩
      go_wp2_with (fail)
      go_meet
      exact ⟨by rw [HE.out.1]; rfl, by rw [HE.out.2], Below.refl _ _⟩
    | true =>
      have HXr : Hid (X.rightB = true) := Lib.hid HRr.out.symm
      have HT7 : Hid (Calls Tryd.prog 7 #[.agg #[.int .i64 kind, .int .i64 size, .int .i64 slide, .int .i64 late, .int .i64 agg, .int .i64 tk]] w2 (Below0 w2 (Sv tt))) := by
        have e : tt = X.text := by rw [HTt.out, QueryL.told, if_pos HXr.out]
        rw [HXe.out, e]
        exact Lib.hid (rqText_yes w2 X HXr.out (HLb.out w2 H2.out.2).1)
      obtain ⟨d0, d1, d2, d3, d4, d5⟩ : D6 w2 xb kind size slide late agg tk := by
        have h := H2.out.1.d6
        rw [HX.out] at h
        exact h
      go_wp2_with (fail)
      refine HT7.out.mono ?_
      rintro e w3 ⟨rfl, hB⟩
      have H3 := Lib.hid (And.intro (H2.out.1.below hB) hB)
      clear hB d0 d1 d2 d3 d4 d5 HT7
      obtain ⟨d0, d1, d2, d3, d4, d5⟩ : D6 w3 xb kind size slide late agg tk := by
        have h := H3.out.1.d6
        rw [HX.out] at h
        exact h
      dsimp only
      by_cases k2 : kind = 2
      · have e2 : (kind == 2) = true := by simpa using k2
        have HQ : Hid ((1 ≤ size ∧ size ≤ 1073741824) ∧ (1 ≤ slide ∧ slide ≤ size ∧ size ≤ 16 * slide) ∧ nn = (size + slide - 1) / slide) := by
          have h := HXr.out
          rw [HX.out] at h
          obtain ⟨h1, _, _, h4, _⟩ := rightQ_cases h
          refine Lib.hid ⟨h1, h4 k2, ?_⟩
          rw [HNn.out, QueryL.slides, if_pos HXr.out, HX.out]
          exact if_pos k2
        clear k2
        go_wp2_with (fail)
        go_loop [6] (fun v => SlRel nn v) (fun v => (nn - intOf v).toNat)
        case atStart => exact ⟨1, Nat.le_refl _, by have := slides_bd HQ.out.2.1.1 HQ.out.1.1 HQ.out.2.1.2.2; rw [HQ.out.2.2]; omega, rfl⟩
        case round =>
          obtain ⟨n, hn1, hn2, rfl⟩ := hrel
          have hsb := slides_bd HQ.out.2.1.1 HQ.out.1.1 HQ.out.2.1.2.2
          rw [← HQ.out.2.2] at hsb
          have hq := slides_lt (size := size) HQ.out.2.1.1 (n : Int)
          rw [← HQ.out.2.2] at hq
          have hn16 : (n : Int) ≤ 16 := by omega
          have hsl : 0 ≤ slide ∧ slide ≤ 1073741824 := by have := HQ.out; omega
          have hp0 : 0 ≤ (n : Int) * slide := Int.mul_nonneg (by omega) hsl.1
          have hp1 : (n : Int) * slide ≤ 16 * 1073741824 := Int.mul_le_mul hn16 hsl.2 hsl.1 (by omega)
          obtain ⟨hsl0, hsl1⟩ := hsl
          by_cases hlt : (n : Int) * slide < size
          · have HN := Lib.hid (And.intro hn1 (And.intro (hq.2 hlt) hsb))
            clear hq hsb
            go_wp2_with (fail)
            go_round
            case rel => exact ⟨n + 1, by omega, by have := HN.out.2.1; omega, by go_num⟩
            case measure => simp [intOf]; have := HN.out.2.1; omega
          · have HN : Hid ((n : Int) = nn) := Lib.hid (by have := mt hq.1 hlt; omega)
            clear hq hsb hn1 hn2
            go_wp2_with (fail)
            go_meet
            exact ⟨rfl, by rw [HN.out], H3.out.2⟩
      · have e2 : (kind == 2) = false := by simpa using k2
        have HQ : Hid (nn = 1) := by
          rw [HNn.out, QueryL.slides, if_pos HXr.out, HX.out]
          exact Lib.hid (if_neg k2)
        clear k2
        go_wp2_with (fail)
        go_meet
        exact ⟨rfl, by rw [HQ.out], H3.out.2⟩
  case rest =>
    obtain ⟨rfl, rfl, hB5⟩ := hcut
    have H5 : Hid (RowQ wc xb X ∧ Below w.heap.size w wc) := Lib.hid ⟨H2.out.1.below hB5, H2.out.2.trans (hB5.mono H2.out.2.size)⟩
    clear hB5
    obtain ⟨Pr, hPr⟩ : ∃ p, p = parseQ s := ⟨_, rfl⟩
    have HP1 : Hid (Calls Tryd.prog 8 #[Sv s] wc (Below0 wc (.tuple #[.agg Pr.1.cells, .bool Pr.2]))) := by
      rw [hPr]
      exact Lib.hid (qparse_any wc s (by have := HS2.out; omega) (HLb.out wc H5.out.2))
    have HP2 : Hid (∀ w', Calls Tryd.prog 9 #[Sv s] w' (Below0 w' (.tuple #[.agg Pr.1.cells, .bool Pr.2]))) := by
      rw [hPr]
      exact Lib.hid (fun w' => rqParse_any w' s (by have := HS2.out; omega))
    clear hPr
    obtain ⟨Y, is⟩ := Pr
    simp only at HP1 HP2
    go_wp2_with (fail)
    refine HP1.out.mono ?_
    rintro e v1 ⟨rfl, hB⟩
    have B1 : Hid (RowQ v1 xb X ∧ Below w.heap.size w v1) := Lib.hid ⟨H5.out.1.below hB, H5.out.2.trans (hB.mono H5.out.2.size)⟩
    clear hB HP1
    dsimp only
    first
      | (refine wpList_store_row rfl _ _ _ rfl v1.heap.size Y.cells rfl rfl 23 zeroQ.cells (heap_alloc_new v1 _) query_size rfl (query_one _) ?_)
      | (iterate 1 go_step
         refine wpList_store_row rfl _ _ _ rfl v1.heap.size Y.cells rfl rfl 23 zeroQ.cells (heap_alloc_new v1 _) query_size rfl (query_one _) ?_)
      | (iterate 2 go_step
         refine wpList_store_row rfl _ _ _ rfl v1.heap.size Y.cells rfl rfl 23 zeroQ.cells (heap_alloc_new v1 _) query_size rfl (query_one _) ?_)
      | (iterate 3 go_step
         refine wpList_store_row rfl _ _ _ rfl v1.heap.size Y.cells rfl rfl 23 zeroQ.cells (heap_alloc_new v1 _) query_size rfl (query_one _) ?_)
      | (iterate 4 go_step
         refine wpList_store_row rfl _ _ _ rfl v1.heap.size Y.cells rfl rfl 23 zeroQ.cells (heap_alloc_new v1 _) query_size rfl (query_one _) ?_)
      | (iterate 5 go_step
         refine wpList_store_row rfl _ _ _ rfl v1.heap.size Y.cells rfl rfl 23 zeroQ.cells (heap_alloc_new v1 _) query_size rfl (query_one _) ?_)
      | (iterate 6 go_step
         refine wpList_store_row rfl _ _ _ rfl v1.heap.size Y.cells rfl rfl 23 zeroQ.cells (heap_alloc_new v1 _) query_size rfl (query_one _) ?_)
      | (iterate 7 go_step
         refine wpList_store_row rfl _ _ _ rfl v1.heap.size Y.cells rfl rfl 23 zeroQ.cells (heap_alloc_new v1 _) query_size rfl (query_one _) ?_)
      | (iterate 8 go_step
         refine wpList_store_row rfl _ _ _ rfl v1.heap.size Y.cells rfl rfl 23 zeroQ.cells (heap_alloc_new v1 _) query_size rfl (query_one _) ?_)
      | (iterate 9 go_step
         refine wpList_store_row rfl _ _ _ rfl v1.heap.size Y.cells rfl rfl 23 zeroQ.cells (heap_alloc_new v1 _) query_size rfl (query_one _) ?_)
      | (iterate 10 go_step
         refine wpList_store_row rfl _ _ _ rfl v1.heap.size Y.cells rfl rfl 23 zeroQ.cells (heap_alloc_new v1 _) query_size rfl (query_one _) ?_)
      | (iterate 11 go_step
         refine wpList_store_row rfl _ _ _ rfl v1.heap.size Y.cells rfl rfl 23 zeroQ.cells (heap_alloc_new v1 _) query_size rfl (query_one _) ?_)
      | (iterate 12 go_step
         refine wpList_store_row rfl _ _ _ rfl v1.heap.size Y.cells rfl rfl 23 zeroQ.cells (heap_alloc_new v1 _) query_size rfl (query_one _) ?_)
      | (iterate 13 go_step
         refine wpList_store_row rfl _ _ _ rfl v1.heap.size Y.cells rfl rfl 23 zeroQ.cells (heap_alloc_new v1 _) query_size rfl (query_one _) ?_)
    obtain ⟨v2, hv2⟩ : ∃ W, W = (v1.alloc (Obj.cells #[.int .i64 0, .int .i64 0, .int .i64 0, .int .i64 0, .int .i64 0, .int .i64 0] 23)).setRow v1.heap.size Y.cells := ⟨_, rfl⟩
    obtain ⟨yb, hyb⟩ : ∃ b, b = v1.heap.size := ⟨_, rfl⟩
    have H8 : Hid (RowQ v2 xb X ∧ RowQ v2 yb Y ∧ Below w.heap.size w v2) := by
      obtain ⟨q1, q2⟩ := stored_query v1 Y
      obtain ⟨k1, k2⟩ := B1.out
      rw [hv2, hyb]
      exact Lib.hid ⟨k1.below q2, q1, k2.trans (q2.mono k2.size)⟩
    rw [← hv2, ← hyb]
    clear hv2 hyb
    go_wp2_with (fail)
    refine (HP2.out v2).mono ?_
    rintro e v3 ⟨rfl, hB⟩
    have B3 : Hid (RowQ v3 xb X ∧ RowQ v3 yb Y ∧ Below w.heap.size w v3) := by
      obtain ⟨k1, k2, k3⟩ := H8.out
      exact Lib.hid ⟨k1.below hB, k2.below hB, k3.trans (hB.mono k3.size)⟩
    clear hB HP2
    dsimp only
    first
      | (refine wpList_store_row rfl _ _ _ rfl v3.heap.size Y.cells rfl rfl 23 zeroQ.cells (heap_alloc_new v3 _) query_size rfl (query_one _) ?_)
      | (iterate 1 go_step
         refine wpList_store_row rfl _ _ _ rfl v3.heap.size Y.cells rfl rfl 23 zeroQ.cells (heap_alloc_new v3 _) query_size rfl (query_one _) ?_)
      | (iterate 2 go_step
         refine wpList_store_row rfl _ _ _ rfl v3.heap.size Y.cells rfl rfl 23 zeroQ.cells (heap_alloc_new v3 _) query_size rfl (query_one _) ?_)
      | (iterate 3 go_step
         refine wpList_store_row rfl _ _ _ rfl v3.heap.size Y.cells rfl rfl 23 zeroQ.cells (heap_alloc_new v3 _) query_size rfl (query_one _) ?_)
      | (iterate 4 go_step
         refine wpList_store_row rfl _ _ _ rfl v3.heap.size Y.cells rfl rfl 23 zeroQ.cells (heap_alloc_new v3 _) query_size rfl (query_one _) ?_)
      | (iterate 5 go_step
         refine wpList_store_row rfl _ _ _ rfl v3.heap.size Y.cells rfl rfl 23 zeroQ.cells (heap_alloc_new v3 _) query_size rfl (query_one _) ?_)
      | (iterate 6 go_step
         refine wpList_store_row rfl _ _ _ rfl v3.heap.size Y.cells rfl rfl 23 zeroQ.cells (heap_alloc_new v3 _) query_size rfl (query_one _) ?_)
      | (iterate 7 go_step
         refine wpList_store_row rfl _ _ _ rfl v3.heap.size Y.cells rfl rfl 23 zeroQ.cells (heap_alloc_new v3 _) query_size rfl (query_one _) ?_)
      | (iterate 8 go_step
         refine wpList_store_row rfl _ _ _ rfl v3.heap.size Y.cells rfl rfl 23 zeroQ.cells (heap_alloc_new v3 _) query_size rfl (query_one _) ?_)
      | (iterate 9 go_step
         refine wpList_store_row rfl _ _ _ rfl v3.heap.size Y.cells rfl rfl 23 zeroQ.cells (heap_alloc_new v3 _) query_size rfl (query_one _) ?_)
      | (iterate 10 go_step
         refine wpList_store_row rfl _ _ _ rfl v3.heap.size Y.cells rfl rfl 23 zeroQ.cells (heap_alloc_new v3 _) query_size rfl (query_one _) ?_)
      | (iterate 11 go_step
         refine wpList_store_row rfl _ _ _ rfl v3.heap.size Y.cells rfl rfl 23 zeroQ.cells (heap_alloc_new v3 _) query_size rfl (query_one _) ?_)
      | (iterate 12 go_step
         refine wpList_store_row rfl _ _ _ rfl v3.heap.size Y.cells rfl rfl 23 zeroQ.cells (heap_alloc_new v3 _) query_size rfl (query_one _) ?_)
      | (iterate 13 go_step
         refine wpList_store_row rfl _ _ _ rfl v3.heap.size Y.cells rfl rfl 23 zeroQ.cells (heap_alloc_new v3 _) query_size rfl (query_one _) ?_)
    obtain ⟨w8, hw8⟩ : ∃ W, W = (v3.alloc (Obj.cells #[.int .i64 0, .int .i64 0, .int .i64 0, .int .i64 0, .int .i64 0, .int .i64 0] 23)).setRow v3.heap.size Y.cells := ⟨_, rfl⟩
    obtain ⟨zb, hzb⟩ : ∃ b, b = v3.heap.size := ⟨_, rfl⟩
    have H9 : Hid (RowQ w8 xb X ∧ RowQ w8 yb Y ∧ RowQ w8 zb Y ∧ Below w.heap.size w w8) := by
      obtain ⟨q1, q2⟩ := stored_query v3 Y
      obtain ⟨k1, k2, k3⟩ := B3.out
      rw [hw8, hzb]
      exact Lib.hid ⟨k1.below q2, k2.below q2, q1, k3.trans (q2.mono k3.size)⟩
    rw [← hw8, ← hzb]
    clear hw8 hzb
    go_upto_region 13 with (fail)
    obtain ⟨VA, hVA⟩ : ∃ V, V = Value.agg Y.cells := ⟨_, rfl⟩
    have HV : Hid ((∀ w, (binOp .eql 23 VA VA).run Tryd.prog w = .ok (.bool true) w) ∧ (∀ w op o1 o2, (eqGuard op 23 o1 o2 VA VA).run Tryd.prog w = .ok () w) ∧ VA = Value.agg Y.cells) := by
      refine Lib.hid ⟨?_, ?_, hVA⟩
      · intro w; rw [hVA, run_eql_query, (sameQ_iff Y Y).2 rfl]
      · intro w op o1 o2; rw [hVA]; exact run_guard_query w op o1 o2 Y Y
    have HW8 : Hid (Below w.heap.size w w8) := Lib.hid H9.out.2.2.2
    have HG8 : Hid (Below w8.heap.size w8 w8.drew) := (Below.refl _ w8).drew
    have HD : Hid (∀ w', Below w8.heap.size w8 w' → D6 w' xb kind size slide late agg tk ∧ D6 w' yb Y.kind Y.size Y.slide Y.late Y.agg Y.k ∧ D6 w' zb Y.kind Y.size Y.slide Y.late Y.agg Y.k) := by
      refine Lib.hid (fun w' h => ?_)
      obtain ⟨k1, k2, k3, k4⟩ := H9.out
      have h2 := (k1.below h).d6
      rw [HX.out] at h2
      exact ⟨h2, (k2.below h).d6, (k3.below h).d6⟩
    have HRa : Hid (∀ w', Below w8.heap.size w8 w' → Calls Tryd.prog 10 #[.agg #[.int .i64 kind, .int .i64 size, .int .i64 slide, .int .i64 late, .int .i64 agg, .int .i64 tk]] w' (Below0 w' (.bool r))) := by
      rw [HXe.out, HRr.out]
      exact Lib.hid (fun w' _ => qright_any w' X)
    have HRb : Hid (∀ w', Below w8.heap.size w8 w' → Calls Tryd.prog 6 #[.agg #[.int .i64 kind, .int .i64 size, .int .i64 slide, .int .i64 late, .int .i64 agg, .int .i64 tk]] w' (Below0 w' (.bool r))) := by
      rw [HXe.out, HRr.out]
      exact Lib.hid (fun w' _ => rqRight_any w' X)
    have HTx : Hid (∀ w', Below w8.heap.size w8 w' → Calls Tryd.prog 11 #[.agg #[.int .i64 kind, .int .i64 size, .int .i64 slide, .int .i64 late, .int .i64 agg, .int .i64 tk]] w' (Below0 w' (Sv tt))) := by
      rw [HXe.out, HTt.out]
      exact Lib.hid (fun w' h => by
        have hq := HLb.out w' (HW8.out.trans (h.mono HW8.out.size))
        exact qtext_any w' X hq.1 hq.2.2.2)
    have HSl : Hid (∀ w', Below w8.heap.size w8 w' → Calls Tryd.prog 12 #[.agg #[.int .i64 kind, .int .i64 size, .int .i64 slide, .int .i64 late, .int .i64 agg, .int .i64 tk]] w' (Below0 w' (.int .i64 nn))) := by
      rw [HXe.out, HNn.out]
      exact Lib.hid (fun w' _ => qslides_any w' X)
    have HTT : Hid (∀ w, (binOp .eql 9 (Sv tt) (Sv tt)).run Tryd.prog w = .ok (.bool true) w) := Lib.hid (fun w => by
      have h := run_eql_Sv w tt tt
      rwa [decide_eq_true rfl] at h)
    clear hVA hlen hm2' HLb HF
    refine wp_region_seq_frame (by kernel_rfl) [none, none, none, none, none, none, none, none, none, none, none, none, none, none, none, none, none, none, none, none, none, none, none, none, none, none, none, none] [] (vOfT (stE (.agg #[.int .i64 kind, .int .i64 size, .int .i64 slide, .int .i64 late, .int .i64 agg, .int .i64 tk]) :: stE (.bool r) :: stE (.agg #[.int .i64 kind, .int .i64 size, .int .i64 slide, .int .i64 late, .int .i64 agg, .int .i64 tk]) :: stE (.bool r) :: stE (.bool true) :: stE (.bool true) :: stE (.agg #[.int .i64 kind, .int .i64 size, .int .i64 slide, .int .i64 late, .int .i64 agg, .int .i64 tk]) :: stE (Sv tt) :: stE (Sv tt) :: stE (.bool true) :: stE (.bool true) :: stE (.bool true) :: stE (.agg #[.int .i64 kind, .int .i64 size, .int .i64 slide, .int .i64 late, .int .i64 agg, .int .i64 tk]) :: stE (.int .i64 nn) :: stE (.int .i64 nn) :: stE (.bool true) :: stE (.bool true) :: stE (.bool true) :: stE (VA) :: stE (VA) :: stE (.bool true) :: stE (.bool true) :: stE (.bool true) :: stE (.bool is) :: stE (.bool is) :: stE (.bool true) :: stE (.bool true) :: stE (.bool true) :: ([] : List _))) (fun _ w' => Below w8.heap.size w8 w') (fun w w' => Below w.heap.size w w') (vOfT_st _) (by kernel_rfl) (by kernel_rfl) (by kernel_rfl) HG8.out ⟨trivial, trivial, trivial, trivial, trivial, trivial, fun _ _ h => h, fun _ _ h => h, fun _ _ h => h, fun _ _ h => h, trivial, trivial, fun _ _ h => h, fun _ _ h => h, fun _ _ h => h, fun _ _ h => h, trivial, trivial, fun _ _ h => h, fun _ _ h => h, fun _ _ h => h, trivial, trivial, fun _ _ h => h, fun _ _ h => h, fun _ _ h => h, trivial, trivial, trivial⟩ ?_ ?_
    · refine ⟨?_, ?_, ?_, ?_, ?_, ?_, ?_, ?_, ?_, ?_, ?_, ?_, ?_, ?_, ?_, ?_, ?_, ?_, ?_, ?_, ?_, ?_, ?_, ?_, ?_, ?_, ?_, ?_, trivial⟩
      · intro k a w' hG hout hpre K hK
        have q2 := ev_of ((hout 2 rfl).trans (show _ = .pointer (some ⟨xb, 0, none⟩) from rfl))
        obtain ⟨d0, d1, d2, d3, d4, d5⟩ := (HD.out w' hG).1
        clear hout hpre
        go_step
        exact hK _ _ rfl hG (Below.refl _ _)
      · intro k a w' hG hout hpre K hK
        obtain ⟨p0, _⟩ := hpre
        have q42 := ev_of (show a.eval (.tmp 42) = .agg #[.int .i64 kind, .int .i64 size, .int .i64 slide, .int .i64 late, .int .i64 agg, .int .i64 tk] from p0)
        have HS := Lib.hid (HRa.out w' hG)
        clear hout p0
        go_step
        refine HS.out.mono ?_
        rintro e w3 ⟨rfl, hB⟩
        exact hK _ _ rfl (hG.trans (hB.mono hG.size)) hB
      · intro k a w' hG hout hpre K hK
        have q2 := ev_of ((hout 2 rfl).trans (show _ = .pointer (some ⟨xb, 0, none⟩) from rfl))
        obtain ⟨d0, d1, d2, d3, d4, d5⟩ := (HD.out w' hG).1
        clear hout hpre
        go_step
        exact hK _ _ rfl hG (Below.refl _ _)
      · intro k a w' hG hout hpre K hK
        obtain ⟨p0, _⟩ := hpre
        have q44 := ev_of (show a.eval (.tmp 44) = .agg #[.int .i64 kind, .int .i64 size, .int .i64 slide, .int .i64 late, .int .i64 agg, .int .i64 tk] from p0)
        have HS := Lib.hid (HRb.out w' hG)
        clear hout p0
        go_step
        refine HS.out.mono ?_
        rintro e w3 ⟨rfl, hB⟩
        exact hK _ _ rfl (hG.trans (hB.mono hG.size)) hB
      · intro k a w' hG hout hpre K hK
        obtain ⟨p0, p1, _⟩ := hpre
        have q43 := ev_of (show a.eval (.tmp 43) = .bool r from p0)
        have q45 := ev_of (show a.eval (.tmp 45) = .bool r from p1)
        have he : (r == r) = true := by simp
        clear hout p0 p1
        go_step
        exact hK _ _ rfl hG (Below.refl _ _)
      · intro k a w' hG hout hpre K hK
        obtain ⟨p0, _⟩ := hpre
        have q46 := ev_of (show a.eval (.tmp 46) = .bool true from p0)
        clear hout p0
        go_step
        exact hK _ _ rfl hG (Below.refl _ _)
      · intro k a w' hG hout hpre K hK
        have q2 := ev_of ((hout 2 rfl).trans (show _ = .pointer (some ⟨xb, 0, none⟩) from rfl))
        obtain ⟨d0, d1, d2, d3, d4, d5⟩ := (HD.out w' hG).1
        clear hout hpre
        go_step
        exact hK _ _ rfl hG (Below.refl _ _)
      · intro k a w' hG hout hpre K hK
        obtain ⟨p0, _⟩ := hpre
        have q48 := ev_of (show a.eval (.tmp 48) = .agg #[.int .i64 kind, .int .i64 size, .int .i64 slide, .int .i64 late, .int .i64 agg, .int .i64 tk] from p0)
        have HS := Lib.hid (HTx.out w' hG)
        clear hout p0
        go_step
        refine HS.out.mono ?_
        rintro e w3 ⟨rfl, hB⟩
        exact hK _ _ rfl (hG.trans (hB.mono hG.size)) hB
      · intro k a w' hG hout hpre K hK
        have q5 := ev_of ((hout 5 rfl).trans (show _ = Sv tt from rfl))
        clear hout hpre
        go_step
        exact hK _ _ rfl hG (Below.refl _ _)
      · intro k a w' hG hout hpre K hK
        obtain ⟨p0, p1, _⟩ := hpre
        have q49 := ev_of (show a.eval (.tmp 49) = Sv tt from p0)
        have q50 := ev_of (show a.eval (.tmp 50) = Sv tt from p1)
        have he := HTT.out
        clear hout p0 p1
        go_step
        exact hK _ _ rfl hG (Below.refl _ _)
      · intro k a w' hG hout hpre K hK
        obtain ⟨p0, p1, _⟩ := hpre
        have q47 := ev_of (show a.eval (.tmp 47) = .bool true from p0)
        have q51 := ev_of (show a.eval (.tmp 51) = .bool true from p1)
        clear hout p0 p1
        go_step
        exact hK _ _ rfl hG (Below.refl _ _)
      · intro k a w' hG hout hpre K hK
        obtain ⟨p0, _⟩ := hpre
        have q52 := ev_of (show a.eval (.tmp 52) = .bool true from p0)
        clear hout p0
        go_step
        exact hK _ _ rfl hG (Below.refl _ _)
      · intro k a w' hG hout hpre K hK
        have q2 := ev_of ((hout 2 rfl).trans (show _ = .pointer (some ⟨xb, 0, none⟩) from rfl))
        obtain ⟨d0, d1, d2, d3, d4, d5⟩ := (HD.out w' hG).1
        clear hout hpre
        go_step
        exact hK _ _ rfl hG (Below.refl _ _)
      · intro k a w' hG hout hpre K hK
        obtain ⟨p0, _⟩ := hpre
        have q54 := ev_of (show a.eval (.tmp 54) = .agg #[.int .i64 kind, .int .i64 size, .int .i64 slide, .int .i64 late, .int .i64 agg, .int .i64 tk] from p0)
        have HS := Lib.hid (HSl.out w' hG)
        clear hout p0
        go_step
        refine HS.out.mono ?_
        rintro e w3 ⟨rfl, hB⟩
        exact hK _ _ rfl (hG.trans (hB.mono hG.size)) hB
      · intro k a w' hG hout hpre K hK
        have q6 := ev_of ((hout 6 rfl).trans (show _ = .int .i64 nn from rfl))
        clear hout hpre
        go_step
        exact hK _ _ rfl hG (Below.refl _ _)
      · intro k a w' hG hout hpre K hK
        obtain ⟨p0, p1, _⟩ := hpre
        have q55 := ev_of (show a.eval (.tmp 55) = .int .i64 nn from p0)
        have q56 := ev_of (show a.eval (.tmp 56) = .int .i64 nn from p1)
        have he : (nn == nn) = true := by simp
        clear hout p0 p1
        go_step
        exact hK _ _ rfl hG (Below.refl _ _)
      · intro k a w' hG hout hpre K hK
        obtain ⟨p0, p1, _⟩ := hpre
        have q53 := ev_of (show a.eval (.tmp 53) = .bool true from p0)
        have q57 := ev_of (show a.eval (.tmp 57) = .bool true from p1)
        clear hout p0 p1
        go_step
        exact hK _ _ rfl hG (Below.refl _ _)
      · intro k a w' hG hout hpre K hK
        obtain ⟨p0, _⟩ := hpre
        have q58 := ev_of (show a.eval (.tmp 58) = .bool true from p0)
        clear hout p0
        go_step
        exact hK _ _ rfl hG (Below.refl _ _)
      · intro k a w' hG hout hpre K hK
        have q7 := ev_of ((hout 7 rfl).trans (show _ = .pointer (some ⟨yb, 0, none⟩) from rfl))
        obtain ⟨d0, d1, d2, d3, d4, d5⟩ := (HD.out w' hG).2.1
        clear hout hpre
        go_step
        exact hK _ _ HV.out.2.2.symm hG (Below.refl _ _)
      · intro k a w' hG hout hpre K hK
        have q9 := ev_of ((hout 9 rfl).trans (show _ = .pointer (some ⟨zb, 0, none⟩) from rfl))
        obtain ⟨d0, d1, d2, d3, d4, d5⟩ := (HD.out w' hG).2.2
        clear hout hpre
        go_step
        exact hK _ _ HV.out.2.2.symm hG (Below.refl _ _)
      · intro k a w' hG hout hpre K hK
        obtain ⟨p0, p1, _⟩ := hpre
        have q60 := ev_of (show a.eval (.tmp 60) = VA from p0)
        have q61 := ev_of (show a.eval (.tmp 61) = VA from p1)
        have he := HV.out.1
        have hgd := HV.out.2.1
        clear hout p0 p1
        go_step
        exact hK _ _ rfl hG (Below.refl _ _)
      · intro k a w' hG hout hpre K hK
        obtain ⟨p0, p1, _⟩ := hpre
        have q59 := ev_of (show a.eval (.tmp 59) = .bool true from p0)
        have q62 := ev_of (show a.eval (.tmp 62) = .bool true from p1)
        clear hout p0 p1
        go_step
        exact hK _ _ rfl hG (Below.refl _ _)
      · intro k a w' hG hout hpre K hK
        obtain ⟨p0, _⟩ := hpre
        have q63 := ev_of (show a.eval (.tmp 63) = .bool true from p0)
        clear hout p0
        go_step
        exact hK _ _ rfl hG (Below.refl _ _)
      · intro k a w' hG hout hpre K hK
        have q8 := ev_of ((hout 8 rfl).trans (show _ = .bool is from rfl))
        clear hout hpre
        go_step
        exact hK _ _ rfl hG (Below.refl _ _)
      · intro k a w' hG hout hpre K hK
        have q10 := ev_of ((hout 10 rfl).trans (show _ = .bool is from rfl))
        clear hout hpre
        go_step
        exact hK _ _ rfl hG (Below.refl _ _)
      · intro k a w' hG hout hpre K hK
        obtain ⟨p0, p1, _⟩ := hpre
        have q65 := ev_of (show a.eval (.tmp 65) = .bool is from p0)
        have q66 := ev_of (show a.eval (.tmp 66) = .bool is from p1)
        have he : (is == is) = true := by simp
        clear hout p0 p1
        go_step
        exact hK _ _ rfl hG (Below.refl _ _)
      · intro k a w' hG hout hpre K hK
        obtain ⟨p0, p1, _⟩ := hpre
        have q64 := ev_of (show a.eval (.tmp 64) = .bool true from p0)
        have q67 := ev_of (show a.eval (.tmp 67) = .bool true from p1)
        clear hout p0 p1
        go_step
        exact hK _ _ rfl hG (Below.refl _ _)
      · intro k a w' hG hout hpre K hK
        obtain ⟨p0, _⟩ := hpre
        have q68 := ev_of (show a.eval (.tmp 68) = .bool true from p0)
        clear hout p0
        go_step
        exact hK _ _ rfl hG (Below.refl _ _)
    · intro vs w2 hG hlen hV
      match vs, hlen, hV with
      | [v0, v1, v2, v3, v4, v5, v6, v7, v8, v9, v10, v11, v12, v13, v14, v15, v16, v17, v18, v19, v20, v21, v22, v23, v24, v25, v26, v27], _, hV =>
        obtain rfl : v27 = .bool true := hV 27 4 v27 rfl rfl
        clear hV
        simp only [putsL, List.tail_cons, List.headD_cons]
        simp only [Act.put, List.setIfInBounds_toArray, List.set_cons_succ, List.set_cons_zero]
        have HZ := Lib.hid (HW8.out.trans (hG.mono HW8.out.size))
        clear hG
        go_wp2_with (fail)
        go_ret
        exact ⟨rfl, HZ.out⟩
end Go.Proofs.YteoolfifpmbkeaaDoor
