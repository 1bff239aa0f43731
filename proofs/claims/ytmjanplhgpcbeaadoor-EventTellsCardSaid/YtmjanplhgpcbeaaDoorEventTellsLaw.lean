/-
  EventTells, whatever item and text it is called with.
-/
import Derived.Test.YtmjanplhgpcbeaaDoorEventFirst
import Derived.Test.YtmjanplhgpcbeaaDoorEventSame
import Derived.Test.YtmjanplhgpcbeaaDoorRefName
import Derived.Test.YtmjanplhgpcbeaaDoorRefItem
import Derived.Test.YtmjanplhgpcbeaaDoorRefParse
namespace Go.Proofs.YtmjanplhgpcbeaaDoor
open Go Go.RowKit

def stSlT (m : List (BitVec 8)) : StT (fun w w' => Below w.heap.size w w') :=
  ⟨fun w v => ∃ sa sc, v = .slice sa m.length sc ∧ SrcP w sa m.length m, fun _ _ _ h ⟨sa, sc, h1, h2⟩ => ⟨sa, sc, h1, h2.below h⟩⟩
def D4 (w : World) (g : Nat) (kind : Int) (key : List (BitVec 8)) (time value : Int) : Prop := w.cell? ⟨g, 0, none⟩ = some (.int .i64 kind) ∧ w.cell? ⟨g, 1, none⟩ = some (Sv key) ∧ w.cell? ⟨g, 2, none⟩ = some (.int .i64 time) ∧ w.cell? ⟨g, 3, none⟩ = some (.int .i64 value)
theorem RowI.d4 {w : World} {g : Nat} {x : ItemL} (h : RowI w g x) : D4 w g x.kind x.key x.time x.value := cells4 h.cell
set_option maxRecDepth 100000 in
set_option maxHeartbeats 4000000 in
theorem eventTells_any (w : World) (x : ItemL) (s : List (BitVec 8)) (hk : x.key.length ≤ 281474976710656) (hL : LibIn w) :
    Calls Tryd.prog 3 #[.agg x.cells, Sv s] w (Below0 w (.bool true)) := by
  obtain ⟨w0, hw0⟩ : ∃ W, W = w.alloc (.cells x.cells 23) := ⟨_, rfl⟩
  obtain ⟨xb, hxb⟩ : ∃ b, b = w.heap.size := ⟨_, rfl⟩
  have H0 : Hid (RowI w0 xb x ∧ w.heap.size ≤ xb ∧ Below w.heap.size w w0) := by
    rw [hw0, hxb]
    exact Lib.hid ⟨heap_alloc_new w _, Nat.le_refl _, (Below.refl _ w).alloc (Nat.le_refl _) _⟩
  have HF := Lib.hid (efirst_any w0 (hL.below H0.out.2.2))
  have HLb : Hid (∀ w', Below w.heap.size w w' → LibIn w') := Lib.hid (fun w' h => hL.below h)
  obtain ⟨q0, hq⟩ : ∃ q, q = 10 + x.key.length := ⟨_, rfl⟩
  obtain ⟨M, hM⟩ : ∃ m, m = s.length := ⟨_, rfl⟩
  have HQ : Hid (q0 = 10 + x.key.length ∧ M = s.length ∧ x.key.length ≤ 281474976710656) := Lib.hid ⟨hq, hM, hk⟩
  have hlen : ∀ w ty, (Builtin.len_ #[9] ty #[Sv s]).run Tryd.prog w = .ok (.int .i64 (M : Int)) w := by
    rw [hM]
    exact fun w ty => run_len_Sv w ty s
  have HG : Hid (∀ w' g, w'.heap[g]? = some (.cells x.cells 23 (0, 0)) → Calls Tryd.prog 7 #[.slice (some ⟨g, 0, none⟩) 1 1] w' (Below0 w' (.int .i64 (q0 : Int)))) := by
    refine Lib.hid (fun w' g hg => ?_)
    have he : greatL [x] = q0 := by rw [hq]; simp [greatL]
    rw [← he]
    refine great_wide w' (some ⟨g, 0, none⟩) 1 [x] (.inr ⟨g, 0, rfl, fun i y hy j v hv => ?_⟩) (by rw [he, hq]; omega)
    match i, hy with
    | 0, hy =>
      cases hy
      rw [cell_of_row _ _ _ _ _ _ hg, Nat.zero_mul, Nat.zero_add]
      exact hv
  obtain ⟨X, hX⟩ : ∃ X : ItemL, X = x := ⟨_, rfl⟩
  have HX := Lib.hid hX
  rw [← hX] at H0 HQ
  obtain ⟨kind, key, time, value⟩ := x
  unfold ItemL.cells at hw0 HG
  unfold ItemL.cells
  simp only at hw0 HG ⊢
  clear hq hM hk hL hX
  go_enter Tryd.func3, Tryd.ntmps3
  go_upto_region 1 with (fail)
  rw [← hw0, ← hxb]
  clear hw0 hxb
  go_wp2_with (fail)
  refine HF.out.mono ?_
  rintro e w1 ⟨rfl, hB⟩
  have H1 : Hid (RowI w1 xb X ∧ w.heap.size ≤ xb ∧ Below w.heap.size w w1) := by
    obtain ⟨k1, k2, k3⟩ := H0.out
    exact Lib.hid ⟨k1.below hB, k2, k3.trans (hB.mono k3.size)⟩
  clear hB
  have hd4 : D4 w1 xb kind key time value := by
    have h := H1.out.1.d4
    rw [HX.out] at h
    exact h
  obtain ⟨d0, d1, d2, d3⟩ := hd4
  obtain ⟨w2, hw2⟩ : ∃ W, W = w1.alloc (.cells #[.int .i64 kind, Sv key, .int .i64 time, .int .i64 value] 23) := ⟨_, rfl⟩
  have HGc : Hid (Calls Tryd.prog 7 #[.slice (some ⟨w1.heap.size, 0, none⟩) 1 1] w2 (Below0 w2 (.int .i64 (q0 : Int)))) := by
    refine Lib.hid (HG.out w2 w1.heap.size ?_)
    rw [hw2]
    exact heap_alloc_new w1 _
  have HB12 : Hid (Below w1.heap.size w1 w2) := by
    rw [hw2]
    exact Lib.hid ((Below.refl _ w1).alloc (Nat.le_refl _) _)
  by_cases hq2 : 200 < q0
  · have hq2' : (200 : Int) < (q0 : Int) := by omega
    clear hq2
    dsimp only
    go_wp2_with (fail)
    rw [← hw2]
    clear hw2
    refine HGc.out.mono ?_
    rintro e w3 ⟨rfl, hB⟩
    have HZ : Hid (Below w.heap.size w w3) := by
      obtain ⟨k1, k2, k3⟩ := H1.out
      have h12 := k3.trans (HB12.out.mono k3.size)
      exact Lib.hid (h12.trans (hB.mono h12.size))
    clear hB d0 d1 d2 d3
    dsimp only
    go_wp2_with (fail)
    go_ret
    exact ⟨rfl, HZ.out⟩
  have hq2' : ¬ (200 : Int) < (q0 : Int) := by omega
  by_cases hm2 : 200 < M
  · have hm2' : (200 : Int) < (M : Int) := by omega
    clear hq2 hm2
    dsimp only
    go_wp2_with (fail)
    rw [← hw2]
    clear hw2
    refine HGc.out.mono ?_
    rintro e w3 ⟨rfl, hB⟩
    have HZ : Hid (Below w.heap.size w w3) := by
      obtain ⟨k1, k2, k3⟩ := H1.out
      have h12 := k3.trans (HB12.out.mono k3.size)
      exact Lib.hid (h12.trans (hB.mono h12.size))
    clear hB d0 d1 d2 d3
    dsimp only
    go_wp2_with (fail)
    go_ret
    exact ⟨rfl, HZ.out⟩
  have hm2' : ¬ (200 : Int) < (M : Int) := by omega
  have HS2 : Hid (X.key.length ≤ 190 ∧ s.length ≤ 200) := Lib.hid ⟨by have := HQ.out.1; omega, by have := HQ.out.2.1; omega⟩
  clear hq2 hm2
  dsimp only
  go_wp2_with (fail)
  rw [← hw2]
  clear hw2
  refine HGc.out.mono ?_
  rintro e w3 ⟨rfl, hB⟩
  have H3 : Hid (RowI w3 xb X ∧ w.heap.size ≤ xb ∧ Below w.heap.size w w3) := by
    obtain ⟨k1, k2, k3⟩ := H1.out
    have h12 := k3.trans (HB12.out.mono k3.size)
    have hB2 : Below w1.heap.size w1 w3 := HB12.out.trans (hB.mono HB12.out.size)
    exact Lib.hid ⟨k1.below hB2, k2, h12.trans (hB.mono h12.size)⟩
  clear hB d0 d1 d2 d3 HGc HB12
  obtain ⟨r, hr⟩ : ∃ r, r = X.rightB := ⟨_, rfl⟩
  have HRr := Lib.hid hr
  obtain ⟨tt, htt⟩ : ∃ t, t = X.told := ⟨_, rfl⟩
  have HTt := Lib.hid htt
  obtain ⟨bb, hbb⟩ : ∃ b : List (BitVec 8), b = if r then X.bytes else [] := ⟨_, rfl⟩
  have HBb := Lib.hid hbb
  clear hr htt hbb
  have HRb3 : Hid (Calls Tryd.prog 8 #[.agg #[.int .i64 kind, Sv key, .int .i64 time, .int .i64 value]] w3 (Below0 w3 (.bool r))) := by
    have h := erRight_any w3 X (by have := HS2.out.1; omega)
    rw [← HRr.out, HX.out] at h
    exact Lib.hid h
  have hd4 : D4 w3 xb kind key time value := by
    have h := H3.out.1.d4
    rw [HX.out] at h
    exact h
  obtain ⟨d0, d1, d2, d3⟩ := hd4
  dsimp only
  go_wp2_with (fail)
  refine HRb3.out.mono ?_
  rintro e w4 ⟨rfl, hB⟩
  have H4 : Hid (RowI w4 xb X ∧ w.heap.size ≤ xb ∧ Below w.heap.size w w4) := by
    obtain ⟨k1, k2, k3⟩ := H3.out
    exact Lib.hid ⟨k1.below hB, k2, k3.trans (hB.mono k3.size)⟩
  clear hB d0 d1 d2 d3 HRb3
  dsimp only
  go_upto_if 25 with (fail)
  go_cut [5, 6] from 26 to 29 (fun s5 s6 wx => s5 = Sv tt ∧ s6 = Sv bb ∧ Below w4.heap.size w4 wx)
  case first =>
    cases r with
    | false =>
      have HE : Hid (tt = [] ∧ bb = []) := by
        rw [HTt.out, HBb.out, ItemL.told, ← HRr.out]
        exact Lib.hid ⟨rfl, rfl⟩
      go_wp2_with (fail)
      go_meet
      exact ⟨by rw [HE.out.1]; rfl, by rw [HE.out.2]; rfl, Below.refl _ _⟩
    | true =>
      have HD7 : Hid (∀ w', Below w4.heap.size w4 w' → D4 w' xb kind key time value) := by
        refine Lib.hid (fun w' h => ?_)
        have h := (H4.out.1.below h).d4
        rw [HX.out] at h
        exact h
      have HXr : Hid (X.rightB = true) := Lib.hid HRr.out.symm
      have HT7 : Hid (∀ w', Below w4.heap.size w4 w' → Calls Tryd.prog 9 #[.agg #[.int .i64 kind, Sv key, .int .i64 time, .int .i64 value]] w' (Below0 w' (Sv tt))) := by
        refine Lib.hid (fun w' h => ?_)
        have e : tt = X.text := by rw [HTt.out, ItemL.told, if_pos HXr.out]
        have hr := HXr.out
        have hc := right_cases (kind := X.kind) (key := X.key) (time := X.time) (value := X.value) hr
        have h := erText_any w' X (by have := HS2.out.1; omega) ⟨by have := hc.1; omega, by have := hc.1; omega⟩ (by rcases hc.2 with h | h <;> omega) (HLb.out w' (H4.out.2.2.trans (h.mono H4.out.2.2.size))).1
        rw [e]
        have hx := HX.out
        rw [hx] at h ⊢
        exact h
      have HB7 : Hid (∀ w', Below w4.heap.size w4 w' → Calls Tryd.prog 10 #[.agg #[.int .i64 kind, Sv key, .int .i64 time, .int .i64 value]] w' (Below0 w' (Sv bb))) := by
        refine Lib.hid (fun w' _ => ?_)
        have e : bb = X.bytes := by rw [HBb.out, if_pos rfl]
        have hr := HXr.out
        have hc := right_cases (kind := X.kind) (key := X.key) (time := X.time) (value := X.value) hr
        have h := erBytes_any w' X (by have := HS2.out.1; omega) ⟨by have := hc.1; omega, by have := hc.1; omega⟩ (by rcases hc.2 with h | h <;> omega)
        rw [e]
        have hx := HX.out
        rw [hx] at h ⊢
        exact h
      go_upto_region 7 with (fail)
      have HG7 : Hid (Below w4.heap.size w4 w4.drew) := (Below.refl _ w4).drew
      refine wp_region_seq_frame (by kernel_rfl) [none, none, none, none, none, none] [] (vOfT [stE (.agg #[.int .i64 kind, Sv key, .int .i64 time, .int .i64 value]), stE (Sv tt), stE (.agg #[.int .i64 kind, Sv key, .int .i64 time, .int .i64 value]), stE (Sv bb), stE (Sv tt), stE (Sv bb)]) (fun _ w' => Below w4.heap.size w4 w') (fun w w' => Below w.heap.size w w') (vOfT_st _) (by kernel_rfl) (by kernel_rfl) (by kernel_rfl) HG7.out ⟨trivial, trivial, trivial, trivial, trivial, trivial, trivial⟩ ?_ ?_
      · refine ⟨?_, ?_, ?_, ?_, ?_, ?_, trivial⟩
        · intro k a w' hG hout hpre K hK
          have q2 := ev_of ((hout 2 rfl).trans (show _ = .pointer (some ⟨xb, 0, none⟩) from rfl))
          obtain ⟨d0, d1, d2, d3⟩ := HD7.out w' hG
          clear hout hpre
          go_step
          exact hK _ _ rfl hG (Below.refl _ _)
        · intro k a w' hG hout hpre K hK
          obtain ⟨p0, _⟩ := hpre
          have q26 := ev_of (show a.eval (.tmp 26) = .agg #[.int .i64 kind, Sv key, .int .i64 time, .int .i64 value] from p0)
          have HS := Lib.hid (HT7.out w' hG)
          clear hout p0
          go_step
          refine HS.out.mono ?_
          rintro e w3 ⟨rfl, hB⟩
          exact hK _ _ rfl (hG.trans (hB.mono hG.size)) hB
        · intro k a w' hG hout hpre K hK
          have q2 := ev_of ((hout 2 rfl).trans (show _ = .pointer (some ⟨xb, 0, none⟩) from rfl))
          obtain ⟨d0, d1, d2, d3⟩ := HD7.out w' hG
          clear hout hpre
          go_step
          exact hK _ _ rfl hG (Below.refl _ _)
        · intro k a w' hG hout hpre K hK
          obtain ⟨p0, _⟩ := hpre
          have q28 := ev_of (show a.eval (.tmp 28) = .agg #[.int .i64 kind, Sv key, .int .i64 time, .int .i64 value] from p0)
          have HS := Lib.hid (HB7.out w' hG)
          clear hout p0
          go_step
          refine HS.out.mono ?_
          rintro e w3 ⟨rfl, hB⟩
          exact hK _ _ rfl (hG.trans (hB.mono hG.size)) hB
        · intro k a w' hG hout hpre K hK
          obtain ⟨p0, _⟩ := hpre
          have q27 := ev_of (show a.eval (.tmp 27) = Sv tt from p0)
          clear hout p0
          go_step
          exact hK _ _ rfl hG (Below.refl _ _)
        · intro k a w' hG hout hpre K hK
          obtain ⟨p0, _⟩ := hpre
          have q29 := ev_of (show a.eval (.tmp 29) = Sv bb from p0)
          clear hout p0
          go_step
          exact hK _ _ rfl hG (Below.refl _ _)
      · intro vs w3 hG hlen hV
        match vs, hlen, hV with
        | [v0, v1, v2, v3, v4, v5], _, hV =>
          obtain rfl : v4 = Sv tt := hV 4 5 v4 rfl rfl
          obtain rfl : v5 = Sv bb := hV 5 6 v5 rfl rfl
          clear hV
          simp only [putsL, List.tail_cons, List.headD_cons]
          simp only [Act.put, List.setIfInBounds_toArray, List.set_cons_succ, List.set_cons_zero]
          have HZ := Lib.hid hG
          clear hG
          go_wp2_with (fail)
          go_meet
          exact ⟨rfl, rfl, HZ.out⟩
  case rest =>
    obtain ⟨rfl, rfl, hB5⟩ := hcut
    have H5 : Hid (RowI wc xb X ∧ w.heap.size ≤ xb ∧ Below w.heap.size w wc) := by
      obtain ⟨k1, k2, k3⟩ := H4.out
      exact Lib.hid ⟨k1.below hB5, k2, k3.trans (hB5.mono k3.size)⟩
    clear hB5
    go_upto_region 9 with (fail)
    obtain ⟨w6, hw6⟩ : ∃ W, W = wc.alloc (.cells #[.slice none 0 0] 31) := ⟨_, rfl⟩
    obtain ⟨pb, hpb⟩ : ∃ b, b = wc.heap.size := ⟨_, rfl⟩
    have H6 : Hid (RowI w6 xb X ∧ PenAt (fun k => k < pb) w6 pb [] ∧ pb < w6.heap.size ∧ w.heap.size ≤ pb ∧ xb ≠ pb ∧ Below w.heap.size w w6) := by
      have hB : Below wc.heap.size wc w6 := by rw [hw6]; exact (Below.refl _ wc).alloc (Nat.le_refl _) _
      obtain ⟨k1, k2, k3⟩ := H5.out
      refine Lib.hid ⟨k1.below hB, by rw [hw6, hpb]; exact PenAt.new _ wc, by rw [hw6, hpb]; simp, by rw [hpb]; exact k3.size, ?_, k3.trans (hB.mono k3.size)⟩
      have := (Array.getElem?_eq_some_iff.1 k1).1
      omega
    rw [← hw6, ← hpb]
    clear hw6 hpb
    have HPut : Hid (Calls Tryd.prog 11 #[.pointer (some ⟨pb, 0, none⟩), .agg #[.int .i64 kind, Sv key, .int .i64 time, .int .i64 value]] w6 (fun e w' => e = .returned (.bool r) ∧ PenAt (fun k => k < pb) w' pb bb ∧ RowI w' xb X ∧ Below w.heap.size w w')) := by
      obtain ⟨k1, k2, k3, k4, k5, k6⟩ := H6.out
      have hxe : Value.agg #[.int .i64 kind, Sv key, .int .i64 time, .int .i64 value] = Value.agg X.cells := by rw [HX.out]; rfl
      rw [hxe]
      cases r with
      | true =>
        have h := eput_yes w6 (fun k => k < pb) pb [] X HRr.out.symm k2 (fun k hk => Nat.lt_trans hk k3) (by decide)
        rw [List.nil_append] at h
        refine Lib.hid (h.mono ?_)
        rintro e w' ⟨rfl, hp, hk⟩
        exact ⟨rfl, by rw [HBb.out, if_pos rfl]; exact hp, hk.row k1 (by decide) k5, k6.trans (hk.below (B := w.heap.size) (fun k hk => by omega) k4 (by omega))⟩
      | false =>
        refine Lib.hid ((eput_no w6 pb X (by have := HS2.out.1; omega) HRr.out.symm).mono ?_)
        rintro e w' ⟨rfl, hB⟩
        exact ⟨rfl, by rw [HBb.out]; exact k2.below hB, k1.below hB, k6.trans (hB.mono k6.size)⟩
    have hd4 : D4 w6 xb kind key time value := by
      have h := H6.out.1.d4
      rw [HX.out] at h
      exact h
    obtain ⟨d0, d1, d2, d3⟩ := hd4
    go_wp2_with (fail)
    refine HPut.out.mono ?_
    rintro e w7 ⟨rfl, hp, hx7, hB7⟩
    have H7 := Lib.hid (And.intro hp (And.intro hx7 hB7))
    clear hp hx7 hB7 d0 d1 d2 d3 HPut
    obtain ⟨Pr, hPr⟩ : ∃ p, p = parseL s := ⟨_, rfl⟩
    have HP1 : Hid (Calls Tryd.prog 12 #[Sv s] w7 (Below0 w7 (.tuple #[.agg Pr.1.cells, .bool Pr.2]))) := by
      rw [hPr]
      exact Lib.hid (eparse_any w7 s (by have := HS2.out.2; omega) (HLb.out w7 H7.out.2.2))
    have HP2 : Hid (∀ w', Calls Tryd.prog 13 #[Sv s] w' (Below0 w' (.tuple #[.agg Pr.1.cells, .bool Pr.2]))) := by
      rw [hPr, ← refParse_eq]
      exact Lib.hid (fun w' => erParse_any w' s (by have := HS2.out.2; omega))
    clear hPr
    obtain ⟨Y, is⟩ := Pr
    simp only at HP1 HP2
    dsimp only
    go_wp2_with (fail)
    refine HP1.out.mono ?_
    rintro e v1 ⟨rfl, hB⟩
    have B1 : Hid (PenAt (fun k => k < pb) v1 pb bb ∧ RowI v1 xb X ∧ Below w.heap.size w v1) := by
      obtain ⟨k1, k2, k3⟩ := H7.out
      exact Lib.hid ⟨k1.below hB, k2.below hB, k3.trans (hB.mono k3.size)⟩
    clear hB HP1
    dsimp only
    first
      | (iterate 8 go_step
         refine wpList_store_row rfl _ _ _ rfl v1.heap.size Y.cells rfl rfl 23 zeroI.cells (heap_alloc_new v1 _) item_size rfl (item_one1 _) ?_)
      | (iterate 9 go_step
         refine wpList_store_row rfl _ _ _ rfl v1.heap.size Y.cells rfl rfl 23 zeroI.cells (heap_alloc_new v1 _) item_size rfl (item_one1 _) ?_)
      | (iterate 10 go_step
         refine wpList_store_row rfl _ _ _ rfl v1.heap.size Y.cells rfl rfl 23 zeroI.cells (heap_alloc_new v1 _) item_size rfl (item_one1 _) ?_)
      | (iterate 11 go_step
         refine wpList_store_row rfl _ _ _ rfl v1.heap.size Y.cells rfl rfl 23 zeroI.cells (heap_alloc_new v1 _) item_size rfl (item_one1 _) ?_)
      | (iterate 12 go_step
         refine wpList_store_row rfl _ _ _ rfl v1.heap.size Y.cells rfl rfl 23 zeroI.cells (heap_alloc_new v1 _) item_size rfl (item_one1 _) ?_)
      | (iterate 13 go_step
         refine wpList_store_row rfl _ _ _ rfl v1.heap.size Y.cells rfl rfl 23 zeroI.cells (heap_alloc_new v1 _) item_size rfl (item_one1 _) ?_)
      | (iterate 14 go_step
         refine wpList_store_row rfl _ _ _ rfl v1.heap.size Y.cells rfl rfl 23 zeroI.cells (heap_alloc_new v1 _) item_size rfl (item_one1 _) ?_)
      | (iterate 15 go_step
         refine wpList_store_row rfl _ _ _ rfl v1.heap.size Y.cells rfl rfl 23 zeroI.cells (heap_alloc_new v1 _) item_size rfl (item_one1 _) ?_)
      | (iterate 16 go_step
         refine wpList_store_row rfl _ _ _ rfl v1.heap.size Y.cells rfl rfl 23 zeroI.cells (heap_alloc_new v1 _) item_size rfl (item_one1 _) ?_)
      | (iterate 17 go_step
         refine wpList_store_row rfl _ _ _ rfl v1.heap.size Y.cells rfl rfl 23 zeroI.cells (heap_alloc_new v1 _) item_size rfl (item_one1 _) ?_)
      | (iterate 18 go_step
         refine wpList_store_row rfl _ _ _ rfl v1.heap.size Y.cells rfl rfl 23 zeroI.cells (heap_alloc_new v1 _) item_size rfl (item_one1 _) ?_)
      | (iterate 19 go_step
         refine wpList_store_row rfl _ _ _ rfl v1.heap.size Y.cells rfl rfl 23 zeroI.cells (heap_alloc_new v1 _) item_size rfl (item_one1 _) ?_)
      | (iterate 20 go_step
         refine wpList_store_row rfl _ _ _ rfl v1.heap.size Y.cells rfl rfl 23 zeroI.cells (heap_alloc_new v1 _) item_size rfl (item_one1 _) ?_)
      | (iterate 21 go_step
         refine wpList_store_row rfl _ _ _ rfl v1.heap.size Y.cells rfl rfl 23 zeroI.cells (heap_alloc_new v1 _) item_size rfl (item_one1 _) ?_)
      | (iterate 22 go_step
         refine wpList_store_row rfl _ _ _ rfl v1.heap.size Y.cells rfl rfl 23 zeroI.cells (heap_alloc_new v1 _) item_size rfl (item_one1 _) ?_)
    obtain ⟨v2, hv2⟩ : ∃ W, W = (v1.alloc (Obj.cells #[.int .i64 0, .string ⟨#[]⟩, .int .i64 0, .int .i64 0] 23)).setRow v1.heap.size Y.cells := ⟨_, rfl⟩
    obtain ⟨yb, hyb⟩ : ∃ b, b = v1.heap.size := ⟨_, rfl⟩
    have H8 : Hid (PenAt (fun k => k < pb) v2 pb bb ∧ RowI v2 xb X ∧ RowI v2 yb Y ∧ Below w.heap.size w v2) := by
      obtain ⟨q1, q2⟩ := stored_row v1 Y
      obtain ⟨k1, k2, k3⟩ := B1.out
      rw [hv2, hyb]
      exact Lib.hid ⟨k1.below q2, k2.below q2, q1, k3.trans (q2.mono k3.size)⟩
    rw [← hv2, ← hyb]
    clear hv2 hyb
    go_wp2_with (fail)
    refine (HP2.out v2).mono ?_
    rintro e v3 ⟨rfl, hB⟩
    have B3 : Hid (PenAt (fun k => k < pb) v3 pb bb ∧ RowI v3 xb X ∧ RowI v3 yb Y ∧ Below w.heap.size w v3) := by
      obtain ⟨k1, k2, k3, k4⟩ := H8.out
      exact Lib.hid ⟨k1.below hB, k2.below hB, k3.below hB, k4.trans (hB.mono k4.size)⟩
    clear hB HP2
    dsimp only
    first
      | (iterate 8 go_step
         refine wpList_store_row rfl _ _ _ rfl v3.heap.size Y.cells rfl rfl 23 zeroI.cells (heap_alloc_new v3 _) item_size rfl (item_one1 _) ?_)
      | (iterate 9 go_step
         refine wpList_store_row rfl _ _ _ rfl v3.heap.size Y.cells rfl rfl 23 zeroI.cells (heap_alloc_new v3 _) item_size rfl (item_one1 _) ?_)
      | (iterate 10 go_step
         refine wpList_store_row rfl _ _ _ rfl v3.heap.size Y.cells rfl rfl 23 zeroI.cells (heap_alloc_new v3 _) item_size rfl (item_one1 _) ?_)
      | (iterate 11 go_step
         refine wpList_store_row rfl _ _ _ rfl v3.heap.size Y.cells rfl rfl 23 zeroI.cells (heap_alloc_new v3 _) item_size rfl (item_one1 _) ?_)
      | (iterate 12 go_step
         refine wpList_store_row rfl _ _ _ rfl v3.heap.size Y.cells rfl rfl 23 zeroI.cells (heap_alloc_new v3 _) item_size rfl (item_one1 _) ?_)
      | (iterate 13 go_step
         refine wpList_store_row rfl _ _ _ rfl v3.heap.size Y.cells rfl rfl 23 zeroI.cells (heap_alloc_new v3 _) item_size rfl (item_one1 _) ?_)
      | (iterate 14 go_step
         refine wpList_store_row rfl _ _ _ rfl v3.heap.size Y.cells rfl rfl 23 zeroI.cells (heap_alloc_new v3 _) item_size rfl (item_one1 _) ?_)
      | (iterate 15 go_step
         refine wpList_store_row rfl _ _ _ rfl v3.heap.size Y.cells rfl rfl 23 zeroI.cells (heap_alloc_new v3 _) item_size rfl (item_one1 _) ?_)
      | (iterate 16 go_step
         refine wpList_store_row rfl _ _ _ rfl v3.heap.size Y.cells rfl rfl 23 zeroI.cells (heap_alloc_new v3 _) item_size rfl (item_one1 _) ?_)
      | (iterate 17 go_step
         refine wpList_store_row rfl _ _ _ rfl v3.heap.size Y.cells rfl rfl 23 zeroI.cells (heap_alloc_new v3 _) item_size rfl (item_one1 _) ?_)
      | (iterate 18 go_step
         refine wpList_store_row rfl _ _ _ rfl v3.heap.size Y.cells rfl rfl 23 zeroI.cells (heap_alloc_new v3 _) item_size rfl (item_one1 _) ?_)
      | (iterate 19 go_step
         refine wpList_store_row rfl _ _ _ rfl v3.heap.size Y.cells rfl rfl 23 zeroI.cells (heap_alloc_new v3 _) item_size rfl (item_one1 _) ?_)
      | (iterate 20 go_step
         refine wpList_store_row rfl _ _ _ rfl v3.heap.size Y.cells rfl rfl 23 zeroI.cells (heap_alloc_new v3 _) item_size rfl (item_one1 _) ?_)
      | (iterate 21 go_step
         refine wpList_store_row rfl _ _ _ rfl v3.heap.size Y.cells rfl rfl 23 zeroI.cells (heap_alloc_new v3 _) item_size rfl (item_one1 _) ?_)
      | (iterate 22 go_step
         refine wpList_store_row rfl _ _ _ rfl v3.heap.size Y.cells rfl rfl 23 zeroI.cells (heap_alloc_new v3 _) item_size rfl (item_one1 _) ?_)
    obtain ⟨w8, hw8⟩ : ∃ W, W = (v3.alloc (Obj.cells #[.int .i64 0, .string ⟨#[]⟩, .int .i64 0, .int .i64 0] 23)).setRow v3.heap.size Y.cells := ⟨_, rfl⟩
    obtain ⟨zb, hzb⟩ : ∃ b, b = v3.heap.size := ⟨_, rfl⟩
    have H9 : Hid (PenAt (fun k => k < pb) w8 pb bb ∧ RowI w8 xb X ∧ RowI w8 yb Y ∧ RowI w8 zb Y ∧ Below w.heap.size w w8) := by
      obtain ⟨q1, q2⟩ := stored_row v3 Y
      obtain ⟨k1, k2, k3, k4⟩ := B3.out
      rw [hw8, hzb]
      exact Lib.hid ⟨k1.below q2, k2.below q2, k3.below q2, q1, k4.trans (q2.mono k4.size)⟩
    rw [← hw8, ← hzb]
    clear hw8 hzb
    go_upto_region 12 with (fail)
    obtain ⟨VA, hVA⟩ : ∃ V, V = Value.agg Y.cells := ⟨_, rfl⟩
    have HV : Hid ((∀ w, (binOp .eql 23 VA VA).run Tryd.prog w = .ok (.bool true) w) ∧ (∀ w op o1 o2, (eqGuard op 23 o1 o2 VA VA).run Tryd.prog w = .ok () w) ∧ VA = Value.agg Y.cells) := by
      refine Lib.hid ⟨?_, ?_, hVA⟩
      · intro w; rw [hVA, run_eql_item, (sameI_iff Y Y).2 rfl]
      · intro w op o1 o2; rw [hVA]; exact run_guard_item w op o1 o2 Y Y
    have HW8 : Hid (Below w.heap.size w w8) := Lib.hid H9.out.2.2.2.2
    have HG8 : Hid (Below w8.heap.size w8 w8.drew) := (Below.refl _ w8).drew
    have HD : Hid (∀ w', Below w8.heap.size w8 w' → D4 w' xb kind key time value ∧ D4 w' yb Y.kind Y.key Y.time Y.value ∧ D4 w' zb Y.kind Y.key Y.time Y.value) := by
      refine Lib.hid (fun w' h => ?_)
      obtain ⟨k1, k2, k3, k4, k5⟩ := H9.out
      have h2 := (k2.below h).d4
      rw [HX.out] at h2
      exact ⟨h2, (k3.below h).d4, (k4.below h).d4⟩
    have hxe : Value.agg #[.int .i64 kind, Sv key, .int .i64 time, .int .i64 value] = Value.agg X.cells := by rw [HX.out]; rfl
    have hke : key = X.key := by rw [HX.out]
    obtain ⟨nm, hnm⟩ : ∃ n, n = nameB key := ⟨_, rfl⟩
    have HRa : Hid (∀ w', Below w8.heap.size w8 w' → Calls Tryd.prog 14 #[.agg #[.int .i64 kind, Sv key, .int .i64 time, .int .i64 value]] w' (Below0 w' (.bool r))) := by
      rw [hxe, HRr.out]
      exact Lib.hid (fun w' _ => eright_any w' X (by have := HS2.out.1; omega))
    have HRb : Hid (∀ w', Below w8.heap.size w8 w' → Calls Tryd.prog 8 #[.agg #[.int .i64 kind, Sv key, .int .i64 time, .int .i64 value]] w' (Below0 w' (.bool r))) := by
      rw [hxe, HRr.out]
      exact Lib.hid (fun w' _ => erRight_any w' X (by have := HS2.out.1; omega))
    have HTx : Hid (∀ w', Below w8.heap.size w8 w' → Calls Tryd.prog 16 #[.agg #[.int .i64 kind, Sv key, .int .i64 time, .int .i64 value]] w' (Below0 w' (Sv tt))) := by
      rw [hxe, HTt.out]
      exact Lib.hid (fun w' h => etext_any w' X (by have := HS2.out.1; omega) (HLb.out w' (HW8.out.trans (h.mono HW8.out.size))).1)
    have HPn : Hid (∀ w', Below w8.heap.size w8 w' → Calls Tryd.prog 11 #[.pointer none, .agg #[.int .i64 kind, Sv key, .int .i64 time, .int .i64 value]] w' (Below0 w' (.bool false))) := by
      rw [hxe]
      exact Lib.hid (fun w' _ => eput_nil w' X)
    have HNa : Hid (∀ w', Calls Tryd.prog 17 #[Sv key] w' fun e w'' => e = .returned (.bool nm) ∧ w'' = w') := by
      rw [hnm]
      exact Lib.hid (fun w' => ename_any w' key (by rw [hke]; have := HS2.out.1; omega))
    have HNb : Hid (∀ w', Calls Tryd.prog 18 #[Sv key] w' fun e w'' => e = .returned (.bool nm) ∧ w'' = w') := by
      rw [hnm]
      exact Lib.hid (fun w' => erName_any w' key (by rw [hke]; have := HS2.out.1; omega))
    have HPb : Hid (∀ w', Below w8.heap.size w8 w' → Calls Tryd.prog 15 #[.pointer (some ⟨pb, 0, none⟩)] w' (BytesEnd w' bb)) := by
      refine Lib.hid (fun w' h => pbytes_any w' (fun k => k < pb) pb bb (H9.out.1.below h) ?_)
      rw [HBb.out]
      split
      · have := ItemL.bytes_length (x := X) (by have := HS2.out.1; omega)
        omega
      · exact Nat.zero_le _
    have HTT : Hid (∀ w, (binOp .eql 9 (Sv tt) (Sv tt)).run Tryd.prog w = .ok (.bool true) w) := Lib.hid (fun w => by
      have h := run_eql_Sv w tt tt
      rwa [decide_eq_true rfl] at h)
    have HBB : Hid (∀ w, (binOp .eql 9 (Sv bb) (Sv bb)).run Tryd.prog w = .ok (.bool true) w) := Lib.hid (fun w => by
      have h := run_eql_Sv w bb bb
      rwa [decide_eq_true rfl] at h)
    clear hVA hxe hke hnm hlen hq2' hm2' HLb HF HG
    refine wp_region_seq_frame (by kernel_rfl) [none, none, none, none, none, none, none, none, none, none, none, none, none, none, none, none, none, none, none, none, none, none, none, none, none, none, none, none, none, none, none, none, none, none, none, none, none, none, none, none, none, none, none, none, none, none, none, none, none] [] (vOfT ((stE (.agg #[.int .i64 kind, Sv key, .int .i64 time, .int .i64 value])) :: (stE (.bool r)) :: (stE (.agg #[.int .i64 kind, Sv key, .int .i64 time, .int .i64 value])) :: (stE (.bool r)) :: (stE (.bool true)) :: (stE (.bool true)) :: (stE (.bool r)) :: (stE (.agg #[.int .i64 kind, Sv key, .int .i64 time, .int .i64 value])) :: (stE (.bool r)) :: (stE (.bool true)) :: (stE (.bool true)) :: (stE (.bool true)) :: (stE (.pointer (some ⟨pb, 0, none⟩))) :: (stSlT bb) :: (stE (Sv bb)) :: (stE (Sv bb)) :: (stE (.bool true)) :: (stE (.bool true)) :: (stE (.bool true)) :: (stE (.agg #[.int .i64 kind, Sv key, .int .i64 time, .int .i64 value])) :: (stE (Sv tt)) :: (stE (Sv tt)) :: (stE (.bool true)) :: (stE (.bool true)) :: (stE (.bool true)) :: (stE VA) :: (stE VA) :: (stE (.bool true)) :: (stE (.bool true)) :: (stE (.bool true)) :: (stE (.bool is)) :: (stE (.bool is)) :: (stE (.bool true)) :: (stE (.bool true)) :: (stE (.bool true)) :: (stE (.pointer (some ⟨xb, 1, none⟩))) :: (stE (Sv key)) :: (stE (.bool nm)) :: (stE (.pointer (some ⟨xb, 1, none⟩))) :: (stE (Sv key)) :: (stE (.bool nm)) :: (stE (.bool true)) :: (stE (.bool true)) :: (stE (.bool true)) :: (stE (.agg #[.int .i64 kind, Sv key, .int .i64 time, .int .i64 value])) :: (stE (.bool false)) :: (stE (.bool true)) :: (stE (.bool true)) :: (stE (.bool true)) :: ([] : List _))) (fun _ w' => Below w8.heap.size w8 w') (fun w w' => Below w.heap.size w w') (vOfT_st _) (by kernel_rfl) (by kernel_rfl) (by kernel_rfl) HG8.out ⟨trivial, trivial, trivial, trivial, trivial, trivial, fun _ _ h => h, fun _ _ h => h, fun _ _ h => h, fun _ _ h => h, trivial, trivial, fun _ _ h => h, fun _ _ h => h, fun _ _ h => h, fun _ _ h => h, fun _ _ h => h, trivial, trivial, fun _ _ h => h, fun _ _ h => h, fun _ _ h => h, fun _ _ h => h, trivial, trivial, fun _ _ h => h, fun _ _ h => h, fun _ _ h => h, trivial, trivial, fun _ _ h => h, fun _ _ h => h, fun _ _ h => h, trivial, trivial, fun _ _ h => h, fun _ _ h => h, fun _ _ h => h, fun _ _ h => h, fun _ _ h => h, fun _ _ h => h, fun _ _ h => h, trivial, trivial, fun _ _ h => h, fun _ _ h => h, fun _ _ h => h, trivial, trivial, trivial⟩ ?_ ?_
    · refine ⟨?_, ?_, ?_, ?_, ?_, ?_, ?_, ?_, ?_, ?_, ?_, ?_, ?_, ?_, ?_, ?_, ?_, ?_, ?_, ?_, ?_, ?_, ?_, ?_, ?_, ?_, ?_, ?_, ?_, ?_, ?_, ?_, ?_, ?_, ?_, ?_, ?_, ?_, ?_, ?_, ?_, ?_, ?_, ?_, ?_, ?_, ?_, ?_, ?_, trivial⟩
      · intro k a w' hG hout hpre K hK
        have q2 := ev_of ((hout 2 rfl).trans (show _ = .pointer (some ⟨xb, 0, none⟩) from rfl))
        obtain ⟨d0, d1, d2, d3⟩ := (HD.out w' hG).1
        clear hout hpre
        go_step
        exact hK _ _ rfl hG (Below.refl _ _)
      · intro k a w' hG hout hpre K hK
        obtain ⟨p0, _⟩ := hpre
        have q45 := ev_of (show a.eval (.tmp 45) = .agg #[.int .i64 kind, Sv key, .int .i64 time, .int .i64 value] from p0)
        have HS := Lib.hid (HRa.out w' hG)
        clear hout p0
        go_step
        refine HS.out.mono ?_
        rintro e w3 ⟨rfl, hB⟩
        exact hK _ _ rfl (hG.trans (hB.mono hG.size)) hB
      · intro k a w' hG hout hpre K hK
        have q2 := ev_of ((hout 2 rfl).trans (show _ = .pointer (some ⟨xb, 0, none⟩) from rfl))
        obtain ⟨d0, d1, d2, d3⟩ := (HD.out w' hG).1
        clear hout hpre
        go_step
        exact hK _ _ rfl hG (Below.refl _ _)
      · intro k a w' hG hout hpre K hK
        obtain ⟨p0, _⟩ := hpre
        have q47 := ev_of (show a.eval (.tmp 47) = .agg #[.int .i64 kind, Sv key, .int .i64 time, .int .i64 value] from p0)
        have HS := Lib.hid (HRb.out w' hG)
        clear hout p0
        go_step
        refine HS.out.mono ?_
        rintro e w3 ⟨rfl, hB⟩
        exact hK _ _ rfl (hG.trans (hB.mono hG.size)) hB
      · intro k a w' hG hout hpre K hK
        obtain ⟨p0, p1, _⟩ := hpre
        have q46 := ev_of (show a.eval (.tmp 46) = .bool r from p0)
        have q48 := ev_of (show a.eval (.tmp 48) = .bool r from p1)
        have he : (r == r) = true := by simp
        clear hout p0 p1
        go_step
        exact hK _ _ rfl hG (Below.refl _ _)
      · intro k a w' hG hout hpre K hK
        obtain ⟨p0, _⟩ := hpre
        have q49 := ev_of (show a.eval (.tmp 49) = .bool true from p0)
        clear hout p0
        go_step
        exact hK _ _ rfl hG (Below.refl _ _)
      · intro k a w' hG hout hpre K hK
        have q8 := ev_of ((hout 8 rfl).trans (show _ = .bool r from rfl))
        clear hout hpre
        go_step
        exact hK _ _ rfl hG (Below.refl _ _)
      · intro k a w' hG hout hpre K hK
        have q2 := ev_of ((hout 2 rfl).trans (show _ = .pointer (some ⟨xb, 0, none⟩) from rfl))
        obtain ⟨d0, d1, d2, d3⟩ := (HD.out w' hG).1
        clear hout hpre
        go_step
        exact hK _ _ rfl hG (Below.refl _ _)
      · intro k a w' hG hout hpre K hK
        obtain ⟨p0, _⟩ := hpre
        have q52 := ev_of (show a.eval (.tmp 52) = .agg #[.int .i64 kind, Sv key, .int .i64 time, .int .i64 value] from p0)
        have HS := Lib.hid (HRb.out w' hG)
        clear hout p0
        go_step
        refine HS.out.mono ?_
        rintro e w3 ⟨rfl, hB⟩
        exact hK _ _ rfl (hG.trans (hB.mono hG.size)) hB
      · intro k a w' hG hout hpre K hK
        obtain ⟨p0, p1, _⟩ := hpre
        have q51 := ev_of (show a.eval (.tmp 51) = .bool r from p0)
        have q53 := ev_of (show a.eval (.tmp 53) = .bool r from p1)
        have he : (r == r) = true := by simp
        clear hout p0 p1
        go_step
        exact hK _ _ rfl hG (Below.refl _ _)
      · intro k a w' hG hout hpre K hK
        obtain ⟨p0, p1, _⟩ := hpre
        have q50 := ev_of (show a.eval (.tmp 50) = .bool true from p0)
        have q54 := ev_of (show a.eval (.tmp 54) = .bool true from p1)
        clear hout p0 p1
        go_step
        exact hK _ _ rfl hG (Below.refl _ _)
      · intro k a w' hG hout hpre K hK
        obtain ⟨p0, _⟩ := hpre
        have q55 := ev_of (show a.eval (.tmp 55) = .bool true from p0)
        clear hout p0
        go_step
        exact hK _ _ rfl hG (Below.refl _ _)
      · intro k a w' hG hout hpre K hK
        have q7 := ev_of ((hout 7 rfl).trans (show _ = .pointer (some ⟨pb, 0, none⟩) from rfl))
        clear hout hpre
        go_step
        exact hK _ _ rfl hG (Below.refl _ _)
      · intro k a w' hG hout hpre K hK
        obtain ⟨p0, _⟩ := hpre
        have q57 := ev_of (show a.eval (.tmp 57) = .pointer (some ⟨pb, 0, none⟩) from p0)
        have HS := Lib.hid (HPb.out w' hG)
        clear hout p0
        go_step
        refine HS.out.mono ?_
        rintro e w3 ⟨sa, sc, rfl, k1, k2, k3, k4, k5⟩
        exact hK _ _ ⟨sa, sc, rfl, k4.srcP⟩ (hG.trans (k5.mono hG.size)) k5
      · intro k a w' hG hout hpre K hK
        obtain ⟨p0, _⟩ := hpre
        obtain ⟨sa, sc, hv, hs⟩ := (show ∃ sa sc, a.eval (.tmp 58) = .slice sa bb.length sc ∧ SrcP w' sa bb.length bb from p0)
        have q58 := ev_of hv
        have hcs : (convert 29 9 (.slice sa bb.length sc)).run Tryd.prog w' = .ok (Sv bb) w' := run_conv_str w' sa sc bb hs
        clear hout p0 hv hs
        go_step
        exact hK _ _ rfl hG (Below.refl _ _)
      · intro k a w' hG hout hpre K hK
        have q6 := ev_of ((hout 6 rfl).trans (show _ = Sv bb from rfl))
        clear hout hpre
        go_step
        exact hK _ _ rfl hG (Below.refl _ _)
      · intro k a w' hG hout hpre K hK
        obtain ⟨p0, p1, _⟩ := hpre
        have q59 := ev_of (show a.eval (.tmp 59) = Sv bb from p0)
        have q60 := ev_of (show a.eval (.tmp 60) = Sv bb from p1)
        have he := HBB.out
        clear hout p0 p1
        go_step
        exact hK _ _ rfl hG (Below.refl _ _)
      · intro k a w' hG hout hpre K hK
        obtain ⟨p0, p1, _⟩ := hpre
        have q56 := ev_of (show a.eval (.tmp 56) = .bool true from p0)
        have q61 := ev_of (show a.eval (.tmp 61) = .bool true from p1)
        clear hout p0 p1
        go_step
        exact hK _ _ rfl hG (Below.refl _ _)
      · intro k a w' hG hout hpre K hK
        obtain ⟨p0, _⟩ := hpre
        have q62 := ev_of (show a.eval (.tmp 62) = .bool true from p0)
        clear hout p0
        go_step
        exact hK _ _ rfl hG (Below.refl _ _)
      · intro k a w' hG hout hpre K hK
        have q2 := ev_of ((hout 2 rfl).trans (show _ = .pointer (some ⟨xb, 0, none⟩) from rfl))
        obtain ⟨d0, d1, d2, d3⟩ := (HD.out w' hG).1
        clear hout hpre
        go_step
        exact hK _ _ rfl hG (Below.refl _ _)
      · intro k a w' hG hout hpre K hK
        obtain ⟨p0, _⟩ := hpre
        have q64 := ev_of (show a.eval (.tmp 64) = .agg #[.int .i64 kind, Sv key, .int .i64 time, .int .i64 value] from p0)
        have HS := Lib.hid (HTx.out w' hG)
        clear hout p0
        go_step
        refine HS.out.mono ?_
        rintro e w3 ⟨rfl, hB⟩
        exact hK _ _ rfl (hG.trans (hB.mono hG.size)) hB
      · intro k a w' hG hout hpre K hK
        have q5 := ev_of ((hout 5 rfl).trans (show _ = Sv tt from rfl))
        clear hout hpre
        go_step
        exact hK _ _ rfl hG (Below.refl _ _)
      · intro k a w' hG hout hpre K hK
        obtain ⟨p0, p1, _⟩ := hpre
        have q65 := ev_of (show a.eval (.tmp 65) = Sv tt from p0)
        have q66 := ev_of (show a.eval (.tmp 66) = Sv tt from p1)
        have he := HTT.out
        clear hout p0 p1
        go_step
        exact hK _ _ rfl hG (Below.refl _ _)
      · intro k a w' hG hout hpre K hK
        obtain ⟨p0, p1, _⟩ := hpre
        have q63 := ev_of (show a.eval (.tmp 63) = .bool true from p0)
        have q67 := ev_of (show a.eval (.tmp 67) = .bool true from p1)
        clear hout p0 p1
        go_step
        exact hK _ _ rfl hG (Below.refl _ _)
      · intro k a w' hG hout hpre K hK
        obtain ⟨p0, _⟩ := hpre
        have q68 := ev_of (show a.eval (.tmp 68) = .bool true from p0)
        clear hout p0
        go_step
        exact hK _ _ rfl hG (Below.refl _ _)
      · intro k a w' hG hout hpre K hK
        have q9 := ev_of ((hout 9 rfl).trans (show _ = .pointer (some ⟨yb, 0, none⟩) from rfl))
        obtain ⟨d0, d1, d2, d3⟩ := (HD.out w' hG).2.1
        clear hout hpre
        go_step
        exact hK _ _ HV.out.2.2.symm hG (Below.refl _ _)
      · intro k a w' hG hout hpre K hK
        have q11 := ev_of ((hout 11 rfl).trans (show _ = .pointer (some ⟨zb, 0, none⟩) from rfl))
        obtain ⟨d0, d1, d2, d3⟩ := (HD.out w' hG).2.2
        clear hout hpre
        go_step
        exact hK _ _ HV.out.2.2.symm hG (Below.refl _ _)
      · intro k a w' hG hout hpre K hK
        obtain ⟨p0, p1, _⟩ := hpre
        have q70 := ev_of (show a.eval (.tmp 70) = VA from p0)
        have q71 := ev_of (show a.eval (.tmp 71) = VA from p1)
        have he := HV.out.1
        have hgd := HV.out.2.1
        clear hout p0 p1
        go_step
        exact hK _ _ rfl hG (Below.refl _ _)
      · intro k a w' hG hout hpre K hK
        obtain ⟨p0, p1, _⟩ := hpre
        have q69 := ev_of (show a.eval (.tmp 69) = .bool true from p0)
        have q72 := ev_of (show a.eval (.tmp 72) = .bool true from p1)
        clear hout p0 p1
        go_step
        exact hK _ _ rfl hG (Below.refl _ _)
      · intro k a w' hG hout hpre K hK
        obtain ⟨p0, _⟩ := hpre
        have q73 := ev_of (show a.eval (.tmp 73) = .bool true from p0)
        clear hout p0
        go_step
        exact hK _ _ rfl hG (Below.refl _ _)
      · intro k a w' hG hout hpre K hK
        have q10 := ev_of ((hout 10 rfl).trans (show _ = .bool is from rfl))
        clear hout hpre
        go_step
        exact hK _ _ rfl hG (Below.refl _ _)
      · intro k a w' hG hout hpre K hK
        have q12 := ev_of ((hout 12 rfl).trans (show _ = .bool is from rfl))
        clear hout hpre
        go_step
        exact hK _ _ rfl hG (Below.refl _ _)
      · intro k a w' hG hout hpre K hK
        obtain ⟨p0, p1, _⟩ := hpre
        have q75 := ev_of (show a.eval (.tmp 75) = .bool is from p0)
        have q76 := ev_of (show a.eval (.tmp 76) = .bool is from p1)
        have he : (is == is) = true := by simp
        clear hout p0 p1
        go_step
        exact hK _ _ rfl hG (Below.refl _ _)
      · intro k a w' hG hout hpre K hK
        obtain ⟨p0, p1, _⟩ := hpre
        have q74 := ev_of (show a.eval (.tmp 74) = .bool true from p0)
        have q77 := ev_of (show a.eval (.tmp 77) = .bool true from p1)
        clear hout p0 p1
        go_step
        exact hK _ _ rfl hG (Below.refl _ _)
      · intro k a w' hG hout hpre K hK
        obtain ⟨p0, _⟩ := hpre
        have q78 := ev_of (show a.eval (.tmp 78) = .bool true from p0)
        clear hout p0
        go_step
        exact hK _ _ rfl hG (Below.refl _ _)
      · intro k a w' hG hout hpre K hK
        have q2 := ev_of ((hout 2 rfl).trans (show _ = .pointer (some ⟨xb, 0, none⟩) from rfl))
        clear hout hpre
        go_step
        exact hK _ _ rfl hG (Below.refl _ _)
      · intro k a w' hG hout hpre K hK
        obtain ⟨p0, _⟩ := hpre
        have q80 := ev_of (show a.eval (.tmp 80) = .pointer (some ⟨xb, 1, none⟩) from p0)
        obtain ⟨d0, d1, d2, d3⟩ := (HD.out w' hG).1
        clear hout p0
        go_step
        exact hK _ _ rfl hG (Below.refl _ _)
      · intro k a w' hG hout hpre K hK
        obtain ⟨p0, _⟩ := hpre
        have q81 := ev_of (show a.eval (.tmp 81) = Sv key from p0)
        have HS := Lib.hid (HNa.out w')
        clear hout p0
        go_step
        refine HS.out.mono ?_
        rintro e w3 ⟨rfl, hw3⟩
        subst w3
        exact hK _ _ rfl hG (Below.refl _ _)
      · intro k a w' hG hout hpre K hK
        have q2 := ev_of ((hout 2 rfl).trans (show _ = .pointer (some ⟨xb, 0, none⟩) from rfl))
        clear hout hpre
        go_step
        exact hK _ _ rfl hG (Below.refl _ _)
      · intro k a w' hG hout hpre K hK
        obtain ⟨p0, _⟩ := hpre
        have q83 := ev_of (show a.eval (.tmp 83) = .pointer (some ⟨xb, 1, none⟩) from p0)
        obtain ⟨d0, d1, d2, d3⟩ := (HD.out w' hG).1
        clear hout p0
        go_step
        exact hK _ _ rfl hG (Below.refl _ _)
      · intro k a w' hG hout hpre K hK
        obtain ⟨p0, _⟩ := hpre
        have q84 := ev_of (show a.eval (.tmp 84) = Sv key from p0)
        have HS := Lib.hid (HNb.out w')
        clear hout p0
        go_step
        refine HS.out.mono ?_
        rintro e w3 ⟨rfl, hw3⟩
        subst w3
        exact hK _ _ rfl hG (Below.refl _ _)
      · intro k a w' hG hout hpre K hK
        obtain ⟨p0, p1, _⟩ := hpre
        have q82 := ev_of (show a.eval (.tmp 82) = .bool nm from p0)
        have q85 := ev_of (show a.eval (.tmp 85) = .bool nm from p1)
        have he : (nm == nm) = true := by simp
        clear hout p0 p1
        go_step
        exact hK _ _ rfl hG (Below.refl _ _)
      · intro k a w' hG hout hpre K hK
        obtain ⟨p0, p1, _⟩ := hpre
        have q79 := ev_of (show a.eval (.tmp 79) = .bool true from p0)
        have q86 := ev_of (show a.eval (.tmp 86) = .bool true from p1)
        clear hout p0 p1
        go_step
        exact hK _ _ rfl hG (Below.refl _ _)
      · intro k a w' hG hout hpre K hK
        obtain ⟨p0, _⟩ := hpre
        have q87 := ev_of (show a.eval (.tmp 87) = .bool true from p0)
        clear hout p0
        go_step
        exact hK _ _ rfl hG (Below.refl _ _)
      · intro k a w' hG hout hpre K hK
        have q2 := ev_of ((hout 2 rfl).trans (show _ = .pointer (some ⟨xb, 0, none⟩) from rfl))
        obtain ⟨d0, d1, d2, d3⟩ := (HD.out w' hG).1
        clear hout hpre
        go_step
        exact hK _ _ rfl hG (Below.refl _ _)
      · intro k a w' hG hout hpre K hK
        obtain ⟨p0, _⟩ := hpre
        have q89 := ev_of (show a.eval (.tmp 89) = .agg #[.int .i64 kind, Sv key, .int .i64 time, .int .i64 value] from p0)
        have HS := Lib.hid (HPn.out w' hG)
        clear hout p0
        go_step
        refine HS.out.mono ?_
        rintro e w3 ⟨rfl, hB⟩
        exact hK _ _ rfl (hG.trans (hB.mono hG.size)) hB
      · intro k a w' hG hout hpre K hK
        obtain ⟨p0, _⟩ := hpre
        have q90 := ev_of (show a.eval (.tmp 90) = .bool false from p0)
        clear hout p0
        go_step
        exact hK _ _ rfl hG (Below.refl _ _)
      · intro k a w' hG hout hpre K hK
        obtain ⟨p0, p1, _⟩ := hpre
        have q88 := ev_of (show a.eval (.tmp 88) = .bool true from p0)
        have q91 := ev_of (show a.eval (.tmp 91) = .bool true from p1)
        clear hout p0 p1
        go_step
        exact hK _ _ rfl hG (Below.refl _ _)
      · intro k a w' hG hout hpre K hK
        obtain ⟨p0, _⟩ := hpre
        have q92 := ev_of (show a.eval (.tmp 92) = .bool true from p0)
        clear hout p0
        go_step
        exact hK _ _ rfl hG (Below.refl _ _)
    · intro vs w2 hG hlen hV
      match vs, hlen, hV with
      | v0 :: v1 :: v2 :: v3 :: v4 :: v5 :: v6 :: v7 :: v8 :: v9 :: v10 :: v11 :: v12 :: v13 :: v14 :: v15 :: v16 :: v17 :: v18 :: v19 :: v20 :: v21 :: v22 :: v23 :: v24 :: v25 :: v26 :: v27 :: v28 :: v29 :: v30 :: v31 :: v32 :: v33 :: v34 :: v35 :: v36 :: v37 :: v38 :: v39 :: v40 :: v41 :: v42 :: v43 :: v44 :: v45 :: v46 :: v47 :: v48 :: [], _, hV =>
        obtain rfl : v48 = .bool true := hV 48 4 v48 rfl rfl
        clear hV
        simp only [putsL, List.tail_cons, List.headD_cons]
        simp only [Act.put, List.setIfInBounds_toArray, List.set_cons_succ, List.set_cons_zero]
        have HZ := Lib.hid (HW8.out.trans (hG.mono HW8.out.size))
        clear hG
        go_wp2_with (fail)
        go_ret
        exact ⟨rfl, HZ.out⟩
end Go.Proofs.YtmjanplhgpcbeaaDoor
