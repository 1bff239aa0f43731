/-
  The contract of the reference's Parse: the window whose text it just is.
-/
import Derived.Test.YtkgmcjeficgciaaDoorRefW
import Derived.Test.YtkgmcjeficgciaaDoorRefDots
import Derived.Test.YtkgmcjeficgciaaDoorRefTexts
namespace Go.Proofs.YtkgmcjeficgciaaDoor
open Go Go.RowKit

/-- The result's row, zero as yet, at w's end. -/
def PW (w w' : World) : Prop := Below w.heap.size w w' ∧ w'.heap[w.heap.size]? = some (.cells zeroW.cells 31 (0, 0)) ∧ w.heap.size < w'.heap.size
theorem PW.below {w w' w3 : World} (h : PW w w') (hB : Below w'.heap.size w' w3) : PW w w3 :=
  ⟨h.1.trans (hB.mono h.1.size), (hB.block _ (Array.getElem?_eq_some_iff.1 h.2.1).1).trans h.2.1, by have := hB.size; have := h.2.2; omega⟩
theorem PW.fin {w w' : World} (h : PW w w') (cs : Array Value) : Below w.heap.size w (w'.setRow w.heap.size cs) ∧ (w'.setRow w.heap.size cs).heap[w.heap.size]? = some (.cells cs 31 (0, 0)) :=
  ⟨h.1.trans ⟨rfl, rfl, rfl, by simp [World.setRow], fun k hk => setRow_other _ _ _ _ (by omega)⟩, setRow_heap _ _ _ _ _ _ h.2.1⟩
theorem parseW2_len {ws : List (List (BitVec 8))} (h : ws.length ≠ 2) : parseW2 ws = (zeroW, false) := by
  match ws, h with
  | [], _ => rfl
  | [_], _ => rfl
  | [_, _], h => exact absurd rfl h
  | _ :: _ :: _ :: _, _ => rfl
theorem parseWw_len (k : List (BitVec 8)) {ws : List (List (BitVec 8))} (h : ws.length ≠ 2) : parseWw k ws = (zeroW, false) := by
  match ws, h with
  | [], _ => rfl
  | [_], _ => rfl
  | [_, _], h => exact absurd rfl h
  | _ :: _ :: _ :: _, _ => rfl
theorem splitD_mem (s x : List (BitVec 8)) (h : x ∈ splitD s) : x.length ≤ s.length := by
  have key : ∀ (ws : List (List (BitVec 8))), ∀ y ∈ ws, y.length ≤ (joinD ws).length := by
    intro ws
    induction ws with
    | nil => intro y hy; cases hy
    | cons a r ih =>
      intro y hy
      cases r with
      | nil =>
        rw [List.mem_singleton.1 hy]
        exact Nat.le_refl _
      | cons b r =>
        rw [joinD, List.length_append, List.length_append]
        rcases List.mem_cons.1 hy with rfl | hy
        · omega
        · have := ih y hy
          omega
  have := key _ x h
  rwa [join_splitD] at this
theorem splitL_mem (s x : List (BitVec 8)) (h : x ∈ splitL s) : x.length ≤ s.length := by
  have key : ∀ (ws : List (List (BitVec 8))), ∀ y ∈ ws, y.length ≤ (joinL ws).length := by
    intro ws
    induction ws with
    | nil => intro y hy; cases hy
    | cons a r ih =>
      intro y hy
      cases r with
      | nil =>
        rw [List.mem_singleton.1 hy]
        exact Nat.le_refl _
      | cons b r =>
        rw [joinL, List.length_append, List.length_append]
        rcases List.mem_cons.1 hy with rfl | hy
        · omega
        · have := ih y hy
          omega
  have := key _ x h
  rwa [join_split] at this
set_option maxRecDepth 100000 in
set_option maxHeartbeats 2000000 in
theorem rwParse_any (w : World) (s : List (BitVec 8)) (hl : s.length ≤ 900) :
    Calls Tryd.prog 28 #[Sv s] w (Below0 w (.tuple #[.agg (parseW s).1.cells, .bool (parseW s).2])) := by
  obtain ⟨w0, hw0⟩ : ∃ W, W = w.alloc (.cells #[.string ⟨#[]⟩, .int .i64 0, .int .i64 0] 31) := ⟨_, rfl⟩
  have H0 : Hid (PW w w0) := by
    rw [hw0]
    exact Lib.hid ⟨(Below.refl _ w).alloc (Nat.le_refl _) _, heap_alloc_new w _, by rw [heap_alloc_size]; omega⟩
  have HS := Lib.hid (erSplit_cap w0 s hl)
  obtain ⟨P, hP⟩ : ∃ P, P = Below0 w (.tuple #[.agg (parseW s).1.cells, .bool (parseW s).2]) := ⟨_, rfl⟩
  rw [← hP]
  obtain ⟨ws, hws⟩ : ∃ l, l = splitL s := ⟨_, rfl⟩
  have HLn : Hid (∀ x ∈ ws, x.length ≤ 900) := by
    rw [hws]
    exact Lib.hid (fun x hx => Nat.le_trans (splitL_mem s x hx) hl)
  have HP : Hid (P = Below0 w (.tuple #[.agg (parseW2 ws).1.cells, .bool (parseW2 ws).2])) := by
    rw [hP, hws]
    exact Lib.hid rfl
  rw [← hws] at HS
  obtain ⟨N, hN⟩ : ∃ N, N = ws.length := ⟨_, rfl⟩
  rw [← hN] at HS
  have HNl := Lib.hid hN
  clear hl hP hN hws
  go_enter Tryd.func28, Tryd.ntmps28
  go_upto_region 1 with (fail)
  rw [← hw0]
  clear hw0
  go_wp2_with (fail)
  refine HS.out.mono ?_
  rintro e w1 ⟨g, cap, rfl, hg0, hW, hB, hcap⟩
  have H1 : Hid (PW w w1) := Lib.hid (H0.out.below hB)
  have HW : Hid (∀ w', Below w1.heap.size w1 w' → WordsAt w' g ws) := Lib.hid (fun w' h j x hj => (h.cell (block_lt_of_cell (hW j x hj))).trans (hW j x hj))
  clear hW hB hg0
  dsimp only
  by_cases hN2 : N = 2
  case neg =>
    have e1 : ((N : Int) != 2) = true := by simp; omega
    have HN2 := Lib.hid hN2
    clear hN2
    have HF : Hid (∀ wz, Below w.heap.size w wz → P (.returned (.tuple #[.agg zeroW.cells, .bool false])) wz) := by
      refine Lib.hid (fun wz h => ?_)
      rw [HP.out, parseW2_len (by rw [← HNl.out]; exact HN2.out)]
      exact ⟨rfl, h⟩
    go_upto_region 3 with (fail)
    refine wp_region_lit ?_
    first
      | (refine wpList_store_row rfl _ _ _ rfl w.heap.size zeroW.cells rfl rfl 31 zeroW.cells H1.out.2.1 window_size rfl (window_one _) ?_)
      | (iterate 1 go_step
         refine wpList_store_row rfl _ _ _ rfl w.heap.size zeroW.cells rfl rfl 31 zeroW.cells H1.out.2.1 window_size rfl (window_one _) ?_)
      | (iterate 2 go_step
         refine wpList_store_row rfl _ _ _ rfl w.heap.size zeroW.cells rfl rfl 31 zeroW.cells H1.out.2.1 window_size rfl (window_one _) ?_)
      | (iterate 3 go_step
         refine wpList_store_row rfl _ _ _ rfl w.heap.size zeroW.cells rfl rfl 31 zeroW.cells H1.out.2.1 window_size rfl (window_one _) ?_)
      | (iterate 4 go_step
         refine wpList_store_row rfl _ _ _ rfl w.heap.size zeroW.cells rfl rfl 31 zeroW.cells H1.out.2.1 window_size rfl (window_one _) ?_)
      | (iterate 5 go_step
         refine wpList_store_row rfl _ _ _ rfl w.heap.size zeroW.cells rfl rfl 31 zeroW.cells H1.out.2.1 window_size rfl (window_one _) ?_)
      | (iterate 6 go_step
         refine wpList_store_row rfl _ _ _ rfl w.heap.size zeroW.cells rfl rfl 31 zeroW.cells H1.out.2.1 window_size rfl (window_one _) ?_)
      | (iterate 7 go_step
         refine wpList_store_row rfl _ _ _ rfl w.heap.size zeroW.cells rfl rfl 31 zeroW.cells H1.out.2.1 window_size rfl (window_one _) ?_)
    have HZ := Lib.hid (H1.out.fin zeroW.cells)
    obtain ⟨wz, hwz⟩ : ∃ W, W = w1.setRow w.heap.size zeroW.cells := ⟨_, rfl⟩
    rw [← hwz] at HZ ⊢
    clear hwz
    go_wp2_with (fail)
    exact bodyPost_ret (v := .tuple #[.agg zeroW.cells, .bool false]) ((results_cell_row_tmp (p := 2) (u := 3) (ty := 31) rfl _ _ w.heap.size 31 zeroW.cells (0, 0) _ rfl HZ.out.2 Tryd.underlying31 rfl window_size).trans rfl) rfl (HF.out _ HZ.out.1)
  subst hN2
  obtain ⟨k, r, rfl⟩ : ∃ k r, ws = [k, r] := by
    match ws, HNl.out with
    | [k, r], _ => exact ⟨k, r, rfl⟩
  have HP2 : Hid (P = Below0 w (.tuple #[.agg (parseWw k (splitD r)).1.cells, .bool (parseWw k (splitD r)).2])) := Lib.hid HP.out
  have HkL : Hid (k.length ≤ 900) := Lib.hid (HLn.out k (by simp))
  have hrl : r.length ≤ 900 := HLn.out r (by simp)
  have HDs : Hid (∀ w', _) := Lib.hid (fun w' => erDots_cap w' r hrl)
  have c1 : w1.cell? ⟨g, 1, none⟩ = some (Sv r) := HW.out w1 (Below.refl _ _) 1 _ rfl
  obtain ⟨ds, hds⟩ : ∃ l, l = splitD r := ⟨_, rfl⟩
  have HLd : Hid (∀ x ∈ ds, x.length ≤ 900) := by
    rw [hds]
    exact Lib.hid (fun x hx => Nat.le_trans (splitD_mem r x hx) hrl)
  rw [← hds] at HDs HP2
  obtain ⟨M, hM⟩ : ∃ M, M = ds.length := ⟨_, rfl⟩
  rw [← hM] at HDs
  have HMl := Lib.hid hM
  clear hM hds hrl HP HLn HNl
  go_wp2_with (fail)
  refine (HDs.out w1).mono ?_
  rintro e w2 ⟨g2, cap2, rfl, hg0, hW2, hB, hcap2⟩
  have H2 : Hid (PW w w2) := Lib.hid (H1.out.below hB)
  have HK0 : Hid (∀ w', Below w2.heap.size w2 w' → w'.cell? ⟨g, 0, none⟩ = some (Sv k)) := Lib.hid (fun w' h => HW.out w' (hB.trans (h.mono hB.size)) 0 _ rfl)
  have HW2 : Hid (∀ w', Below w2.heap.size w2 w' → WordsAt w' g2 ds) := Lib.hid (fun w' h j x hj => (h.cell (block_lt_of_cell (hW2 j x hj))).trans (hW2 j x hj))
  clear hW2 hB hg0 c1
  dsimp only
  by_cases hM2 : M = 2
  case neg =>
    have e1 : ((M : Int) != 2) = true := by simp; omega
    have HM2 := Lib.hid hM2
    clear hM2
    have HF : Hid (∀ wz, Below w.heap.size w wz → P (.returned (.tuple #[.agg zeroW.cells, .bool false])) wz) := by
      refine Lib.hid (fun wz h => ?_)
      rw [HP2.out, parseWw_len k (by rw [← HMl.out]; exact HM2.out)]
      exact ⟨rfl, h⟩
    go_upto_region 6 with (fail)
    refine wp_region_lit ?_
    first
      | (refine wpList_store_row rfl _ _ _ rfl w.heap.size zeroW.cells rfl rfl 31 zeroW.cells H2.out.2.1 window_size rfl (window_one _) ?_)
      | (iterate 1 go_step
         refine wpList_store_row rfl _ _ _ rfl w.heap.size zeroW.cells rfl rfl 31 zeroW.cells H2.out.2.1 window_size rfl (window_one _) ?_)
      | (iterate 2 go_step
         refine wpList_store_row rfl _ _ _ rfl w.heap.size zeroW.cells rfl rfl 31 zeroW.cells H2.out.2.1 window_size rfl (window_one _) ?_)
      | (iterate 3 go_step
         refine wpList_store_row rfl _ _ _ rfl w.heap.size zeroW.cells rfl rfl 31 zeroW.cells H2.out.2.1 window_size rfl (window_one _) ?_)
      | (iterate 4 go_step
         refine wpList_store_row rfl _ _ _ rfl w.heap.size zeroW.cells rfl rfl 31 zeroW.cells H2.out.2.1 window_size rfl (window_one _) ?_)
      | (iterate 5 go_step
         refine wpList_store_row rfl _ _ _ rfl w.heap.size zeroW.cells rfl rfl 31 zeroW.cells H2.out.2.1 window_size rfl (window_one _) ?_)
      | (iterate 6 go_step
         refine wpList_store_row rfl _ _ _ rfl w.heap.size zeroW.cells rfl rfl 31 zeroW.cells H2.out.2.1 window_size rfl (window_one _) ?_)
      | (iterate 7 go_step
         refine wpList_store_row rfl _ _ _ rfl w.heap.size zeroW.cells rfl rfl 31 zeroW.cells H2.out.2.1 window_size rfl (window_one _) ?_)
    have HZ := Lib.hid (H2.out.fin zeroW.cells)
    obtain ⟨wz, hwz⟩ : ∃ W, W = w2.setRow w.heap.size zeroW.cells := ⟨_, rfl⟩
    rw [← hwz] at HZ ⊢
    clear hwz
    go_wp2_with (fail)
    exact bodyPost_ret (v := .tuple #[.agg zeroW.cells, .bool false]) ((results_cell_row_tmp (p := 2) (u := 3) (ty := 31) rfl _ _ w.heap.size 31 zeroW.cells (0, 0) _ rfl HZ.out.2 Tryd.underlying31 rfl window_size).trans rfl) rfl (HF.out _ HZ.out.1)
  subst hM2
  obtain ⟨a, b, rfl⟩ : ∃ a b, ds = [a, b] := by
    match ds, HMl.out with
    | [a, b], _ => exact ⟨a, b, rfl⟩
  obtain ⟨na, hna⟩ : ∃ n, n = (refNum a).1 := ⟨_, rfl⟩
  obtain ⟨ka, hka⟩ : ∃ n, n = (refNum a).2 := ⟨_, rfl⟩
  obtain ⟨nb, hnb⟩ : ∃ n, n = (refNum b).1 := ⟨_, rfl⟩
  obtain ⟨kb, hkb⟩ : ∃ n, n = (refNum b).2 := ⟨_, rfl⟩
  have HPr : Hid (P = Below0 w (.tuple #[.agg (if (ka = true ∧ kb = true) ∧ (WindowL.mk k na nb).rightB = true then (WindowL.mk k na nb, true) else (zeroW, false)).1.cells, .bool (if (ka = true ∧ kb = true) ∧ (WindowL.mk k na nb).rightB = true then (WindowL.mk k na nb, true) else (zeroW, false)).2])) := by
    rw [hna, hka, hnb, hkb]
    exact Lib.hid HP2.out
  have HNa : Hid (∀ w', Calls Tryd.prog 54 #[Sv a] w' fun e w'' => e = .returned (.tuple #[.int .i64 na, .bool ka]) ∧ w'' = w') := by
    rw [hna, hka]
    exact Lib.hid (fun w' => erNumber_any w' a (by have := HLd.out a (by simp); omega))
  have HNb : Hid (∀ w', Calls Tryd.prog 54 #[Sv b] w' fun e w'' => e = .returned (.tuple #[.int .i64 nb, .bool kb]) ∧ w'' = w') := by
    rw [hnb, hkb]
    exact Lib.hid (fun w' => erNumber_any w' b (by have := HLd.out b (by simp); omega))
  have c0 : w2.cell? ⟨g2, 0, none⟩ = some (Sv a) := HW2.out w2 (Below.refl _ _) 0 _ rfl
  have c1 : w2.cell? ⟨g2, 1, none⟩ = some (Sv b) := HW2.out w2 (Below.refl _ _) 1 _ rfl
  have ck : w2.cell? ⟨g, 0, none⟩ = some (Sv k) := HK0.out w2 (Below.refl _ _)
  clear hna hka hnb hkb HP2 HLd HMl
  go_wp2_with (fail)
  refine (HNa.out w2).mono ?_
  rintro e w3 ⟨rfl, hw3⟩
  subst w3
  dsimp only
  go_wp2_with (fail)
  refine (HNb.out w2).mono ?_
  rintro e w3 ⟨rfl, hw3⟩
  subst w3
  dsimp only
  have hbuilt : Tryd.prog.built 31 [(0, Sv k), (1, .int .i64 na), (2, .int .i64 nb)] = some #[Sv k, .int .i64 na, .int .i64 nb] := by kernel_rfl
  go_upto_region 9 with (fail)
  refine wp_region_lit ?_
  iterate 15 go_step
  refine wpList_build_on (by kernel_rfl) 31 _ rfl #[Sv k, .int .i64 na, .int .i64 nb] (by simp only [List.map_toArray, List.map_cons, List.map_nil]; exact hbuilt) ?_
  first
    | (iterate 1 go_step
       refine wpList_store_row rfl _ _ _ rfl w2.heap.size (WindowL.mk k na nb).cells rfl rfl 31 zeroW.cells (heap_alloc_new w2 _) window_size rfl (window_one _) ?_)
    | (iterate 2 go_step
       refine wpList_store_row rfl _ _ _ rfl w2.heap.size (WindowL.mk k na nb).cells rfl rfl 31 zeroW.cells (heap_alloc_new w2 _) window_size rfl (window_one _) ?_)
    | (iterate 3 go_step
       refine wpList_store_row rfl _ _ _ rfl w2.heap.size (WindowL.mk k na nb).cells rfl rfl 31 zeroW.cells (heap_alloc_new w2 _) window_size rfl (window_one _) ?_)
    | (iterate 4 go_step
       refine wpList_store_row rfl _ _ _ rfl w2.heap.size (WindowL.mk k na nb).cells rfl rfl 31 zeroW.cells (heap_alloc_new w2 _) window_size rfl (window_one _) ?_)
  obtain ⟨w4, hw4⟩ : ∃ W, W = (w2.alloc (Obj.cells #[.string ⟨#[]⟩, .int .i64 0, .int .i64 0] 31)).setRow w2.heap.size (WindowL.mk k na nb).cells := ⟨_, rfl⟩
  obtain ⟨xb, hxb⟩ : ∃ b, b = w2.heap.size := ⟨_, rfl⟩
  have H4 : Hid (PW w w4 ∧ RowW w4 xb (WindowL.mk k na nb)) := by
    obtain ⟨q1, q2⟩ := stored_window w2 (WindowL.mk k na nb)
    rw [hw4, hxb]
    exact Lib.hid ⟨H2.out.below q2, q1⟩
  rw [← hw4, ← hxb]
  clear hw4 hxb hbuilt c0 c1 ck
  obtain ⟨rr, hrr⟩ : ∃ r, r = (WindowL.mk k na nb).rightB := ⟨_, rfl⟩
  have HRt : Hid (∀ w', Calls Tryd.prog 15 #[.agg #[Sv k, .int .i64 na, .int .i64 nb]] w' (Below0 w' (.bool rr))) := by
    rw [hrr]
    exact Lib.hid (fun w' => rwRight_any w' (WindowL.mk k na nb) (Nat.le_trans HkL.out (by decide)))
  have Hrr := Lib.hid hrr
  clear hrr
  cases ka with
  | false =>
    have HF : Hid (∀ wz, Below w.heap.size w wz → P (.returned (.tuple #[.agg zeroW.cells, .bool false])) wz) := by
      refine Lib.hid (fun wz h => ?_)
      rw [HPr.out, if_neg (by simp)]
      exact ⟨rfl, h⟩
    go_upto_region 11 with (fail)
    refine wp_region_lit ?_
    first
      | (refine wpList_store_row rfl _ _ _ rfl w.heap.size zeroW.cells rfl rfl 31 zeroW.cells H4.out.1.2.1 window_size rfl (window_one _) ?_)
      | (iterate 1 go_step
         refine wpList_store_row rfl _ _ _ rfl w.heap.size zeroW.cells rfl rfl 31 zeroW.cells H4.out.1.2.1 window_size rfl (window_one _) ?_)
      | (iterate 2 go_step
         refine wpList_store_row rfl _ _ _ rfl w.heap.size zeroW.cells rfl rfl 31 zeroW.cells H4.out.1.2.1 window_size rfl (window_one _) ?_)
      | (iterate 3 go_step
         refine wpList_store_row rfl _ _ _ rfl w.heap.size zeroW.cells rfl rfl 31 zeroW.cells H4.out.1.2.1 window_size rfl (window_one _) ?_)
      | (iterate 4 go_step
         refine wpList_store_row rfl _ _ _ rfl w.heap.size zeroW.cells rfl rfl 31 zeroW.cells H4.out.1.2.1 window_size rfl (window_one _) ?_)
      | (iterate 5 go_step
         refine wpList_store_row rfl _ _ _ rfl w.heap.size zeroW.cells rfl rfl 31 zeroW.cells H4.out.1.2.1 window_size rfl (window_one _) ?_)
      | (iterate 6 go_step
         refine wpList_store_row rfl _ _ _ rfl w.heap.size zeroW.cells rfl rfl 31 zeroW.cells H4.out.1.2.1 window_size rfl (window_one _) ?_)
      | (iterate 7 go_step
         refine wpList_store_row rfl _ _ _ rfl w.heap.size zeroW.cells rfl rfl 31 zeroW.cells H4.out.1.2.1 window_size rfl (window_one _) ?_)
    have HZ := Lib.hid (H4.out.1.fin zeroW.cells)
    obtain ⟨wz, hwz⟩ : ∃ W, W = w4.setRow w.heap.size zeroW.cells := ⟨_, rfl⟩
    rw [← hwz] at HZ ⊢
    clear hwz
    go_wp2_with (fail)
    exact bodyPost_ret (v := .tuple #[.agg zeroW.cells, .bool false]) ((results_cell_row_tmp (p := 2) (u := 3) (ty := 31) rfl _ _ w.heap.size 31 zeroW.cells (0, 0) _ rfl HZ.out.2 Tryd.underlying31 rfl window_size).trans rfl) rfl (HF.out _ HZ.out.1)
  | true =>
    cases kb with
    | false =>
      have HF : Hid (∀ wz, Below w.heap.size w wz → P (.returned (.tuple #[.agg zeroW.cells, .bool false])) wz) := by
        refine Lib.hid (fun wz h => ?_)
        rw [HPr.out, if_neg (by simp)]
        exact ⟨rfl, h⟩
      go_upto_region 11 with (fail)
      refine wp_region_lit ?_
      first
        | (refine wpList_store_row rfl _ _ _ rfl w.heap.size zeroW.cells rfl rfl 31 zeroW.cells H4.out.1.2.1 window_size rfl (window_one _) ?_)
        | (iterate 1 go_step
           refine wpList_store_row rfl _ _ _ rfl w.heap.size zeroW.cells rfl rfl 31 zeroW.cells H4.out.1.2.1 window_size rfl (window_one _) ?_)
        | (iterate 2 go_step
           refine wpList_store_row rfl _ _ _ rfl w.heap.size zeroW.cells rfl rfl 31 zeroW.cells H4.out.1.2.1 window_size rfl (window_one _) ?_)
        | (iterate 3 go_step
           refine wpList_store_row rfl _ _ _ rfl w.heap.size zeroW.cells rfl rfl 31 zeroW.cells H4.out.1.2.1 window_size rfl (window_one _) ?_)
        | (iterate 4 go_step
           refine wpList_store_row rfl _ _ _ rfl w.heap.size zeroW.cells rfl rfl 31 zeroW.cells H4.out.1.2.1 window_size rfl (window_one _) ?_)
        | (iterate 5 go_step
           refine wpList_store_row rfl _ _ _ rfl w.heap.size zeroW.cells rfl rfl 31 zeroW.cells H4.out.1.2.1 window_size rfl (window_one _) ?_)
        | (iterate 6 go_step
           refine wpList_store_row rfl _ _ _ rfl w.heap.size zeroW.cells rfl rfl 31 zeroW.cells H4.out.1.2.1 window_size rfl (window_one _) ?_)
        | (iterate 7 go_step
           refine wpList_store_row rfl _ _ _ rfl w.heap.size zeroW.cells rfl rfl 31 zeroW.cells H4.out.1.2.1 window_size rfl (window_one _) ?_)
      have HZ := Lib.hid (H4.out.1.fin zeroW.cells)
      obtain ⟨wz, hwz⟩ : ∃ W, W = w4.setRow w.heap.size zeroW.cells := ⟨_, rfl⟩
      rw [← hwz] at HZ ⊢
      clear hwz
      go_wp2_with (fail)
      exact bodyPost_ret (v := .tuple #[.agg zeroW.cells, .bool false]) ((results_cell_row_tmp (p := 2) (u := 3) (ty := 31) rfl _ _ w.heap.size 31 zeroW.cells (0, 0) _ rfl HZ.out.2 Tryd.underlying31 rfl window_size).trans rfl) rfl (HF.out _ HZ.out.1)
    | true =>
      obtain ⟨d0, d1, d2⟩ : D3 w4 xb k na nb := H4.out.2.d3
      go_wp2_with (fail)
      refine (HRt.out w4).mono ?_
      rintro e w5 ⟨rfl, hB⟩
      have H5 : Hid (PW w w5 ∧ RowW w5 xb (WindowL.mk k na nb)) := Lib.hid ⟨H4.out.1.below hB, H4.out.2.below hB⟩
      clear hB d0 d1 d2
      dsimp only
      cases rr with
      | false =>
        have HF : Hid (∀ wz, Below w.heap.size w wz → P (.returned (.tuple #[.agg zeroW.cells, .bool false])) wz) := by
          refine Lib.hid (fun wz h => ?_)
          rw [HPr.out, if_neg (by rw [← Hrr.out]; simp)]
          exact ⟨rfl, h⟩
        go_upto_region 11 with (fail)
        refine wp_region_lit ?_
        first
          | (refine wpList_store_row rfl _ _ _ rfl w.heap.size zeroW.cells rfl rfl 31 zeroW.cells H5.out.1.2.1 window_size rfl (window_one _) ?_)
          | (iterate 1 go_step
             refine wpList_store_row rfl _ _ _ rfl w.heap.size zeroW.cells rfl rfl 31 zeroW.cells H5.out.1.2.1 window_size rfl (window_one _) ?_)
          | (iterate 2 go_step
             refine wpList_store_row rfl _ _ _ rfl w.heap.size zeroW.cells rfl rfl 31 zeroW.cells H5.out.1.2.1 window_size rfl (window_one _) ?_)
          | (iterate 3 go_step
             refine wpList_store_row rfl _ _ _ rfl w.heap.size zeroW.cells rfl rfl 31 zeroW.cells H5.out.1.2.1 window_size rfl (window_one _) ?_)
          | (iterate 4 go_step
             refine wpList_store_row rfl _ _ _ rfl w.heap.size zeroW.cells rfl rfl 31 zeroW.cells H5.out.1.2.1 window_size rfl (window_one _) ?_)
          | (iterate 5 go_step
             refine wpList_store_row rfl _ _ _ rfl w.heap.size zeroW.cells rfl rfl 31 zeroW.cells H5.out.1.2.1 window_size rfl (window_one _) ?_)
          | (iterate 6 go_step
             refine wpList_store_row rfl _ _ _ rfl w.heap.size zeroW.cells rfl rfl 31 zeroW.cells H5.out.1.2.1 window_size rfl (window_one _) ?_)
          | (iterate 7 go_step
             refine wpList_store_row rfl _ _ _ rfl w.heap.size zeroW.cells rfl rfl 31 zeroW.cells H5.out.1.2.1 window_size rfl (window_one _) ?_)
        have HZ := Lib.hid (H5.out.1.fin zeroW.cells)
        obtain ⟨wz, hwz⟩ : ∃ W, W = w5.setRow w.heap.size zeroW.cells := ⟨_, rfl⟩
        rw [← hwz] at HZ ⊢
        clear hwz
        go_wp2_with (fail)
        exact bodyPost_ret (v := .tuple #[.agg zeroW.cells, .bool false]) ((results_cell_row_tmp (p := 2) (u := 3) (ty := 31) rfl _ _ w.heap.size 31 zeroW.cells (0, 0) _ rfl HZ.out.2 Tryd.underlying31 rfl window_size).trans rfl) rfl (HF.out _ HZ.out.1)
      | true =>
        have HF : Hid (∀ wz, Below w.heap.size w wz → P (.returned (.tuple #[.agg (WindowL.mk k na nb).cells, .bool true])) wz) := by
          refine Lib.hid (fun wz h => ?_)
          rw [HPr.out, if_pos (by rw [← Hrr.out]; simp)]
          exact ⟨rfl, h⟩
        obtain ⟨d0, d1, d2⟩ : D3 w5 xb k na nb := H5.out.2.d3
        go_upto_region 12 with (fail)
        refine wp_region_lit ?_
        first
          | (iterate 1 go_step
             refine wpList_store_row rfl _ _ _ rfl w.heap.size (WindowL.mk k na nb).cells rfl rfl 31 zeroW.cells H5.out.1.2.1 window_size rfl (window_one _) ?_)
          | (iterate 2 go_step
             refine wpList_store_row rfl _ _ _ rfl w.heap.size (WindowL.mk k na nb).cells rfl rfl 31 zeroW.cells H5.out.1.2.1 window_size rfl (window_one _) ?_)
          | (iterate 3 go_step
             refine wpList_store_row rfl _ _ _ rfl w.heap.size (WindowL.mk k na nb).cells rfl rfl 31 zeroW.cells H5.out.1.2.1 window_size rfl (window_one _) ?_)
          | (iterate 4 go_step
             refine wpList_store_row rfl _ _ _ rfl w.heap.size (WindowL.mk k na nb).cells rfl rfl 31 zeroW.cells H5.out.1.2.1 window_size rfl (window_one _) ?_)
          | (iterate 5 go_step
             refine wpList_store_row rfl _ _ _ rfl w.heap.size (WindowL.mk k na nb).cells rfl rfl 31 zeroW.cells H5.out.1.2.1 window_size rfl (window_one _) ?_)
          | (iterate 6 go_step
             refine wpList_store_row rfl _ _ _ rfl w.heap.size (WindowL.mk k na nb).cells rfl rfl 31 zeroW.cells H5.out.1.2.1 window_size rfl (window_one _) ?_)
          | (iterate 7 go_step
             refine wpList_store_row rfl _ _ _ rfl w.heap.size (WindowL.mk k na nb).cells rfl rfl 31 zeroW.cells H5.out.1.2.1 window_size rfl (window_one _) ?_)
          | (iterate 8 go_step
             refine wpList_store_row rfl _ _ _ rfl w.heap.size (WindowL.mk k na nb).cells rfl rfl 31 zeroW.cells H5.out.1.2.1 window_size rfl (window_one _) ?_)
          | (iterate 9 go_step
             refine wpList_store_row rfl _ _ _ rfl w.heap.size (WindowL.mk k na nb).cells rfl rfl 31 zeroW.cells H5.out.1.2.1 window_size rfl (window_one _) ?_)
        have HZ := Lib.hid (H5.out.1.fin (WindowL.mk k na nb).cells)
        obtain ⟨wz, hwz⟩ : ∃ W, W = w5.setRow w.heap.size (WindowL.mk k na nb).cells := ⟨_, rfl⟩
        rw [← hwz] at HZ ⊢
        clear hwz
        go_wp2_with (fail)
        exact bodyPost_ret (v := .tuple #[.agg (WindowL.mk k na nb).cells, .bool true]) ((results_cell_row_tmp (p := 2) (u := 3) (ty := 31) rfl _ _ w.heap.size 31 (WindowL.mk k na nb).cells (0, 0) _ rfl HZ.out.2 Tryd.underlying31 rfl window_size).trans rfl) rfl (HF.out _ HZ.out.1)
end Go.Proofs.YtkgmcjeficgciaaDoor
