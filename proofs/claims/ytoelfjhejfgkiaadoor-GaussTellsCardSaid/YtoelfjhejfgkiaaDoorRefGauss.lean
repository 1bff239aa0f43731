/-
  The contracts of the reference's In, Times, Turn, Side.
-/
import Derived.Test.YtoelfjhejfgkiaaDoorGaussPure
import Derived.Test.YtoelfjhejfgkiaaDoorRows
import Derived.Test.YtoelfjhejfgkiaaDoorCoreMem
namespace Go.Proofs.YtoelfjhejfgkiaaDoor
open Go Go.RowKit

def pairV (a b : Int) : Array Value := #[.int .i64 a, .int .i64 b]
theorem pair_size : (Tryd.prog.info? 24).map (·.size) = some 2 := by kernel_rfl
theorem heap_alloc_two (w : World) (o1 o2 : Obj) : ((w.alloc o1).alloc o2).heap[w.heap.size + 1]? = some o2 := by
  have h := heap_alloc_new (w.alloc o1) o2
  have e : (w.alloc o1).heap.size = w.heap.size + 1 := by simp
  rw [e] at h
  exact h
theorem pair_one (a b : Int) : (pairV a b).all (·.oneCell') = true := by
  rw [Array.all_eq_true]
  intro i hi
  match i, hi with
  | 0, _ => rfl
  | 1, _ => rfl
  | i + 2, hi =>
    simp [pairV] at hi
    omega
theorem grIn_any (w : World) (re im : Int) : Calls Tryd.prog 10 #[.int .i64 re, .int .i64 im] w fun e w' => e = .returned (.bool (inB re im)) ∧ w' = w := by
  obtain ⟨b, hb⟩ : ∃ b, b = inB re im := ⟨_, rfl⟩
  rw [← hb]
  unfold inB InP at hb
  by_cases h1 : -1073741824 ≤ re
  · by_cases h2 : re ≤ 1073741824
    · by_cases h3 : -1073741824 ≤ im
      · by_cases h4 : im ≤ 1073741824
        · obtain rfl : b = true := by rw [hb]; exact decide_eq_true ⟨h1, h2, h3, h4⟩
          clear hb
          go_enter Tryd.func10, Tryd.ntmps10
          go_wp2_with (fail)
          go_ret
          exact ⟨rfl, rfl⟩
        · obtain rfl : b = false := by rw [hb]; exact decide_eq_false (fun h => h4 h.2.2.2)
          clear hb
          go_enter Tryd.func10, Tryd.ntmps10
          go_wp2_with (fail)
          go_ret
          exact ⟨rfl, rfl⟩
      · obtain rfl : b = false := by rw [hb]; exact decide_eq_false (fun h => h3 h.2.2.1)
        clear hb
        go_enter Tryd.func10, Tryd.ntmps10
        go_wp2_with (fail)
        go_ret
        exact ⟨rfl, rfl⟩
    · obtain rfl : b = false := by rw [hb]; exact decide_eq_false (fun h => h2 h.2.1)
      clear hb
      go_enter Tryd.func10, Tryd.ntmps10
      go_wp2_with (fail)
      go_ret
      exact ⟨rfl, rfl⟩
  · obtain rfl : b = false := by rw [hb]; exact decide_eq_false (fun h => h1 h.1)
    clear hb
    go_enter Tryd.func10, Tryd.ntmps10
    go_wp2_with (fail)
    go_ret
    exact ⟨rfl, rfl⟩
set_option maxRecDepth 100000 in
theorem grTimes_any (w : World) (a0 a1 b0 b1 : Int) (ha : InP a0 a1) (hb : InP b0 b1) :
    Calls Tryd.prog 18 #[.agg (pairV a0 a1), .agg (pairV b0 b1)] w (Below0 w (.agg (pairV (a0 * b0 - a1 * b1) (a0 * b1 + a1 * b0)))) := by
  unfold InP at ha hb
  have k1 := prod_bd (a := a0) (b := b0) (A := 1073741824) (B := 1073741824) (by omega) (by omega)
  have k2 := prod_bd (a := a1) (b := b1) (A := 1073741824) (B := 1073741824) (by omega) (by omega)
  have k3 := prod_bd (a := a0) (b := b1) (A := 1073741824) (B := 1073741824) (by omega) (by omega)
  have k4 := prod_bd (a := a1) (b := b0) (A := 1073741824) (B := 1073741824) (by omega) (by omega)
  obtain ⟨p1, e1⟩ : ∃ p, p = a0 * b0 := ⟨_, rfl⟩
  obtain ⟨p2, e2⟩ : ∃ p, p = a1 * b1 := ⟨_, rfl⟩
  obtain ⟨p3, e3⟩ : ∃ p, p = a0 * b1 := ⟨_, rfl⟩
  obtain ⟨p4, e4⟩ : ∃ p, p = a1 * b0 := ⟨_, rfl⟩
  rw [← e1] at k1
  rw [← e2] at k2
  rw [← e3] at k3
  rw [← e4] at k4
  obtain ⟨s1, f1⟩ : ∃ s, s = p1 - p2 := ⟨_, rfl⟩
  obtain ⟨s2, f2⟩ : ∃ s, s = p3 + p4 := ⟨_, rfl⟩
  have g1 : IntKind.i64.wrap p1 = p1 := IntWalk.i64_in _ (by omega)
  have g2 : IntKind.i64.wrap p2 = p2 := IntWalk.i64_in _ (by omega)
  have g3 : IntKind.i64.wrap p3 = p3 := IntWalk.i64_in _ (by omega)
  have g4 : IntKind.i64.wrap p4 = p4 := IntWalk.i64_in _ (by omega)
  have g5 : IntKind.i64.wrap s1 = s1 := IntWalk.i64_in _ (by omega)
  have g6 : IntKind.i64.wrap s2 = s2 := IntWalk.i64_in _ (by omega)
  rw [← e1, ← e2, ← e3, ← e4, ← f1, ← f2]
  replace e1 := e1.symm
  replace e2 := e2.symm
  replace e3 := e3.symm
  replace e4 := e4.symm
  replace f1 := f1.symm
  replace f2 := f2.symm
  clear ha hb k1 k2 k3 k4
  unfold pairV
  go_enter Tryd.func18, Tryd.ntmps18
  go_wp2_with (fail)
  obtain ⟨W2, hW2⟩ : ∃ W, W = (w.alloc (.cells #[.int .i64 a0, .int .i64 a1] 24)).alloc (.cells #[.int .i64 b0, .int .i64 b1] 24) := ⟨_, rfl⟩
  have hs2 : W2.heap.size = w.heap.size + 1 + 1 := by rw [hW2]; simp
  rw [← hW2, ← hs2]
  refine bodyPost_ret (v := .agg (pairV s1 s2)) (results_cell_row rfl _ _ W2.heap.size 24 (pairV s1 s2) (0, 0) _ rfl (heap_alloc_new W2 _) Tryd.underlying24 rfl pair_size) rfl ⟨rfl, ?_⟩
  have hB : Below w.heap.size w W2 := by rw [hW2]; exact ((Below.refl _ w).alloc (Nat.le_refl _) _).alloc (by simp) _
  exact hB.alloc hB.size _
def TurnRel (B0 zb rb K : Nat) (w0 : World) (v : Value) (wr : World) : Prop :=
  ∃ k : Nat, k ≤ K ∧ v = .int .i64 (k : Int) ∧ wr.heap[zb]? = some (.cells (pairV (turnN k).1 (turnN k).2) 24 (0, 0)) ∧ wr.heap[rb]? = some (.cells (pairV 0 0) 24 (0, 0)) ∧ Below B0 w0 wr
set_option maxRecDepth 100000 in
theorem grTurn_any (w : World) (q : Int) :
    Calls Tryd.prog 11 #[.int .i64 q] w (Below0 w (.agg (pairV (turnP q).1 (turnP q).2))) := by
  obtain ⟨k, hk⟩ : ∃ k : Nat, (k : Int) = q % 4 := ⟨(q % 4).toNat, by omega⟩
  rw [← turnN_eq q k hk]
  have hk3 : k ≤ 3 := by omega
  obtain ⟨r, hr⟩ : ∃ r, r = q.tmod 4 := ⟨_, rfl⟩
  have er : q.tmod 4 = r := hr.symm
  have hrk : (0 ≤ r ∧ r = (k : Int)) ∨ (r < 0 ∧ r + 4 = (k : Int)) := by
    have h := @Int.tmod_eq_emod q 4
    split at h
    · left
      omega
    · right
      rename_i hn
      have : (4 : Int).natAbs = 4 := rfl
      omega
  rcases hrk with ⟨hr0, hrk⟩ | ⟨hr0, hrk⟩
  all_goals
    first
    | (have c1 : ¬ r < 0 := by omega
       clear hr hk hr0
       subst hrk
       go_enter Tryd.func11, Tryd.ntmps11
       go_wp2_with (fail))
    | (have c1 : r < 0 := hr0
       have c2 : r + 4 = (k : Int) := hrk
       have c3 : IntKind.i64.wrap (r + 4) = r + 4 := IntWalk.i64_in _ (by omega)
       clear hr hk hr0 hrk
       go_enter Tryd.func11, Tryd.ntmps11
       go_wp2_with (fail)
       clear c1 c2 c3)
  all_goals
    obtain ⟨wf, hwf⟩ : ∃ W, W = (w.alloc (.cells #[.int .i64 0, .int .i64 0] 24)).alloc (.cells #[.int .i64 1, .int .i64 0] 24) := ⟨_, rfl⟩
    rw [← hwf]
    obtain ⟨rb, hrb⟩ : ∃ b, b = w.heap.size := ⟨_, rfl⟩
    obtain ⟨zb, hzb⟩ : ∃ b, b = w.heap.size + 1 := ⟨_, rfl⟩
    rw [← hzb, ← hrb]
    have HW : Hid (wf.heap[zb]? = some (.cells (pairV 1 0) 24 (0, 0)) ∧ wf.heap[rb]? = some (.cells (pairV 0 0) 24 (0, 0)) ∧ Below w.heap.size w wf ∧ rb = w.heap.size ∧ zb = w.heap.size + 1) := by
      refine ⟨?_, ?_, ?_, hrb, hzb⟩
      · rw [hwf, hzb]
        exact heap_alloc_two w _ _
      · rw [hwf, hrb]
        exact (((Below.refl _ (w.alloc (.cells #[.int .i64 0, .int .i64 0] 24))).alloc (Nat.le_refl _) _).block w.heap.size (by simp)).trans (heap_alloc_new w _)
      · rw [hwf]
        exact ((Below.refl _ w).alloc (Nat.le_refl _) _).alloc (by simp) _
    clear hwf hrb hzb
    have HK3 := Lib.hid hk3
    clear hk3
    go_loopw [4] (TurnRel w.heap.size zb rb k w) (fun v _ => k - (intOf v).toNat)
    case atStart => exact ⟨0, by omega, rfl, HW.out.1, HW.out.2.1, HW.out.2.2.1⟩
    case round =>
      obtain ⟨j, hj, rfl, hz, hr, hB⟩ := hrel
      obtain ⟨x, hx⟩ : ∃ x, x = (turnN j).1 := ⟨_, rfl⟩
      obtain ⟨y, hy⟩ : ∃ x, x = (turnN j).2 := ⟨_, rfl⟩
      rw [← hx, ← hy] at hz
      have d0 : wr.cell? ⟨zb, 0, none⟩ = some (.int .i64 x) := by rw [cell_of_row _ _ _ _ _ _ hz]; rfl
      have d1 : wr.cell? ⟨zb, 1, none⟩ = some (.int .i64 y) := by rw [cell_of_row _ _ _ _ _ _ hz]; rfl
      have HR := Lib.hid (And.intro hz (And.intro hr (And.intro hB (And.intro hx hy))))
      clear hz hr hB hx hy
      by_cases hlt : j < k
      · have hlt' : (j : Int) < (k : Int) := by omega
        have hjb : (j : Int) ≤ 3 := by have := HK3.out; omega
        go_wp2_with (fail)
        have hxy : InP x y := by
          have := turnN_bd j _ rfl
          rw [← HR.out.2.2.2.1, ← HR.out.2.2.2.2] at this
          unfold InP
          omega
        refine (grTimes_any wr x y 0 1 hxy (by unfold InP; omega)).mono ?_
        rintro e w3 ⟨rfl, hB3⟩
        obtain ⟨x2, hx2⟩ : ∃ v, v = x * 0 - y * 1 := ⟨_, rfl⟩
        obtain ⟨y2, hy2⟩ : ∃ v, v = x * 1 + y * 0 := ⟨_, rfl⟩
        rw [← hx2, ← hy2]
        have hz3 : w3.heap[zb]? = some (.cells (pairV x y) 24 (0, 0)) := (hB3.block _ (Array.getElem?_eq_some_iff.1 HR.out.1).1).trans HR.out.1
        have hr3 : w3.heap[rb]? = some (.cells (pairV 0 0) 24 (0, 0)) := (hB3.block _ (Array.getElem?_eq_some_iff.1 HR.out.2.1).1).trans HR.out.2.1
        have HZ : Hid (TurnRel w.heap.size zb rb k w (.int .i64 ((j : Int) + 1)) (w3.setRow zb (pairV x2 y2))) := by
          refine ⟨j + 1, by omega, by go_num, ?_, ?_, ?_⟩
          · have e1 : (turnN (j + 1)).1 = x2 := by rw [hx2, HR.out.2.2.2.1, HR.out.2.2.2.2]; rfl
            have e2 : (turnN (j + 1)).2 = y2 := by rw [hy2, HR.out.2.2.2.1, HR.out.2.2.2.2]; rfl
            rw [e1, e2]
            exact setRow_heap _ _ _ _ _ _ hz3
          · exact (setRow_other _ _ _ _ (by have := HW.out.2.2.2; omega)).trans hr3
          · have h3 : Below w.heap.size w w3 := HR.out.2.2.1.trans (hB3.mono HR.out.2.2.1.size)
            exact h3.trans ⟨rfl, rfl, rfl, by simp, fun i hi => setRow_other _ _ _ _ (by have := HW.out.2.2.2; omega)⟩
        have H3 := Lib.hid hz3
        clear hB3 hx2 hy2 hz3 hr3 d0 d1 hxy
        dsimp only
        go_step
        refine wpList_store_row rfl _ _ _ rfl zb (pairV x2 y2) rfl rfl 24 (pairV x y) H3.out pair_size rfl (pair_one _ _) ?_
        go_wp2_with (fail)
        exact ⟨HZ.out, by simp [intOf]; omega⟩
      · obtain rfl : j = k := by omega
        have HE := Lib.hid (HR.out.2.2.1)
        go_upto_region 9 with (fail)
        refine wp_region_lit ?_
        iterate 3 go_step
        refine wpList_store_row rfl _ _ _ rfl rb (pairV x y) rfl rfl 24 (pairV 0 0) HR.out.2.1 pair_size rfl (pair_one _ _) ?_
        have HZ : Hid ((wr.setRow rb (pairV x y)).heap[rb]? = some (.cells (pairV x y) 24 (0, 0)) ∧ Below w.heap.size w (wr.setRow rb (pairV x y))) :=
          ⟨setRow_heap _ _ _ _ _ _ HR.out.2.1, HE.out.trans ⟨rfl, rfl, rfl, by simp, fun i hi => setRow_other _ _ _ _ (by have := HW.out.2.2.2; omega)⟩⟩
        obtain ⟨wz, hwz⟩ : ∃ W, W = wr.setRow rb (pairV x y) := ⟨_, rfl⟩
        rw [← hwz] at HZ ⊢
        have HXY := Lib.hid (And.intro HR.out.2.2.2.1 HR.out.2.2.2.2)
        clear hwz d0 d1 HR
        go_wp2_with (fail)
        rw [← HXY.out.1, ← HXY.out.2]
        exact bodyPost_ret (v := .agg (pairV x y)) (results_cell_row rfl _ _ rb 24 (pairV x y) (0, 0) _ rfl HZ.out.1 Tryd.underlying24 rfl pair_size) rfl ⟨rfl, HZ.out.2⟩
def SideRel (B0 zb : Nat) (re im : Int) (w0 : World) (v : Value) (wr : World) : Prop :=
  ∃ k : Nat, k ≤ 4 ∧ v = .int .i64 (k : Int) ∧ wr.heap[zb]? = some (.cells (pairV (backN re im k).1 (backN re im k).2) 24 (0, 0)) ∧ Below B0 w0 wr ∧ ∀ j < k, faces (backN re im j) = false
set_option maxRecDepth 100000 in
theorem grSide_any (w : World) (re im : Int) (h : InP re im) :
    Calls Tryd.prog 21 #[.int .i64 re, .int .i64 im] w (Below0 w (.int .i64 (sideP re im))) := by
  have HIN := Lib.hid h
  unfold InP at h
  by_cases h0 : re = 0 ∧ im = 0
  · have e1 : (re == 0) = true := by rw [h0.1]; rfl
    have e2 : (im == 0) = true := by rw [h0.2]; rfl
    have e3 : sideP re im = -1 := if_pos h0
    rw [e3]
    clear e3 h0 h
    go_enter Tryd.func21, Tryd.ntmps21
    go_wp2_with (fail)
    go_ret
    exact ⟨rfl, Below.refl _ _⟩
  · have HN := Lib.hid h0
    have hz0 : ((re == 0) = true ∧ (im == 0) = false) ∨ (re == 0) = false := by
      by_cases h1 : re = 0
      · left
        exact ⟨by rw [h1]; rfl, by simpa using fun h2 => h0 ⟨h1, h2⟩⟩
      · right
        simpa using h1
    clear h0 h
    rcases hz0 with ⟨e1, e2⟩ | e1
    all_goals
      go_enter Tryd.func21, Tryd.ntmps21
      go_wp2_with (fail)
      obtain ⟨zb, hzb⟩ : ∃ b, b = w.heap.size := ⟨_, rfl⟩
      obtain ⟨wf, hwf⟩ : ∃ W, W = w.alloc (.cells #[.int .i64 re, .int .i64 im] 24) := ⟨_, rfl⟩
      rw [← hwf, ← hzb]
      have HW : Hid (wf.heap[zb]? = some (.cells (pairV re im) 24 (0, 0)) ∧ Below w.heap.size w wf ∧ zb = w.heap.size) := ⟨by rw [hwf, hzb]; exact heap_alloc_new w _, by rw [hwf]; exact (Below.refl _ w).alloc (Nat.le_refl _) _, hzb⟩
      clear hwf hzb
      go_loopw [6] (SideRel w.heap.size zb re im w) (fun v _ => 4 - (intOf v).toNat)
      case atStart => exact ⟨0, by omega, rfl, HW.out.1, HW.out.2.1, fun j hj => by omega⟩
      case round =>
        obtain ⟨k, hk, rfl, hz, hB, hno⟩ := hrel
        obtain ⟨x, hx⟩ : ∃ x, x = (backN re im k).1 := ⟨_, rfl⟩
        obtain ⟨y, hy⟩ : ∃ x, x = (backN re im k).2 := ⟨_, rfl⟩
        rw [← hx, ← hy] at hz
        have d0 : wr.cell? ⟨zb, 0, none⟩ = some (.int .i64 x) := by rw [cell_of_row _ _ _ _ _ _ hz]; rfl
        have d1 : wr.cell? ⟨zb, 1, none⟩ = some (.int .i64 y) := by rw [cell_of_row _ _ _ _ _ _ hz]; rfl
        have hxy : InP x y := by rw [hx, hy]; exact backN_bd re im HIN.out k (by omega)
        have HR := Lib.hid (And.intro hz (And.intro hB (And.intro hno (And.intro hx (And.intro hy hxy)))))
        by_cases hlt : k < 4
        · have hlt' : (k : Int) < 4 := by omega
          unfold InP at hxy
          have hw1 : IntKind.i64.wrap (-x) = -x := IntWalk.i64_in _ (by omega)
          by_cases hf : faces (x, y) = true
          · have hf2 := hf
            simp only [faces, decide_eq_true_eq] at hf2
            obtain ⟨f1, f2, f3⟩ := hf2
            have HF : Hid (sideP re im = (k : Int)) := side_first re im HN.out k hlt hno (by rw [show backN re im k = (x, y) from by rw [hx, hy]]; exact hf)
            clear hz hB hno hx hy hxy hlt hf
            go_wp2_with (fail)
            go_ret
            rw [HF.out]
            exact ⟨rfl, HR.out.2.1⟩
          · have hcase : ¬ 0 < x ∨ (0 < x ∧ ¬ -x ≤ y) ∨ (0 < x ∧ -x ≤ y ∧ ¬ y < x) := by
              simp only [faces, decide_eq_true_eq] at hf
              omega
            have HF : Hid (faces (backN re im k) = false ∧ k < 4) := by
              refine ⟨?_, hlt⟩
              rw [show backN re im k = (x, y) from by rw [hx, hy]]
              simpa using hf
            clear hz hB hno hx hy hxy hlt hf
            rcases hcase with f1 | ⟨f1, f2⟩ | ⟨f1, f2, f3⟩
            all_goals
              go_wp2_with (fail)
              refine (grTimes_any wr x y 0 (-1) HR.out.2.2.2.2.2 (by unfold InP; omega)).mono ?_
              rintro e w3 ⟨rfl, hB3⟩
              obtain ⟨x2, hx2⟩ : ∃ v, v = x * 0 - y * -1 := ⟨_, rfl⟩
              obtain ⟨y2, hy2⟩ : ∃ v, v = x * -1 + y * 0 := ⟨_, rfl⟩
              rw [← hx2, ← hy2]
              have hz3 : w3.heap[zb]? = some (.cells (pairV x y) 24 (0, 0)) := (hB3.block _ (Array.getElem?_eq_some_iff.1 HR.out.1).1).trans HR.out.1
              have HZ : Hid (SideRel w.heap.size zb re im w (.int .i64 ((k : Int) + 1)) (w3.setRow zb (pairV x2 y2))) := by
                refine ⟨k + 1, by have := HF.out.2; omega, by go_num, ?_, ?_, ?_⟩
                · have e1 : (backN re im (k + 1)).1 = x2 := by rw [hx2, HR.out.2.2.2.1, HR.out.2.2.2.2.1]; rfl
                  have e2 : (backN re im (k + 1)).2 = y2 := by rw [hy2, HR.out.2.2.2.1, HR.out.2.2.2.2.1]; rfl
                  rw [e1, e2]
                  exact setRow_heap _ _ _ _ _ _ hz3
                · have h3 : Below w.heap.size w w3 := HR.out.2.1.trans (hB3.mono HR.out.2.1.size)
                  exact h3.trans ⟨rfl, rfl, rfl, by simp, fun i hi => setRow_other _ _ _ _ (by have := HW.out.2.2; omega)⟩
                · intro j hj
                  by_cases hjk : j < k
                  · exact HR.out.2.2.1 j hjk
                  · obtain rfl : j = k := by omega
                    exact HF.out.1
              have H3 := Lib.hid hz3
              clear hB3 hx2 hy2 hz3 d0 d1
              dsimp only
              go_step
              refine wpList_store_row rfl _ _ _ rfl zb (pairV x2 y2) rfl rfl 24 (pairV x y) H3.out pair_size rfl (pair_one _ _) ?_
              go_wp2_with (fail)
              exact ⟨HZ.out, by have := HF.out.2; simp [intOf]; omega⟩
        · exact (side_some re im HN.out fun j hj => hno j (by omega)).elim
end Go.Proofs.YtoelfjhejfgkiaaDoor
