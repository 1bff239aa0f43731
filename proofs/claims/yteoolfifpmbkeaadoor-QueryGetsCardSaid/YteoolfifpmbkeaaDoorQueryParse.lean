/-
  The contract of package query's Parse.
-/
import Derived.Test.YteoolfifpmbkeaaDoorQueryAsked
namespace Go.Proofs.YteoolfifpmbkeaaDoor
open Go Go.RowKit

/-- What Parse tells. -/
def parseQ (s : List (BitVec 8)) : QueryL × Bool := if (askedL s).rightB = true ∧ (askedL s).text = s then (askedL s, true) else (zeroQ, false)
theorem results_cell_row_tmp {P : Program} {fn : Func} {p u : Tmp} {ty : TypeId} (h : fn.results = #[.cell p ty, .tmp u]) (tmps : Array Value) (w : World) (g : Nat) (t : TypeId) (cs : Array Value) (fr : Nat × Nat) (d : TypeDesc)
    (hp : tmps.getD p undef = .pointer (some ⟨g, 0, none⟩)) (hg : w.heap[g]? = some (.cells cs t fr))
    (hu : P.underlying ty = some d) (hd : (match d with | .struct _ | .array _ _ => true | _ => false) = true) (hi : (P.info? ty).map (·.size) = some cs.size) :
    (results fn tmps).run P w = .ok (.tuple #[.agg cs, tmps.getD u undef]) w := by
  have hp' : tmps[p]?.getD undef = .pointer (some ⟨g, 0, none⟩) := by simpa using hp
  simp [results, h, hp', asAddr, run_loadVar_row w g t ty cs fr d hg hu hd hi]
/-- The result's row at w's end, a query's own row behind it. -/
def PQ (w : World) (xb : Nat) (x : QueryL) (w' : World) : Prop :=
  Below w.heap.size w w' ∧ w'.heap[w.heap.size]? = some (.cells zeroQ.cells 23 (0, 0)) ∧ w'.heap[xb]? = some (.cells x.cells 23 (0, 0)) ∧ w.heap.size < xb
theorem PQ.below {w w' w3 : World} {xb : Nat} {x : QueryL} (h : PQ w xb x w') (hB : Below w'.heap.size w' w3) : PQ w xb x w3 :=
  ⟨h.1.trans (hB.mono h.1.size), (hB.block _ (Array.getElem?_eq_some_iff.1 h.2.1).1).trans h.2.1, (hB.block _ (Array.getElem?_eq_some_iff.1 h.2.2.1).1).trans h.2.2.1, h.2.2.2⟩
theorem PQ.cell {w w' : World} {xb : Nat} {x : QueryL} (h : PQ w xb x w') (i : Nat) {v : Value} (hi : x.cells[i]? = some v) : w'.cell? ⟨xb, i, none⟩ = some v := by
  rw [cell_of_row _ _ _ _ _ _ h.2.2.1]
  exact hi
theorem PQ.fin {w w' : World} {xb : Nat} {x : QueryL} (h : PQ w xb x w') (cs : Array Value) : Below w.heap.size w (w'.setRow w.heap.size cs) ∧ (w'.setRow w.heap.size cs).heap[w.heap.size]? = some (.cells cs 23 (0, 0)) :=
  ⟨h.1.trans ⟨rfl, rfl, rfl, by simp [World.setRow], fun k hk => setRow_other _ _ _ _ (by omega)⟩, setRow_heap _ _ _ _ _ _ h.2.1⟩
set_option maxRecDepth 100000 in
set_option maxHeartbeats 2000000 in
theorem qparse_any (w : World) (s : List (BitVec 8)) (hl : s.length ≤ 1000000) (hI : QueryIn w) :
    Calls Tryd.prog 8 #[Sv s] w (Below0 w (.tuple #[.agg (parseQ s).1.cells, .bool (parseQ s).2])) := by
  obtain ⟨w0, hw0⟩ : ∃ W, W = w.alloc (.cells #[.int .i64 0, .int .i64 0, .int .i64 0, .int .i64 0, .int .i64 0, .int .i64 0] 23) := ⟨_, rfl⟩
  have H0 : Hid (Below w.heap.size w w0 ∧ w0.heap[w.heap.size]? = some (.cells zeroQ.cells 23 (0, 0))) := by
    rw [hw0]
    exact Lib.hid ⟨(Below.refl _ w).alloc (Nat.le_refl _) _, heap_alloc_new w _⟩
  have HA := Lib.hid (qasked_any w0 s hl (hI.below H0.out.1))
  obtain ⟨P, hP⟩ : ∃ P, P = Below0 w (.tuple #[.agg (parseQ s).1.cells, .bool (parseQ s).2]) := ⟨_, rfl⟩
  rw [← hP]
  have HP := Lib.hid hP
  obtain ⟨x, hx⟩ : ∃ x, x = askedL s := ⟨_, rfl⟩
  rw [← hx] at HA
  have HX : Hid (parseQ s = if x.rightB = true ∧ x.text = s then (x, true) else (zeroQ, false)) := by
    rw [hx]
    exact Lib.hid rfl
  obtain ⟨r, hr⟩ : ∃ r, r = x.rightB := ⟨_, rfl⟩
  have HRr : Hid (∀ w', Calls Tryd.prog 10 #[.agg x.cells] w' (Below0 w' (.bool r))) := by
    rw [hr]
    exact Lib.hid (fun w' => qright_any w' x)
  have HT : Hid (r = true → ∀ w', Below w.heap.size w w' → Calls Tryd.prog 11 #[.agg x.cells] w' (Below0 w' (Sv x.text))) :=
    Lib.hid (fun h w' hB => qtext_yes w' x (by rw [← hr, h]) (hI.below hB).1 (hI.below hB).2.2.2)
  have Hr := Lib.hid hr
  obtain ⟨T, hT⟩ : ∃ T, T = x.text := ⟨_, rfl⟩
  rw [← hT] at HT
  have HTe := Lib.hid hT
  clear hl hI hP hx hr hT
  obtain ⟨kind, size, slide, late, agg, k⟩ := x
  unfold QueryL.cells at HA HRr HT
  go_enter Tryd.func8, Tryd.ntmps8
  go_upto_region 1 with (fail)
  rw [← hw0]
  clear hw0
  go_wp2_with (fail)
  refine HA.out.mono ?_
  rintro e w2 ⟨rfl, hB2⟩
  obtain ⟨xb, hxb⟩ : ∃ x, x = w2.heap.size := ⟨_, rfl⟩
  have H2 : Hid (Below w.heap.size w w2 ∧ w2.heap[w.heap.size]? = some (.cells zeroQ.cells 23 (0, 0)) ∧ w.heap.size < w2.heap.size) := by
    have h2 := (hB2.block _ (Array.getElem?_eq_some_iff.1 H0.out.2).1).trans H0.out.2
    exact Lib.hid ⟨H0.out.1.trans (hB2.mono H0.out.1.size), h2, (Array.getElem?_eq_some_iff.1 h2).1⟩
  clear hB2
  dsimp only
  first
    | (refine wpList_store_row rfl _ _ _ rfl w2.heap.size (QueryL.mk kind size slide late agg k).cells rfl rfl 23 zeroQ.cells (heap_alloc_new w2 _) query_size rfl (query_one _) ?_)
    | (iterate 1 go_step
       refine wpList_store_row rfl _ _ _ rfl w2.heap.size (QueryL.mk kind size slide late agg k).cells rfl rfl 23 zeroQ.cells (heap_alloc_new w2 _) query_size rfl (query_one _) ?_)
    | (iterate 2 go_step
       refine wpList_store_row rfl _ _ _ rfl w2.heap.size (QueryL.mk kind size slide late agg k).cells rfl rfl 23 zeroQ.cells (heap_alloc_new w2 _) query_size rfl (query_one _) ?_)
    | (iterate 3 go_step
       refine wpList_store_row rfl _ _ _ rfl w2.heap.size (QueryL.mk kind size slide late agg k).cells rfl rfl 23 zeroQ.cells (heap_alloc_new w2 _) query_size rfl (query_one _) ?_)
    | (iterate 4 go_step
       refine wpList_store_row rfl _ _ _ rfl w2.heap.size (QueryL.mk kind size slide late agg k).cells rfl rfl 23 zeroQ.cells (heap_alloc_new w2 _) query_size rfl (query_one _) ?_)
    | (iterate 5 go_step
       refine wpList_store_row rfl _ _ _ rfl w2.heap.size (QueryL.mk kind size slide late agg k).cells rfl rfl 23 zeroQ.cells (heap_alloc_new w2 _) query_size rfl (query_one _) ?_)
    | (iterate 6 go_step
       refine wpList_store_row rfl _ _ _ rfl w2.heap.size (QueryL.mk kind size slide late agg k).cells rfl rfl 23 zeroQ.cells (heap_alloc_new w2 _) query_size rfl (query_one _) ?_)
    | (iterate 7 go_step
       refine wpList_store_row rfl _ _ _ rfl w2.heap.size (QueryL.mk kind size slide late agg k).cells rfl rfl 23 zeroQ.cells (heap_alloc_new w2 _) query_size rfl (query_one _) ?_)
    | (iterate 8 go_step
       refine wpList_store_row rfl _ _ _ rfl w2.heap.size (QueryL.mk kind size slide late agg k).cells rfl rfl 23 zeroQ.cells (heap_alloc_new w2 _) query_size rfl (query_one _) ?_)
    | (iterate 9 go_step
       refine wpList_store_row rfl _ _ _ rfl w2.heap.size (QueryL.mk kind size slide late agg k).cells rfl rfl 23 zeroQ.cells (heap_alloc_new w2 _) query_size rfl (query_one _) ?_)
  obtain ⟨w3, hw3⟩ : ∃ W, W = (w2.alloc (Obj.cells #[.int .i64 0, .int .i64 0, .int .i64 0, .int .i64 0, .int .i64 0, .int .i64 0] 23)).setRow w2.heap.size (QueryL.mk kind size slide late agg k).cells := ⟨_, rfl⟩
  rw [← hw3]
  have S3 : Hid (PQ w xb (QueryL.mk kind size slide late agg k) w3) := by
    have ha : Below w2.heap.size w2 (w2.alloc (Obj.cells #[.int .i64 0, .int .i64 0, .int .i64 0, .int .i64 0, .int .i64 0, .int .i64 0] 23)) := (Below.refl _ w2).alloc (Nat.le_refl _) _
    have hb2 : Below w2.heap.size w2 w3 := by
      rw [hw3]
      exact ha.trans ⟨rfl, rfl, rfl, by simp [World.setRow], fun i hi => setRow_other _ _ _ _ (by omega)⟩
    have h2 := H2.out
    refine Lib.hid ⟨h2.1.trans (hb2.mono h2.1.size), (hb2.block _ h2.2.2).trans h2.2.1, ?_, by omega⟩
    rw [hw3, hxb]
    exact setRow_heap _ _ _ _ _ _ (heap_alloc_new w2 _)
  rw [← hxb]
  clear hw3 hxb
  have d0 : w3.cell? ⟨xb, 0, none⟩ = _ := S3.out.cell 0 rfl
  have d1 : w3.cell? ⟨xb, 1, none⟩ = _ := S3.out.cell 1 rfl
  have d2 : w3.cell? ⟨xb, 2, none⟩ = _ := S3.out.cell 2 rfl
  have d3 : w3.cell? ⟨xb, 3, none⟩ = _ := S3.out.cell 3 rfl
  have d4 : w3.cell? ⟨xb, 4, none⟩ = _ := S3.out.cell 4 rfl
  have d5 : w3.cell? ⟨xb, 5, none⟩ = _ := S3.out.cell 5 rfl
  cases r with
  | false =>
    go_wp2_with (fail)
    refine (HRr.out _).mono ?_
    rintro e w4 ⟨rfl, hB⟩
    have S4 := Lib.hid (S3.out.below hB)
    clear hB d0 d1 d2 d3 d4 d5
    have HF : Hid (∀ wz, Below w.heap.size w wz → P (.returned (.tuple #[.agg zeroQ.cells, .bool false])) wz) := by
      refine Lib.hid (fun wz h => ?_)
      rw [HP.out, HX.out, if_neg (by rw [← Hr.out]; simp)]
      exact ⟨rfl, h⟩
    dsimp only
    go_upto_region 3 with (fail)
    refine wp_region_lit ?_
    first
      | (refine wpList_store_row rfl _ _ _ rfl w.heap.size zeroQ.cells rfl rfl 23 zeroQ.cells S4.out.2.1 query_size rfl (query_one _) ?_)
      | (iterate 1 go_step
         refine wpList_store_row rfl _ _ _ rfl w.heap.size zeroQ.cells rfl rfl 23 zeroQ.cells S4.out.2.1 query_size rfl (query_one _) ?_)
      | (iterate 2 go_step
         refine wpList_store_row rfl _ _ _ rfl w.heap.size zeroQ.cells rfl rfl 23 zeroQ.cells S4.out.2.1 query_size rfl (query_one _) ?_)
      | (iterate 3 go_step
         refine wpList_store_row rfl _ _ _ rfl w.heap.size zeroQ.cells rfl rfl 23 zeroQ.cells S4.out.2.1 query_size rfl (query_one _) ?_)
      | (iterate 4 go_step
         refine wpList_store_row rfl _ _ _ rfl w.heap.size zeroQ.cells rfl rfl 23 zeroQ.cells S4.out.2.1 query_size rfl (query_one _) ?_)
      | (iterate 5 go_step
         refine wpList_store_row rfl _ _ _ rfl w.heap.size zeroQ.cells rfl rfl 23 zeroQ.cells S4.out.2.1 query_size rfl (query_one _) ?_)
      | (iterate 6 go_step
         refine wpList_store_row rfl _ _ _ rfl w.heap.size zeroQ.cells rfl rfl 23 zeroQ.cells S4.out.2.1 query_size rfl (query_one _) ?_)
      | (iterate 7 go_step
         refine wpList_store_row rfl _ _ _ rfl w.heap.size zeroQ.cells rfl rfl 23 zeroQ.cells S4.out.2.1 query_size rfl (query_one _) ?_)
      | (iterate 8 go_step
         refine wpList_store_row rfl _ _ _ rfl w.heap.size zeroQ.cells rfl rfl 23 zeroQ.cells S4.out.2.1 query_size rfl (query_one _) ?_)
      | (iterate 9 go_step
         refine wpList_store_row rfl _ _ _ rfl w.heap.size zeroQ.cells rfl rfl 23 zeroQ.cells S4.out.2.1 query_size rfl (query_one _) ?_)
    have HZ := Lib.hid (S4.out.fin zeroQ.cells)
    obtain ⟨wz, hwz⟩ : ∃ W, W = w4.setRow w.heap.size zeroQ.cells := ⟨_, rfl⟩
    rw [← hwz] at HZ ⊢
    clear hwz
    go_wp2_with (fail)
    exact bodyPost_ret (v := .tuple #[.agg zeroQ.cells, .bool false]) ((results_cell_row_tmp (p := 2) (u := 3) (ty := 23) rfl _ _ w.heap.size 23 zeroQ.cells (0, 0) _ rfl HZ.out.2 Tryd.underlying23 rfl query_size).trans rfl) rfl (HF.out _ HZ.out.1)
  | true =>
    go_wp2_with (fail)
    refine (HRr.out _).mono ?_
    rintro e w4 ⟨rfl, hB⟩
    have S4 := Lib.hid (S3.out.below hB)
    clear hB d0 d1 d2 d3 d4 d5
    have d0 : w4.cell? ⟨xb, 0, none⟩ = _ := S4.out.cell 0 rfl
    have d1 : w4.cell? ⟨xb, 1, none⟩ = _ := S4.out.cell 1 rfl
    have d2 : w4.cell? ⟨xb, 2, none⟩ = _ := S4.out.cell 2 rfl
    have d3 : w4.cell? ⟨xb, 3, none⟩ = _ := S4.out.cell 3 rfl
    have d4 : w4.cell? ⟨xb, 4, none⟩ = _ := S4.out.cell 4 rfl
    have d5 : w4.cell? ⟨xb, 5, none⟩ = _ := S4.out.cell 5 rfl
    obtain ⟨q, hq⟩ : ∃ q, q = decide (T = s) := ⟨_, rfl⟩
    have hne : ∀ w, (binOp .neq 9 (Sv T) (Sv s)).run Tryd.prog w = .ok (.bool (!q)) w := fun w => by rw [hq]; exact run_neq_Sv w T s
    have Hq := Lib.hid hq
    clear hq
    cases q with
    | false =>
      have HF : Hid (∀ wz, Below w.heap.size w wz → P (.returned (.tuple #[.agg zeroQ.cells, .bool false])) wz) := by
        refine Lib.hid (fun wz h => ?_)
        have hTs : ¬ T = s := of_decide_eq_false Hq.out.symm
        rw [HP.out, HX.out, if_neg (fun h' => hTs (HTe.out.trans h'.2))]
        exact ⟨rfl, h⟩
      dsimp only
      go_wp2_with (fail)
      refine (HT.out (by trivial) _ S4.out.1).mono ?_
      rintro e w5 ⟨rfl, hB⟩
      have S5 := Lib.hid (S4.out.below hB)
      clear hB d0 d1 d2 d3 d4 d5
      dsimp only
      go_upto_region 3 with (fail)
      refine wp_region_lit ?_
      first
        | (refine wpList_store_row rfl _ _ _ rfl w.heap.size zeroQ.cells rfl rfl 23 zeroQ.cells S5.out.2.1 query_size rfl (query_one _) ?_)
        | (iterate 1 go_step
           refine wpList_store_row rfl _ _ _ rfl w.heap.size zeroQ.cells rfl rfl 23 zeroQ.cells S5.out.2.1 query_size rfl (query_one _) ?_)
        | (iterate 2 go_step
           refine wpList_store_row rfl _ _ _ rfl w.heap.size zeroQ.cells rfl rfl 23 zeroQ.cells S5.out.2.1 query_size rfl (query_one _) ?_)
        | (iterate 3 go_step
           refine wpList_store_row rfl _ _ _ rfl w.heap.size zeroQ.cells rfl rfl 23 zeroQ.cells S5.out.2.1 query_size rfl (query_one _) ?_)
        | (iterate 4 go_step
           refine wpList_store_row rfl _ _ _ rfl w.heap.size zeroQ.cells rfl rfl 23 zeroQ.cells S5.out.2.1 query_size rfl (query_one _) ?_)
        | (iterate 5 go_step
           refine wpList_store_row rfl _ _ _ rfl w.heap.size zeroQ.cells rfl rfl 23 zeroQ.cells S5.out.2.1 query_size rfl (query_one _) ?_)
        | (iterate 6 go_step
           refine wpList_store_row rfl _ _ _ rfl w.heap.size zeroQ.cells rfl rfl 23 zeroQ.cells S5.out.2.1 query_size rfl (query_one _) ?_)
        | (iterate 7 go_step
           refine wpList_store_row rfl _ _ _ rfl w.heap.size zeroQ.cells rfl rfl 23 zeroQ.cells S5.out.2.1 query_size rfl (query_one _) ?_)
        | (iterate 8 go_step
           refine wpList_store_row rfl _ _ _ rfl w.heap.size zeroQ.cells rfl rfl 23 zeroQ.cells S5.out.2.1 query_size rfl (query_one _) ?_)
        | (iterate 9 go_step
           refine wpList_store_row rfl _ _ _ rfl w.heap.size zeroQ.cells rfl rfl 23 zeroQ.cells S5.out.2.1 query_size rfl (query_one _) ?_)
      have HZ := Lib.hid (S5.out.fin zeroQ.cells)
      obtain ⟨wz, hwz⟩ : ∃ W, W = w5.setRow w.heap.size zeroQ.cells := ⟨_, rfl⟩
      rw [← hwz] at HZ ⊢
      clear hwz
      go_wp2_with (fail)
      exact bodyPost_ret (v := .tuple #[.agg zeroQ.cells, .bool false]) ((results_cell_row_tmp (p := 2) (u := 3) (ty := 23) rfl _ _ w.heap.size 23 zeroQ.cells (0, 0) _ rfl HZ.out.2 Tryd.underlying23 rfl query_size).trans rfl) rfl (HF.out _ HZ.out.1)
    | true =>
      have HF : Hid (∀ wz, Below w.heap.size w wz → P (.returned (.tuple #[.agg (QueryL.mk kind size slide late agg k).cells, .bool true])) wz) := by
        refine Lib.hid (fun wz h => ?_)
        have hTs : T = s := of_decide_eq_true Hq.out.symm
        rw [HP.out, HX.out, if_pos ⟨Hr.out.symm, HTe.out.symm.trans hTs⟩]
        exact ⟨rfl, h⟩
      dsimp only
      go_wp2_with (fail)
      refine (HT.out (by trivial) _ S4.out.1).mono ?_
      rintro e w5 ⟨rfl, hB⟩
      have S5 := Lib.hid (S4.out.below hB)
      clear hB d0 d1 d2 d3 d4 d5
      have d0 : w5.cell? ⟨xb, 0, none⟩ = _ := S5.out.cell 0 rfl
      have d1 : w5.cell? ⟨xb, 1, none⟩ = _ := S5.out.cell 1 rfl
      have d2 : w5.cell? ⟨xb, 2, none⟩ = _ := S5.out.cell 2 rfl
      have d3 : w5.cell? ⟨xb, 3, none⟩ = _ := S5.out.cell 3 rfl
      have d4 : w5.cell? ⟨xb, 4, none⟩ = _ := S5.out.cell 4 rfl
      have d5 : w5.cell? ⟨xb, 5, none⟩ = _ := S5.out.cell 5 rfl
      dsimp only
      go_upto_region 4 with (fail)
      refine wp_region_lit ?_
      first
        | (refine wpList_store_row rfl _ _ _ rfl w.heap.size (QueryL.mk kind size slide late agg k).cells rfl rfl 23 zeroQ.cells S5.out.2.1 query_size rfl (query_one _) ?_)
        | (iterate 1 go_step
           refine wpList_store_row rfl _ _ _ rfl w.heap.size (QueryL.mk kind size slide late agg k).cells rfl rfl 23 zeroQ.cells S5.out.2.1 query_size rfl (query_one _) ?_)
        | (iterate 2 go_step
           refine wpList_store_row rfl _ _ _ rfl w.heap.size (QueryL.mk kind size slide late agg k).cells rfl rfl 23 zeroQ.cells S5.out.2.1 query_size rfl (query_one _) ?_)
        | (iterate 3 go_step
           refine wpList_store_row rfl _ _ _ rfl w.heap.size (QueryL.mk kind size slide late agg k).cells rfl rfl 23 zeroQ.cells S5.out.2.1 query_size rfl (query_one _) ?_)
        | (iterate 4 go_step
           refine wpList_store_row rfl _ _ _ rfl w.heap.size (QueryL.mk kind size slide late agg k).cells rfl rfl 23 zeroQ.cells S5.out.2.1 query_size rfl (query_one _) ?_)
        | (iterate 5 go_step
           refine wpList_store_row rfl _ _ _ rfl w.heap.size (QueryL.mk kind size slide late agg k).cells rfl rfl 23 zeroQ.cells S5.out.2.1 query_size rfl (query_one _) ?_)
        | (iterate 6 go_step
           refine wpList_store_row rfl _ _ _ rfl w.heap.size (QueryL.mk kind size slide late agg k).cells rfl rfl 23 zeroQ.cells S5.out.2.1 query_size rfl (query_one _) ?_)
        | (iterate 7 go_step
           refine wpList_store_row rfl _ _ _ rfl w.heap.size (QueryL.mk kind size slide late agg k).cells rfl rfl 23 zeroQ.cells S5.out.2.1 query_size rfl (query_one _) ?_)
        | (iterate 8 go_step
           refine wpList_store_row rfl _ _ _ rfl w.heap.size (QueryL.mk kind size slide late agg k).cells rfl rfl 23 zeroQ.cells S5.out.2.1 query_size rfl (query_one _) ?_)
        | (iterate 9 go_step
           refine wpList_store_row rfl _ _ _ rfl w.heap.size (QueryL.mk kind size slide late agg k).cells rfl rfl 23 zeroQ.cells S5.out.2.1 query_size rfl (query_one _) ?_)
      have HZ := Lib.hid (S5.out.fin (QueryL.mk kind size slide late agg k).cells)
      obtain ⟨wz, hwz⟩ : ∃ W, W = w5.setRow w.heap.size (QueryL.mk kind size slide late agg k).cells := ⟨_, rfl⟩
      rw [← hwz] at HZ ⊢
      clear hwz
      go_wp2_with (fail)
      exact bodyPost_ret (v := .tuple #[.agg (QueryL.mk kind size slide late agg k).cells, .bool true]) ((results_cell_row_tmp (p := 2) (u := 3) (ty := 23) rfl _ _ w.heap.size 23 (QueryL.mk kind size slide late agg k).cells (0, 0) _ rfl HZ.out.2 Tryd.underlying23 rfl query_size).trans rfl) rfl (HF.out _ HZ.out.1)
end Go.Proofs.YteoolfifpmbkeaaDoor
