/-
  The contract of package query's asked: the query that a text is about.
-/
import Derived.Test.YteoolfifpmbkeaaDoorQueryFind
namespace Go.Proofs.YteoolfifpmbkeaaDoor
open Go Go.RowKit

/-- The query that a text is about. -/
def askedL (s : List (BitVec 8)) : QueryL :=
  let c1 := cutL s
  let c2 := cutL c1.2
  let c3 := if kindOf c1.1 = 2 then cutL c2.2 else ([], c2.2)
  let c4 := cutL c3.2
  let c5 := cutL c4.2
  let c6 := cutL c5.2
  ⟨kindOf c1.1, numL c2.1, if kindOf c1.1 = 2 then numL c3.1 else 0, numL c5.1, aggOf c6.1, if aggOf c6.1 = 6 then numL (cutL c6.2).1 else 0⟩
theorem query_size : (Tryd.prog.info? 23).map (·.size) = some 6 := by kernel_rfl
theorem query_one (q : QueryL) : q.cells.all (·.oneCell') = true := by
  rw [Array.all_eq_true']
  intro v hv
  simp only [QueryL.cells, List.mem_toArray, List.mem_cons, List.not_mem_nil, or_false] at hv
  rcases hv with rfl | rfl | rfl | rfl | rfl | rfl <;> rfl
/-- The text's rest, captured, lies behind w's end, and behind it the result's row. -/
def AskAt (w : World) (r : List (BitVec 8)) (w' : World) : Prop := Below w.heap.size w w' ∧ CutAt w' w.heap.size r ∧ w'.heap[w.heap.size + 1]? = some (.cells zeroQ.cells 23 (0, 0))
theorem AskAt.below {w w' w3 : World} {r : List (BitVec 8)} (h : AskAt w r w') (hB : Below w'.heap.size w' w3) : AskAt w r w3 :=
  ⟨h.1.trans (hB.mono h.1.size), (hB.block _ (Array.getElem?_eq_some_iff.1 h.2.1).1).trans h.2.1, (hB.block _ (Array.getElem?_eq_some_iff.1 h.2.2).1).trans h.2.2⟩
theorem AskAt.word {w w' w3 : World} {r r2 : List (BitVec 8)} (h : AskAt w r w') (hS : CutAt w3 w.heap.size r2) (hg : w'.grownBy w3 (some w.heap.size)) : AskAt w r2 w3 :=
  ⟨h.1.trans ⟨hg.os, hg.tape, hg.output, Nat.le_trans (Nat.le_refl _) hg.size, fun k hk => hg.block k (Nat.lt_of_lt_of_le hk h.1.size) (by simp; omega)⟩, hS, (hg.block _ (Array.getElem?_eq_some_iff.1 h.2.2).1 (by simp)).trans h.2.2⟩
def AskQ (w : World) (qb : Nat) (r : List (BitVec 8)) (q : QueryL) (w' : World) : Prop := AskAt w r w' ∧ w'.heap[qb]? = some (.cells q.cells 23 (0, 0)) ∧ w.heap.size + 1 < qb
theorem AskQ.below {w w' w3 : World} {qb : Nat} {r : List (BitVec 8)} {q : QueryL} (h : AskQ w qb r q w') (hB : Below w'.heap.size w' w3) : AskQ w qb r q w3 :=
  ⟨h.1.below hB, (hB.block _ (Array.getElem?_eq_some_iff.1 h.2.1).1).trans h.2.1, h.2.2⟩
theorem AskQ.word {w w' w3 : World} {qb : Nat} {r r2 : List (BitVec 8)} {q : QueryL} (h : AskQ w qb r q w') (hS : CutAt w3 w.heap.size r2) (hg : w'.grownBy w3 (some w.heap.size)) : AskQ w qb r2 q w3 :=
  ⟨h.1.word hS hg, (hg.block _ (Array.getElem?_eq_some_iff.1 h.2.1).1 (by have := h.2.2; simp; omega)).trans h.2.1, h.2.2⟩
theorem AskQ.cell {w w' : World} {qb : Nat} {r : List (BitVec 8)} {q : QueryL} (h : AskQ w qb r q w') (i : Nat) {v : Value} (hi : q.cells[i]? = some v) : w'.cell? ⟨qb, i, none⟩ = some v := by
  rw [cell_of_row _ _ _ _ _ _ h.2.1]
  exact hi
theorem AskQ.fro {w w' : World} {qb : Nat} {r : List (BitVec 8)} {q : QueryL} (h : AskQ w qb r q w') (i : Nat) : w'.frozen? ⟨qb, i, none⟩ = false := frozen_of_row _ _ _ _ _ h.2.1
theorem AskQ.set {w w' : World} {qb : Nat} {r : List (BitVec 8)} {q q2 : QueryL} (h : AskQ w qb r q w') (i : Nat) (v : Value) (hy : q2.cells = q.cells.setIfInBounds i v) : AskQ w qb r q2 (w'.setCell ⟨qb, i, none⟩ v) := by
  obtain ⟨⟨h1, h2, h3⟩, h4, h5⟩ := h
  refine ⟨⟨h1.trans ⟨rfl, rfl, rfl, by simp [World.setCell], fun k hk => heap_setCell_other _ _ _ _ (by show k ≠ qb; omega)⟩, (heap_setCell_other _ _ _ _ (by show w.heap.size ≠ qb; omega)).trans h2, (heap_setCell_other _ _ _ _ (by show w.heap.size + 1 ≠ qb; omega)).trans h3⟩, ?_, h5⟩
  rw [hy]
  exact heap_setCell_same _ _ _ _ _ _ h4
theorem AskQ.fin {w w' : World} {qb : Nat} {r : List (BitVec 8)} {q : QueryL} (h : AskQ w qb r q w') (cs : Array Value) :
    Below w.heap.size w (w'.setRow (w.heap.size + 1) cs) ∧ (w'.setRow (w.heap.size + 1) cs).heap[w.heap.size + 1]? = some (.cells cs 23 (0, 0)) :=
  ⟨h.1.1.trans ⟨rfl, rfl, rfl, by simp [World.setRow], fun k hk => setRow_other _ _ _ _ (by omega)⟩, setRow_heap _ _ _ _ _ _ h.1.2.2⟩
/-- What lies in a world that package query's texts ask for. -/
def QueryIn (w : World) : Prop := PowTab w ∧ ErrsIn w ∧ MaxIn w ∧ WordTabs w
theorem QueryIn.below {w w' : World} (h : QueryIn w) (hB : Below w.heap.size w w') : QueryIn w' := ⟨h.1.below hB, h.2.1.below hB, h.2.2.1.below hB, h.2.2.2.below hB⟩
theorem results_cell_row {P : Program} {fn : Func} {p : Tmp} {ty : TypeId} (h : fn.results = #[.cell p ty]) (tmps : Array Value) (w : World) (g : Nat) (t : TypeId) (cs : Array Value) (fr : Nat × Nat) (d : TypeDesc)
    (hp : tmps.getD p undef = .pointer (some ⟨g, 0, none⟩)) (hg : w.heap[g]? = some (.cells cs t fr))
    (hu : P.underlying ty = some d) (hd : (match d with | .struct _ | .array _ _ => true | _ => false) = true) (hi : (P.info? ty).map (·.size) = some cs.size) :
    (results fn tmps).run P w = .ok (.agg cs) w := by
  have hp' : tmps[p]?.getD undef = .pointer (some ⟨g, 0, none⟩) := by simpa using hp
  simp [results, h, hp', asAddr, run_loadVar_row w g t ty cs fr d hg hu hd hi]
set_option maxRecDepth 100000 in
set_option maxHeartbeats 4000000 in
theorem qasked_any (w : World) (r0 : List (BitVec 8)) (hl : r0.length ≤ 1000000) (hI : QueryIn w) :
    Calls Tryd.prog 22 #[Sv r0] w (Below0 w (.agg (askedL r0).cells)) := by
  obtain ⟨w0, hw0⟩ : ∃ W, W = (w.alloc (.cells #[Sv r0] 9)).alloc (.cells #[.int .i64 0, .int .i64 0, .int .i64 0, .int .i64 0, .int .i64 0, .int .i64 0] 23) := ⟨_, rfl⟩
  have H0 : Hid (AskAt w r0 w0) := by
    rw [hw0]
    have h1 : Below w.heap.size w (w.alloc (.cells #[Sv r0] 9)) := (Below.refl _ w).alloc (Nat.le_refl _) _
    have hs : (w.alloc (.cells #[Sv r0] 9)).heap.size = w.heap.size + 1 := by simp
    have h2 : Below (w.alloc (.cells #[Sv r0] 9)).heap.size (w.alloc (.cells #[Sv r0] 9)) ((w.alloc (.cells #[Sv r0] 9)).alloc (.cells #[.int .i64 0, .int .i64 0, .int .i64 0, .int .i64 0, .int .i64 0, .int .i64 0] 23)) := (Below.refl _ _).alloc (Nat.le_refl _) _
    refine Lib.hid ⟨h1.trans (h2.mono h1.size), (h2.block _ (by omega)).trans (heap_alloc_new w _), ?_⟩
    rw [← hs]
    exact heap_alloc_new _ _
  have HWd : Hid (∀ w' r, AskAt w r w' → r.length ≤ 1000000 → Calls Tryd.prog 37 #[.pointer (some ⟨w.heap.size, 0, none⟩)] w' fun e w'' => e = .returned (Sv (cutL r).1) ∧ CutAt w'' w.heap.size (cutL r).2 ∧ w'.grownBy w'' (some w.heap.size)) :=
    Lib.hid (fun w' r h hr => qword_any w' w.heap.size r hr (hI.2.2.1.below h.1) h.2.1)
  by_cases h2 : kindOf (cutL r0).1 = 2
  · obtain ⟨a1, ha1⟩ : ∃ a, a = (cutL r0).1 := ⟨_, rfl⟩
    obtain ⟨r1, hr1⟩ : ∃ r, r = (cutL r0).2 := ⟨_, rfl⟩
    have q1 := cutL_len r0
    rw [← ha1, ← hr1] at q1
    obtain ⟨a2, ha2⟩ : ∃ a, a = (cutL r1).1 := ⟨_, rfl⟩
    obtain ⟨r2, hr2⟩ : ∃ r, r = (cutL r1).2 := ⟨_, rfl⟩
    have q2 := cutL_len r1
    rw [← ha2, ← hr2] at q2
    obtain ⟨a3, ha3⟩ : ∃ a, a = (cutL r2).1 := ⟨_, rfl⟩
    obtain ⟨r3, hr3⟩ : ∃ r, r = (cutL r2).2 := ⟨_, rfl⟩
    have q3 := cutL_len r2
    rw [← ha3, ← hr3] at q3
    obtain ⟨a4, ha4⟩ : ∃ a, a = (cutL r3).1 := ⟨_, rfl⟩
    obtain ⟨r4, hr4⟩ : ∃ r, r = (cutL r3).2 := ⟨_, rfl⟩
    have q4 := cutL_len r3
    rw [← ha4, ← hr4] at q4
    obtain ⟨a5, ha5⟩ : ∃ a, a = (cutL r4).1 := ⟨_, rfl⟩
    obtain ⟨r5, hr5⟩ : ∃ r, r = (cutL r4).2 := ⟨_, rfl⟩
    have q5 := cutL_len r4
    rw [← ha5, ← hr5] at q5
    obtain ⟨a6, ha6⟩ : ∃ a, a = (cutL r5).1 := ⟨_, rfl⟩
    obtain ⟨r6, hr6⟩ : ∃ r, r = (cutL r5).2 := ⟨_, rfl⟩
    have q6 := cutL_len r5
    rw [← ha6, ← hr6] at q6
    obtain ⟨kd, hkd⟩ : ∃ x, x = kindOf a1 := ⟨_, rfl⟩
    obtain ⟨sz, hsz⟩ : ∃ x, x = numL a2 := ⟨_, rfl⟩
    obtain ⟨sl, hsl⟩ : ∃ x, x = numL a3 := ⟨_, rfl⟩
    obtain ⟨lt, hlt⟩ : ∃ x, x = numL a5 := ⟨_, rfl⟩
    obtain ⟨ag, hag⟩ : ∃ x, x = aggOf a6 := ⟨_, rfl⟩
    by_cases h6 : ag = 6
    · obtain ⟨a7, ha7⟩ : ∃ a, a = (cutL r6).1 := ⟨_, rfl⟩
      obtain ⟨r7, hr7⟩ : ∃ r, r = (cutL r6).2 := ⟨_, rfl⟩
      have q7 := cutL_len r6
      rw [← ha7, ← hr7] at q7
      obtain ⟨kk, hkk⟩ : ∃ x, x = numL a7 := ⟨_, rfl⟩
      have HA : askedL r0 = ⟨kd, sz, sl, lt, ag, kk⟩ := by
        subst hkk hag hlt hsl hsz hkd ha7 hr7 ha6 hr6 ha5 hr5 ha4 hr4 ha3 hr3 ha2 hr2 ha1 hr1
        simp [askedL, h2, h6]
      rw [HA]
      have HR : Hid ((a1 = (cutL r0).1 ∧ r1 = (cutL r0).2) ∧ (a2 = (cutL r1).1 ∧ r2 = (cutL r1).2) ∧ (a3 = (cutL r2).1 ∧ r3 = (cutL r2).2) ∧ (a4 = (cutL r3).1 ∧ r4 = (cutL r3).2) ∧ (a5 = (cutL r4).1 ∧ r5 = (cutL r4).2) ∧ (a6 = (cutL r5).1 ∧ r6 = (cutL r5).2) ∧ (a7 = (cutL r6).1 ∧ r7 = (cutL r6).2) ∧ True) := Lib.hid ⟨⟨ha1, hr1⟩, ⟨ha2, hr2⟩, ⟨ha3, hr3⟩, ⟨ha4, hr4⟩, ⟨ha5, hr5⟩, ⟨ha6, hr6⟩, ⟨ha7, hr7⟩, trivial⟩
      have HLn : Hid (r0.length ≤ 1000000 ∧ r1.length ≤ 1000000 ∧ r2.length ≤ 1000000 ∧ r3.length ≤ 1000000 ∧ r4.length ≤ 1000000 ∧ r5.length ≤ 1000000 ∧ r6.length ≤ 1000000 ∧ r7.length ≤ 1000000 ∧ True) := by
        exact Lib.hid ⟨by omega, by omega, by omega, by omega, by omega, by omega, by omega, by omega, trivial⟩
      have HNm : Hid ((∀ w', Below w.heap.size w w' → Calls Tryd.prog 40 #[Sv a2] w' (Below0 w' (.int .i64 sz))) ∧ (∀ w', Below w.heap.size w w' → Calls Tryd.prog 40 #[Sv a3] w' (Below0 w' (.int .i64 sl))) ∧ (∀ w', Below w.heap.size w w' → Calls Tryd.prog 40 #[Sv a5] w' (Below0 w' (.int .i64 lt))) ∧ (∀ w', Below w.heap.size w w' → Calls Tryd.prog 40 #[Sv a7] w' (Below0 w' (.int .i64 kk)))) := by
        exact Lib.hid ⟨fun w' h => by rw [hsz]; exact qnumber_any w' a2 (by omega) (hI.2.1.below h), fun w' h => by rw [hsl]; exact qnumber_any w' a3 (by omega) (hI.2.1.below h), fun w' h => by rw [hlt]; exact qnumber_any w' a5 (by omega) (hI.2.1.below h), fun w' h => by rw [hkk]; exact qnumber_any w' a7 (by omega) (hI.2.1.below h)⟩
      have HKd : Hid (∀ w', Below w.heap.size w w' → Calls Tryd.prog 39 #[Sv a1] w' fun e w'' => e = .returned (.int .i64 kd) ∧ w'' = w') := by
        rw [hkd]
        exact Lib.hid (fun w' h => qkind_any w' a1 (hI.2.2.2.below h))
      have HAg : Hid (∀ w', Below w.heap.size w w' → Calls Tryd.prog 41 #[Sv a6] w' fun e w'' => e = .returned (.int .i64 ag) ∧ w'' = w') := by
        rw [hag]
        exact Lib.hid (fun w' h => qagg_any w' a6 (hI.2.2.2.below h))
      have e2 : (kd == 2) = true := by
        have : kd = 2 := by rw [hkd, ha1]; exact h2
        simpa using this
      have e6 : (ag == 6) = true := by simpa using h6
      clear HA hl hI h2 h6 ha1 hr1 q1 ha2 hr2 q2 ha3 hr3 q3 ha4 hr4 q4 ha5 hr5 q5 ha6 hr6 q6 ha7 hr7 q7 hkd hsz hsl hlt hag hkk
      go_enter Tryd.func22, Tryd.ntmps22
      go_upto_region 1 with (fail)
      refine Eq.mp (congrArg (fun W => Code.wp _ _ _ _ W) hw0) ?_
      clear hw0
      have hmf : ∀ (fn : Fn) (first cap : Array Value) (w : World), (Instr.makeFunc fn first cap).run Tryd.prog w = .ok (.func fn first cap) w := fun _ _ _ _ => rfl
      go_wp2_with (fail)
      refine (HWd.out w0 r0 H0.out HLn.out.1).mono ?_
      rintro e w1 ⟨rfl, hs, hg⟩
      rw [← HR.out.1.2] at hs
      rw [← HR.out.1.1]
      have H1 := Lib.hid (H0.out.word hs hg)
      clear hs hg
      dsimp only
      go_wp2_with (fail)
      refine (HKd.out w1 H1.out.1).mono ?_
      rintro e w' ⟨rfl, hw⟩
      subst w'
      dsimp only
      go_wp2_with (fail)
      refine (HWd.out w1 r1 H1.out HLn.out.2.1).mono ?_
      rintro e w2 ⟨rfl, hs, hg⟩
      rw [← HR.out.2.1.2] at hs
      rw [← HR.out.2.1.1]
      have H2 := Lib.hid (H1.out.word hs hg)
      clear hs hg
      dsimp only
      go_wp2_with (fail)
      refine (HNm.out.1 w2 H2.out.1).mono ?_
      rintro e w3 ⟨rfl, hB⟩
      have H3 := Lib.hid (H2.out.below hB)
      clear hB
      dsimp only
      have hbuilt : Tryd.prog.built 23 [(0, .int .i64 kd), (1, .int .i64 sz)] = some #[.int .i64 kd, .int .i64 sz, .int .i64 0, .int .i64 0, .int .i64 0, .int .i64 0] := by kernel_rfl
      first
        | (refine wpList_store_row rfl _ _ _ rfl w3.heap.size (QueryL.mk kd sz 0 0 0 0).cells rfl rfl 23 zeroQ.cells (heap_alloc_new w3 _) query_size rfl (query_one _) ?_)
        | (iterate 1 go_step
           refine wpList_store_row rfl _ _ _ rfl w3.heap.size (QueryL.mk kd sz 0 0 0 0).cells rfl rfl 23 zeroQ.cells (heap_alloc_new w3 _) query_size rfl (query_one _) ?_)
        | (iterate 2 go_step
           refine wpList_store_row rfl _ _ _ rfl w3.heap.size (QueryL.mk kd sz 0 0 0 0).cells rfl rfl 23 zeroQ.cells (heap_alloc_new w3 _) query_size rfl (query_one _) ?_)
        | (iterate 3 go_step
           refine wpList_store_row rfl _ _ _ rfl w3.heap.size (QueryL.mk kd sz 0 0 0 0).cells rfl rfl 23 zeroQ.cells (heap_alloc_new w3 _) query_size rfl (query_one _) ?_)
        | (iterate 4 go_step
           refine wpList_store_row rfl _ _ _ rfl w3.heap.size (QueryL.mk kd sz 0 0 0 0).cells rfl rfl 23 zeroQ.cells (heap_alloc_new w3 _) query_size rfl (query_one _) ?_)
        | (iterate 5 go_step
           refine wpList_store_row rfl _ _ _ rfl w3.heap.size (QueryL.mk kd sz 0 0 0 0).cells rfl rfl 23 zeroQ.cells (heap_alloc_new w3 _) query_size rfl (query_one _) ?_)
        | (iterate 6 go_step
           refine wpList_store_row rfl _ _ _ rfl w3.heap.size (QueryL.mk kd sz 0 0 0 0).cells rfl rfl 23 zeroQ.cells (heap_alloc_new w3 _) query_size rfl (query_one _) ?_)
        | (iterate 7 go_step
           refine wpList_store_row rfl _ _ _ rfl w3.heap.size (QueryL.mk kd sz 0 0 0 0).cells rfl rfl 23 zeroQ.cells (heap_alloc_new w3 _) query_size rfl (query_one _) ?_)
        | (iterate 8 go_step
           refine wpList_store_row rfl _ _ _ rfl w3.heap.size (QueryL.mk kd sz 0 0 0 0).cells rfl rfl 23 zeroQ.cells (heap_alloc_new w3 _) query_size rfl (query_one _) ?_)
        | (iterate 9 go_step
           refine wpList_store_row rfl _ _ _ rfl w3.heap.size (QueryL.mk kd sz 0 0 0 0).cells rfl rfl 23 zeroQ.cells (heap_alloc_new w3 _) query_size rfl (query_one _) ?_)
      clear hbuilt
      obtain ⟨qb, hqb⟩ : ∃ x, x = w3.heap.size := ⟨_, rfl⟩
      obtain ⟨w4, hw⟩ : ∃ W, W = (w3.alloc (Obj.cells #[.int .i64 0, .int .i64 0, .int .i64 0, .int .i64 0, .int .i64 0, .int .i64 0] 23)).setRow w3.heap.size (QueryL.mk kd sz 0 0 0 0).cells := ⟨_, rfl⟩
      rw [← hw, ← hqb]
      have H4 : Hid (AskQ w qb r2 ⟨kd, sz, 0, 0, 0, 0⟩ w4) := by
        have ha : Below w3.heap.size w3 (w3.alloc (Obj.cells #[.int .i64 0, .int .i64 0, .int .i64 0, .int .i64 0, .int .i64 0, .int .i64 0] 23)) := (Below.refl _ w3).alloc (Nat.le_refl _) _
        have hb : Below w3.heap.size w3 w4 := by
          rw [hw]
          exact ha.trans ⟨rfl, rfl, rfl, by simp [World.setRow], fun i hi => setRow_other _ _ _ _ (by omega)⟩
        have h3 := (Array.getElem?_eq_some_iff.1 H3.out.2.2).1
        refine Lib.hid ⟨H3.out.below hb, ?_, by omega⟩
        rw [hw, hqb]
        exact setRow_heap _ _ _ _ _ _ (heap_alloc_new w3 _)
      clear hw hqb
      have d0 : w4.cell? ⟨qb, 0, none⟩ = some (.int .i64 kd) := H4.out.cell 0 rfl
      go_wp2_with (fail)
      refine (HWd.out w4 r2 H4.out.1 HLn.out.2.2.1).mono ?_
      rintro e w5 ⟨rfl, hs, hg⟩
      rw [← HR.out.2.2.1.2] at hs
      rw [← HR.out.2.2.1.1]
      have H5 := Lib.hid (H4.out.word hs hg)
      clear hs hg
      dsimp only
      clear d0
      go_wp2_with (fail)
      refine (HNm.out.2.1 w5 H5.out.1.1).mono ?_
      rintro e w6 ⟨rfl, hB⟩
      have H6 := Lib.hid (H5.out.below hB)
      clear hB
      dsimp only
      have f := H6.out.fro 2
      have g : w6.cell? ⟨qb, 2, none⟩ = _ := H6.out.cell 2 rfl
      go_upto_region 5 with (fail)
      clear f g
      obtain ⟨w7, hw⟩ : ∃ W, W = w6.setCell ⟨qb, 2, none⟩ (.int .i64 sl) := ⟨_, rfl⟩
      rw [← hw]
      have H7 : Hid (AskQ w qb r3 ⟨kd, sz, sl, 0, 0, 0⟩ w7) := by rw [hw]; exact Lib.hid (H6.out.set 2 _ rfl)
      clear hw
      go_wp2_with (fail)
      refine (HWd.out w7 r3 H7.out.1 HLn.out.2.2.2.1).mono ?_
      rintro e w8 ⟨rfl, hs, hg⟩
      rw [← HR.out.2.2.2.1.2] at hs
      rw [← HR.out.2.2.2.1.1]
      have H8 := Lib.hid (H7.out.word hs hg)
      clear hs hg
      dsimp only
      go_wp2_with (fail)
      refine (HWd.out w8 r4 H8.out.1 HLn.out.2.2.2.2.1).mono ?_
      rintro e w9 ⟨rfl, hs, hg⟩
      rw [← HR.out.2.2.2.2.1.2] at hs
      rw [← HR.out.2.2.2.2.1.1]
      have H9 := Lib.hid (H8.out.word hs hg)
      clear hs hg
      dsimp only
      go_wp2_with (fail)
      refine (HNm.out.2.2.1 w9 H9.out.1.1).mono ?_
      rintro e w10 ⟨rfl, hB⟩
      have H10 := Lib.hid (H9.out.below hB)
      clear hB
      dsimp only
      have f := H10.out.fro 3
      have g : w10.cell? ⟨qb, 3, none⟩ = _ := H10.out.cell 3 rfl
      go_upto_region 7 with (fail)
      clear f g
      obtain ⟨w11, hw⟩ : ∃ W, W = w10.setCell ⟨qb, 3, none⟩ (.int .i64 lt) := ⟨_, rfl⟩
      rw [← hw]
      have H11 : Hid (AskQ w qb r5 ⟨kd, sz, sl, lt, 0, 0⟩ w11) := by rw [hw]; exact Lib.hid (H10.out.set 3 _ rfl)
      clear hw
      go_wp2_with (fail)
      refine (HWd.out w11 r5 H11.out.1 HLn.out.2.2.2.2.2.1).mono ?_
      rintro e w12 ⟨rfl, hs, hg⟩
      rw [← HR.out.2.2.2.2.2.1.2] at hs
      rw [← HR.out.2.2.2.2.2.1.1]
      have H12 := Lib.hid (H11.out.word hs hg)
      clear hs hg
      dsimp only
      go_wp2_with (fail)
      refine (HAg.out w12 H12.out.1.1).mono ?_
      rintro e w' ⟨rfl, hw⟩
      subst w'
      dsimp only
      have f := H12.out.fro 4
      have g : w12.cell? ⟨qb, 4, none⟩ = _ := H12.out.cell 4 rfl
      go_upto_region 8 with (fail)
      clear f g
      obtain ⟨w13, hw⟩ : ∃ W, W = w12.setCell ⟨qb, 4, none⟩ (.int .i64 ag) := ⟨_, rfl⟩
      rw [← hw]
      have H13 : Hid (AskQ w qb r6 ⟨kd, sz, sl, lt, ag, 0⟩ w13) := by rw [hw]; exact Lib.hid (H12.out.set 4 _ rfl)
      clear hw
      have d4 : w13.cell? ⟨qb, 4, none⟩ = some (.int .i64 ag) := H13.out.cell 4 rfl
      go_wp2_with (fail)
      refine (HWd.out w13 r6 H13.out.1 HLn.out.2.2.2.2.2.2.1).mono ?_
      rintro e w14 ⟨rfl, hs, hg⟩
      rw [← HR.out.2.2.2.2.2.2.1.2] at hs
      rw [← HR.out.2.2.2.2.2.2.1.1]
      have H14 := Lib.hid (H13.out.word hs hg)
      clear hs hg
      dsimp only
      clear d4
      go_wp2_with (fail)
      refine (HNm.out.2.2.2 w14 H14.out.1.1).mono ?_
      rintro e w15 ⟨rfl, hB⟩
      have H15 := Lib.hid (H14.out.below hB)
      clear hB
      dsimp only
      have f := H15.out.fro 5
      have g : w15.cell? ⟨qb, 5, none⟩ = _ := H15.out.cell 5 rfl
      go_upto_region 10 with (fail)
      clear f g
      obtain ⟨w16, hw⟩ : ∃ W, W = w15.setCell ⟨qb, 5, none⟩ (.int .i64 kk) := ⟨_, rfl⟩
      rw [← hw]
      have H16 : Hid (AskQ w qb r7 ⟨kd, sz, sl, lt, ag, kk⟩ w16) := by rw [hw]; exact Lib.hid (H15.out.set 5 _ rfl)
      clear hw
      have d0 : w16.cell? ⟨qb, 0, none⟩ = _ := H16.out.cell 0 rfl
      have d1 : w16.cell? ⟨qb, 1, none⟩ = _ := H16.out.cell 1 rfl
      have d2 : w16.cell? ⟨qb, 2, none⟩ = _ := H16.out.cell 2 rfl
      have d3 : w16.cell? ⟨qb, 3, none⟩ = _ := H16.out.cell 3 rfl
      have d4 : w16.cell? ⟨qb, 4, none⟩ = _ := H16.out.cell 4 rfl
      have d5 : w16.cell? ⟨qb, 5, none⟩ = _ := H16.out.cell 5 rfl
      refine wp_region_lit ?_
      first
        | (refine wpList_store_row rfl _ _ _ rfl (w.heap.size + 1) (QueryL.mk kd sz sl lt ag kk).cells rfl rfl 23 zeroQ.cells H16.out.1.2.2 query_size rfl (query_one _) ?_)
        | (iterate 1 go_step
           refine wpList_store_row rfl _ _ _ rfl (w.heap.size + 1) (QueryL.mk kd sz sl lt ag kk).cells rfl rfl 23 zeroQ.cells H16.out.1.2.2 query_size rfl (query_one _) ?_)
        | (iterate 2 go_step
           refine wpList_store_row rfl _ _ _ rfl (w.heap.size + 1) (QueryL.mk kd sz sl lt ag kk).cells rfl rfl 23 zeroQ.cells H16.out.1.2.2 query_size rfl (query_one _) ?_)
        | (iterate 3 go_step
           refine wpList_store_row rfl _ _ _ rfl (w.heap.size + 1) (QueryL.mk kd sz sl lt ag kk).cells rfl rfl 23 zeroQ.cells H16.out.1.2.2 query_size rfl (query_one _) ?_)
        | (iterate 4 go_step
           refine wpList_store_row rfl _ _ _ rfl (w.heap.size + 1) (QueryL.mk kd sz sl lt ag kk).cells rfl rfl 23 zeroQ.cells H16.out.1.2.2 query_size rfl (query_one _) ?_)
        | (iterate 5 go_step
           refine wpList_store_row rfl _ _ _ rfl (w.heap.size + 1) (QueryL.mk kd sz sl lt ag kk).cells rfl rfl 23 zeroQ.cells H16.out.1.2.2 query_size rfl (query_one _) ?_)
        | (iterate 6 go_step
           refine wpList_store_row rfl _ _ _ rfl (w.heap.size + 1) (QueryL.mk kd sz sl lt ag kk).cells rfl rfl 23 zeroQ.cells H16.out.1.2.2 query_size rfl (query_one _) ?_)
        | (iterate 7 go_step
           refine wpList_store_row rfl _ _ _ rfl (w.heap.size + 1) (QueryL.mk kd sz sl lt ag kk).cells rfl rfl 23 zeroQ.cells H16.out.1.2.2 query_size rfl (query_one _) ?_)
        | (iterate 8 go_step
           refine wpList_store_row rfl _ _ _ rfl (w.heap.size + 1) (QueryL.mk kd sz sl lt ag kk).cells rfl rfl 23 zeroQ.cells H16.out.1.2.2 query_size rfl (query_one _) ?_)
        | (iterate 9 go_step
           refine wpList_store_row rfl _ _ _ rfl (w.heap.size + 1) (QueryL.mk kd sz sl lt ag kk).cells rfl rfl 23 zeroQ.cells H16.out.1.2.2 query_size rfl (query_one _) ?_)
      have HZ := Lib.hid (H16.out.fin (QueryL.mk kd sz sl lt ag kk).cells)
      obtain ⟨wz, hwz⟩ : ∃ W, W = w16.setRow (w.heap.size + 1) (QueryL.mk kd sz sl lt ag kk).cells := ⟨_, rfl⟩
      rw [← hwz] at HZ ⊢
      clear hwz d0 d1 d2 d3 d4 d5
      go_wp2_with (fail)
      exact bodyPost_ret (v := .agg (QueryL.mk kd sz sl lt ag kk).cells) (results_cell_row (p := 2) (ty := 23) rfl _ _ (w.heap.size + 1) 23 _ (0, 0) _ rfl HZ.out.2 Tryd.underlying23 rfl query_size) rfl ⟨rfl, HZ.out.1⟩
    · have HA : askedL r0 = ⟨kd, sz, sl, lt, ag, 0⟩ := by
        subst hag hlt hsl hsz hkd ha6 hr6 ha5 hr5 ha4 hr4 ha3 hr3 ha2 hr2 ha1 hr1
        simp [askedL, h2, h6]
      rw [HA]
      have HR : Hid ((a1 = (cutL r0).1 ∧ r1 = (cutL r0).2) ∧ (a2 = (cutL r1).1 ∧ r2 = (cutL r1).2) ∧ (a3 = (cutL r2).1 ∧ r3 = (cutL r2).2) ∧ (a4 = (cutL r3).1 ∧ r4 = (cutL r3).2) ∧ (a5 = (cutL r4).1 ∧ r5 = (cutL r4).2) ∧ (a6 = (cutL r5).1 ∧ r6 = (cutL r5).2) ∧ True) := Lib.hid ⟨⟨ha1, hr1⟩, ⟨ha2, hr2⟩, ⟨ha3, hr3⟩, ⟨ha4, hr4⟩, ⟨ha5, hr5⟩, ⟨ha6, hr6⟩, trivial⟩
      have HLn : Hid (r0.length ≤ 1000000 ∧ r1.length ≤ 1000000 ∧ r2.length ≤ 1000000 ∧ r3.length ≤ 1000000 ∧ r4.length ≤ 1000000 ∧ r5.length ≤ 1000000 ∧ r6.length ≤ 1000000 ∧ True) := by
        exact Lib.hid ⟨by omega, by omega, by omega, by omega, by omega, by omega, by omega, trivial⟩
      have HNm : Hid ((∀ w', Below w.heap.size w w' → Calls Tryd.prog 40 #[Sv a2] w' (Below0 w' (.int .i64 sz))) ∧ (∀ w', Below w.heap.size w w' → Calls Tryd.prog 40 #[Sv a3] w' (Below0 w' (.int .i64 sl))) ∧ (∀ w', Below w.heap.size w w' → Calls Tryd.prog 40 #[Sv a5] w' (Below0 w' (.int .i64 lt))) ∧ True) := by
        exact Lib.hid ⟨fun w' h => by rw [hsz]; exact qnumber_any w' a2 (by omega) (hI.2.1.below h), fun w' h => by rw [hsl]; exact qnumber_any w' a3 (by omega) (hI.2.1.below h), fun w' h => by rw [hlt]; exact qnumber_any w' a5 (by omega) (hI.2.1.below h), trivial⟩
      have HKd : Hid (∀ w', Below w.heap.size w w' → Calls Tryd.prog 39 #[Sv a1] w' fun e w'' => e = .returned (.int .i64 kd) ∧ w'' = w') := by
        rw [hkd]
        exact Lib.hid (fun w' h => qkind_any w' a1 (hI.2.2.2.below h))
      have HAg : Hid (∀ w', Below w.heap.size w w' → Calls Tryd.prog 41 #[Sv a6] w' fun e w'' => e = .returned (.int .i64 ag) ∧ w'' = w') := by
        rw [hag]
        exact Lib.hid (fun w' h => qagg_any w' a6 (hI.2.2.2.below h))
      have e2 : (kd == 2) = true := by
        have : kd = 2 := by rw [hkd, ha1]; exact h2
        simpa using this
      have e6 : (ag == 6) = false := by simpa using h6
      clear HA hl hI h2 h6 ha1 hr1 q1 ha2 hr2 q2 ha3 hr3 q3 ha4 hr4 q4 ha5 hr5 q5 ha6 hr6 q6 hkd hsz hsl hlt hag
      go_enter Tryd.func22, Tryd.ntmps22
      go_upto_region 1 with (fail)
      refine Eq.mp (congrArg (fun W => Code.wp _ _ _ _ W) hw0) ?_
      clear hw0
      have hmf : ∀ (fn : Fn) (first cap : Array Value) (w : World), (Instr.makeFunc fn first cap).run Tryd.prog w = .ok (.func fn first cap) w := fun _ _ _ _ => rfl
      go_wp2_with (fail)
      refine (HWd.out w0 r0 H0.out HLn.out.1).mono ?_
      rintro e w1 ⟨rfl, hs, hg⟩
      rw [← HR.out.1.2] at hs
      rw [← HR.out.1.1]
      have H1 := Lib.hid (H0.out.word hs hg)
      clear hs hg
      dsimp only
      go_wp2_with (fail)
      refine (HKd.out w1 H1.out.1).mono ?_
      rintro e w' ⟨rfl, hw⟩
      subst w'
      dsimp only
      go_wp2_with (fail)
      refine (HWd.out w1 r1 H1.out HLn.out.2.1).mono ?_
      rintro e w2 ⟨rfl, hs, hg⟩
      rw [← HR.out.2.1.2] at hs
      rw [← HR.out.2.1.1]
      have H2 := Lib.hid (H1.out.word hs hg)
      clear hs hg
      dsimp only
      go_wp2_with (fail)
      refine (HNm.out.1 w2 H2.out.1).mono ?_
      rintro e w3 ⟨rfl, hB⟩
      have H3 := Lib.hid (H2.out.below hB)
      clear hB
      dsimp only
      have hbuilt : Tryd.prog.built 23 [(0, .int .i64 kd), (1, .int .i64 sz)] = some #[.int .i64 kd, .int .i64 sz, .int .i64 0, .int .i64 0, .int .i64 0, .int .i64 0] := by kernel_rfl
      first
        | (refine wpList_store_row rfl _ _ _ rfl w3.heap.size (QueryL.mk kd sz 0 0 0 0).cells rfl rfl 23 zeroQ.cells (heap_alloc_new w3 _) query_size rfl (query_one _) ?_)
        | (iterate 1 go_step
           refine wpList_store_row rfl _ _ _ rfl w3.heap.size (QueryL.mk kd sz 0 0 0 0).cells rfl rfl 23 zeroQ.cells (heap_alloc_new w3 _) query_size rfl (query_one _) ?_)
        | (iterate 2 go_step
           refine wpList_store_row rfl _ _ _ rfl w3.heap.size (QueryL.mk kd sz 0 0 0 0).cells rfl rfl 23 zeroQ.cells (heap_alloc_new w3 _) query_size rfl (query_one _) ?_)
        | (iterate 3 go_step
           refine wpList_store_row rfl _ _ _ rfl w3.heap.size (QueryL.mk kd sz 0 0 0 0).cells rfl rfl 23 zeroQ.cells (heap_alloc_new w3 _) query_size rfl (query_one _) ?_)
        | (iterate 4 go_step
           refine wpList_store_row rfl _ _ _ rfl w3.heap.size (QueryL.mk kd sz 0 0 0 0).cells rfl rfl 23 zeroQ.cells (heap_alloc_new w3 _) query_size rfl (query_one _) ?_)
        | (iterate 5 go_step
           refine wpList_store_row rfl _ _ _ rfl w3.heap.size (QueryL.mk kd sz 0 0 0 0).cells rfl rfl 23 zeroQ.cells (heap_alloc_new w3 _) query_size rfl (query_one _) ?_)
        | (iterate 6 go_step
           refine wpList_store_row rfl _ _ _ rfl w3.heap.size (QueryL.mk kd sz 0 0 0 0).cells rfl rfl 23 zeroQ.cells (heap_alloc_new w3 _) query_size rfl (query_one _) ?_)
        | (iterate 7 go_step
           refine wpList_store_row rfl _ _ _ rfl w3.heap.size (QueryL.mk kd sz 0 0 0 0).cells rfl rfl 23 zeroQ.cells (heap_alloc_new w3 _) query_size rfl (query_one _) ?_)
        | (iterate 8 go_step
           refine wpList_store_row rfl _ _ _ rfl w3.heap.size (QueryL.mk kd sz 0 0 0 0).cells rfl rfl 23 zeroQ.cells (heap_alloc_new w3 _) query_size rfl (query_one _) ?_)
        | (iterate 9 go_step
           refine wpList_store_row rfl _ _ _ rfl w3.heap.size (QueryL.mk kd sz 0 0 0 0).cells rfl rfl 23 zeroQ.cells (heap_alloc_new w3 _) query_size rfl (query_one _) ?_)
      clear hbuilt
      obtain ⟨qb, hqb⟩ : ∃ x, x = w3.heap.size := ⟨_, rfl⟩
      obtain ⟨w4, hw⟩ : ∃ W, W = (w3.alloc (Obj.cells #[.int .i64 0, .int .i64 0, .int .i64 0, .int .i64 0, .int .i64 0, .int .i64 0] 23)).setRow w3.heap.size (QueryL.mk kd sz 0 0 0 0).cells := ⟨_, rfl⟩
      rw [← hw, ← hqb]
      have H4 : Hid (AskQ w qb r2 ⟨kd, sz, 0, 0, 0, 0⟩ w4) := by
        have ha : Below w3.heap.size w3 (w3.alloc (Obj.cells #[.int .i64 0, .int .i64 0, .int .i64 0, .int .i64 0, .int .i64 0, .int .i64 0] 23)) := (Below.refl _ w3).alloc (Nat.le_refl _) _
        have hb : Below w3.heap.size w3 w4 := by
          rw [hw]
          exact ha.trans ⟨rfl, rfl, rfl, by simp [World.setRow], fun i hi => setRow_other _ _ _ _ (by omega)⟩
        have h3 := (Array.getElem?_eq_some_iff.1 H3.out.2.2).1
        refine Lib.hid ⟨H3.out.below hb, ?_, by omega⟩
        rw [hw, hqb]
        exact setRow_heap _ _ _ _ _ _ (heap_alloc_new w3 _)
      clear hw hqb
      have d0 : w4.cell? ⟨qb, 0, none⟩ = some (.int .i64 kd) := H4.out.cell 0 rfl
      go_wp2_with (fail)
      refine (HWd.out w4 r2 H4.out.1 HLn.out.2.2.1).mono ?_
      rintro e w5 ⟨rfl, hs, hg⟩
      rw [← HR.out.2.2.1.2] at hs
      rw [← HR.out.2.2.1.1]
      have H5 := Lib.hid (H4.out.word hs hg)
      clear hs hg
      dsimp only
      clear d0
      go_wp2_with (fail)
      refine (HNm.out.2.1 w5 H5.out.1.1).mono ?_
      rintro e w6 ⟨rfl, hB⟩
      have H6 := Lib.hid (H5.out.below hB)
      clear hB
      dsimp only
      have f := H6.out.fro 2
      have g : w6.cell? ⟨qb, 2, none⟩ = _ := H6.out.cell 2 rfl
      go_upto_region 5 with (fail)
      clear f g
      obtain ⟨w7, hw⟩ : ∃ W, W = w6.setCell ⟨qb, 2, none⟩ (.int .i64 sl) := ⟨_, rfl⟩
      rw [← hw]
      have H7 : Hid (AskQ w qb r3 ⟨kd, sz, sl, 0, 0, 0⟩ w7) := by rw [hw]; exact Lib.hid (H6.out.set 2 _ rfl)
      clear hw
      go_wp2_with (fail)
      refine (HWd.out w7 r3 H7.out.1 HLn.out.2.2.2.1).mono ?_
      rintro e w8 ⟨rfl, hs, hg⟩
      rw [← HR.out.2.2.2.1.2] at hs
      rw [← HR.out.2.2.2.1.1]
      have H8 := Lib.hid (H7.out.word hs hg)
      clear hs hg
      dsimp only
      go_wp2_with (fail)
      refine (HWd.out w8 r4 H8.out.1 HLn.out.2.2.2.2.1).mono ?_
      rintro e w9 ⟨rfl, hs, hg⟩
      rw [← HR.out.2.2.2.2.1.2] at hs
      rw [← HR.out.2.2.2.2.1.1]
      have H9 := Lib.hid (H8.out.word hs hg)
      clear hs hg
      dsimp only
      go_wp2_with (fail)
      refine (HNm.out.2.2.1 w9 H9.out.1.1).mono ?_
      rintro e w10 ⟨rfl, hB⟩
      have H10 := Lib.hid (H9.out.below hB)
      clear hB
      dsimp only
      have f := H10.out.fro 3
      have g : w10.cell? ⟨qb, 3, none⟩ = _ := H10.out.cell 3 rfl
      go_upto_region 7 with (fail)
      clear f g
      obtain ⟨w11, hw⟩ : ∃ W, W = w10.setCell ⟨qb, 3, none⟩ (.int .i64 lt) := ⟨_, rfl⟩
      rw [← hw]
      have H11 : Hid (AskQ w qb r5 ⟨kd, sz, sl, lt, 0, 0⟩ w11) := by rw [hw]; exact Lib.hid (H10.out.set 3 _ rfl)
      clear hw
      go_wp2_with (fail)
      refine (HWd.out w11 r5 H11.out.1 HLn.out.2.2.2.2.2.1).mono ?_
      rintro e w12 ⟨rfl, hs, hg⟩
      rw [← HR.out.2.2.2.2.2.1.2] at hs
      rw [← HR.out.2.2.2.2.2.1.1]
      have H12 := Lib.hid (H11.out.word hs hg)
      clear hs hg
      dsimp only
      go_wp2_with (fail)
      refine (HAg.out w12 H12.out.1.1).mono ?_
      rintro e w' ⟨rfl, hw⟩
      subst w'
      dsimp only
      have f := H12.out.fro 4
      have g : w12.cell? ⟨qb, 4, none⟩ = _ := H12.out.cell 4 rfl
      go_upto_region 8 with (fail)
      clear f g
      obtain ⟨w13, hw⟩ : ∃ W, W = w12.setCell ⟨qb, 4, none⟩ (.int .i64 ag) := ⟨_, rfl⟩
      rw [← hw]
      have H13 : Hid (AskQ w qb r6 ⟨kd, sz, sl, lt, ag, 0⟩ w13) := by rw [hw]; exact Lib.hid (H12.out.set 4 _ rfl)
      clear hw
      have d4 : w13.cell? ⟨qb, 4, none⟩ = some (.int .i64 ag) := H13.out.cell 4 rfl
      go_upto_region 10 with (fail)
      clear d4
      have d0 : w13.cell? ⟨qb, 0, none⟩ = _ := H13.out.cell 0 rfl
      have d1 : w13.cell? ⟨qb, 1, none⟩ = _ := H13.out.cell 1 rfl
      have d2 : w13.cell? ⟨qb, 2, none⟩ = _ := H13.out.cell 2 rfl
      have d3 : w13.cell? ⟨qb, 3, none⟩ = _ := H13.out.cell 3 rfl
      have d4 : w13.cell? ⟨qb, 4, none⟩ = _ := H13.out.cell 4 rfl
      have d5 : w13.cell? ⟨qb, 5, none⟩ = _ := H13.out.cell 5 rfl
      refine wp_region_lit ?_
      first
        | (refine wpList_store_row rfl _ _ _ rfl (w.heap.size + 1) (QueryL.mk kd sz sl lt ag 0).cells rfl rfl 23 zeroQ.cells H13.out.1.2.2 query_size rfl (query_one _) ?_)
        | (iterate 1 go_step
           refine wpList_store_row rfl _ _ _ rfl (w.heap.size + 1) (QueryL.mk kd sz sl lt ag 0).cells rfl rfl 23 zeroQ.cells H13.out.1.2.2 query_size rfl (query_one _) ?_)
        | (iterate 2 go_step
           refine wpList_store_row rfl _ _ _ rfl (w.heap.size + 1) (QueryL.mk kd sz sl lt ag 0).cells rfl rfl 23 zeroQ.cells H13.out.1.2.2 query_size rfl (query_one _) ?_)
        | (iterate 3 go_step
           refine wpList_store_row rfl _ _ _ rfl (w.heap.size + 1) (QueryL.mk kd sz sl lt ag 0).cells rfl rfl 23 zeroQ.cells H13.out.1.2.2 query_size rfl (query_one _) ?_)
        | (iterate 4 go_step
           refine wpList_store_row rfl _ _ _ rfl (w.heap.size + 1) (QueryL.mk kd sz sl lt ag 0).cells rfl rfl 23 zeroQ.cells H13.out.1.2.2 query_size rfl (query_one _) ?_)
        | (iterate 5 go_step
           refine wpList_store_row rfl _ _ _ rfl (w.heap.size + 1) (QueryL.mk kd sz sl lt ag 0).cells rfl rfl 23 zeroQ.cells H13.out.1.2.2 query_size rfl (query_one _) ?_)
        | (iterate 6 go_step
           refine wpList_store_row rfl _ _ _ rfl (w.heap.size + 1) (QueryL.mk kd sz sl lt ag 0).cells rfl rfl 23 zeroQ.cells H13.out.1.2.2 query_size rfl (query_one _) ?_)
        | (iterate 7 go_step
           refine wpList_store_row rfl _ _ _ rfl (w.heap.size + 1) (QueryL.mk kd sz sl lt ag 0).cells rfl rfl 23 zeroQ.cells H13.out.1.2.2 query_size rfl (query_one _) ?_)
        | (iterate 8 go_step
           refine wpList_store_row rfl _ _ _ rfl (w.heap.size + 1) (QueryL.mk kd sz sl lt ag 0).cells rfl rfl 23 zeroQ.cells H13.out.1.2.2 query_size rfl (query_one _) ?_)
        | (iterate 9 go_step
           refine wpList_store_row rfl _ _ _ rfl (w.heap.size + 1) (QueryL.mk kd sz sl lt ag 0).cells rfl rfl 23 zeroQ.cells H13.out.1.2.2 query_size rfl (query_one _) ?_)
      have HZ := Lib.hid (H13.out.fin (QueryL.mk kd sz sl lt ag 0).cells)
      obtain ⟨wz, hwz⟩ : ∃ W, W = w13.setRow (w.heap.size + 1) (QueryL.mk kd sz sl lt ag 0).cells := ⟨_, rfl⟩
      rw [← hwz] at HZ ⊢
      clear hwz d0 d1 d2 d3 d4 d5
      go_wp2_with (fail)
      exact bodyPost_ret (v := .agg (QueryL.mk kd sz sl lt ag 0).cells) (results_cell_row (p := 2) (ty := 23) rfl _ _ (w.heap.size + 1) 23 _ (0, 0) _ rfl HZ.out.2 Tryd.underlying23 rfl query_size) rfl ⟨rfl, HZ.out.1⟩
  · obtain ⟨a1, ha1⟩ : ∃ a, a = (cutL r0).1 := ⟨_, rfl⟩
    obtain ⟨r1, hr1⟩ : ∃ r, r = (cutL r0).2 := ⟨_, rfl⟩
    have q1 := cutL_len r0
    rw [← ha1, ← hr1] at q1
    obtain ⟨a2, ha2⟩ : ∃ a, a = (cutL r1).1 := ⟨_, rfl⟩
    obtain ⟨r2, hr2⟩ : ∃ r, r = (cutL r1).2 := ⟨_, rfl⟩
    have q2 := cutL_len r1
    rw [← ha2, ← hr2] at q2
    obtain ⟨a3, ha3⟩ : ∃ a, a = (cutL r2).1 := ⟨_, rfl⟩
    obtain ⟨r3, hr3⟩ : ∃ r, r = (cutL r2).2 := ⟨_, rfl⟩
    have q3 := cutL_len r2
    rw [← ha3, ← hr3] at q3
    obtain ⟨a4, ha4⟩ : ∃ a, a = (cutL r3).1 := ⟨_, rfl⟩
    obtain ⟨r4, hr4⟩ : ∃ r, r = (cutL r3).2 := ⟨_, rfl⟩
    have q4 := cutL_len r3
    rw [← ha4, ← hr4] at q4
    obtain ⟨a5, ha5⟩ : ∃ a, a = (cutL r4).1 := ⟨_, rfl⟩
    obtain ⟨r5, hr5⟩ : ∃ r, r = (cutL r4).2 := ⟨_, rfl⟩
    have q5 := cutL_len r4
    rw [← ha5, ← hr5] at q5
    obtain ⟨kd, hkd⟩ : ∃ x, x = kindOf a1 := ⟨_, rfl⟩
    obtain ⟨sz, hsz⟩ : ∃ x, x = numL a2 := ⟨_, rfl⟩
    obtain ⟨lt, hlt⟩ : ∃ x, x = numL a4 := ⟨_, rfl⟩
    obtain ⟨ag, hag⟩ : ∃ x, x = aggOf a5 := ⟨_, rfl⟩
    by_cases h6 : ag = 6
    · obtain ⟨a6, ha6⟩ : ∃ a, a = (cutL r5).1 := ⟨_, rfl⟩
      obtain ⟨r6, hr6⟩ : ∃ r, r = (cutL r5).2 := ⟨_, rfl⟩
      have q6 := cutL_len r5
      rw [← ha6, ← hr6] at q6
      obtain ⟨kk, hkk⟩ : ∃ x, x = numL a6 := ⟨_, rfl⟩
      have HA : askedL r0 = ⟨kd, sz, 0, lt, ag, kk⟩ := by
        subst hkk hag hlt hsz hkd ha6 hr6 ha5 hr5 ha4 hr4 ha3 hr3 ha2 hr2 ha1 hr1
        simp [askedL, h2, h6]
      rw [HA]
      have HR : Hid ((a1 = (cutL r0).1 ∧ r1 = (cutL r0).2) ∧ (a2 = (cutL r1).1 ∧ r2 = (cutL r1).2) ∧ (a3 = (cutL r2).1 ∧ r3 = (cutL r2).2) ∧ (a4 = (cutL r3).1 ∧ r4 = (cutL r3).2) ∧ (a5 = (cutL r4).1 ∧ r5 = (cutL r4).2) ∧ (a6 = (cutL r5).1 ∧ r6 = (cutL r5).2) ∧ True) := Lib.hid ⟨⟨ha1, hr1⟩, ⟨ha2, hr2⟩, ⟨ha3, hr3⟩, ⟨ha4, hr4⟩, ⟨ha5, hr5⟩, ⟨ha6, hr6⟩, trivial⟩
      have HLn : Hid (r0.length ≤ 1000000 ∧ r1.length ≤ 1000000 ∧ r2.length ≤ 1000000 ∧ r3.length ≤ 1000000 ∧ r4.length ≤ 1000000 ∧ r5.length ≤ 1000000 ∧ r6.length ≤ 1000000 ∧ True) := by
        exact Lib.hid ⟨by omega, by omega, by omega, by omega, by omega, by omega, by omega, trivial⟩
      have HNm : Hid ((∀ w', Below w.heap.size w w' → Calls Tryd.prog 40 #[Sv a2] w' (Below0 w' (.int .i64 sz))) ∧ True ∧ (∀ w', Below w.heap.size w w' → Calls Tryd.prog 40 #[Sv a4] w' (Below0 w' (.int .i64 lt))) ∧ (∀ w', Below w.heap.size w w' → Calls Tryd.prog 40 #[Sv a6] w' (Below0 w' (.int .i64 kk)))) := by
        exact Lib.hid ⟨fun w' h => by rw [hsz]; exact qnumber_any w' a2 (by omega) (hI.2.1.below h), trivial, fun w' h => by rw [hlt]; exact qnumber_any w' a4 (by omega) (hI.2.1.below h), fun w' h => by rw [hkk]; exact qnumber_any w' a6 (by omega) (hI.2.1.below h)⟩
      have HKd : Hid (∀ w', Below w.heap.size w w' → Calls Tryd.prog 39 #[Sv a1] w' fun e w'' => e = .returned (.int .i64 kd) ∧ w'' = w') := by
        rw [hkd]
        exact Lib.hid (fun w' h => qkind_any w' a1 (hI.2.2.2.below h))
      have HAg : Hid (∀ w', Below w.heap.size w w' → Calls Tryd.prog 41 #[Sv a5] w' fun e w'' => e = .returned (.int .i64 ag) ∧ w'' = w') := by
        rw [hag]
        exact Lib.hid (fun w' h => qagg_any w' a5 (hI.2.2.2.below h))
      have e2 : (kd == 2) = false := by
        have : kd ≠ 2 := by rw [hkd, ha1]; exact h2
        simpa using this
      have e6 : (ag == 6) = true := by simpa using h6
      clear HA hl hI h2 h6 ha1 hr1 q1 ha2 hr2 q2 ha3 hr3 q3 ha4 hr4 q4 ha5 hr5 q5 ha6 hr6 q6 hkd hsz hlt hag hkk
      go_enter Tryd.func22, Tryd.ntmps22
      go_upto_region 1 with (fail)
      refine Eq.mp (congrArg (fun W => Code.wp _ _ _ _ W) hw0) ?_
      clear hw0
      have hmf : ∀ (fn : Fn) (first cap : Array Value) (w : World), (Instr.makeFunc fn first cap).run Tryd.prog w = .ok (.func fn first cap) w := fun _ _ _ _ => rfl
      go_wp2_with (fail)
      refine (HWd.out w0 r0 H0.out HLn.out.1).mono ?_
      rintro e w1 ⟨rfl, hs, hg⟩
      rw [← HR.out.1.2] at hs
      rw [← HR.out.1.1]
      have H1 := Lib.hid (H0.out.word hs hg)
      clear hs hg
      dsimp only
      go_wp2_with (fail)
      refine (HKd.out w1 H1.out.1).mono ?_
      rintro e w' ⟨rfl, hw⟩
      subst w'
      dsimp only
      go_wp2_with (fail)
      refine (HWd.out w1 r1 H1.out HLn.out.2.1).mono ?_
      rintro e w2 ⟨rfl, hs, hg⟩
      rw [← HR.out.2.1.2] at hs
      rw [← HR.out.2.1.1]
      have H2 := Lib.hid (H1.out.word hs hg)
      clear hs hg
      dsimp only
      go_wp2_with (fail)
      refine (HNm.out.1 w2 H2.out.1).mono ?_
      rintro e w3 ⟨rfl, hB⟩
      have H3 := Lib.hid (H2.out.below hB)
      clear hB
      dsimp only
      have hbuilt : Tryd.prog.built 23 [(0, .int .i64 kd), (1, .int .i64 sz)] = some #[.int .i64 kd, .int .i64 sz, .int .i64 0, .int .i64 0, .int .i64 0, .int .i64 0] := by kernel_rfl
      first
        | (refine wpList_store_row rfl _ _ _ rfl w3.heap.size (QueryL.mk kd sz 0 0 0 0).cells rfl rfl 23 zeroQ.cells (heap_alloc_new w3 _) query_size rfl (query_one _) ?_)
        | (iterate 1 go_step
           refine wpList_store_row rfl _ _ _ rfl w3.heap.size (QueryL.mk kd sz 0 0 0 0).cells rfl rfl 23 zeroQ.cells (heap_alloc_new w3 _) query_size rfl (query_one _) ?_)
        | (iterate 2 go_step
           refine wpList_store_row rfl _ _ _ rfl w3.heap.size (QueryL.mk kd sz 0 0 0 0).cells rfl rfl 23 zeroQ.cells (heap_alloc_new w3 _) query_size rfl (query_one _) ?_)
        | (iterate 3 go_step
           refine wpList_store_row rfl _ _ _ rfl w3.heap.size (QueryL.mk kd sz 0 0 0 0).cells rfl rfl 23 zeroQ.cells (heap_alloc_new w3 _) query_size rfl (query_one _) ?_)
        | (iterate 4 go_step
           refine wpList_store_row rfl _ _ _ rfl w3.heap.size (QueryL.mk kd sz 0 0 0 0).cells rfl rfl 23 zeroQ.cells (heap_alloc_new w3 _) query_size rfl (query_one _) ?_)
        | (iterate 5 go_step
           refine wpList_store_row rfl _ _ _ rfl w3.heap.size (QueryL.mk kd sz 0 0 0 0).cells rfl rfl 23 zeroQ.cells (heap_alloc_new w3 _) query_size rfl (query_one _) ?_)
        | (iterate 6 go_step
           refine wpList_store_row rfl _ _ _ rfl w3.heap.size (QueryL.mk kd sz 0 0 0 0).cells rfl rfl 23 zeroQ.cells (heap_alloc_new w3 _) query_size rfl (query_one _) ?_)
        | (iterate 7 go_step
           refine wpList_store_row rfl _ _ _ rfl w3.heap.size (QueryL.mk kd sz 0 0 0 0).cells rfl rfl 23 zeroQ.cells (heap_alloc_new w3 _) query_size rfl (query_one _) ?_)
        | (iterate 8 go_step
           refine wpList_store_row rfl _ _ _ rfl w3.heap.size (QueryL.mk kd sz 0 0 0 0).cells rfl rfl 23 zeroQ.cells (heap_alloc_new w3 _) query_size rfl (query_one _) ?_)
        | (iterate 9 go_step
           refine wpList_store_row rfl _ _ _ rfl w3.heap.size (QueryL.mk kd sz 0 0 0 0).cells rfl rfl 23 zeroQ.cells (heap_alloc_new w3 _) query_size rfl (query_one _) ?_)
      clear hbuilt
      obtain ⟨qb, hqb⟩ : ∃ x, x = w3.heap.size := ⟨_, rfl⟩
      obtain ⟨w4, hw⟩ : ∃ W, W = (w3.alloc (Obj.cells #[.int .i64 0, .int .i64 0, .int .i64 0, .int .i64 0, .int .i64 0, .int .i64 0] 23)).setRow w3.heap.size (QueryL.mk kd sz 0 0 0 0).cells := ⟨_, rfl⟩
      rw [← hw, ← hqb]
      have H4 : Hid (AskQ w qb r2 ⟨kd, sz, 0, 0, 0, 0⟩ w4) := by
        have ha : Below w3.heap.size w3 (w3.alloc (Obj.cells #[.int .i64 0, .int .i64 0, .int .i64 0, .int .i64 0, .int .i64 0, .int .i64 0] 23)) := (Below.refl _ w3).alloc (Nat.le_refl _) _
        have hb : Below w3.heap.size w3 w4 := by
          rw [hw]
          exact ha.trans ⟨rfl, rfl, rfl, by simp [World.setRow], fun i hi => setRow_other _ _ _ _ (by omega)⟩
        have h3 := (Array.getElem?_eq_some_iff.1 H3.out.2.2).1
        refine Lib.hid ⟨H3.out.below hb, ?_, by omega⟩
        rw [hw, hqb]
        exact setRow_heap _ _ _ _ _ _ (heap_alloc_new w3 _)
      clear hw hqb
      have d0 : w4.cell? ⟨qb, 0, none⟩ = some (.int .i64 kd) := H4.out.cell 0 rfl
      go_wp2_with (fail)
      refine (HWd.out w4 r2 H4.out.1 HLn.out.2.2.1).mono ?_
      rintro e w5 ⟨rfl, hs, hg⟩
      rw [← HR.out.2.2.1.2] at hs
      rw [← HR.out.2.2.1.1]
      have H5 := Lib.hid (H4.out.word hs hg)
      clear hs hg
      dsimp only
      clear d0
      go_wp2_with (fail)
      refine (HWd.out w5 r3 H5.out.1 HLn.out.2.2.2.1).mono ?_
      rintro e w6 ⟨rfl, hs, hg⟩
      rw [← HR.out.2.2.2.1.2] at hs
      rw [← HR.out.2.2.2.1.1]
      have H6 := Lib.hid (H5.out.word hs hg)
      clear hs hg
      dsimp only
      go_wp2_with (fail)
      refine (HNm.out.2.2.1 w6 H6.out.1.1).mono ?_
      rintro e w7 ⟨rfl, hB⟩
      have H7 := Lib.hid (H6.out.below hB)
      clear hB
      dsimp only
      have f := H7.out.fro 3
      have g : w7.cell? ⟨qb, 3, none⟩ = _ := H7.out.cell 3 rfl
      go_upto_region 7 with (fail)
      clear f g
      obtain ⟨w8, hw⟩ : ∃ W, W = w7.setCell ⟨qb, 3, none⟩ (.int .i64 lt) := ⟨_, rfl⟩
      rw [← hw]
      have H8 : Hid (AskQ w qb r4 ⟨kd, sz, 0, lt, 0, 0⟩ w8) := by rw [hw]; exact Lib.hid (H7.out.set 3 _ rfl)
      clear hw
      go_wp2_with (fail)
      refine (HWd.out w8 r4 H8.out.1 HLn.out.2.2.2.2.1).mono ?_
      rintro e w9 ⟨rfl, hs, hg⟩
      rw [← HR.out.2.2.2.2.1.2] at hs
      rw [← HR.out.2.2.2.2.1.1]
      have H9 := Lib.hid (H8.out.word hs hg)
      clear hs hg
      dsimp only
      go_wp2_with (fail)
      refine (HAg.out w9 H9.out.1.1).mono ?_
      rintro e w' ⟨rfl, hw⟩
      subst w'
      dsimp only
      have f := H9.out.fro 4
      have g : w9.cell? ⟨qb, 4, none⟩ = _ := H9.out.cell 4 rfl
      go_upto_region 8 with (fail)
      clear f g
      obtain ⟨w10, hw⟩ : ∃ W, W = w9.setCell ⟨qb, 4, none⟩ (.int .i64 ag) := ⟨_, rfl⟩
      rw [← hw]
      have H10 : Hid (AskQ w qb r5 ⟨kd, sz, 0, lt, ag, 0⟩ w10) := by rw [hw]; exact Lib.hid (H9.out.set 4 _ rfl)
      clear hw
      have d4 : w10.cell? ⟨qb, 4, none⟩ = some (.int .i64 ag) := H10.out.cell 4 rfl
      go_wp2_with (fail)
      refine (HWd.out w10 r5 H10.out.1 HLn.out.2.2.2.2.2.1).mono ?_
      rintro e w11 ⟨rfl, hs, hg⟩
      rw [← HR.out.2.2.2.2.2.1.2] at hs
      rw [← HR.out.2.2.2.2.2.1.1]
      have H11 := Lib.hid (H10.out.word hs hg)
      clear hs hg
      dsimp only
      clear d4
      go_wp2_with (fail)
      refine (HNm.out.2.2.2 w11 H11.out.1.1).mono ?_
      rintro e w12 ⟨rfl, hB⟩
      have H12 := Lib.hid (H11.out.below hB)
      clear hB
      dsimp only
      have f := H12.out.fro 5
      have g : w12.cell? ⟨qb, 5, none⟩ = _ := H12.out.cell 5 rfl
      go_upto_region 10 with (fail)
      clear f g
      obtain ⟨w13, hw⟩ : ∃ W, W = w12.setCell ⟨qb, 5, none⟩ (.int .i64 kk) := ⟨_, rfl⟩
      rw [← hw]
      have H13 : Hid (AskQ w qb r6 ⟨kd, sz, 0, lt, ag, kk⟩ w13) := by rw [hw]; exact Lib.hid (H12.out.set 5 _ rfl)
      clear hw
      have d0 : w13.cell? ⟨qb, 0, none⟩ = _ := H13.out.cell 0 rfl
      have d1 : w13.cell? ⟨qb, 1, none⟩ = _ := H13.out.cell 1 rfl
      have d2 : w13.cell? ⟨qb, 2, none⟩ = _ := H13.out.cell 2 rfl
      have d3 : w13.cell? ⟨qb, 3, none⟩ = _ := H13.out.cell 3 rfl
      have d4 : w13.cell? ⟨qb, 4, none⟩ = _ := H13.out.cell 4 rfl
      have d5 : w13.cell? ⟨qb, 5, none⟩ = _ := H13.out.cell 5 rfl
      refine wp_region_lit ?_
      first
        | (refine wpList_store_row rfl _ _ _ rfl (w.heap.size + 1) (QueryL.mk kd sz 0 lt ag kk).cells rfl rfl 23 zeroQ.cells H13.out.1.2.2 query_size rfl (query_one _) ?_)
        | (iterate 1 go_step
           refine wpList_store_row rfl _ _ _ rfl (w.heap.size + 1) (QueryL.mk kd sz 0 lt ag kk).cells rfl rfl 23 zeroQ.cells H13.out.1.2.2 query_size rfl (query_one _) ?_)
        | (iterate 2 go_step
           refine wpList_store_row rfl _ _ _ rfl (w.heap.size + 1) (QueryL.mk kd sz 0 lt ag kk).cells rfl rfl 23 zeroQ.cells H13.out.1.2.2 query_size rfl (query_one _) ?_)
        | (iterate 3 go_step
           refine wpList_store_row rfl _ _ _ rfl (w.heap.size + 1) (QueryL.mk kd sz 0 lt ag kk).cells rfl rfl 23 zeroQ.cells H13.out.1.2.2 query_size rfl (query_one _) ?_)
        | (iterate 4 go_step
           refine wpList_store_row rfl _ _ _ rfl (w.heap.size + 1) (QueryL.mk kd sz 0 lt ag kk).cells rfl rfl 23 zeroQ.cells H13.out.1.2.2 query_size rfl (query_one _) ?_)
        | (iterate 5 go_step
           refine wpList_store_row rfl _ _ _ rfl (w.heap.size + 1) (QueryL.mk kd sz 0 lt ag kk).cells rfl rfl 23 zeroQ.cells H13.out.1.2.2 query_size rfl (query_one _) ?_)
        | (iterate 6 go_step
           refine wpList_store_row rfl _ _ _ rfl (w.heap.size + 1) (QueryL.mk kd sz 0 lt ag kk).cells rfl rfl 23 zeroQ.cells H13.out.1.2.2 query_size rfl (query_one _) ?_)
        | (iterate 7 go_step
           refine wpList_store_row rfl _ _ _ rfl (w.heap.size + 1) (QueryL.mk kd sz 0 lt ag kk).cells rfl rfl 23 zeroQ.cells H13.out.1.2.2 query_size rfl (query_one _) ?_)
        | (iterate 8 go_step
           refine wpList_store_row rfl _ _ _ rfl (w.heap.size + 1) (QueryL.mk kd sz 0 lt ag kk).cells rfl rfl 23 zeroQ.cells H13.out.1.2.2 query_size rfl (query_one _) ?_)
        | (iterate 9 go_step
           refine wpList_store_row rfl _ _ _ rfl (w.heap.size + 1) (QueryL.mk kd sz 0 lt ag kk).cells rfl rfl 23 zeroQ.cells H13.out.1.2.2 query_size rfl (query_one _) ?_)
      have HZ := Lib.hid (H13.out.fin (QueryL.mk kd sz 0 lt ag kk).cells)
      obtain ⟨wz, hwz⟩ : ∃ W, W = w13.setRow (w.heap.size + 1) (QueryL.mk kd sz 0 lt ag kk).cells := ⟨_, rfl⟩
      rw [← hwz] at HZ ⊢
      clear hwz d0 d1 d2 d3 d4 d5
      go_wp2_with (fail)
      exact bodyPost_ret (v := .agg (QueryL.mk kd sz 0 lt ag kk).cells) (results_cell_row (p := 2) (ty := 23) rfl _ _ (w.heap.size + 1) 23 _ (0, 0) _ rfl HZ.out.2 Tryd.underlying23 rfl query_size) rfl ⟨rfl, HZ.out.1⟩
    · have HA : askedL r0 = ⟨kd, sz, 0, lt, ag, 0⟩ := by
        subst hag hlt hsz hkd ha5 hr5 ha4 hr4 ha3 hr3 ha2 hr2 ha1 hr1
        simp [askedL, h2, h6]
      rw [HA]
      have HR : Hid ((a1 = (cutL r0).1 ∧ r1 = (cutL r0).2) ∧ (a2 = (cutL r1).1 ∧ r2 = (cutL r1).2) ∧ (a3 = (cutL r2).1 ∧ r3 = (cutL r2).2) ∧ (a4 = (cutL r3).1 ∧ r4 = (cutL r3).2) ∧ (a5 = (cutL r4).1 ∧ r5 = (cutL r4).2) ∧ True) := Lib.hid ⟨⟨ha1, hr1⟩, ⟨ha2, hr2⟩, ⟨ha3, hr3⟩, ⟨ha4, hr4⟩, ⟨ha5, hr5⟩, trivial⟩
      have HLn : Hid (r0.length ≤ 1000000 ∧ r1.length ≤ 1000000 ∧ r2.length ≤ 1000000 ∧ r3.length ≤ 1000000 ∧ r4.length ≤ 1000000 ∧ r5.length ≤ 1000000 ∧ True) := by
        exact Lib.hid ⟨by omega, by omega, by omega, by omega, by omega, by omega, trivial⟩
      have HNm : Hid ((∀ w', Below w.heap.size w w' → Calls Tryd.prog 40 #[Sv a2] w' (Below0 w' (.int .i64 sz))) ∧ True ∧ (∀ w', Below w.heap.size w w' → Calls Tryd.prog 40 #[Sv a4] w' (Below0 w' (.int .i64 lt))) ∧ True) := by
        exact Lib.hid ⟨fun w' h => by rw [hsz]; exact qnumber_any w' a2 (by omega) (hI.2.1.below h), trivial, fun w' h => by rw [hlt]; exact qnumber_any w' a4 (by omega) (hI.2.1.below h), trivial⟩
      have HKd : Hid (∀ w', Below w.heap.size w w' → Calls Tryd.prog 39 #[Sv a1] w' fun e w'' => e = .returned (.int .i64 kd) ∧ w'' = w') := by
        rw [hkd]
        exact Lib.hid (fun w' h => qkind_any w' a1 (hI.2.2.2.below h))
      have HAg : Hid (∀ w', Below w.heap.size w w' → Calls Tryd.prog 41 #[Sv a5] w' fun e w'' => e = .returned (.int .i64 ag) ∧ w'' = w') := by
        rw [hag]
        exact Lib.hid (fun w' h => qagg_any w' a5 (hI.2.2.2.below h))
      have e2 : (kd == 2) = false := by
        have : kd ≠ 2 := by rw [hkd, ha1]; exact h2
        simpa using this
      have e6 : (ag == 6) = false := by simpa using h6
      clear HA hl hI h2 h6 ha1 hr1 q1 ha2 hr2 q2 ha3 hr3 q3 ha4 hr4 q4 ha5 hr5 q5 hkd hsz hlt hag
      go_enter Tryd.func22, Tryd.ntmps22
      go_upto_region 1 with (fail)
      refine Eq.mp (congrArg (fun W => Code.wp _ _ _ _ W) hw0) ?_
      clear hw0
      have hmf : ∀ (fn : Fn) (first cap : Array Value) (w : World), (Instr.makeFunc fn first cap).run Tryd.prog w = .ok (.func fn first cap) w := fun _ _ _ _ => rfl
      go_wp2_with (fail)
      refine (HWd.out w0 r0 H0.out HLn.out.1).mono ?_
      rintro e w1 ⟨rfl, hs, hg⟩
      rw [← HR.out.1.2] at hs
      rw [← HR.out.1.1]
      have H1 := Lib.hid (H0.out.word hs hg)
      clear hs hg
      dsimp only
      go_wp2_with (fail)
      refine (HKd.out w1 H1.out.1).mono ?_
      rintro e w' ⟨rfl, hw⟩
      subst w'
      dsimp only
      go_wp2_with (fail)
      refine (HWd.out w1 r1 H1.out HLn.out.2.1).mono ?_
      rintro e w2 ⟨rfl, hs, hg⟩
      rw [← HR.out.2.1.2] at hs
      rw [← HR.out.2.1.1]
      have H2 := Lib.hid (H1.out.word hs hg)
      clear hs hg
      dsimp only
      go_wp2_with (fail)
      refine (HNm.out.1 w2 H2.out.1).mono ?_
      rintro e w3 ⟨rfl, hB⟩
      have H3 := Lib.hid (H2.out.below hB)
      clear hB
      dsimp only
      have hbuilt : Tryd.prog.built 23 [(0, .int .i64 kd), (1, .int .i64 sz)] = some #[.int .i64 kd, .int .i64 sz, .int .i64 0, .int .i64 0, .int .i64 0, .int .i64 0] := by kernel_rfl
      first
        | (refine wpList_store_row rfl _ _ _ rfl w3.heap.size (QueryL.mk kd sz 0 0 0 0).cells rfl rfl 23 zeroQ.cells (heap_alloc_new w3 _) query_size rfl (query_one _) ?_)
        | (iterate 1 go_step
           refine wpList_store_row rfl _ _ _ rfl w3.heap.size (QueryL.mk kd sz 0 0 0 0).cells rfl rfl 23 zeroQ.cells (heap_alloc_new w3 _) query_size rfl (query_one _) ?_)
        | (iterate 2 go_step
           refine wpList_store_row rfl _ _ _ rfl w3.heap.size (QueryL.mk kd sz 0 0 0 0).cells rfl rfl 23 zeroQ.cells (heap_alloc_new w3 _) query_size rfl (query_one _) ?_)
        | (iterate 3 go_step
           refine wpList_store_row rfl _ _ _ rfl w3.heap.size (QueryL.mk kd sz 0 0 0 0).cells rfl rfl 23 zeroQ.cells (heap_alloc_new w3 _) query_size rfl (query_one _) ?_)
        | (iterate 4 go_step
           refine wpList_store_row rfl _ _ _ rfl w3.heap.size (QueryL.mk kd sz 0 0 0 0).cells rfl rfl 23 zeroQ.cells (heap_alloc_new w3 _) query_size rfl (query_one _) ?_)
        | (iterate 5 go_step
           refine wpList_store_row rfl _ _ _ rfl w3.heap.size (QueryL.mk kd sz 0 0 0 0).cells rfl rfl 23 zeroQ.cells (heap_alloc_new w3 _) query_size rfl (query_one _) ?_)
        | (iterate 6 go_step
           refine wpList_store_row rfl _ _ _ rfl w3.heap.size (QueryL.mk kd sz 0 0 0 0).cells rfl rfl 23 zeroQ.cells (heap_alloc_new w3 _) query_size rfl (query_one _) ?_)
        | (iterate 7 go_step
           refine wpList_store_row rfl _ _ _ rfl w3.heap.size (QueryL.mk kd sz 0 0 0 0).cells rfl rfl 23 zeroQ.cells (heap_alloc_new w3 _) query_size rfl (query_one _) ?_)
        | (iterate 8 go_step
           refine wpList_store_row rfl _ _ _ rfl w3.heap.size (QueryL.mk kd sz 0 0 0 0).cells rfl rfl 23 zeroQ.cells (heap_alloc_new w3 _) query_size rfl (query_one _) ?_)
        | (iterate 9 go_step
           refine wpList_store_row rfl _ _ _ rfl w3.heap.size (QueryL.mk kd sz 0 0 0 0).cells rfl rfl 23 zeroQ.cells (heap_alloc_new w3 _) query_size rfl (query_one _) ?_)
      clear hbuilt
      obtain ⟨qb, hqb⟩ : ∃ x, x = w3.heap.size := ⟨_, rfl⟩
      obtain ⟨w4, hw⟩ : ∃ W, W = (w3.alloc (Obj.cells #[.int .i64 0, .int .i64 0, .int .i64 0, .int .i64 0, .int .i64 0, .int .i64 0] 23)).setRow w3.heap.size (QueryL.mk kd sz 0 0 0 0).cells := ⟨_, rfl⟩
      rw [← hw, ← hqb]
      have H4 : Hid (AskQ w qb r2 ⟨kd, sz, 0, 0, 0, 0⟩ w4) := by
        have ha : Below w3.heap.size w3 (w3.alloc (Obj.cells #[.int .i64 0, .int .i64 0, .int .i64 0, .int .i64 0, .int .i64 0, .int .i64 0] 23)) := (Below.refl _ w3).alloc (Nat.le_refl _) _
        have hb : Below w3.heap.size w3 w4 := by
          rw [hw]
          exact ha.trans ⟨rfl, rfl, rfl, by simp [World.setRow], fun i hi => setRow_other _ _ _ _ (by omega)⟩
        have h3 := (Array.getElem?_eq_some_iff.1 H3.out.2.2).1
        refine Lib.hid ⟨H3.out.below hb, ?_, by omega⟩
        rw [hw, hqb]
        exact setRow_heap _ _ _ _ _ _ (heap_alloc_new w3 _)
      clear hw hqb
      have d0 : w4.cell? ⟨qb, 0, none⟩ = some (.int .i64 kd) := H4.out.cell 0 rfl
      go_wp2_with (fail)
      refine (HWd.out w4 r2 H4.out.1 HLn.out.2.2.1).mono ?_
      rintro e w5 ⟨rfl, hs, hg⟩
      rw [← HR.out.2.2.1.2] at hs
      rw [← HR.out.2.2.1.1]
      have H5 := Lib.hid (H4.out.word hs hg)
      clear hs hg
      dsimp only
      clear d0
      go_wp2_with (fail)
      refine (HWd.out w5 r3 H5.out.1 HLn.out.2.2.2.1).mono ?_
      rintro e w6 ⟨rfl, hs, hg⟩
      rw [← HR.out.2.2.2.1.2] at hs
      rw [← HR.out.2.2.2.1.1]
      have H6 := Lib.hid (H5.out.word hs hg)
      clear hs hg
      dsimp only
      go_wp2_with (fail)
      refine (HNm.out.2.2.1 w6 H6.out.1.1).mono ?_
      rintro e w7 ⟨rfl, hB⟩
      have H7 := Lib.hid (H6.out.below hB)
      clear hB
      dsimp only
      have f := H7.out.fro 3
      have g : w7.cell? ⟨qb, 3, none⟩ = _ := H7.out.cell 3 rfl
      go_upto_region 7 with (fail)
      clear f g
      obtain ⟨w8, hw⟩ : ∃ W, W = w7.setCell ⟨qb, 3, none⟩ (.int .i64 lt) := ⟨_, rfl⟩
      rw [← hw]
      have H8 : Hid (AskQ w qb r4 ⟨kd, sz, 0, lt, 0, 0⟩ w8) := by rw [hw]; exact Lib.hid (H7.out.set 3 _ rfl)
      clear hw
      go_wp2_with (fail)
      refine (HWd.out w8 r4 H8.out.1 HLn.out.2.2.2.2.1).mono ?_
      rintro e w9 ⟨rfl, hs, hg⟩
      rw [← HR.out.2.2.2.2.1.2] at hs
      rw [← HR.out.2.2.2.2.1.1]
      have H9 := Lib.hid (H8.out.word hs hg)
      clear hs hg
      dsimp only
      go_wp2_with (fail)
      refine (HAg.out w9 H9.out.1.1).mono ?_
      rintro e w' ⟨rfl, hw⟩
      subst w'
      dsimp only
      have f := H9.out.fro 4
      have g : w9.cell? ⟨qb, 4, none⟩ = _ := H9.out.cell 4 rfl
      go_upto_region 8 with (fail)
      clear f g
      obtain ⟨w10, hw⟩ : ∃ W, W = w9.setCell ⟨qb, 4, none⟩ (.int .i64 ag) := ⟨_, rfl⟩
      rw [← hw]
      have H10 : Hid (AskQ w qb r5 ⟨kd, sz, 0, lt, ag, 0⟩ w10) := by rw [hw]; exact Lib.hid (H9.out.set 4 _ rfl)
      clear hw
      have d4 : w10.cell? ⟨qb, 4, none⟩ = some (.int .i64 ag) := H10.out.cell 4 rfl
      go_upto_region 10 with (fail)
      clear d4
      have d0 : w10.cell? ⟨qb, 0, none⟩ = _ := H10.out.cell 0 rfl
      have d1 : w10.cell? ⟨qb, 1, none⟩ = _ := H10.out.cell 1 rfl
      have d2 : w10.cell? ⟨qb, 2, none⟩ = _ := H10.out.cell 2 rfl
      have d3 : w10.cell? ⟨qb, 3, none⟩ = _ := H10.out.cell 3 rfl
      have d4 : w10.cell? ⟨qb, 4, none⟩ = _ := H10.out.cell 4 rfl
      have d5 : w10.cell? ⟨qb, 5, none⟩ = _ := H10.out.cell 5 rfl
      refine wp_region_lit ?_
      first
        | (refine wpList_store_row rfl _ _ _ rfl (w.heap.size + 1) (QueryL.mk kd sz 0 lt ag 0).cells rfl rfl 23 zeroQ.cells H10.out.1.2.2 query_size rfl (query_one _) ?_)
        | (iterate 1 go_step
           refine wpList_store_row rfl _ _ _ rfl (w.heap.size + 1) (QueryL.mk kd sz 0 lt ag 0).cells rfl rfl 23 zeroQ.cells H10.out.1.2.2 query_size rfl (query_one _) ?_)
        | (iterate 2 go_step
           refine wpList_store_row rfl _ _ _ rfl (w.heap.size + 1) (QueryL.mk kd sz 0 lt ag 0).cells rfl rfl 23 zeroQ.cells H10.out.1.2.2 query_size rfl (query_one _) ?_)
        | (iterate 3 go_step
           refine wpList_store_row rfl _ _ _ rfl (w.heap.size + 1) (QueryL.mk kd sz 0 lt ag 0).cells rfl rfl 23 zeroQ.cells H10.out.1.2.2 query_size rfl (query_one _) ?_)
        | (iterate 4 go_step
           refine wpList_store_row rfl _ _ _ rfl (w.heap.size + 1) (QueryL.mk kd sz 0 lt ag 0).cells rfl rfl 23 zeroQ.cells H10.out.1.2.2 query_size rfl (query_one _) ?_)
        | (iterate 5 go_step
           refine wpList_store_row rfl _ _ _ rfl (w.heap.size + 1) (QueryL.mk kd sz 0 lt ag 0).cells rfl rfl 23 zeroQ.cells H10.out.1.2.2 query_size rfl (query_one _) ?_)
        | (iterate 6 go_step
           refine wpList_store_row rfl _ _ _ rfl (w.heap.size + 1) (QueryL.mk kd sz 0 lt ag 0).cells rfl rfl 23 zeroQ.cells H10.out.1.2.2 query_size rfl (query_one _) ?_)
        | (iterate 7 go_step
           refine wpList_store_row rfl _ _ _ rfl (w.heap.size + 1) (QueryL.mk kd sz 0 lt ag 0).cells rfl rfl 23 zeroQ.cells H10.out.1.2.2 query_size rfl (query_one _) ?_)
        | (iterate 8 go_step
           refine wpList_store_row rfl _ _ _ rfl (w.heap.size + 1) (QueryL.mk kd sz 0 lt ag 0).cells rfl rfl 23 zeroQ.cells H10.out.1.2.2 query_size rfl (query_one _) ?_)
        | (iterate 9 go_step
           refine wpList_store_row rfl _ _ _ rfl (w.heap.size + 1) (QueryL.mk kd sz 0 lt ag 0).cells rfl rfl 23 zeroQ.cells H10.out.1.2.2 query_size rfl (query_one _) ?_)
      have HZ := Lib.hid (H10.out.fin (QueryL.mk kd sz 0 lt ag 0).cells)
      obtain ⟨wz, hwz⟩ : ∃ W, W = w10.setRow (w.heap.size + 1) (QueryL.mk kd sz 0 lt ag 0).cells := ⟨_, rfl⟩
      rw [← hwz] at HZ ⊢
      clear hwz d0 d1 d2 d3 d4 d5
      go_wp2_with (fail)
      exact bodyPost_ret (v := .agg (QueryL.mk kd sz 0 lt ag 0).cells) (results_cell_row (p := 2) (ty := 23) rfl _ _ (w.heap.size + 1) 23 _ (0, 0) _ rfl HZ.out.2 Tryd.underlying23 rfl query_size) rfl ⟨rfl, HZ.out.1⟩
end Go.Proofs.YteoolfifpmbkeaaDoor
