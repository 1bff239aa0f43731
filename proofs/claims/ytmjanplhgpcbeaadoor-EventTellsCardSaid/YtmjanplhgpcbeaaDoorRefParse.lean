/-
  The contract of the reference's Parse: what it parses is what Parse parses.
-/
import Derived.Test.YtmjanplhgpcbeaaDoorRefNumber
import Derived.Test.YtmjanplhgpcbeaaDoorRefName
import Derived.Test.YtmjanplhgpcbeaaDoorEventParse
namespace Go.Proofs.YtmjanplhgpcbeaaDoor
open Go Go.RowKit

theorem splitL_len (s : List (BitVec 8)) : ∀ x ∈ splitL s, x.length ≤ s.length := by
  have key : ∀ k, k ≤ s.length → (∀ x ∈ (splitS (s.take k)).1, x.length ≤ k) ∧ (splitS (s.take k)).2.length ≤ k := by
    intro k
    induction k with
    | zero => intro _; simp [splitS]
    | succ k ih =>
      intro hk
      have hc : s[k]? = some s[k] := List.getElem?_eq_getElem (by omega)
      obtain ⟨h1, h2⟩ := ih (by omega)
      rw [splitS_next hc, splitStep]
      split
      · refine ⟨fun x hx => ?_, Nat.zero_le _⟩
        rcases List.mem_append.1 hx with h | h
        · have := h1 x h
          omega
        · rw [List.mem_singleton.1 h]
          omega
      · refine ⟨fun x hx => ?_, ?_⟩
        · have := h1 x hx
          omega
        · simp only [List.length_append, List.length_cons, List.length_nil]
          omega
  have h := key s.length (Nat.le_refl _)
  rw [List.take_length] at h
  intro x hx
  rcases List.mem_append.1 hx with h3 | h3
  · exact h.1 x h3
  · rw [List.mem_singleton.1 h3]
    exact h.2
theorem splitL_pos (s : List (BitVec 8)) : 0 < (splitL s).length := by simp [splitL]
theorem refParse_none (s : List (BitVec 8)) (h1 : ¬ ((splitL s)[0]? = some wMark ∧ (splitL s).length = 2)) (h2 : ¬ ((splitL s)[0]? = some wEvent ∧ (splitL s).length = 4)) : refParseL s = (zeroI, false) := by
  unfold refParseL
  split
  · rename_i a b e
    rw [if_neg fun c => h1 ⟨by rw [e]; simp [c.1], by rw [e]; rfl⟩]
  · rename_i a b c d e
    rw [if_neg fun c => h2 ⟨by rw [e]; simp [c.1], by rw [e]; rfl⟩]
  · rfl
/-- A struct literal, by the cells that it makes. -/
theorem wpList_built {P : Program} {ops : Array Oper} {rest : List Oper} {o : Oper} {a : Act} {w : World} {Q : Exit → Act → World → Prop} (hg : o.guard = none) (t : TypeId) (parts : Array (Nat × Operand)) (ho : o.op = .build t parts)
    (cells : Array Value) (hf : P.built t (parts.map fun (i, x) => (i, a.eval x)).toList = some cells) (h : wpList P ops Q rest (a.put o.dst (.agg cells)) w) : wpList P ops Q (o :: rest) a w :=
  wpList_build hg t parts ho (by rw [hf]; rfl) (by rw [hf]; exact h)
/-- The result's row, zero as yet. -/
def P0 (w w' : World) : Prop := Below w.heap.size w w' ∧ w'.heap[w.heap.size]? = some (.cells zeroI.cells 23 (0, 0)) ∧ w.heap.size < w'.heap.size
theorem P0.below {w w' w3 : World} (h : P0 w w') (hB : Below w'.heap.size w' w3) : P0 w w3 := ⟨h.1.trans (hB.mono h.1.size), (hB.block _ (Array.getElem?_eq_some_iff.1 h.2.1).1).trans h.2.1, by have := hB.size; have := h.2.2; omega⟩
theorem P0.fin {w w' : World} (h : P0 w w') (cs : Array Value) : Below w.heap.size w (w'.setRow w.heap.size cs) ∧ (w'.setRow w.heap.size cs).heap[w.heap.size]? = some (.cells cs 23 (0, 0)) :=
  ⟨h.1.trans ⟨rfl, rfl, rfl, by simp [World.setRow], fun i hi => setRow_other _ _ _ _ (by omega)⟩, setRow_heap _ _ _ _ _ _ h.2.1⟩
theorem P0.row {w w' : World} (h : P0 w w') (x : ItemL) (hB : Below w'.heap.size w' (w'.alloc (Obj.cells #[.int .i64 0, .string ⟨#[]⟩, .int .i64 0, .int .i64 0] 23))) : PS w w'.heap.size x ((w'.alloc (Obj.cells #[.int .i64 0, .string ⟨#[]⟩, .int .i64 0, .int .i64 0] 23)).setRow w'.heap.size x.cells) := by
  have hb2 : Below w'.heap.size w' ((w'.alloc (Obj.cells #[.int .i64 0, .string ⟨#[]⟩, .int .i64 0, .int .i64 0] 23)).setRow w'.heap.size x.cells) :=
    hB.trans ⟨rfl, rfl, rfl, by simp [World.setRow], fun i hi => setRow_other _ _ _ _ (by omega)⟩
  exact ⟨h.1.trans (hb2.mono h.1.size), (hb2.block _ h.2.2).trans h.2.1, setRow_heap _ _ _ _ _ _ (heap_alloc_new w' _), h.2.2⟩
set_option maxRecDepth 100000 in
set_option maxHeartbeats 4000000 in
theorem erParse_any (w : World) (s : List (BitVec 8)) (hl : s.length ≤ 900) :
    Calls Tryd.prog 13 #[Sv s] w (Below0 w (.tuple #[.agg (refParseL s).1.cells, .bool (refParseL s).2])) := by
  obtain ⟨w0, hw0⟩ : ∃ W, W = w.alloc (.cells #[.int .i64 0, .string ⟨#[]⟩, .int .i64 0, .int .i64 0] 23) := ⟨_, rfl⟩
  have H0 : Hid (Below w.heap.size w w0 ∧ w0.heap[w.heap.size]? = some (.cells zeroI.cells 23 (0, 0))) := by
    rw [hw0]
    exact Lib.hid ⟨(Below.refl _ w).alloc (Nat.le_refl _) _, heap_alloc_new w _⟩
  have HS := Lib.hid (erSplit_any w0 s hl)
  obtain ⟨P, hP⟩ : ∃ P, P = Below0 w (.tuple #[.agg (refParseL s).1.cells, .bool (refParseL s).2]) := ⟨_, rfl⟩
  rw [← hP]
  have HP := Lib.hid hP
  obtain ⟨R, hR⟩ : ∃ R, R = refParseL s := ⟨_, rfl⟩
  obtain ⟨ws, hws⟩ : ∃ x, x = splitL s := ⟨_, rfl⟩
  have HN1 : Hid (¬ (ws[0]? = some wMark ∧ ws.length = 2) → ¬ (ws[0]? = some wEvent ∧ ws.length = 4) → R = (zeroI, false)) := by
    rw [hws, hR]
    exact Lib.hid (refParse_none s)
  have HM : Hid (∀ b, ws = [wMark, b] → R = if (refNum b).2 = true ∧ (ItemL.mk 2 [] (refNum b).1 0).rightB = true then (⟨2, [], (refNum b).1, 0⟩, true) else (zeroI, false)) := by
    refine Lib.hid (fun b h => ?_)
    rw [hR, refParseL, ← hws, h]
    simp only [true_and]
  have HV : Hid (∀ b c d, ws = [wEvent, b, c, d] → R = if (refNum c).2 = true ∧ (refNum d).2 = true ∧ (ItemL.mk 1 b (refNum c).1 (refNum d).1).rightB = true then (⟨1, b, (refNum c).1, (refNum d).1⟩, true) else (zeroI, false)) := by
    refine Lib.hid (fun b c d h => ?_)
    rw [hR, refParseL, ← hws, h]
    simp only [true_and]
  have HLn : Hid (∀ x ∈ ws, x.length ≤ 900) := by
    rw [hws]
    exact Lib.hid (fun x hx => Nat.le_trans (splitL_len s x hx) hl)
  have hpos : 0 < ws.length := by rw [hws]; exact splitL_pos s
  rw [← hws] at HS
  rw [← hR] at HP
  obtain ⟨N, hN⟩ : ∃ N, N = ws.length := ⟨_, rfl⟩
  rw [← hN] at HS hpos
  have HNl := Lib.hid hN
  clear hl hP hN hR hws
  go_enter Tryd.func13, Tryd.ntmps13
  go_upto_region 1 with (fail)
  rw [← hw0]
  clear hw0
  go_wp2_with (fail)
  refine HS.out.mono ?_
  rintro e w1 ⟨g, cap, rfl, hg0, hW, hB⟩
  have H1 : Hid (P0 w w1) := by
    have h1 := (hB.block _ (Array.getElem?_eq_some_iff.1 H0.out.2).1).trans H0.out.2
    exact Lib.hid ⟨H0.out.1.trans (hB.mono H0.out.1.size), h1, (Array.getElem?_eq_some_iff.1 h1).1⟩
  have HW : Hid (∀ w', Below w1.heap.size w1 w' → WordsAt w' g ws) := Lib.hid (fun w' h j x hj => (h.cell (block_lt_of_cell (hW j x hj))).trans (hW j x hj))
  clear hW hB hg0
  by_cases hmark : ws[0]? = some wMark ∧ ws.length = 2
  · obtain ⟨b, rfl⟩ : ∃ b, ws = [wMark, b] := by
      match ws, hmark with
      | [a, b], h =>
        have : a = wMark := by simpa using h.1
        exact ⟨b, by rw [this]⟩
    have HR := Lib.hid (HM.out b rfl)
    obtain ⟨n, hn⟩ : ∃ n, n = (refNum b).1 := ⟨_, rfl⟩
    obtain ⟨k, hk⟩ : ∃ k, k = (refNum b).2 := ⟨_, rfl⟩
    rw [← hn, ← hk] at HR
    have HNb : Hid (∀ w', Calls Tryd.prog 40 #[Sv b] w' fun e w'' => e = .returned (.tuple #[.int .i64 n, .bool k]) ∧ w'' = w') := by
      rw [hn, hk]
      exact Lib.hid (fun w' => erNumber_any w' b (by have := HLn.out b (by simp); omega))
    obtain ⟨x, hx⟩ : ∃ x, x = ItemL.mk 2 [] n 0 := ⟨_, rfl⟩
    obtain ⟨r, hr⟩ : ∃ r, r = x.rightB := ⟨_, rfl⟩
    have HRi : Hid (∀ w', Calls Tryd.prog 8 #[.agg (ItemL.mk 2 [] n 0).cells] w' (Below0 w' (.bool r))) := by
      rw [hr, hx]
      exact Lib.hid (fun w' => erRight_any w' _ (Nat.zero_le _))
    rw [← hx, ← hr] at HR
    have HXe := Lib.hid hx
    have hbuilt : Tryd.prog.built 23 [(0, .int .i64 2), (2, .int .i64 n)] = some #[.int .i64 2, .string ⟨#[]⟩, .int .i64 n, .int .i64 0] := by kernel_rfl
    have c0 : w1.cell? ⟨g, 0, none⟩ = some (Sv wMark) := HW.out w1 (Below.refl _ _) 0 _ rfl
    have c1 : w1.cell? ⟨g, 1, none⟩ = some (Sv b) := HW.out w1 (Below.refl _ _) 1 _ rfl
    have hev : ∀ w, (binOp .eql 9 (Sv wMark) (.string ⟨#[109, 97, 114, 107]⟩)).run Tryd.prog w = .ok (.bool true) w := fun w => run_eql_Sv w wMark wMark
    obtain rfl : N = 2 := HNl.out
    unfold ItemL.cells at HRi
    rw [Sv_nil.symm] at HRi
    clear hmark hn hk hx hr hpos
    dsimp only
    go_wp2_with (fail)
    refine (HNb.out w1).mono ?_
    rintro e w2 ⟨rfl, hw2⟩
    subst w2
    dsimp only
    go_upto_region 4 with (fail)
    refine wp_region_lit ?_
    first
      | (iterate 1 go_step
         refine wpList_store_row rfl _ _ _ rfl w1.heap.size (ItemL.mk 2 [] n 0).cells rfl rfl 23 zeroI.cells (heap_alloc_new w1 _) item_size rfl (item_one1 _) ?_)
      | (iterate 2 go_step
         refine wpList_store_row rfl _ _ _ rfl w1.heap.size (ItemL.mk 2 [] n 0).cells rfl rfl 23 zeroI.cells (heap_alloc_new w1 _) item_size rfl (item_one1 _) ?_)
      | (iterate 3 go_step
         refine wpList_store_row rfl _ _ _ rfl w1.heap.size (ItemL.mk 2 [] n 0).cells rfl rfl 23 zeroI.cells (heap_alloc_new w1 _) item_size rfl (item_one1 _) ?_)
      | (iterate 4 go_step
         refine wpList_store_row rfl _ _ _ rfl w1.heap.size (ItemL.mk 2 [] n 0).cells rfl rfl 23 zeroI.cells (heap_alloc_new w1 _) item_size rfl (item_one1 _) ?_)
      | (iterate 5 go_step
         refine wpList_store_row rfl _ _ _ rfl w1.heap.size (ItemL.mk 2 [] n 0).cells rfl rfl 23 zeroI.cells (heap_alloc_new w1 _) item_size rfl (item_one1 _) ?_)
      | (iterate 6 go_step
         refine wpList_store_row rfl _ _ _ rfl w1.heap.size (ItemL.mk 2 [] n 0).cells rfl rfl 23 zeroI.cells (heap_alloc_new w1 _) item_size rfl (item_one1 _) ?_)
      | (iterate 7 go_step
         refine wpList_store_row rfl _ _ _ rfl w1.heap.size (ItemL.mk 2 [] n 0).cells rfl rfl 23 zeroI.cells (heap_alloc_new w1 _) item_size rfl (item_one1 _) ?_)
      | (iterate 8 go_step
         refine wpList_store_row rfl _ _ _ rfl w1.heap.size (ItemL.mk 2 [] n 0).cells rfl rfl 23 zeroI.cells (heap_alloc_new w1 _) item_size rfl (item_one1 _) ?_)
      | (iterate 9 go_step
         refine wpList_store_row rfl _ _ _ rfl w1.heap.size (ItemL.mk 2 [] n 0).cells rfl rfl 23 zeroI.cells (heap_alloc_new w1 _) item_size rfl (item_one1 _) ?_)
      | (iterate 10 go_step
         refine wpList_store_row rfl _ _ _ rfl w1.heap.size (ItemL.mk 2 [] n 0).cells rfl rfl 23 zeroI.cells (heap_alloc_new w1 _) item_size rfl (item_one1 _) ?_)
      | (iterate 11 go_step
         refine wpList_store_row rfl _ _ _ rfl w1.heap.size (ItemL.mk 2 [] n 0).cells rfl rfl 23 zeroI.cells (heap_alloc_new w1 _) item_size rfl (item_one1 _) ?_)
      | (iterate 12 go_step
         refine wpList_store_row rfl _ _ _ rfl w1.heap.size (ItemL.mk 2 [] n 0).cells rfl rfl 23 zeroI.cells (heap_alloc_new w1 _) item_size rfl (item_one1 _) ?_)
      | (iterate 13 go_step
         refine wpList_store_row rfl _ _ _ rfl w1.heap.size (ItemL.mk 2 [] n 0).cells rfl rfl 23 zeroI.cells (heap_alloc_new w1 _) item_size rfl (item_one1 _) ?_)
      | (iterate 14 go_step
         refine wpList_store_row rfl _ _ _ rfl w1.heap.size (ItemL.mk 2 [] n 0).cells rfl rfl 23 zeroI.cells (heap_alloc_new w1 _) item_size rfl (item_one1 _) ?_)
      | (iterate 15 go_step
         refine wpList_store_row rfl _ _ _ rfl w1.heap.size (ItemL.mk 2 [] n 0).cells rfl rfl 23 zeroI.cells (heap_alloc_new w1 _) item_size rfl (item_one1 _) ?_)
      | (iterate 16 go_step
         refine wpList_store_row rfl _ _ _ rfl w1.heap.size (ItemL.mk 2 [] n 0).cells rfl rfl 23 zeroI.cells (heap_alloc_new w1 _) item_size rfl (item_one1 _) ?_)
      | (iterate 17 go_step
         refine wpList_store_row rfl _ _ _ rfl w1.heap.size (ItemL.mk 2 [] n 0).cells rfl rfl 23 zeroI.cells (heap_alloc_new w1 _) item_size rfl (item_one1 _) ?_)
      | (iterate 18 go_step
         refine wpList_store_row rfl _ _ _ rfl w1.heap.size (ItemL.mk 2 [] n 0).cells rfl rfl 23 zeroI.cells (heap_alloc_new w1 _) item_size rfl (item_one1 _) ?_)
      | (iterate 19 go_step
         refine wpList_store_row rfl _ _ _ rfl w1.heap.size (ItemL.mk 2 [] n 0).cells rfl rfl 23 zeroI.cells (heap_alloc_new w1 _) item_size rfl (item_one1 _) ?_)
      | (iterate 20 go_step
         refine wpList_store_row rfl _ _ _ rfl w1.heap.size (ItemL.mk 2 [] n 0).cells rfl rfl 23 zeroI.cells (heap_alloc_new w1 _) item_size rfl (item_one1 _) ?_)
      | (iterate 21 go_step
         refine wpList_store_row rfl _ _ _ rfl w1.heap.size (ItemL.mk 2 [] n 0).cells rfl rfl 23 zeroI.cells (heap_alloc_new w1 _) item_size rfl (item_one1 _) ?_)
      | (iterate 22 go_step
         refine wpList_store_row rfl _ _ _ rfl w1.heap.size (ItemL.mk 2 [] n 0).cells rfl rfl 23 zeroI.cells (heap_alloc_new w1 _) item_size rfl (item_one1 _) ?_)
      | (iterate 23 go_step
         refine wpList_store_row rfl _ _ _ rfl w1.heap.size (ItemL.mk 2 [] n 0).cells rfl rfl 23 zeroI.cells (heap_alloc_new w1 _) item_size rfl (item_one1 _) ?_)
      | (iterate 24 go_step
         refine wpList_store_row rfl _ _ _ rfl w1.heap.size (ItemL.mk 2 [] n 0).cells rfl rfl 23 zeroI.cells (heap_alloc_new w1 _) item_size rfl (item_one1 _) ?_)
      | (iterate 25 go_step
         refine wpList_store_row rfl _ _ _ rfl w1.heap.size (ItemL.mk 2 [] n 0).cells rfl rfl 23 zeroI.cells (heap_alloc_new w1 _) item_size rfl (item_one1 _) ?_)
      | (iterate 26 go_step
         refine wpList_store_row rfl _ _ _ rfl w1.heap.size (ItemL.mk 2 [] n 0).cells rfl rfl 23 zeroI.cells (heap_alloc_new w1 _) item_size rfl (item_one1 _) ?_)
      | (iterate 27 go_step
         refine wpList_store_row rfl _ _ _ rfl w1.heap.size (ItemL.mk 2 [] n 0).cells rfl rfl 23 zeroI.cells (heap_alloc_new w1 _) item_size rfl (item_one1 _) ?_)
      | (iterate 28 go_step
         refine wpList_store_row rfl _ _ _ rfl w1.heap.size (ItemL.mk 2 [] n 0).cells rfl rfl 23 zeroI.cells (heap_alloc_new w1 _) item_size rfl (item_one1 _) ?_)
      | (iterate 29 go_step
         refine wpList_store_row rfl _ _ _ rfl w1.heap.size (ItemL.mk 2 [] n 0).cells rfl rfl 23 zeroI.cells (heap_alloc_new w1 _) item_size rfl (item_one1 _) ?_)
      | (iterate 30 go_step
         refine wpList_store_row rfl _ _ _ rfl w1.heap.size (ItemL.mk 2 [] n 0).cells rfl rfl 23 zeroI.cells (heap_alloc_new w1 _) item_size rfl (item_one1 _) ?_)
    obtain ⟨w3, hw3⟩ : ∃ W, W = (w1.alloc (Obj.cells #[.int .i64 0, .string ⟨#[]⟩, .int .i64 0, .int .i64 0] 23)).setRow w1.heap.size (ItemL.mk 2 [] n 0).cells := ⟨_, rfl⟩
    rw [← hw3]
    obtain ⟨xb, hxb⟩ : ∃ x, x = w1.heap.size := ⟨_, rfl⟩
    have S3 : Hid (PS w xb (ItemL.mk 2 [] n 0) w3) := by
      rw [hw3, hxb]
      exact Lib.hid (H1.out.row _ ((Below.refl _ w1).alloc (Nat.le_refl _) _))
    rw [← hxb]
    clear hw3 hxb c0 c1 hbuilt
    have d0 : w3.cell? ⟨xb, 0, none⟩ = _ := S3.out.cell 0 rfl
    have d1 : w3.cell? ⟨xb, 1, none⟩ = some (.string ⟨#[]⟩) := S3.out.cell 1 rfl
    have d2 : w3.cell? ⟨xb, 2, none⟩ = _ := S3.out.cell 2 rfl
    have d3 : w3.cell? ⟨xb, 3, none⟩ = _ := S3.out.cell 3 rfl
    cases k with
    | false =>
      have HRn : Hid (R = (zeroI, false)) := by rw [HR.out]; exact Lib.hid (if_neg (by simp))
      have HF : Hid (∀ wz, Below w.heap.size w wz → P (.returned (.tuple #[.agg (zeroI).cells, .bool false])) wz) := by
        refine Lib.hid (fun wz h => ?_)
        rw [HP.out, HRn.out]
        exact ⟨rfl, h⟩
      clear d0 d1 d2 d3
      go_upto_region 13 with (fail)
      refine wp_region_lit ?_
      first
        | (iterate 1 go_step
           refine wpList_store_row rfl _ _ _ rfl w.heap.size (zeroI).cells rfl rfl 23 zeroI.cells S3.out.2.1 item_size rfl (item_one1 _) ?_)
        | (iterate 2 go_step
           refine wpList_store_row rfl _ _ _ rfl w.heap.size (zeroI).cells rfl rfl 23 zeroI.cells S3.out.2.1 item_size rfl (item_one1 _) ?_)
        | (iterate 3 go_step
           refine wpList_store_row rfl _ _ _ rfl w.heap.size (zeroI).cells rfl rfl 23 zeroI.cells S3.out.2.1 item_size rfl (item_one1 _) ?_)
        | (iterate 4 go_step
           refine wpList_store_row rfl _ _ _ rfl w.heap.size (zeroI).cells rfl rfl 23 zeroI.cells S3.out.2.1 item_size rfl (item_one1 _) ?_)
        | (iterate 5 go_step
           refine wpList_store_row rfl _ _ _ rfl w.heap.size (zeroI).cells rfl rfl 23 zeroI.cells S3.out.2.1 item_size rfl (item_one1 _) ?_)
        | (iterate 6 go_step
           refine wpList_store_row rfl _ _ _ rfl w.heap.size (zeroI).cells rfl rfl 23 zeroI.cells S3.out.2.1 item_size rfl (item_one1 _) ?_)
        | (iterate 7 go_step
           refine wpList_store_row rfl _ _ _ rfl w.heap.size (zeroI).cells rfl rfl 23 zeroI.cells S3.out.2.1 item_size rfl (item_one1 _) ?_)
        | (iterate 8 go_step
           refine wpList_store_row rfl _ _ _ rfl w.heap.size (zeroI).cells rfl rfl 23 zeroI.cells S3.out.2.1 item_size rfl (item_one1 _) ?_)
        | (iterate 9 go_step
           refine wpList_store_row rfl _ _ _ rfl w.heap.size (zeroI).cells rfl rfl 23 zeroI.cells S3.out.2.1 item_size rfl (item_one1 _) ?_)
        | (iterate 10 go_step
           refine wpList_store_row rfl _ _ _ rfl w.heap.size (zeroI).cells rfl rfl 23 zeroI.cells S3.out.2.1 item_size rfl (item_one1 _) ?_)
      have HZ := Lib.hid (S3.out.fin (zeroI).cells)
      obtain ⟨wz, hwz⟩ : ∃ W, W = w3.setRow w.heap.size (zeroI).cells := ⟨_, rfl⟩
      rw [← hwz] at HZ ⊢
      clear hwz
      go_wp2_with (fail)
      exact bodyPost_ret (v := .tuple #[.agg (zeroI).cells, .bool false]) ((results_cell_row_tmp (p := 2) (u := 3) (ty := 23) rfl _ _ w.heap.size 23 (zeroI).cells (0, 0) _ rfl HZ.out.2 Tryd.underlying23 rfl item_size).trans rfl) rfl (HF.out _ HZ.out.1)
    | true =>
      cases r with
      | false =>
        have HRn : Hid (R = (zeroI, false)) := by rw [HR.out]; exact Lib.hid (if_neg (by simp))
        have HF : Hid (∀ wz, Below w.heap.size w wz → P (.returned (.tuple #[.agg (zeroI).cells, .bool false])) wz) := by
          refine Lib.hid (fun wz h => ?_)
          rw [HP.out, HRn.out]
          exact ⟨rfl, h⟩
        go_wp2_with (fail)
        refine (HRi.out w3).mono ?_
        rintro e w4 ⟨rfl, hB⟩
        have S4 := Lib.hid (S3.out.below hB)
        clear hB d0 d1 d2 d3
        dsimp only
        go_upto_region 13 with (fail)
        refine wp_region_lit ?_
        first
          | (iterate 1 go_step
             refine wpList_store_row rfl _ _ _ rfl w.heap.size (zeroI).cells rfl rfl 23 zeroI.cells S4.out.2.1 item_size rfl (item_one1 _) ?_)
          | (iterate 2 go_step
             refine wpList_store_row rfl _ _ _ rfl w.heap.size (zeroI).cells rfl rfl 23 zeroI.cells S4.out.2.1 item_size rfl (item_one1 _) ?_)
          | (iterate 3 go_step
             refine wpList_store_row rfl _ _ _ rfl w.heap.size (zeroI).cells rfl rfl 23 zeroI.cells S4.out.2.1 item_size rfl (item_one1 _) ?_)
          | (iterate 4 go_step
             refine wpList_store_row rfl _ _ _ rfl w.heap.size (zeroI).cells rfl rfl 23 zeroI.cells S4.out.2.1 item_size rfl (item_one1 _) ?_)
          | (iterate 5 go_step
             refine wpList_store_row rfl _ _ _ rfl w.heap.size (zeroI).cells rfl rfl 23 zeroI.cells S4.out.2.1 item_size rfl (item_one1 _) ?_)
          | (iterate 6 go_step
             refine wpList_store_row rfl _ _ _ rfl w.heap.size (zeroI).cells rfl rfl 23 zeroI.cells S4.out.2.1 item_size rfl (item_one1 _) ?_)
          | (iterate 7 go_step
             refine wpList_store_row rfl _ _ _ rfl w.heap.size (zeroI).cells rfl rfl 23 zeroI.cells S4.out.2.1 item_size rfl (item_one1 _) ?_)
          | (iterate 8 go_step
             refine wpList_store_row rfl _ _ _ rfl w.heap.size (zeroI).cells rfl rfl 23 zeroI.cells S4.out.2.1 item_size rfl (item_one1 _) ?_)
          | (iterate 9 go_step
             refine wpList_store_row rfl _ _ _ rfl w.heap.size (zeroI).cells rfl rfl 23 zeroI.cells S4.out.2.1 item_size rfl (item_one1 _) ?_)
          | (iterate 10 go_step
             refine wpList_store_row rfl _ _ _ rfl w.heap.size (zeroI).cells rfl rfl 23 zeroI.cells S4.out.2.1 item_size rfl (item_one1 _) ?_)
        have HZ := Lib.hid (S4.out.fin (zeroI).cells)
        obtain ⟨wz, hwz⟩ : ∃ W, W = w4.setRow w.heap.size (zeroI).cells := ⟨_, rfl⟩
        rw [← hwz] at HZ ⊢
        clear hwz
        go_wp2_with (fail)
        exact bodyPost_ret (v := .tuple #[.agg (zeroI).cells, .bool false]) ((results_cell_row_tmp (p := 2) (u := 3) (ty := 23) rfl _ _ w.heap.size 23 (zeroI).cells (0, 0) _ rfl HZ.out.2 Tryd.underlying23 rfl item_size).trans rfl) rfl (HF.out _ HZ.out.1)
      | true =>
        have HRn : Hid (R = (ItemL.mk 2 [] n 0, true)) := by rw [HR.out, ← HXe.out]; exact Lib.hid (if_pos ⟨rfl, rfl⟩)
        have HF : Hid (∀ wz, Below w.heap.size w wz → P (.returned (.tuple #[.agg (ItemL.mk 2 [] n 0).cells, .bool true])) wz) := by
          refine Lib.hid (fun wz h => ?_)
          rw [HP.out, HRn.out]
          exact ⟨rfl, h⟩
        go_wp2_with (fail)
        refine (HRi.out w3).mono ?_
        rintro e w4 ⟨rfl, hB⟩
        have S4 := Lib.hid (S3.out.below hB)
        clear hB d0 d1 d2 d3
        have d0 : w4.cell? ⟨xb, 0, none⟩ = _ := S4.out.cell 0 rfl
        have d1 : w4.cell? ⟨xb, 1, none⟩ = some (.string ⟨#[]⟩) := S4.out.cell 1 rfl
        have d2 : w4.cell? ⟨xb, 2, none⟩ = _ := S4.out.cell 2 rfl
        have d3 : w4.cell? ⟨xb, 3, none⟩ = _ := S4.out.cell 3 rfl
        dsimp only
        go_upto_region 6 with (fail)
        refine wp_region_lit ?_
        first
          | (iterate 1 go_step
             refine wpList_store_row rfl _ _ _ rfl w.heap.size (ItemL.mk 2 [] n 0).cells rfl rfl 23 zeroI.cells S4.out.2.1 item_size rfl (item_one1 _) ?_)
          | (iterate 2 go_step
             refine wpList_store_row rfl _ _ _ rfl w.heap.size (ItemL.mk 2 [] n 0).cells rfl rfl 23 zeroI.cells S4.out.2.1 item_size rfl (item_one1 _) ?_)
          | (iterate 3 go_step
             refine wpList_store_row rfl _ _ _ rfl w.heap.size (ItemL.mk 2 [] n 0).cells rfl rfl 23 zeroI.cells S4.out.2.1 item_size rfl (item_one1 _) ?_)
          | (iterate 4 go_step
             refine wpList_store_row rfl _ _ _ rfl w.heap.size (ItemL.mk 2 [] n 0).cells rfl rfl 23 zeroI.cells S4.out.2.1 item_size rfl (item_one1 _) ?_)
          | (iterate 5 go_step
             refine wpList_store_row rfl _ _ _ rfl w.heap.size (ItemL.mk 2 [] n 0).cells rfl rfl 23 zeroI.cells S4.out.2.1 item_size rfl (item_one1 _) ?_)
          | (iterate 6 go_step
             refine wpList_store_row rfl _ _ _ rfl w.heap.size (ItemL.mk 2 [] n 0).cells rfl rfl 23 zeroI.cells S4.out.2.1 item_size rfl (item_one1 _) ?_)
          | (iterate 7 go_step
             refine wpList_store_row rfl _ _ _ rfl w.heap.size (ItemL.mk 2 [] n 0).cells rfl rfl 23 zeroI.cells S4.out.2.1 item_size rfl (item_one1 _) ?_)
          | (iterate 8 go_step
             refine wpList_store_row rfl _ _ _ rfl w.heap.size (ItemL.mk 2 [] n 0).cells rfl rfl 23 zeroI.cells S4.out.2.1 item_size rfl (item_one1 _) ?_)
          | (iterate 9 go_step
             refine wpList_store_row rfl _ _ _ rfl w.heap.size (ItemL.mk 2 [] n 0).cells rfl rfl 23 zeroI.cells S4.out.2.1 item_size rfl (item_one1 _) ?_)
          | (iterate 10 go_step
             refine wpList_store_row rfl _ _ _ rfl w.heap.size (ItemL.mk 2 [] n 0).cells rfl rfl 23 zeroI.cells S4.out.2.1 item_size rfl (item_one1 _) ?_)
        have HZ := Lib.hid (S4.out.fin (ItemL.mk 2 [] n 0).cells)
        obtain ⟨wz, hwz⟩ : ∃ W, W = w4.setRow w.heap.size (ItemL.mk 2 [] n 0).cells := ⟨_, rfl⟩
        rw [← hwz] at HZ ⊢
        clear hwz
        go_wp2_with (fail)
        exact bodyPost_ret (v := .tuple #[.agg (ItemL.mk 2 [] n 0).cells, .bool true]) ((results_cell_row_tmp (p := 2) (u := 3) (ty := 23) rfl _ _ w.heap.size 23 (ItemL.mk 2 [] n 0).cells (0, 0) _ rfl HZ.out.2 Tryd.underlying23 rfl item_size).trans rfl) rfl (HF.out _ HZ.out.1)
  by_cases hevent : ws[0]? = some wEvent ∧ ws.length = 4
  · obtain ⟨b, c, d, rfl⟩ : ∃ b c d, ws = [wEvent, b, c, d] := by
      match ws, hevent with
      | [a, b, c, d], h =>
        have : a = wEvent := by simpa using h.1
        exact ⟨b, c, d, by rw [this]⟩
    have HR := Lib.hid (HV.out b c d rfl)
    obtain ⟨n, hn⟩ : ∃ n, n = (refNum c).1 := ⟨_, rfl⟩
    obtain ⟨k, hk⟩ : ∃ k, k = (refNum c).2 := ⟨_, rfl⟩
    obtain ⟨v, hv⟩ : ∃ n, n = (refNum d).1 := ⟨_, rfl⟩
    obtain ⟨k2, hk2⟩ : ∃ k, k = (refNum d).2 := ⟨_, rfl⟩
    rw [← hn, ← hk, ← hv, ← hk2] at HR
    have HNb : Hid (∀ w', Calls Tryd.prog 40 #[Sv c] w' fun e w'' => e = .returned (.tuple #[.int .i64 n, .bool k]) ∧ w'' = w') := by
      rw [hn, hk]
      exact Lib.hid (fun w' => erNumber_any w' c (by have := HLn.out c (by simp); omega))
    have HNc : Hid (∀ w', Calls Tryd.prog 40 #[Sv d] w' fun e w'' => e = .returned (.tuple #[.int .i64 v, .bool k2]) ∧ w'' = w') := by
      rw [hv, hk2]
      exact Lib.hid (fun w' => erNumber_any w' d (by have := HLn.out d (by simp); omega))
    obtain ⟨x, hx⟩ : ∃ x, x = ItemL.mk 1 b n v := ⟨_, rfl⟩
    obtain ⟨r, hr⟩ : ∃ r, r = x.rightB := ⟨_, rfl⟩
    have HRi : Hid (∀ w', Calls Tryd.prog 8 #[.agg (ItemL.mk 1 b n v).cells] w' (Below0 w' (.bool r))) := by
      rw [hr, hx]
      exact Lib.hid (fun w' => erRight_any w' _ (by have := HLn.out b (by simp); show b.length ≤ _; omega))
    rw [← hx, ← hr] at HR
    have HXe := Lib.hid hx
    have hbuilt : Tryd.prog.built 23 [(0, .int .i64 1), (1, Sv b), (2, .int .i64 n), (3, .int .i64 v)] = some #[.int .i64 1, Sv b, .int .i64 n, .int .i64 v] := by kernel_rfl
    have c0 : w1.cell? ⟨g, 0, none⟩ = some (Sv wEvent) := HW.out w1 (Below.refl _ _) 0 _ rfl
    have c1 : w1.cell? ⟨g, 1, none⟩ = some (Sv b) := HW.out w1 (Below.refl _ _) 1 _ rfl
    have c2 : w1.cell? ⟨g, 2, none⟩ = some (Sv c) := HW.out w1 (Below.refl _ _) 2 _ rfl
    have c3 : w1.cell? ⟨g, 3, none⟩ = some (Sv d) := HW.out w1 (Below.refl _ _) 3 _ rfl
    have hev : ∀ w, (binOp .eql 9 (Sv wEvent) (.string ⟨#[101, 118, 101, 110, 116]⟩)).run Tryd.prog w = .ok (.bool true) w := fun w => run_eql_Sv w wEvent wEvent
    obtain rfl : N = 4 := HNl.out
    unfold ItemL.cells at HRi
    clear hmark hevent hn hk hv hk2 hx hr hpos
    dsimp only
    go_wp2_with (fail)
    refine (HNb.out w1).mono ?_
    rintro e w2 ⟨rfl, hw2⟩
    subst w2
    dsimp only
    go_wp2_with (fail)
    refine (HNc.out w1).mono ?_
    rintro e w2 ⟨rfl, hw2⟩
    subst w2
    dsimp only
    go_upto_region 10 with (fail)
    refine wp_region_lit ?_
    iterate 15 go_step
    refine wpList_built rfl 23 _ rfl #[.int .i64 1, Sv b, .int .i64 n, .int .i64 v] (by simp only [List.map_toArray, List.map_cons, List.map_nil]; exact hbuilt) ?_
    first
      | (iterate 1 go_step
         refine wpList_store_row rfl _ _ _ rfl w1.heap.size (ItemL.mk 1 b n v).cells rfl rfl 23 zeroI.cells (heap_alloc_new w1 _) item_size rfl (item_one1 _) ?_)
      | (iterate 2 go_step
         refine wpList_store_row rfl _ _ _ rfl w1.heap.size (ItemL.mk 1 b n v).cells rfl rfl 23 zeroI.cells (heap_alloc_new w1 _) item_size rfl (item_one1 _) ?_)
      | (iterate 3 go_step
         refine wpList_store_row rfl _ _ _ rfl w1.heap.size (ItemL.mk 1 b n v).cells rfl rfl 23 zeroI.cells (heap_alloc_new w1 _) item_size rfl (item_one1 _) ?_)
      | (iterate 4 go_step
         refine wpList_store_row rfl _ _ _ rfl w1.heap.size (ItemL.mk 1 b n v).cells rfl rfl 23 zeroI.cells (heap_alloc_new w1 _) item_size rfl (item_one1 _) ?_)
      | (iterate 5 go_step
         refine wpList_store_row rfl _ _ _ rfl w1.heap.size (ItemL.mk 1 b n v).cells rfl rfl 23 zeroI.cells (heap_alloc_new w1 _) item_size rfl (item_one1 _) ?_)
      | (iterate 6 go_step
         refine wpList_store_row rfl _ _ _ rfl w1.heap.size (ItemL.mk 1 b n v).cells rfl rfl 23 zeroI.cells (heap_alloc_new w1 _) item_size rfl (item_one1 _) ?_)
      | (iterate 7 go_step
         refine wpList_store_row rfl _ _ _ rfl w1.heap.size (ItemL.mk 1 b n v).cells rfl rfl 23 zeroI.cells (heap_alloc_new w1 _) item_size rfl (item_one1 _) ?_)
      | (iterate 8 go_step
         refine wpList_store_row rfl _ _ _ rfl w1.heap.size (ItemL.mk 1 b n v).cells rfl rfl 23 zeroI.cells (heap_alloc_new w1 _) item_size rfl (item_one1 _) ?_)
      | (iterate 9 go_step
         refine wpList_store_row rfl _ _ _ rfl w1.heap.size (ItemL.mk 1 b n v).cells rfl rfl 23 zeroI.cells (heap_alloc_new w1 _) item_size rfl (item_one1 _) ?_)
      | (iterate 10 go_step
         refine wpList_store_row rfl _ _ _ rfl w1.heap.size (ItemL.mk 1 b n v).cells rfl rfl 23 zeroI.cells (heap_alloc_new w1 _) item_size rfl (item_one1 _) ?_)
      | (iterate 11 go_step
         refine wpList_store_row rfl _ _ _ rfl w1.heap.size (ItemL.mk 1 b n v).cells rfl rfl 23 zeroI.cells (heap_alloc_new w1 _) item_size rfl (item_one1 _) ?_)
      | (iterate 12 go_step
         refine wpList_store_row rfl _ _ _ rfl w1.heap.size (ItemL.mk 1 b n v).cells rfl rfl 23 zeroI.cells (heap_alloc_new w1 _) item_size rfl (item_one1 _) ?_)
      | (iterate 13 go_step
         refine wpList_store_row rfl _ _ _ rfl w1.heap.size (ItemL.mk 1 b n v).cells rfl rfl 23 zeroI.cells (heap_alloc_new w1 _) item_size rfl (item_one1 _) ?_)
      | (iterate 14 go_step
         refine wpList_store_row rfl _ _ _ rfl w1.heap.size (ItemL.mk 1 b n v).cells rfl rfl 23 zeroI.cells (heap_alloc_new w1 _) item_size rfl (item_one1 _) ?_)
      | (iterate 15 go_step
         refine wpList_store_row rfl _ _ _ rfl w1.heap.size (ItemL.mk 1 b n v).cells rfl rfl 23 zeroI.cells (heap_alloc_new w1 _) item_size rfl (item_one1 _) ?_)
      | (iterate 16 go_step
         refine wpList_store_row rfl _ _ _ rfl w1.heap.size (ItemL.mk 1 b n v).cells rfl rfl 23 zeroI.cells (heap_alloc_new w1 _) item_size rfl (item_one1 _) ?_)
      | (iterate 17 go_step
         refine wpList_store_row rfl _ _ _ rfl w1.heap.size (ItemL.mk 1 b n v).cells rfl rfl 23 zeroI.cells (heap_alloc_new w1 _) item_size rfl (item_one1 _) ?_)
      | (iterate 18 go_step
         refine wpList_store_row rfl _ _ _ rfl w1.heap.size (ItemL.mk 1 b n v).cells rfl rfl 23 zeroI.cells (heap_alloc_new w1 _) item_size rfl (item_one1 _) ?_)
      | (iterate 19 go_step
         refine wpList_store_row rfl _ _ _ rfl w1.heap.size (ItemL.mk 1 b n v).cells rfl rfl 23 zeroI.cells (heap_alloc_new w1 _) item_size rfl (item_one1 _) ?_)
      | (iterate 20 go_step
         refine wpList_store_row rfl _ _ _ rfl w1.heap.size (ItemL.mk 1 b n v).cells rfl rfl 23 zeroI.cells (heap_alloc_new w1 _) item_size rfl (item_one1 _) ?_)
      | (iterate 21 go_step
         refine wpList_store_row rfl _ _ _ rfl w1.heap.size (ItemL.mk 1 b n v).cells rfl rfl 23 zeroI.cells (heap_alloc_new w1 _) item_size rfl (item_one1 _) ?_)
      | (iterate 22 go_step
         refine wpList_store_row rfl _ _ _ rfl w1.heap.size (ItemL.mk 1 b n v).cells rfl rfl 23 zeroI.cells (heap_alloc_new w1 _) item_size rfl (item_one1 _) ?_)
      | (iterate 23 go_step
         refine wpList_store_row rfl _ _ _ rfl w1.heap.size (ItemL.mk 1 b n v).cells rfl rfl 23 zeroI.cells (heap_alloc_new w1 _) item_size rfl (item_one1 _) ?_)
      | (iterate 24 go_step
         refine wpList_store_row rfl _ _ _ rfl w1.heap.size (ItemL.mk 1 b n v).cells rfl rfl 23 zeroI.cells (heap_alloc_new w1 _) item_size rfl (item_one1 _) ?_)
      | (iterate 25 go_step
         refine wpList_store_row rfl _ _ _ rfl w1.heap.size (ItemL.mk 1 b n v).cells rfl rfl 23 zeroI.cells (heap_alloc_new w1 _) item_size rfl (item_one1 _) ?_)
      | (iterate 26 go_step
         refine wpList_store_row rfl _ _ _ rfl w1.heap.size (ItemL.mk 1 b n v).cells rfl rfl 23 zeroI.cells (heap_alloc_new w1 _) item_size rfl (item_one1 _) ?_)
      | (iterate 27 go_step
         refine wpList_store_row rfl _ _ _ rfl w1.heap.size (ItemL.mk 1 b n v).cells rfl rfl 23 zeroI.cells (heap_alloc_new w1 _) item_size rfl (item_one1 _) ?_)
      | (iterate 28 go_step
         refine wpList_store_row rfl _ _ _ rfl w1.heap.size (ItemL.mk 1 b n v).cells rfl rfl 23 zeroI.cells (heap_alloc_new w1 _) item_size rfl (item_one1 _) ?_)
      | (iterate 29 go_step
         refine wpList_store_row rfl _ _ _ rfl w1.heap.size (ItemL.mk 1 b n v).cells rfl rfl 23 zeroI.cells (heap_alloc_new w1 _) item_size rfl (item_one1 _) ?_)
      | (iterate 30 go_step
         refine wpList_store_row rfl _ _ _ rfl w1.heap.size (ItemL.mk 1 b n v).cells rfl rfl 23 zeroI.cells (heap_alloc_new w1 _) item_size rfl (item_one1 _) ?_)
    obtain ⟨w3, hw3⟩ : ∃ W, W = (w1.alloc (Obj.cells #[.int .i64 0, .string ⟨#[]⟩, .int .i64 0, .int .i64 0] 23)).setRow w1.heap.size (ItemL.mk 1 b n v).cells := ⟨_, rfl⟩
    rw [← hw3]
    obtain ⟨xb, hxb⟩ : ∃ x, x = w1.heap.size := ⟨_, rfl⟩
    have S3 : Hid (PS w xb (ItemL.mk 1 b n v) w3) := by
      rw [hw3, hxb]
      exact Lib.hid (H1.out.row _ ((Below.refl _ w1).alloc (Nat.le_refl _) _))
    rw [← hxb]
    clear hw3 hxb c0 c1 c2 c3 hbuilt
    have d0 : w3.cell? ⟨xb, 0, none⟩ = _ := S3.out.cell 0 rfl
    have d1 : w3.cell? ⟨xb, 1, none⟩ = _ := S3.out.cell 1 rfl
    have d2 : w3.cell? ⟨xb, 2, none⟩ = _ := S3.out.cell 2 rfl
    have d3 : w3.cell? ⟨xb, 3, none⟩ = _ := S3.out.cell 3 rfl
    cases k with
    | false =>
      have HRn : Hid (R = (zeroI, false)) := by rw [HR.out]; exact Lib.hid (if_neg (by simp))
      have HF : Hid (∀ wz, Below w.heap.size w wz → P (.returned (.tuple #[.agg (zeroI).cells, .bool false])) wz) := by
        refine Lib.hid (fun wz h => ?_)
        rw [HP.out, HRn.out]
        exact ⟨rfl, h⟩
      clear d0 d1 d2 d3
      go_upto_region 13 with (fail)
      refine wp_region_lit ?_
      first
        | (iterate 1 go_step
           refine wpList_store_row rfl _ _ _ rfl w.heap.size (zeroI).cells rfl rfl 23 zeroI.cells S3.out.2.1 item_size rfl (item_one1 _) ?_)
        | (iterate 2 go_step
           refine wpList_store_row rfl _ _ _ rfl w.heap.size (zeroI).cells rfl rfl 23 zeroI.cells S3.out.2.1 item_size rfl (item_one1 _) ?_)
        | (iterate 3 go_step
           refine wpList_store_row rfl _ _ _ rfl w.heap.size (zeroI).cells rfl rfl 23 zeroI.cells S3.out.2.1 item_size rfl (item_one1 _) ?_)
        | (iterate 4 go_step
           refine wpList_store_row rfl _ _ _ rfl w.heap.size (zeroI).cells rfl rfl 23 zeroI.cells S3.out.2.1 item_size rfl (item_one1 _) ?_)
        | (iterate 5 go_step
           refine wpList_store_row rfl _ _ _ rfl w.heap.size (zeroI).cells rfl rfl 23 zeroI.cells S3.out.2.1 item_size rfl (item_one1 _) ?_)
        | (iterate 6 go_step
           refine wpList_store_row rfl _ _ _ rfl w.heap.size (zeroI).cells rfl rfl 23 zeroI.cells S3.out.2.1 item_size rfl (item_one1 _) ?_)
        | (iterate 7 go_step
           refine wpList_store_row rfl _ _ _ rfl w.heap.size (zeroI).cells rfl rfl 23 zeroI.cells S3.out.2.1 item_size rfl (item_one1 _) ?_)
        | (iterate 8 go_step
           refine wpList_store_row rfl _ _ _ rfl w.heap.size (zeroI).cells rfl rfl 23 zeroI.cells S3.out.2.1 item_size rfl (item_one1 _) ?_)
        | (iterate 9 go_step
           refine wpList_store_row rfl _ _ _ rfl w.heap.size (zeroI).cells rfl rfl 23 zeroI.cells S3.out.2.1 item_size rfl (item_one1 _) ?_)
        | (iterate 10 go_step
           refine wpList_store_row rfl _ _ _ rfl w.heap.size (zeroI).cells rfl rfl 23 zeroI.cells S3.out.2.1 item_size rfl (item_one1 _) ?_)
      have HZ := Lib.hid (S3.out.fin (zeroI).cells)
      obtain ⟨wz, hwz⟩ : ∃ W, W = w3.setRow w.heap.size (zeroI).cells := ⟨_, rfl⟩
      rw [← hwz] at HZ ⊢
      clear hwz
      go_wp2_with (fail)
      exact bodyPost_ret (v := .tuple #[.agg (zeroI).cells, .bool false]) ((results_cell_row_tmp (p := 2) (u := 3) (ty := 23) rfl _ _ w.heap.size 23 (zeroI).cells (0, 0) _ rfl HZ.out.2 Tryd.underlying23 rfl item_size).trans rfl) rfl (HF.out _ HZ.out.1)
    | true =>
      cases k2 with
      | false =>
        have HRn : Hid (R = (zeroI, false)) := by rw [HR.out]; exact Lib.hid (if_neg (by simp))
        have HF : Hid (∀ wz, Below w.heap.size w wz → P (.returned (.tuple #[.agg (zeroI).cells, .bool false])) wz) := by
          refine Lib.hid (fun wz h => ?_)
          rw [HP.out, HRn.out]
          exact ⟨rfl, h⟩
        clear d0 d1 d2 d3
        go_upto_region 13 with (fail)
        refine wp_region_lit ?_
        first
          | (iterate 1 go_step
             refine wpList_store_row rfl _ _ _ rfl w.heap.size (zeroI).cells rfl rfl 23 zeroI.cells S3.out.2.1 item_size rfl (item_one1 _) ?_)
          | (iterate 2 go_step
             refine wpList_store_row rfl _ _ _ rfl w.heap.size (zeroI).cells rfl rfl 23 zeroI.cells S3.out.2.1 item_size rfl (item_one1 _) ?_)
          | (iterate 3 go_step
             refine wpList_store_row rfl _ _ _ rfl w.heap.size (zeroI).cells rfl rfl 23 zeroI.cells S3.out.2.1 item_size rfl (item_one1 _) ?_)
          | (iterate 4 go_step
             refine wpList_store_row rfl _ _ _ rfl w.heap.size (zeroI).cells rfl rfl 23 zeroI.cells S3.out.2.1 item_size rfl (item_one1 _) ?_)
          | (iterate 5 go_step
             refine wpList_store_row rfl _ _ _ rfl w.heap.size (zeroI).cells rfl rfl 23 zeroI.cells S3.out.2.1 item_size rfl (item_one1 _) ?_)
          | (iterate 6 go_step
             refine wpList_store_row rfl _ _ _ rfl w.heap.size (zeroI).cells rfl rfl 23 zeroI.cells S3.out.2.1 item_size rfl (item_one1 _) ?_)
          | (iterate 7 go_step
             refine wpList_store_row rfl _ _ _ rfl w.heap.size (zeroI).cells rfl rfl 23 zeroI.cells S3.out.2.1 item_size rfl (item_one1 _) ?_)
          | (iterate 8 go_step
             refine wpList_store_row rfl _ _ _ rfl w.heap.size (zeroI).cells rfl rfl 23 zeroI.cells S3.out.2.1 item_size rfl (item_one1 _) ?_)
          | (iterate 9 go_step
             refine wpList_store_row rfl _ _ _ rfl w.heap.size (zeroI).cells rfl rfl 23 zeroI.cells S3.out.2.1 item_size rfl (item_one1 _) ?_)
          | (iterate 10 go_step
             refine wpList_store_row rfl _ _ _ rfl w.heap.size (zeroI).cells rfl rfl 23 zeroI.cells S3.out.2.1 item_size rfl (item_one1 _) ?_)
        have HZ := Lib.hid (S3.out.fin (zeroI).cells)
        obtain ⟨wz, hwz⟩ : ∃ W, W = w3.setRow w.heap.size (zeroI).cells := ⟨_, rfl⟩
        rw [← hwz] at HZ ⊢
        clear hwz
        go_wp2_with (fail)
        exact bodyPost_ret (v := .tuple #[.agg (zeroI).cells, .bool false]) ((results_cell_row_tmp (p := 2) (u := 3) (ty := 23) rfl _ _ w.heap.size 23 (zeroI).cells (0, 0) _ rfl HZ.out.2 Tryd.underlying23 rfl item_size).trans rfl) rfl (HF.out _ HZ.out.1)
      | true =>
        cases r with
        | false =>
          have HRn : Hid (R = (zeroI, false)) := by rw [HR.out]; exact Lib.hid (if_neg (by simp))
          have HF : Hid (∀ wz, Below w.heap.size w wz → P (.returned (.tuple #[.agg (zeroI).cells, .bool false])) wz) := by
            refine Lib.hid (fun wz h => ?_)
            rw [HP.out, HRn.out]
            exact ⟨rfl, h⟩
          go_wp2_with (fail)
          refine (HRi.out w3).mono ?_
          rintro e w4 ⟨rfl, hB⟩
          have S4 := Lib.hid (S3.out.below hB)
          clear hB d0 d1 d2 d3
          dsimp only
          go_upto_region 13 with (fail)
          refine wp_region_lit ?_
          first
            | (iterate 1 go_step
               refine wpList_store_row rfl _ _ _ rfl w.heap.size (zeroI).cells rfl rfl 23 zeroI.cells S4.out.2.1 item_size rfl (item_one1 _) ?_)
            | (iterate 2 go_step
               refine wpList_store_row rfl _ _ _ rfl w.heap.size (zeroI).cells rfl rfl 23 zeroI.cells S4.out.2.1 item_size rfl (item_one1 _) ?_)
            | (iterate 3 go_step
               refine wpList_store_row rfl _ _ _ rfl w.heap.size (zeroI).cells rfl rfl 23 zeroI.cells S4.out.2.1 item_size rfl (item_one1 _) ?_)
            | (iterate 4 go_step
               refine wpList_store_row rfl _ _ _ rfl w.heap.size (zeroI).cells rfl rfl 23 zeroI.cells S4.out.2.1 item_size rfl (item_one1 _) ?_)
            | (iterate 5 go_step
               refine wpList_store_row rfl _ _ _ rfl w.heap.size (zeroI).cells rfl rfl 23 zeroI.cells S4.out.2.1 item_size rfl (item_one1 _) ?_)
            | (iterate 6 go_step
               refine wpList_store_row rfl _ _ _ rfl w.heap.size (zeroI).cells rfl rfl 23 zeroI.cells S4.out.2.1 item_size rfl (item_one1 _) ?_)
            | (iterate 7 go_step
               refine wpList_store_row rfl _ _ _ rfl w.heap.size (zeroI).cells rfl rfl 23 zeroI.cells S4.out.2.1 item_size rfl (item_one1 _) ?_)
            | (iterate 8 go_step
               refine wpList_store_row rfl _ _ _ rfl w.heap.size (zeroI).cells rfl rfl 23 zeroI.cells S4.out.2.1 item_size rfl (item_one1 _) ?_)
            | (iterate 9 go_step
               refine wpList_store_row rfl _ _ _ rfl w.heap.size (zeroI).cells rfl rfl 23 zeroI.cells S4.out.2.1 item_size rfl (item_one1 _) ?_)
            | (iterate 10 go_step
               refine wpList_store_row rfl _ _ _ rfl w.heap.size (zeroI).cells rfl rfl 23 zeroI.cells S4.out.2.1 item_size rfl (item_one1 _) ?_)
          have HZ := Lib.hid (S4.out.fin (zeroI).cells)
          obtain ⟨wz, hwz⟩ : ∃ W, W = w4.setRow w.heap.size (zeroI).cells := ⟨_, rfl⟩
          rw [← hwz] at HZ ⊢
          clear hwz
          go_wp2_with (fail)
          exact bodyPost_ret (v := .tuple #[.agg (zeroI).cells, .bool false]) ((results_cell_row_tmp (p := 2) (u := 3) (ty := 23) rfl _ _ w.heap.size 23 (zeroI).cells (0, 0) _ rfl HZ.out.2 Tryd.underlying23 rfl item_size).trans rfl) rfl (HF.out _ HZ.out.1)
        | true =>
          have HRn : Hid (R = (ItemL.mk 1 b n v, true)) := by rw [HR.out, ← HXe.out]; exact Lib.hid (if_pos ⟨rfl, rfl, rfl⟩)
          have HF : Hid (∀ wz, Below w.heap.size w wz → P (.returned (.tuple #[.agg (ItemL.mk 1 b n v).cells, .bool true])) wz) := by
            refine Lib.hid (fun wz h => ?_)
            rw [HP.out, HRn.out]
            exact ⟨rfl, h⟩
          go_wp2_with (fail)
          refine (HRi.out w3).mono ?_
          rintro e w4 ⟨rfl, hB⟩
          have S4 := Lib.hid (S3.out.below hB)
          clear hB d0 d1 d2 d3
          have d0 : w4.cell? ⟨xb, 0, none⟩ = _ := S4.out.cell 0 rfl
          have d1 : w4.cell? ⟨xb, 1, none⟩ = _ := S4.out.cell 1 rfl
          have d2 : w4.cell? ⟨xb, 2, none⟩ = _ := S4.out.cell 2 rfl
          have d3 : w4.cell? ⟨xb, 3, none⟩ = _ := S4.out.cell 3 rfl
          dsimp only
          go_upto_region 12 with (fail)
          refine wp_region_lit ?_
          first
            | (iterate 1 go_step
               refine wpList_store_row rfl _ _ _ rfl w.heap.size (ItemL.mk 1 b n v).cells rfl rfl 23 zeroI.cells S4.out.2.1 item_size rfl (item_one1 _) ?_)
            | (iterate 2 go_step
               refine wpList_store_row rfl _ _ _ rfl w.heap.size (ItemL.mk 1 b n v).cells rfl rfl 23 zeroI.cells S4.out.2.1 item_size rfl (item_one1 _) ?_)
            | (iterate 3 go_step
               refine wpList_store_row rfl _ _ _ rfl w.heap.size (ItemL.mk 1 b n v).cells rfl rfl 23 zeroI.cells S4.out.2.1 item_size rfl (item_one1 _) ?_)
            | (iterate 4 go_step
               refine wpList_store_row rfl _ _ _ rfl w.heap.size (ItemL.mk 1 b n v).cells rfl rfl 23 zeroI.cells S4.out.2.1 item_size rfl (item_one1 _) ?_)
            | (iterate 5 go_step
               refine wpList_store_row rfl _ _ _ rfl w.heap.size (ItemL.mk 1 b n v).cells rfl rfl 23 zeroI.cells S4.out.2.1 item_size rfl (item_one1 _) ?_)
            | (iterate 6 go_step
               refine wpList_store_row rfl _ _ _ rfl w.heap.size (ItemL.mk 1 b n v).cells rfl rfl 23 zeroI.cells S4.out.2.1 item_size rfl (item_one1 _) ?_)
            | (iterate 7 go_step
               refine wpList_store_row rfl _ _ _ rfl w.heap.size (ItemL.mk 1 b n v).cells rfl rfl 23 zeroI.cells S4.out.2.1 item_size rfl (item_one1 _) ?_)
            | (iterate 8 go_step
               refine wpList_store_row rfl _ _ _ rfl w.heap.size (ItemL.mk 1 b n v).cells rfl rfl 23 zeroI.cells S4.out.2.1 item_size rfl (item_one1 _) ?_)
            | (iterate 9 go_step
               refine wpList_store_row rfl _ _ _ rfl w.heap.size (ItemL.mk 1 b n v).cells rfl rfl 23 zeroI.cells S4.out.2.1 item_size rfl (item_one1 _) ?_)
            | (iterate 10 go_step
               refine wpList_store_row rfl _ _ _ rfl w.heap.size (ItemL.mk 1 b n v).cells rfl rfl 23 zeroI.cells S4.out.2.1 item_size rfl (item_one1 _) ?_)
          have HZ := Lib.hid (S4.out.fin (ItemL.mk 1 b n v).cells)
          obtain ⟨wz, hwz⟩ : ∃ W, W = w4.setRow w.heap.size (ItemL.mk 1 b n v).cells := ⟨_, rfl⟩
          rw [← hwz] at HZ ⊢
          clear hwz
          go_wp2_with (fail)
          exact bodyPost_ret (v := .tuple #[.agg (ItemL.mk 1 b n v).cells, .bool true]) ((results_cell_row_tmp (p := 2) (u := 3) (ty := 23) rfl _ _ w.heap.size 23 (ItemL.mk 1 b n v).cells (0, 0) _ rfl HZ.out.2 Tryd.underlying23 rfl item_size).trans rfl) rfl (HF.out _ HZ.out.1)
  have HRn : Hid (R = (zeroI, false)) := Lib.hid (HN1.out hmark hevent)
  have HF : Hid (∀ wz, Below w.heap.size w wz → P (.returned (.tuple #[.agg (zeroI).cells, .bool false])) wz) := by
    refine Lib.hid (fun wz h => ?_)
    rw [HP.out, HRn.out]
    exact ⟨rfl, h⟩
  obtain ⟨a, ha⟩ : ∃ a, ws[0]? = some a := ⟨ws[0]'(by rw [← HNl.out]; exact hpos), List.getElem?_eq_getElem _⟩
  have c0 : w1.cell? ⟨g, 0, none⟩ = some (Sv a) := HW.out w1 (Below.refl _ _) 0 a ha
  by_cases h2 : N = 2
  · have hne : ¬ a = wMark := fun e => hmark ⟨by rw [ha, e], by rw [← HNl.out, h2]⟩
    have hev : ∀ w, (binOp .eql 9 (Sv a) (.string ⟨#[109, 97, 114, 107]⟩)).run Tryd.prog w = .ok (.bool false) w := fun w => by
      have h := run_eql_Sv w a wMark
      rwa [decide_eq_false hne] at h
    subst h2
    clear hmark hevent ha hne hpos
    dsimp only
    go_upto_region 13 with (fail)
    refine wp_region_lit ?_
    first
      | (iterate 1 go_step
         refine wpList_store_row rfl _ _ _ rfl w.heap.size (zeroI).cells rfl rfl 23 zeroI.cells H1.out.2.1 item_size rfl (item_one1 _) ?_)
      | (iterate 2 go_step
         refine wpList_store_row rfl _ _ _ rfl w.heap.size (zeroI).cells rfl rfl 23 zeroI.cells H1.out.2.1 item_size rfl (item_one1 _) ?_)
      | (iterate 3 go_step
         refine wpList_store_row rfl _ _ _ rfl w.heap.size (zeroI).cells rfl rfl 23 zeroI.cells H1.out.2.1 item_size rfl (item_one1 _) ?_)
      | (iterate 4 go_step
         refine wpList_store_row rfl _ _ _ rfl w.heap.size (zeroI).cells rfl rfl 23 zeroI.cells H1.out.2.1 item_size rfl (item_one1 _) ?_)
      | (iterate 5 go_step
         refine wpList_store_row rfl _ _ _ rfl w.heap.size (zeroI).cells rfl rfl 23 zeroI.cells H1.out.2.1 item_size rfl (item_one1 _) ?_)
      | (iterate 6 go_step
         refine wpList_store_row rfl _ _ _ rfl w.heap.size (zeroI).cells rfl rfl 23 zeroI.cells H1.out.2.1 item_size rfl (item_one1 _) ?_)
      | (iterate 7 go_step
         refine wpList_store_row rfl _ _ _ rfl w.heap.size (zeroI).cells rfl rfl 23 zeroI.cells H1.out.2.1 item_size rfl (item_one1 _) ?_)
      | (iterate 8 go_step
         refine wpList_store_row rfl _ _ _ rfl w.heap.size (zeroI).cells rfl rfl 23 zeroI.cells H1.out.2.1 item_size rfl (item_one1 _) ?_)
      | (iterate 9 go_step
         refine wpList_store_row rfl _ _ _ rfl w.heap.size (zeroI).cells rfl rfl 23 zeroI.cells H1.out.2.1 item_size rfl (item_one1 _) ?_)
      | (iterate 10 go_step
         refine wpList_store_row rfl _ _ _ rfl w.heap.size (zeroI).cells rfl rfl 23 zeroI.cells H1.out.2.1 item_size rfl (item_one1 _) ?_)
    have HZ := Lib.hid (H1.out.fin (zeroI).cells)
    obtain ⟨wz, hwz⟩ : ∃ W, W = w1.setRow w.heap.size (zeroI).cells := ⟨_, rfl⟩
    rw [← hwz] at HZ ⊢
    clear hwz
    go_wp2_with (fail)
    exact bodyPost_ret (v := .tuple #[.agg (zeroI).cells, .bool false]) ((results_cell_row_tmp (p := 2) (u := 3) (ty := 23) rfl _ _ w.heap.size 23 (zeroI).cells (0, 0) _ rfl HZ.out.2 Tryd.underlying23 rfl item_size).trans rfl) rfl (HF.out _ HZ.out.1)
  by_cases h4 : N = 4
  · have hne : ¬ a = wEvent := fun e => hevent ⟨by rw [ha, e], by rw [← HNl.out, h4]⟩
    have hev : ∀ w, (binOp .eql 9 (Sv a) (.string ⟨#[101, 118, 101, 110, 116]⟩)).run Tryd.prog w = .ok (.bool false) w := fun w => by
      have h := run_eql_Sv w a wEvent
      rwa [decide_eq_false hne] at h
    subst h4
    clear hmark hevent ha hne hpos
    dsimp only
    go_upto_region 13 with (fail)
    refine wp_region_lit ?_
    first
      | (iterate 1 go_step
         refine wpList_store_row rfl _ _ _ rfl w.heap.size (zeroI).cells rfl rfl 23 zeroI.cells H1.out.2.1 item_size rfl (item_one1 _) ?_)
      | (iterate 2 go_step
         refine wpList_store_row rfl _ _ _ rfl w.heap.size (zeroI).cells rfl rfl 23 zeroI.cells H1.out.2.1 item_size rfl (item_one1 _) ?_)
      | (iterate 3 go_step
         refine wpList_store_row rfl _ _ _ rfl w.heap.size (zeroI).cells rfl rfl 23 zeroI.cells H1.out.2.1 item_size rfl (item_one1 _) ?_)
      | (iterate 4 go_step
         refine wpList_store_row rfl _ _ _ rfl w.heap.size (zeroI).cells rfl rfl 23 zeroI.cells H1.out.2.1 item_size rfl (item_one1 _) ?_)
      | (iterate 5 go_step
         refine wpList_store_row rfl _ _ _ rfl w.heap.size (zeroI).cells rfl rfl 23 zeroI.cells H1.out.2.1 item_size rfl (item_one1 _) ?_)
      | (iterate 6 go_step
         refine wpList_store_row rfl _ _ _ rfl w.heap.size (zeroI).cells rfl rfl 23 zeroI.cells H1.out.2.1 item_size rfl (item_one1 _) ?_)
      | (iterate 7 go_step
         refine wpList_store_row rfl _ _ _ rfl w.heap.size (zeroI).cells rfl rfl 23 zeroI.cells H1.out.2.1 item_size rfl (item_one1 _) ?_)
      | (iterate 8 go_step
         refine wpList_store_row rfl _ _ _ rfl w.heap.size (zeroI).cells rfl rfl 23 zeroI.cells H1.out.2.1 item_size rfl (item_one1 _) ?_)
      | (iterate 9 go_step
         refine wpList_store_row rfl _ _ _ rfl w.heap.size (zeroI).cells rfl rfl 23 zeroI.cells H1.out.2.1 item_size rfl (item_one1 _) ?_)
      | (iterate 10 go_step
         refine wpList_store_row rfl _ _ _ rfl w.heap.size (zeroI).cells rfl rfl 23 zeroI.cells H1.out.2.1 item_size rfl (item_one1 _) ?_)
    have HZ := Lib.hid (H1.out.fin (zeroI).cells)
    obtain ⟨wz, hwz⟩ : ∃ W, W = w1.setRow w.heap.size (zeroI).cells := ⟨_, rfl⟩
    rw [← hwz] at HZ ⊢
    clear hwz
    go_wp2_with (fail)
    exact bodyPost_ret (v := .tuple #[.agg (zeroI).cells, .bool false]) ((results_cell_row_tmp (p := 2) (u := 3) (ty := 23) rfl _ _ w.heap.size 23 (zeroI).cells (0, 0) _ rfl HZ.out.2 Tryd.underlying23 rfl item_size).trans rfl) rfl (HF.out _ HZ.out.1)
  have q1 : ((N : Int) == 2) = false := by simp; omega
  have q2 : ((N : Int) == 4) = false := by simp; omega
  clear hmark hevent ha hpos h2 h4 c0
  dsimp only
  go_upto_region 13 with (fail)
  refine wp_region_lit ?_
  first
    | (iterate 1 go_step
       refine wpList_store_row rfl _ _ _ rfl w.heap.size (zeroI).cells rfl rfl 23 zeroI.cells H1.out.2.1 item_size rfl (item_one1 _) ?_)
    | (iterate 2 go_step
       refine wpList_store_row rfl _ _ _ rfl w.heap.size (zeroI).cells rfl rfl 23 zeroI.cells H1.out.2.1 item_size rfl (item_one1 _) ?_)
    | (iterate 3 go_step
       refine wpList_store_row rfl _ _ _ rfl w.heap.size (zeroI).cells rfl rfl 23 zeroI.cells H1.out.2.1 item_size rfl (item_one1 _) ?_)
    | (iterate 4 go_step
       refine wpList_store_row rfl _ _ _ rfl w.heap.size (zeroI).cells rfl rfl 23 zeroI.cells H1.out.2.1 item_size rfl (item_one1 _) ?_)
    | (iterate 5 go_step
       refine wpList_store_row rfl _ _ _ rfl w.heap.size (zeroI).cells rfl rfl 23 zeroI.cells H1.out.2.1 item_size rfl (item_one1 _) ?_)
    | (iterate 6 go_step
       refine wpList_store_row rfl _ _ _ rfl w.heap.size (zeroI).cells rfl rfl 23 zeroI.cells H1.out.2.1 item_size rfl (item_one1 _) ?_)
    | (iterate 7 go_step
       refine wpList_store_row rfl _ _ _ rfl w.heap.size (zeroI).cells rfl rfl 23 zeroI.cells H1.out.2.1 item_size rfl (item_one1 _) ?_)
    | (iterate 8 go_step
       refine wpList_store_row rfl _ _ _ rfl w.heap.size (zeroI).cells rfl rfl 23 zeroI.cells H1.out.2.1 item_size rfl (item_one1 _) ?_)
    | (iterate 9 go_step
       refine wpList_store_row rfl _ _ _ rfl w.heap.size (zeroI).cells rfl rfl 23 zeroI.cells H1.out.2.1 item_size rfl (item_one1 _) ?_)
    | (iterate 10 go_step
       refine wpList_store_row rfl _ _ _ rfl w.heap.size (zeroI).cells rfl rfl 23 zeroI.cells H1.out.2.1 item_size rfl (item_one1 _) ?_)
  have HZ := Lib.hid (H1.out.fin (zeroI).cells)
  obtain ⟨wz, hwz⟩ : ∃ W, W = w1.setRow w.heap.size (zeroI).cells := ⟨_, rfl⟩
  rw [← hwz] at HZ ⊢
  clear hwz
  go_wp2_with (fail)
  exact bodyPost_ret (v := .tuple #[.agg (zeroI).cells, .bool false]) ((results_cell_row_tmp (p := 2) (u := 3) (ty := 23) rfl _ _ w.heap.size 23 (zeroI).cells (0, 0) _ rfl HZ.out.2 Tryd.underlying23 rfl item_size).trans rfl) rfl (HF.out _ HZ.out.1)
end Go.Proofs.YtmjanplhgpcbeaaDoor
