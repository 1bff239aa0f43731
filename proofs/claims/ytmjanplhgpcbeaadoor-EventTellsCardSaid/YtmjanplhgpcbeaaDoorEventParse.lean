/-
  The contracts of strings.SplitN at a blank, of strings.Clone, and of package event's Parse.
-/
import Derived.Test.YtmjanplhgpcbeaaDoorEventWords
namespace Go.Proofs.YtmjanplhgpcbeaaDoor
open Go Go.RowKit

/-- What lies below the program's first block, as the library's contracts ask for it. -/
def LibIn (w : World) : Prop := PowTab w ∧ ErrsIn w ∧ ∃ m, w.cell? ⟨1, 0, none⟩ = some (.int .i64 m)
theorem LibIn.below {w w' : World} (h : LibIn w) (hB : Below w.heap.size w w') : LibIn w' := by
  obtain ⟨h1, h2, m, h3⟩ := h
  exact ⟨h1.below hB, h2.below hB, m, (hB.cell (block_lt_of_cell h3)).trans h3⟩
theorem esplit_any (w : World) (s : List (BitVec 8)) (hl : s.length ≤ 1000000) (hL : LibIn w) :
    Calls Tryd.prog 37 #[Sv s, .string ⟨#[32]⟩, .int .i64 5] w fun e w' => ∃ cap, e = .returned (.slice (some ⟨w.heap.size, 0, none⟩) (wordsOf s).length cap) ∧ WordsAt w' w.heap.size (wordsOf s) ∧ Below w.heap.size w w' := by
  obtain ⟨_, _, m, hm⟩ := hL
  have hsz : (⟨(lvB s).toArray⟩ : ByteArray).size = s.length := by
    show (lvB s).toArray.size = _
    rw [List.size_toArray, lvB_length]
  have h := Tryd.strings_SplitN ⟨(lvB s).toArray⟩ ⟨#[32]⟩ 5 m w (by omega) hm (by decide) (by decide) (by decide)
  rw [← Sv_lv, hsz] at h
  have hd := Lib.splitB_data ⟨#[32]⟩ 0 (min 5 (s.length + 1) - 1) ⟨(lvB s).toArray⟩
  have hw : wordsOf s = (Lib.splitB ⟨#[32]⟩ 0 (min 5 (s.length + 1) - 1) ⟨(lvB s).toArray⟩).map fun b => bvL b.data.toList := by
    have hd' : (Lib.splitB ⟨#[32]⟩ 0 (min 5 (s.length + 1) - 1) ⟨(lvB s).toArray⟩).map (·.data.toList) = Lib.splitK [32] 0 (min 5 (s.length + 1) - 1) (lvB s) := by simpa using hd
    rw [wordsOf, ← hd', List.map_map]
    rfl
  refine h.mono ?_
  rintro e w' ⟨rfl, rfl⟩
  refine ⟨_, by rw [hw, List.length_map], ?_, (Below.refl _ w).alloc (Nat.le_refl _) _⟩
  intro j x hj
  rw [hw, List.getElem?_map, Option.map_eq_some_iff] at hj
  obtain ⟨y, hy, rfl⟩ := hj
  rw [cell_of_row _ _ _ _ _ _ (heap_alloc_new w _), Lib.cellsOf]
  have hjl := (List.getElem?_eq_some_iff.1 hy).1
  rw [List.getElem?_toArray, List.getElem?_append_left (by simpa using hjl), List.getElem?_map, hy, Option.map_some, ← Sv_bv]
theorem eclone_any (w : World) (s : List (BitVec 8)) (hl : s.length ≤ 1000000) : Calls Tryd.prog 38 #[Sv s] w (Below0 w (Sv s)) := by
  have hs : (strOf s).size ≤ 1000000 := by rw [strOf_size]; exact hl
  have HC : Hid (Calls Tryd.prog 59 #[Sv s] w (Below0 w (Sv s))) := Lib.hid (Tryd.stringslite_Clone (strOf s) w (by omega))
  clear hs hl
  go_enter Tryd.func38, Tryd.ntmps38
  go_wp2_with (fail)
  refine HC.out.mono ?_
  rintro e w1 ⟨rfl, hB⟩
  have HB := Lib.hid hB
  clear hB
  dsimp only
  go_wp2_with (fail)
  go_ret
  exact ⟨rfl, HB.out⟩
theorem results_cell_row_tmp {P : Program} {fn : Func} {p u : Tmp} {ty : TypeId} (h : fn.results = #[.cell p ty, .tmp u]) (tmps : Array Value) (w : World) (g : Nat) (t : TypeId) (cs : Array Value) (fr : Nat × Nat) (d : TypeDesc)
    (hp : tmps.getD p undef = .pointer (some ⟨g, 0, none⟩)) (hg : w.heap[g]? = some (.cells cs t fr))
    (hu : P.underlying ty = some d) (hd : (match d with | .struct _ | .array _ _ => true | _ => false) = true) (hi : (P.info? ty).map (·.size) = some cs.size) :
    (results fn tmps).run P w = .ok (.tuple #[.agg cs, tmps.getD u undef]) w := by
  have hp' : tmps[p]?.getD undef = .pointer (some ⟨g, 0, none⟩) := by simpa using hp
  simp [results, h, hp', asAddr, run_loadVar_row w g t ty cs fr d hg hu hd hi]
def PS (w : World) (xb : Nat) (x : ItemL) (w' : World) : Prop :=
  Below w.heap.size w w' ∧ w'.heap[w.heap.size]? = some (.cells zeroI.cells 23 (0, 0)) ∧ w'.heap[xb]? = some (.cells x.cells 23 (0, 0)) ∧ w.heap.size < xb
theorem PS.below {w w' w3 : World} {xb : Nat} {x : ItemL} (h : PS w xb x w') (hB : Below w'.heap.size w' w3) : PS w xb x w3 :=
  ⟨h.1.trans (hB.mono h.1.size), (hB.block _ (Array.getElem?_eq_some_iff.1 h.2.1).1).trans h.2.1, (hB.block _ (Array.getElem?_eq_some_iff.1 h.2.2.1).1).trans h.2.2.1, h.2.2.2⟩
theorem PS.cell {w w' : World} {xb : Nat} {x : ItemL} (h : PS w xb x w') (i : Nat) {v : Value} (hi : x.cells[i]? = some v) : w'.cell? ⟨xb, i, none⟩ = some v := by
  rw [cell_of_row _ _ _ _ _ _ h.2.2.1]
  exact hi
theorem PS.fro {w w' : World} {xb : Nat} {x : ItemL} (h : PS w xb x w') (i : Nat) : w'.frozen? ⟨xb, i, none⟩ = false := frozen_of_row _ _ _ _ _ h.2.2.1
theorem PS.set {w w' : World} {xb : Nat} {x y : ItemL} (h : PS w xb x w') (i : Nat) (v : Value) (hy : y.cells = x.cells.setIfInBounds i v) : PS w xb y (w'.setCell ⟨xb, i, none⟩ v) := by
  obtain ⟨h1, h2, h3, h4⟩ := h
  refine ⟨h1.trans ⟨rfl, rfl, rfl, by simp [World.setCell], fun k hk => heap_setCell_other _ _ _ _ (by show k ≠ xb; omega)⟩, (heap_setCell_other _ _ _ _ (by show w.heap.size ≠ xb; omega)).trans h2, ?_, h4⟩
  rw [hy]
  exact heap_setCell_same _ _ _ _ _ _ h3
theorem PS.fin {w w' : World} {xb : Nat} {x : ItemL} (h : PS w xb x w') (cs : Array Value) : Below w.heap.size w (w'.setRow w.heap.size cs) ∧ (w'.setRow w.heap.size cs).heap[w.heap.size]? = some (.cells cs 23 (0, 0)) :=
  ⟨h.1.trans ⟨rfl, rfl, rfl, by simp [World.setRow], fun k hk => setRow_other _ _ _ _ (by omega)⟩, setRow_heap _ _ _ _ _ _ h.2.1⟩
set_option maxRecDepth 100000 in
set_option maxHeartbeats 2000000 in
theorem eparse_any (w : World) (s : List (BitVec 8)) (hl : s.length ≤ 1000000) (hL : LibIn w) :
    Calls Tryd.prog 12 #[Sv s] w (Below0 w (.tuple #[.agg (parseL s).1.cells, .bool (parseL s).2])) := by
  obtain ⟨w0, hw0⟩ : ∃ W, W = w.alloc (.cells #[.int .i64 0, .string ⟨#[]⟩, .int .i64 0, .int .i64 0] 23) := ⟨_, rfl⟩
  have H0 : Hid (Below w.heap.size w w0 ∧ w0.heap[w.heap.size]? = some (.cells zeroI.cells 23 (0, 0))) := by
    rw [hw0]
    exact Lib.hid ⟨(Below.refl _ w).alloc (Nat.le_refl _) _, heap_alloc_new w _⟩
  have HS := Lib.hid (esplit_any w0 s hl (hL.below H0.out.1))
  have HH := Lib.hid (And.intro hl hL)
  obtain ⟨P, hP⟩ : ∃ P, P = Below0 w (.tuple #[.agg (parseL s).1.cells, .bool (parseL s).2]) := ⟨_, rfl⟩
  rw [← hP]
  have HP := Lib.hid hP
  obtain ⟨N, hN⟩ : ∃ N, N = (wordsOf s).length := ⟨_, rfl⟩
  rw [← hN] at HS
  have HNl := Lib.hid hN
  clear hl hL hP hN
  go_enter Tryd.func12, Tryd.ntmps12
  go_upto_region 1 with (fail)
  rw [← hw0]
  clear hw0
  go_wp2_with (fail)
  refine HS.out.mono ?_
  rintro e w1 ⟨cap, rfl, hW, hB⟩
  have H1 := Lib.hid (And.intro hW (H0.out.1.trans (hB.mono H0.out.1.size)))
  have hB01 := Lib.hid hB
  clear hW hB
  obtain ⟨x, hx⟩ : ∃ x, x = itemW (wordsOf s) := ⟨_, rfl⟩
  have HI : Hid (Calls Tryd.prog 36 #[.slice (some ⟨w0.heap.size, 0, none⟩) N cap] w1 (Below0 w1 (.agg x.cells))) := by
    rw [HNl.out, hx]
    exact Lib.hid (eitem_any w1 w0.heap.size cap (wordsOf s) (wordsOf_ne s) H1.out.1 (fun y hy => Nat.le_trans (wordsOf_len s y hy) HH.out.1) (HH.out.2.below H1.out.2).2.1)
  have hxk : x.key.length ≤ 1000000 := by
    rw [hx]
    have key : ∀ ws : List (List (BitVec 8)), (∀ y ∈ ws, y.length ≤ 1000000) → (itemW ws).key.length ≤ 1000000 := by
      intro ws hws
      unfold itemW
      split
      · split
        · exact hws _ (by simp)
        · exact Nat.zero_le _
      · split
        · exact Nat.zero_le _
        · exact Nat.zero_le _
      · exact Nat.zero_le _
    exact key _ (fun y hy => Nat.le_trans (wordsOf_len s y hy) HH.out.1)
  have HX : Hid (parseL s = if x.rightB = true ∧ x.text = s then (x, true) else (zeroI, false)) := by
    rw [hx]
    exact Lib.hid rfl
  have HKl := Lib.hid hxk
  clear hx hxk
  obtain ⟨r, hr⟩ : ∃ r, r = x.rightB := ⟨_, rfl⟩
  have HRr : Hid (∀ w', Calls Tryd.prog 14 #[.agg x.cells] w' (Below0 w' (.bool r))) := by
    rw [hr]
    exact Lib.hid (fun w' => eright_any w' x HKl.out)
  have Hr := Lib.hid hr
  clear hr
  have HT : Hid (r = true → ∀ w', Below w.heap.size w w' → Calls Tryd.prog 16 #[.agg x.cells] w' (Below0 w' (Sv x.text))) :=
    Lib.hid (fun h w' hB => etext_yes w' x (by rw [← Hr.out, h]) (HH.out.2.below hB).1)
  have HCl : Hid (∀ w', Calls Tryd.prog 38 #[Sv x.key] w' (Below0 w' (Sv x.key))) := Lib.hid (fun w' => eclone_any w' x.key HKl.out)
  obtain ⟨T, hT⟩ : ∃ T, T = x.text := ⟨_, rfl⟩
  rw [← hT] at HT
  have HTe := Lib.hid hT
  clear hT
  obtain ⟨kind, key, time, value⟩ := x
  unfold ItemL.cells at HI HRr HT
  simp only at HCl
  dsimp only
  go_wp2_with (fail)
  refine HI.out.mono ?_
  rintro e w2 ⟨rfl, hB2⟩
  obtain ⟨xb, hxb⟩ : ∃ x, x = w2.heap.size := ⟨_, rfl⟩
  have H2 : Hid (Below w.heap.size w w2 ∧ w2.heap[w.heap.size]? = some (.cells zeroI.cells 23 (0, 0)) ∧ w.heap.size < w2.heap.size) := by
    have h1 := (hB01.out.block _ (Array.getElem?_eq_some_iff.1 H0.out.2).1).trans H0.out.2
    have h2 := (hB2.block _ (Array.getElem?_eq_some_iff.1 h1).1).trans h1
    exact Lib.hid ⟨H1.out.2.trans (hB2.mono H1.out.2.size), h2, (Array.getElem?_eq_some_iff.1 h2).1⟩
  clear hB2
  dsimp only
  first
    | (iterate 1 go_step
       refine wpList_store_row rfl _ _ _ rfl w2.heap.size (ItemL.mk kind key time value).cells rfl rfl 23 zeroI.cells (heap_alloc_new w2 _) item_size rfl (item_one1 _) ?_)
    | (iterate 2 go_step
       refine wpList_store_row rfl _ _ _ rfl w2.heap.size (ItemL.mk kind key time value).cells rfl rfl 23 zeroI.cells (heap_alloc_new w2 _) item_size rfl (item_one1 _) ?_)
    | (iterate 3 go_step
       refine wpList_store_row rfl _ _ _ rfl w2.heap.size (ItemL.mk kind key time value).cells rfl rfl 23 zeroI.cells (heap_alloc_new w2 _) item_size rfl (item_one1 _) ?_)
    | (iterate 4 go_step
       refine wpList_store_row rfl _ _ _ rfl w2.heap.size (ItemL.mk kind key time value).cells rfl rfl 23 zeroI.cells (heap_alloc_new w2 _) item_size rfl (item_one1 _) ?_)
    | (iterate 5 go_step
       refine wpList_store_row rfl _ _ _ rfl w2.heap.size (ItemL.mk kind key time value).cells rfl rfl 23 zeroI.cells (heap_alloc_new w2 _) item_size rfl (item_one1 _) ?_)
    | (iterate 6 go_step
       refine wpList_store_row rfl _ _ _ rfl w2.heap.size (ItemL.mk kind key time value).cells rfl rfl 23 zeroI.cells (heap_alloc_new w2 _) item_size rfl (item_one1 _) ?_)
    | (iterate 7 go_step
       refine wpList_store_row rfl _ _ _ rfl w2.heap.size (ItemL.mk kind key time value).cells rfl rfl 23 zeroI.cells (heap_alloc_new w2 _) item_size rfl (item_one1 _) ?_)
    | (iterate 8 go_step
       refine wpList_store_row rfl _ _ _ rfl w2.heap.size (ItemL.mk kind key time value).cells rfl rfl 23 zeroI.cells (heap_alloc_new w2 _) item_size rfl (item_one1 _) ?_)
  obtain ⟨w3, hw3⟩ : ∃ W, W = (w2.alloc (Obj.cells #[.int .i64 0, .string ⟨#[]⟩, .int .i64 0, .int .i64 0] 23)).setRow w2.heap.size (ItemL.mk kind key time value).cells := ⟨_, rfl⟩
  rw [← hw3]
  have S3 : Hid (PS w xb (ItemL.mk kind key time value) w3) := by
    have ha : Below w2.heap.size w2 (w2.alloc (Obj.cells #[.int .i64 0, .string ⟨#[]⟩, .int .i64 0, .int .i64 0] 23)) := (Below.refl _ w2).alloc (Nat.le_refl _) _
    have hb2 : Below w2.heap.size w2 w3 := by
      rw [hw3]
      exact ha.trans ⟨rfl, rfl, rfl, by simp [World.setRow], fun i hi => setRow_other _ _ _ _ (by omega)⟩
    have h2 := H2.out
    refine Lib.hid ⟨h2.1.trans (hb2.mono h2.1.size), (hb2.block _ h2.2.2).trans h2.2.1, ?_, by omega⟩
    rw [hw3, hxb]
    exact setRow_heap _ _ _ _ _ _ (heap_alloc_new w2 _)
  rw [← hxb]
  clear hw3 hxb
  have d0 : w3.cell? ⟨xb, 0, none⟩ = _ := S3.out.cell 0 rfl
  have d1 : w3.cell? ⟨xb, 1, none⟩ = _ := S3.out.cell 1 rfl
  have d2 : w3.cell? ⟨xb, 2, none⟩ = _ := S3.out.cell 2 rfl
  have d3 : w3.cell? ⟨xb, 3, none⟩ = _ := S3.out.cell 3 rfl
  cases r with
  | false =>
    go_wp2_with (fail)
    refine (HRr.out _).mono ?_
    rintro e w4 ⟨rfl, hB⟩
    have S4 := Lib.hid (S3.out.below hB)
    clear hB d0 d1 d2 d3
    have HF : Hid (∀ wz, Below w.heap.size w wz → P (.returned (.tuple #[.agg zeroI.cells, .bool false])) wz) := by
      refine Lib.hid (fun wz h => ?_)
      rw [HP.out, HX.out, if_neg (by rw [← Hr.out]; simp)]
      exact ⟨rfl, h⟩
    dsimp only
    go_upto_region 3 with (fail)
    refine wp_region_lit ?_
    first
      | (iterate 1 go_step
         refine wpList_store_row rfl _ _ _ rfl w.heap.size (zeroI).cells rfl rfl 23 zeroI.cells S4.out.2.1 item_size rfl (item_one1 _) ?_)
      | (iterate 2 go_step
         refine wpList_store_row rfl _ _ _ rfl w.heap.size (zeroI).cells rfl rfl 23 zeroI.cells S4.out.2.1 item_size rfl (item_one1 _) ?_)
      | (iterate 3 go_step
         refine wpList_store_row rfl _ _ _ rfl w.heap.size (zeroI).cells rfl rfl 23 zeroI.cells S4.out.2.1 item_size rfl (item_one1 _) ?_)
      | (iterate 4 go_step
         refine wpList_store_row rfl _ _ _ rfl w.heap.size (zeroI).cells rfl rfl 23 zeroI.cells S4.out.2.1 item_size rfl (item_one1 _) ?_)
      | (iterate 5 go_step
         refine wpList_store_row rfl _ _ _ rfl w.heap.size (zeroI).cells rfl rfl 23 zeroI.cells S4.out.2.1 item_size rfl (item_one1 _) ?_)
      | (iterate 6 go_step
         refine wpList_store_row rfl _ _ _ rfl w.heap.size (zeroI).cells rfl rfl 23 zeroI.cells S4.out.2.1 item_size rfl (item_one1 _) ?_)
      | (iterate 7 go_step
         refine wpList_store_row rfl _ _ _ rfl w.heap.size (zeroI).cells rfl rfl 23 zeroI.cells S4.out.2.1 item_size rfl (item_one1 _) ?_)
      | (iterate 8 go_step
         refine wpList_store_row rfl _ _ _ rfl w.heap.size (zeroI).cells rfl rfl 23 zeroI.cells S4.out.2.1 item_size rfl (item_one1 _) ?_)
    have HZ := Lib.hid (S4.out.fin (zeroI).cells)
    obtain ⟨wz, hwz⟩ : ∃ W, W = w4.setRow w.heap.size (zeroI).cells := ⟨_, rfl⟩
    rw [← hwz] at HZ ⊢
    clear hwz
    go_wp2_with (fail)
    exact bodyPost_ret (v := .tuple #[.agg (zeroI).cells, .bool false]) ((results_cell_row_tmp (p := 2) (u := 3) (ty := 23) rfl _ _ w.heap.size 23 (zeroI).cells (0, 0) _ rfl HZ.out.2 Tryd.underlying23 rfl item_size).trans rfl) rfl (HF.out _ HZ.out.1)
  | true =>
    go_wp2_with (fail)
    refine (HRr.out _).mono ?_
    rintro e w4 ⟨rfl, hB⟩
    have S4 := Lib.hid (S3.out.below hB)
    clear hB d0 d1 d2 d3
    have d0 : w4.cell? ⟨xb, 0, none⟩ = _ := S4.out.cell 0 rfl
    have d1 : w4.cell? ⟨xb, 1, none⟩ = _ := S4.out.cell 1 rfl
    have d2 : w4.cell? ⟨xb, 2, none⟩ = _ := S4.out.cell 2 rfl
    have d3 : w4.cell? ⟨xb, 3, none⟩ = _ := S4.out.cell 3 rfl
    obtain ⟨q, hq⟩ : ∃ q, q = decide (T = s) := ⟨_, rfl⟩
    have hne : ∀ w, (binOp .neq 9 (Sv T) (Sv s)).run Tryd.prog w = .ok (.bool (!q)) w := fun w => by rw [hq]; exact run_neq_Sv w T s
    have Hq := Lib.hid hq
    clear hq
    cases q with
    | false =>
      have HF : Hid (∀ wz, Below w.heap.size w wz → P (.returned (.tuple #[.agg zeroI.cells, .bool false])) wz) := by
        refine Lib.hid (fun wz h => ?_)
        have hTs : ¬ T = s := of_decide_eq_false Hq.out.symm
        rw [HP.out, HX.out, if_neg (fun h' => hTs (HTe.out.trans h'.2))]
        exact ⟨rfl, h⟩
      dsimp only
      go_wp2_with (fail)
      refine (HT.out (by trivial) _ S4.out.1).mono ?_
      rintro e w5 ⟨rfl, hB⟩
      have S5 := Lib.hid (S4.out.below hB)
      clear hB d0 d1 d2 d3
      dsimp only
      go_upto_region 3 with (fail)
      refine wp_region_lit ?_
      first
        | (iterate 1 go_step
           refine wpList_store_row rfl _ _ _ rfl w.heap.size (zeroI).cells rfl rfl 23 zeroI.cells S5.out.2.1 item_size rfl (item_one1 _) ?_)
        | (iterate 2 go_step
           refine wpList_store_row rfl _ _ _ rfl w.heap.size (zeroI).cells rfl rfl 23 zeroI.cells S5.out.2.1 item_size rfl (item_one1 _) ?_)
        | (iterate 3 go_step
           refine wpList_store_row rfl _ _ _ rfl w.heap.size (zeroI).cells rfl rfl 23 zeroI.cells S5.out.2.1 item_size rfl (item_one1 _) ?_)
        | (iterate 4 go_step
           refine wpList_store_row rfl _ _ _ rfl w.heap.size (zeroI).cells rfl rfl 23 zeroI.cells S5.out.2.1 item_size rfl (item_one1 _) ?_)
        | (iterate 5 go_step
           refine wpList_store_row rfl _ _ _ rfl w.heap.size (zeroI).cells rfl rfl 23 zeroI.cells S5.out.2.1 item_size rfl (item_one1 _) ?_)
        | (iterate 6 go_step
           refine wpList_store_row rfl _ _ _ rfl w.heap.size (zeroI).cells rfl rfl 23 zeroI.cells S5.out.2.1 item_size rfl (item_one1 _) ?_)
        | (iterate 7 go_step
           refine wpList_store_row rfl _ _ _ rfl w.heap.size (zeroI).cells rfl rfl 23 zeroI.cells S5.out.2.1 item_size rfl (item_one1 _) ?_)
        | (iterate 8 go_step
           refine wpList_store_row rfl _ _ _ rfl w.heap.size (zeroI).cells rfl rfl 23 zeroI.cells S5.out.2.1 item_size rfl (item_one1 _) ?_)
      have HZ := Lib.hid (S5.out.fin (zeroI).cells)
      obtain ⟨wz, hwz⟩ : ∃ W, W = w5.setRow w.heap.size (zeroI).cells := ⟨_, rfl⟩
      rw [← hwz] at HZ ⊢
      clear hwz
      go_wp2_with (fail)
      exact bodyPost_ret (v := .tuple #[.agg (zeroI).cells, .bool false]) ((results_cell_row_tmp (p := 2) (u := 3) (ty := 23) rfl _ _ w.heap.size 23 (zeroI).cells (0, 0) _ rfl HZ.out.2 Tryd.underlying23 rfl item_size).trans rfl) rfl (HF.out _ HZ.out.1)
    | true =>
      have HF : Hid (∀ wz, Below w.heap.size w wz → P (.returned (.tuple #[.agg (ItemL.mk kind key time value).cells, .bool true])) wz) := by
        refine Lib.hid (fun wz h => ?_)
        have hTs : T = s := of_decide_eq_true Hq.out.symm
        rw [HP.out, HX.out, if_pos ⟨Hr.out.symm, HTe.out.symm.trans hTs⟩]
        exact ⟨rfl, h⟩
      dsimp only
      go_wp2_with (fail)
      refine (HT.out (by trivial) _ S4.out.1).mono ?_
      rintro e w5 ⟨rfl, hB⟩
      have S5 := Lib.hid (S4.out.below hB)
      clear hB d0 d1 d2 d3
      have d1 : w5.cell? ⟨xb, 1, none⟩ = _ := S5.out.cell 1 rfl
      dsimp only
      go_wp2_with (fail)
      refine (HCl.out w5).mono ?_
      rintro e w6 ⟨rfl, hB⟩
      have S6 := Lib.hid (S5.out.below hB)
      clear hB d1
      have f1 := S6.out.fro 1
      have g1 : w6.cell? ⟨xb, 1, none⟩ = _ := S6.out.cell 1 rfl
      have hst : (storeCells ⟨xb, 1, none⟩ [Sv key]).run Tryd.prog w6 = .ok () (w6.setCell ⟨xb, 1, none⟩ (Sv key)) := by
        rw [run_storeCells_Sv]
        simp [stored, f1, g1]
      dsimp only
      go_wp2_with (fail)
      rw [hst]
      clear hst f1 g1
      obtain ⟨w7, hw7⟩ : ∃ W, W = w6.setCell ⟨xb, 1, none⟩ (Sv key) := ⟨_, rfl⟩
      rw [← hw7]
      have S7 : Hid (PS w xb (ItemL.mk kind key time value) w7) := by rw [hw7]; exact Lib.hid (S6.out.set 1 (Sv key) rfl)
      clear hw7
      have d0 : w7.cell? ⟨xb, 0, none⟩ = _ := S7.out.cell 0 rfl
      have d1 : w7.cell? ⟨xb, 1, none⟩ = _ := S7.out.cell 1 rfl
      have d2 : w7.cell? ⟨xb, 2, none⟩ = _ := S7.out.cell 2 rfl
      have d3 : w7.cell? ⟨xb, 3, none⟩ = _ := S7.out.cell 3 rfl
      go_upto_region 5 with (fail)
      refine wp_region_lit ?_
      first
        | (iterate 1 go_step
           refine wpList_store_row rfl _ _ _ rfl w.heap.size (ItemL.mk kind key time value).cells rfl rfl 23 zeroI.cells S7.out.2.1 item_size rfl (item_one1 _) ?_)
        | (iterate 2 go_step
           refine wpList_store_row rfl _ _ _ rfl w.heap.size (ItemL.mk kind key time value).cells rfl rfl 23 zeroI.cells S7.out.2.1 item_size rfl (item_one1 _) ?_)
        | (iterate 3 go_step
           refine wpList_store_row rfl _ _ _ rfl w.heap.size (ItemL.mk kind key time value).cells rfl rfl 23 zeroI.cells S7.out.2.1 item_size rfl (item_one1 _) ?_)
        | (iterate 4 go_step
           refine wpList_store_row rfl _ _ _ rfl w.heap.size (ItemL.mk kind key time value).cells rfl rfl 23 zeroI.cells S7.out.2.1 item_size rfl (item_one1 _) ?_)
        | (iterate 5 go_step
           refine wpList_store_row rfl _ _ _ rfl w.heap.size (ItemL.mk kind key time value).cells rfl rfl 23 zeroI.cells S7.out.2.1 item_size rfl (item_one1 _) ?_)
        | (iterate 6 go_step
           refine wpList_store_row rfl _ _ _ rfl w.heap.size (ItemL.mk kind key time value).cells rfl rfl 23 zeroI.cells S7.out.2.1 item_size rfl (item_one1 _) ?_)
        | (iterate 7 go_step
           refine wpList_store_row rfl _ _ _ rfl w.heap.size (ItemL.mk kind key time value).cells rfl rfl 23 zeroI.cells S7.out.2.1 item_size rfl (item_one1 _) ?_)
        | (iterate 8 go_step
           refine wpList_store_row rfl _ _ _ rfl w.heap.size (ItemL.mk kind key time value).cells rfl rfl 23 zeroI.cells S7.out.2.1 item_size rfl (item_one1 _) ?_)
      have HZ := Lib.hid (S7.out.fin (ItemL.mk kind key time value).cells)
      obtain ⟨wz, hwz⟩ : ∃ W, W = w7.setRow w.heap.size (ItemL.mk kind key time value).cells := ⟨_, rfl⟩
      rw [← hwz] at HZ ⊢
      clear hwz
      go_wp2_with (fail)
      exact bodyPost_ret (v := .tuple #[.agg (ItemL.mk kind key time value).cells, .bool true]) ((results_cell_row_tmp (p := 2) (u := 3) (ty := 23) rfl _ _ w.heap.size 23 (ItemL.mk kind key time value).cells (0, 0) _ rfl HZ.out.2 Tryd.underlying23 rfl item_size).trans rfl) rfl (HF.out _ HZ.out.1)
end Go.Proofs.YtmjanplhgpcbeaaDoor
