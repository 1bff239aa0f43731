/-
  The contract of package event's item: the item that words are about.
-/
import Derived.Test.YtmjanplhgpcbeaaDoorEventNumber
import Derived.Test.YtmjanplhgpcbeaaDoorEventGet
import Derived.Test.YtmjanplhgpcbeaaDoorItems
namespace Go.Proofs.YtmjanplhgpcbeaaDoor
open Go Go.RowKit

def wEvent : List (BitVec 8) := [101, 118, 101, 110, 116]
def wMark : List (BitVec 8) := [109, 97, 114, 107]
def itemW (ws : List (List (BitVec 8))) : ItemL :=
  match ws with
  | [a, b, c, d] => if a = wEvent then ⟨1, b, numL c, numL d⟩ else zeroI
  | [a, b] => if a = wMark then ⟨2, [], numL b, 0⟩ else zeroI
  | _ => zeroI
/-- Words that lie at a block. -/
def WordsAt (w : World) (g : Nat) (ws : List (List (BitVec 8))) : Prop := ∀ j x, ws[j]? = some x → w.cell? ⟨g, j, none⟩ = some (Sv x)
def GI (w : World) (x : ItemL) (k : Nat) (w' : World) : Prop := Below w.heap.size w w' ∧ w'.heap[w.heap.size]? = some (.cells (if k = 0 then zeroI else x).cells 23 (0, 0))
theorem GI.far {w w' w3 : World} {x : ItemL} {k : Nat} (h : GI w x k w') (hB : Below w'.heap.size w' w3) : GI w x k w3 := ⟨h.1.trans (hB.mono h.1.size), (hB.block _ (Array.getElem?_eq_some_iff.1 h.2).1).trans h.2⟩
theorem GI.set {w w' : World} {x : ItemL} (h : GI w x 0 w') : GI w x 1 (w'.setRow w.heap.size x.cells) :=
  ⟨h.1.trans ⟨rfl, rfl, rfl, by simp [World.setRow], fun i hi => setRow_other _ _ _ _ (by omega)⟩, setRow_heap _ _ _ _ _ _ h.2⟩
theorem itemW_none (ws : List (List (BitVec 8))) (h1 : ¬ (ws[0]? = some wEvent ∧ ws.length = 4)) (h2 : ¬ (ws[0]? = some wMark ∧ ws.length = 2)) : itemW ws = zeroI := by
  unfold itemW
  split
  · rw [if_neg fun e => h1 ⟨by simp [e], rfl⟩]
  · rw [if_neg fun e => h2 ⟨by simp [e], rfl⟩]
  · rfl
theorem ErrsIn.below {w w' : World} (h : ErrsIn w) (hB : Below w.heap.size w w') : ErrsIn w' := fun g hg => by
  obtain ⟨ev, h1, h2⟩ := h g hg
  exact ⟨ev, (hB.cell (block_lt_of_cell h1)).trans h1, h2⟩
set_option maxRecDepth 100000 in
set_option maxHeartbeats 2000000 in
theorem eitem_any (w : World) (gb cap : Nat) (ws : List (List (BitVec 8))) (hne : ws ≠ []) (hW0 : WordsAt w gb ws) (hln : ∀ x ∈ ws, x.length ≤ 1000000) (hE0 : ErrsIn w) :
    Calls Tryd.prog 36 #[.slice (some ⟨gb, 0, none⟩) ws.length cap] w (Below0 w (.agg (itemW ws).cells)) := by
  obtain ⟨w0, hw0⟩ : ∃ W, W = w.alloc (.cells #[.int .i64 0, .string ⟨#[]⟩, .int .i64 0, .int .i64 0] 23) := ⟨_, rfl⟩
  have HI0 : Hid (∀ x, GI w x 0 w0) := by
    refine Lib.hid (fun x => ?_)
    rw [hw0]
    exact ⟨(Below.refl _ w).alloc (Nat.le_refl _) _, heap_alloc_new w _⟩
  have HE : Hid (∀ w', Below w.heap.size w w' → ErrsIn w') := Lib.hid (fun w' h => hE0.below h)
  have HW : Hid (∀ w', Below w.heap.size w w' → WordsAt w' gb ws) := Lib.hid (fun w' h j x hj => (h.cell (block_lt_of_cell (hW0 j x hj))).trans (hW0 j x hj))
  have HLn := Lib.hid hln
  clear hE0 hW0 hln
  by_cases way1 : ws[0]? = some wEvent ∧ ws.length = 4
  · obtain ⟨wa, wb, wc, wd, rfl⟩ : ∃ a b c d, ws = [a, b, c, d] := by
      match ws, way1.2 with
      | [a, b, c, d], _ => exact ⟨a, b, c, d, rfl⟩
    obtain rfl : wa = wEvent := by simpa using way1.1
    clear way1 hne
    rw [show itemW [wEvent, wb, wc, wd] = ItemL.mk 1 wb (numL wc) (numL wd) by rw [itemW, if_pos rfl]]
    have c0 : w0.cell? ⟨gb, 0, none⟩ = some (Sv wEvent) := HW.out w0 (HI0.out zeroI).1 0 _ rfl
    have hev : ∀ w, (binOp .eql 9 (Sv wEvent) (.string ⟨#[101, 118, 101, 110, 116]⟩)).run Tryd.prog w = .ok (.bool true) w := fun w => run_eql_Sv w wEvent wEvent
    have HG0 : Hid (GI w (ItemL.mk 1 wb (numL wc) (numL wd)) 0 w0.drew) := ⟨(HI0.out zeroI).1.drew, (HI0.out zeroI).2⟩
    rw [show ([wEvent, wb, wc, wd] : List (List (BitVec 8))).length = 4 from rfl]
    go_enter Tryd.func36, Tryd.ntmps36
    go_upto_region 1 with (fail)
    rw [← hw0]
    clear hw0
    go_upto_region 2 with (fail)
    clear c0 hev
    refine wp_region_seq_frame (by kernel_rfl) [none, none, none, none, none, none, none, none, none, none, none, none, some 0] [12] (vOfC [.slice (some ⟨gb, 0, none⟩) 4 cap, .pointer (some ⟨gb, 1, none⟩), Sv wb, .slice (some ⟨gb, 0, none⟩) 4 cap, .pointer (some ⟨gb, 2, none⟩), Sv wc, .int .i64 (numL wc), .slice (some ⟨gb, 0, none⟩) 4 cap, .pointer (some ⟨gb, 3, none⟩), Sv wd, .int .i64 (numL wd), .agg (ItemL.mk 1 wb (numL wc) (numL wd)).cells, undef]) (GI w (ItemL.mk 1 wb (numL wc) (numL wd))) (fun _ _ => True) (fun _ _ _ _ _ h => h) (by kernel_rfl) (by kernel_rfl) (by kernel_rfl) HG0.out ⟨trivial, trivial, trivial, trivial, trivial, trivial, trivial, trivial, trivial, trivial, trivial, trivial, trivial, trivial⟩ ?_ ?_
    · refine ⟨?_, ?_, ?_, ?_, ?_, ?_, ?_, ?_, ?_, ?_, ?_, ?_, ?_, trivial⟩
      · intro k a w' hG hout hpre K hK
        have q0 := ev_of ((hout 0 rfl).trans (show _ = .slice (some ⟨gb, 0, none⟩) 4 cap from rfl))
        clear hout hpre
        go_step
        exact hK _ _ rfl hG trivial
      · intro k a w' hG hout hpre K hK
        obtain ⟨p0, _⟩ := hpre
        have q13 := ev_of (show a.eval (.tmp 13) = .slice (some ⟨gb, 0, none⟩) 4 cap from p0)
        clear hout p0
        go_step
        exact hK _ _ rfl hG trivial
      · intro k a w' hG hout hpre K hK
        obtain ⟨p0, _⟩ := hpre
        have q14 := ev_of (show a.eval (.tmp 14) = .pointer (some ⟨gb, 1, none⟩) from p0)
        have hc : w'.cell? ⟨gb, 1, none⟩ = some (Sv wb) := HW.out w' hG.1 1 _ rfl
        clear hout p0
        go_step
        exact hK _ _ rfl hG trivial
      · intro k a w' hG hout hpre K hK
        have q0 := ev_of ((hout 0 rfl).trans (show _ = .slice (some ⟨gb, 0, none⟩) 4 cap from rfl))
        clear hout hpre
        go_step
        exact hK _ _ rfl hG trivial
      · intro k a w' hG hout hpre K hK
        obtain ⟨p0, _⟩ := hpre
        have q16 := ev_of (show a.eval (.tmp 16) = .slice (some ⟨gb, 0, none⟩) 4 cap from p0)
        clear hout p0
        go_step
        exact hK _ _ rfl hG trivial
      · intro k a w' hG hout hpre K hK
        obtain ⟨p0, _⟩ := hpre
        have q17 := ev_of (show a.eval (.tmp 17) = .pointer (some ⟨gb, 2, none⟩) from p0)
        have hc : w'.cell? ⟨gb, 2, none⟩ = some (Sv wc) := HW.out w' hG.1 2 _ rfl
        clear hout p0
        go_step
        exact hK _ _ rfl hG trivial
      · intro k a w' hG hout hpre K hK
        obtain ⟨p0, _⟩ := hpre
        have q18 := ev_of (show a.eval (.tmp 18) = Sv wc from p0)
        have HS := Lib.hid (enumber_any w' wc (HLn.out _ (by simp)) (HE.out w' hG.1))
        clear hout p0
        go_step
        refine HS.out.mono ?_
        rintro e w3 ⟨rfl, hB⟩
        exact hK _ _ rfl (hG.far hB) trivial
      · intro k a w' hG hout hpre K hK
        have q0 := ev_of ((hout 0 rfl).trans (show _ = .slice (some ⟨gb, 0, none⟩) 4 cap from rfl))
        clear hout hpre
        go_step
        exact hK _ _ rfl hG trivial
      · intro k a w' hG hout hpre K hK
        obtain ⟨p0, _⟩ := hpre
        have q20 := ev_of (show a.eval (.tmp 20) = .slice (some ⟨gb, 0, none⟩) 4 cap from p0)
        clear hout p0
        go_step
        exact hK _ _ rfl hG trivial
      · intro k a w' hG hout hpre K hK
        obtain ⟨p0, _⟩ := hpre
        have q21 := ev_of (show a.eval (.tmp 21) = .pointer (some ⟨gb, 3, none⟩) from p0)
        have hc : w'.cell? ⟨gb, 3, none⟩ = some (Sv wd) := HW.out w' hG.1 3 _ rfl
        clear hout p0
        go_step
        exact hK _ _ rfl hG trivial
      · intro k a w' hG hout hpre K hK
        obtain ⟨p0, _⟩ := hpre
        have q22 := ev_of (show a.eval (.tmp 22) = Sv wd from p0)
        have HS := Lib.hid (enumber_any w' wd (HLn.out _ (by simp)) (HE.out w' hG.1))
        clear hout p0
        go_step
        refine HS.out.mono ?_
        rintro e w3 ⟨rfl, hB⟩
        exact hK _ _ rfl (hG.far hB) trivial
      · intro k a w' hG hout hpre K hK
        obtain ⟨p0, p1, p2, _⟩ := hpre
        have q15 := ev_of (show a.eval (.tmp 15) = Sv wb from p0)
        have q19 := ev_of (show a.eval (.tmp 19) = .int .i64 (numL wc) from p1)
        have q23 := ev_of (show a.eval (.tmp 23) = .int .i64 (numL wd) from p2)
        clear hout p0 p1 p2
        go_step
        exact hK _ _ rfl hG trivial
      · intro a w' hG hout hpre K hK
        obtain ⟨p0, _⟩ := hpre
        have q2 := ((hout 2 rfl).trans (show _ = .pointer (some ⟨w.heap.size, 0, none⟩) from rfl))
        have q24 := (show a.eval (.tmp 24) = .agg (ItemL.mk 1 wb (numL wc) (numL wd)).cells from p0)
        refine wp_store_row 23 (.tmp 2) (.tmp 24) rfl w.heap.size (ItemL.mk 1 wb (numL wc) (numL wd)).cells q2 q24 23 zeroI.cells hG.2 item_size rfl (item_one1 _) ?_
        exact hK _ _ rfl hG.set trivial
    · intro vs w2 hG hlen hV
      match vs, hlen, hV with
      | [v0, v1, v2, v3, v4, v5, v6, v7, v8, v9, v10, v11, v12], _, hV =>
        clear hV
        simp only [putsL, List.tail_cons, List.headD_cons]
        simp only [Act.put, List.setIfInBounds_toArray, List.set_cons_succ, List.set_cons_zero]
        have HZ := Lib.hid hG
        clear hG
        go_wp2_with (fail)
        exact bodyPost_ret (v := .agg (ItemL.mk 1 wb (numL wc) (numL wd)).cells) (results_cell_row rfl _ _ w.heap.size 23 (ItemL.mk 1 wb (numL wc) (numL wd)).cells (0, 0) _ rfl HZ.out.2 Tryd.underlying23 rfl item_size) rfl ⟨rfl, HZ.out.1⟩
  by_cases way2 : ws[0]? = some wMark ∧ ws.length = 2
  · obtain ⟨wa, wb, rfl⟩ : ∃ a b, ws = [a, b] := by
      match ws, way2.2 with
      | [a, b], _ => exact ⟨a, b, rfl⟩
    obtain rfl : wa = wMark := by simpa using way2.1
    clear way1 way2 hne
    rw [show itemW [wMark, wb] = ItemL.mk 2 [] (numL wb) 0 by rw [itemW, if_pos rfl]]
    have c0 : w0.cell? ⟨gb, 0, none⟩ = some (Sv wMark) := HW.out w0 (HI0.out zeroI).1 0 _ rfl
    have c1 : w0.cell? ⟨gb, 1, none⟩ = some (Sv wb) := HW.out w0 (HI0.out zeroI).1 1 _ rfl
    have hev : ∀ w, (binOp .eql 9 (Sv wMark) (.string ⟨#[101, 118, 101, 110, 116]⟩)).run Tryd.prog w = .ok (.bool false) w := fun w => run_eql_Sv w wMark wEvent
    have hma : ∀ w, (binOp .eql 9 (Sv wMark) (.string ⟨#[109, 97, 114, 107]⟩)).run Tryd.prog w = .ok (.bool true) w := fun w => run_eql_Sv w wMark wMark
    have HN := Lib.hid (enumber_any w0 wb (HLn.out _ (by simp)) (HE.out w0 (HI0.out zeroI).1))
    rw [show ([wMark, wb] : List (List (BitVec 8))).length = 2 from rfl]
    go_enter Tryd.func36, Tryd.ntmps36
    go_upto_region 1 with (fail)
    rw [← hw0]
    clear hw0
    go_wp2_with (fail)
    refine HN.out.mono ?_
    rintro e w3 ⟨rfl, hB⟩
    have H3 := Lib.hid ((HI0.out (ItemL.mk 2 [] (numL wb) 0)).far hB)
    clear hB c0 c1 hev hma
    dsimp only
    first
      | (iterate 1 go_step
         refine wpList_store_row rfl _ _ _ rfl w.heap.size (ItemL.mk 2 [] (numL wb) 0).cells rfl rfl 23 zeroI.cells H3.out.2 item_size rfl (item_one1 _) ?_)
      | (iterate 2 go_step
         refine wpList_store_row rfl _ _ _ rfl w.heap.size (ItemL.mk 2 [] (numL wb) 0).cells rfl rfl 23 zeroI.cells H3.out.2 item_size rfl (item_one1 _) ?_)
      | (iterate 3 go_step
         refine wpList_store_row rfl _ _ _ rfl w.heap.size (ItemL.mk 2 [] (numL wb) 0).cells rfl rfl 23 zeroI.cells H3.out.2 item_size rfl (item_one1 _) ?_)
      | (iterate 4 go_step
         refine wpList_store_row rfl _ _ _ rfl w.heap.size (ItemL.mk 2 [] (numL wb) 0).cells rfl rfl 23 zeroI.cells H3.out.2 item_size rfl (item_one1 _) ?_)
      | (iterate 5 go_step
         refine wpList_store_row rfl _ _ _ rfl w.heap.size (ItemL.mk 2 [] (numL wb) 0).cells rfl rfl 23 zeroI.cells H3.out.2 item_size rfl (item_one1 _) ?_)
      | (iterate 6 go_step
         refine wpList_store_row rfl _ _ _ rfl w.heap.size (ItemL.mk 2 [] (numL wb) 0).cells rfl rfl 23 zeroI.cells H3.out.2 item_size rfl (item_one1 _) ?_)
    have HZ := Lib.hid (GI.set (x := ItemL.mk 2 [] (numL wb) 0) H3.out)
    obtain ⟨wz, hwz⟩ : ∃ W, W = w3.setRow w.heap.size (ItemL.mk 2 [] (numL wb) 0).cells := ⟨_, rfl⟩
    rw [← hwz] at HZ ⊢
    clear hwz
    go_wp2_with (fail)
    exact bodyPost_ret (v := .agg (ItemL.mk 2 [] (numL wb) 0).cells) (results_cell_row rfl _ _ w.heap.size 23 (ItemL.mk 2 [] (numL wb) 0).cells (0, 0) _ rfl HZ.out.2 Tryd.underlying23 rfl item_size) rfl ⟨rfl, HZ.out.1⟩
  rw [itemW_none ws way1 way2]
  obtain ⟨a, ws', rfl⟩ : ∃ a r, ws = a :: r := by
    cases ws with
    | nil => exact absurd rfl hne
    | cons a r => exact ⟨a, r, rfl⟩
  have c0 : w0.cell? ⟨gb, 0, none⟩ = some (Sv a) := HW.out w0 (HI0.out zeroI).1 0 _ rfl
  obtain ⟨L, hL⟩ : ∃ L, L = (a :: ws').length := ⟨_, rfl⟩
  rw [← hL] at way1 way2 ⊢
  have hL0 : 0 < L := by rw [hL]; simp
  obtain ⟨e, he⟩ : ∃ e, e = decide (a = wEvent) := ⟨_, rfl⟩
  obtain ⟨m, hm⟩ : ∃ e, e = decide (a = wMark) := ⟨_, rfl⟩
  have hev : ∀ w, (binOp .eql 9 (Sv a) (.string ⟨#[101, 118, 101, 110, 116]⟩)).run Tryd.prog w = .ok (.bool e) w := fun w => by rw [he]; exact run_eql_Sv w a wEvent
  have hma : ∀ w, (binOp .eql 9 (Sv a) (.string ⟨#[109, 97, 114, 107]⟩)).run Tryd.prog w = .ok (.bool m) w := fun w => by rw [hm]; exact run_eql_Sv w a wMark
  have h4 : e = true → ((L : Int) == 4) = false := fun h => by
    rw [he, decide_eq_true_eq] at h
    have : L ≠ 4 := fun h' => way1 ⟨by simp [h], h'⟩
    simp
    omega
  have h2 : m = true → ((L : Int) == 2) = false := fun h => by
    rw [hm, decide_eq_true_eq] at h
    have : L ≠ 2 := fun h' => way2 ⟨by simp [h], h'⟩
    simp
    omega
  have HH := Lib.hid hL0
  clear way1 way2 hne he hm hL HW HLn HE
  cases e with
  | true =>
    have h4' := h4 rfl
    clear h4
    cases m with
    | true =>
      have h2' := h2 rfl
      clear h2
      go_enter Tryd.func36, Tryd.ntmps36
      go_upto_region 1 with (fail)
      rw [← hw0]
      clear hw0
      go_upto_region 5 with (fail)
      refine wp_region_lit ?_
      first
        | (iterate 1 go_step
           refine wpList_store_row rfl _ _ _ rfl w.heap.size (zeroI).cells rfl rfl 23 zeroI.cells (HI0.out zeroI).2 item_size rfl (item_one1 _) ?_)
        | (iterate 2 go_step
           refine wpList_store_row rfl _ _ _ rfl w.heap.size (zeroI).cells rfl rfl 23 zeroI.cells (HI0.out zeroI).2 item_size rfl (item_one1 _) ?_)
        | (iterate 3 go_step
           refine wpList_store_row rfl _ _ _ rfl w.heap.size (zeroI).cells rfl rfl 23 zeroI.cells (HI0.out zeroI).2 item_size rfl (item_one1 _) ?_)
        | (iterate 4 go_step
           refine wpList_store_row rfl _ _ _ rfl w.heap.size (zeroI).cells rfl rfl 23 zeroI.cells (HI0.out zeroI).2 item_size rfl (item_one1 _) ?_)
        | (iterate 5 go_step
           refine wpList_store_row rfl _ _ _ rfl w.heap.size (zeroI).cells rfl rfl 23 zeroI.cells (HI0.out zeroI).2 item_size rfl (item_one1 _) ?_)
        | (iterate 6 go_step
           refine wpList_store_row rfl _ _ _ rfl w.heap.size (zeroI).cells rfl rfl 23 zeroI.cells (HI0.out zeroI).2 item_size rfl (item_one1 _) ?_)
      have HZ := Lib.hid (GI.set (x := zeroI) (HI0.out zeroI))
      obtain ⟨wz, hwz⟩ : ∃ W, W = w0.setRow w.heap.size (zeroI).cells := ⟨_, rfl⟩
      rw [← hwz] at HZ ⊢
      clear hwz
      go_wp2_with (fail)
      exact bodyPost_ret (v := .agg (zeroI).cells) (results_cell_row rfl _ _ w.heap.size 23 (zeroI).cells (0, 0) _ rfl HZ.out.2 Tryd.underlying23 rfl item_size) rfl ⟨rfl, HZ.out.1⟩
    | false =>
      clear h2
      go_enter Tryd.func36, Tryd.ntmps36
      go_upto_region 1 with (fail)
      rw [← hw0]
      clear hw0
      go_upto_region 5 with (fail)
      refine wp_region_lit ?_
      first
        | (iterate 1 go_step
           refine wpList_store_row rfl _ _ _ rfl w.heap.size (zeroI).cells rfl rfl 23 zeroI.cells (HI0.out zeroI).2 item_size rfl (item_one1 _) ?_)
        | (iterate 2 go_step
           refine wpList_store_row rfl _ _ _ rfl w.heap.size (zeroI).cells rfl rfl 23 zeroI.cells (HI0.out zeroI).2 item_size rfl (item_one1 _) ?_)
        | (iterate 3 go_step
           refine wpList_store_row rfl _ _ _ rfl w.heap.size (zeroI).cells rfl rfl 23 zeroI.cells (HI0.out zeroI).2 item_size rfl (item_one1 _) ?_)
        | (iterate 4 go_step
           refine wpList_store_row rfl _ _ _ rfl w.heap.size (zeroI).cells rfl rfl 23 zeroI.cells (HI0.out zeroI).2 item_size rfl (item_one1 _) ?_)
        | (iterate 5 go_step
           refine wpList_store_row rfl _ _ _ rfl w.heap.size (zeroI).cells rfl rfl 23 zeroI.cells (HI0.out zeroI).2 item_size rfl (item_one1 _) ?_)
        | (iterate 6 go_step
           refine wpList_store_row rfl _ _ _ rfl w.heap.size (zeroI).cells rfl rfl 23 zeroI.cells (HI0.out zeroI).2 item_size rfl (item_one1 _) ?_)
      have HZ := Lib.hid (GI.set (x := zeroI) (HI0.out zeroI))
      obtain ⟨wz, hwz⟩ : ∃ W, W = w0.setRow w.heap.size (zeroI).cells := ⟨_, rfl⟩
      rw [← hwz] at HZ ⊢
      clear hwz
      go_wp2_with (fail)
      exact bodyPost_ret (v := .agg (zeroI).cells) (results_cell_row rfl _ _ w.heap.size 23 (zeroI).cells (0, 0) _ rfl HZ.out.2 Tryd.underlying23 rfl item_size) rfl ⟨rfl, HZ.out.1⟩
  | false =>
    clear h4
    cases m with
    | true =>
      have h2' := h2 rfl
      clear h2
      go_enter Tryd.func36, Tryd.ntmps36
      go_upto_region 1 with (fail)
      rw [← hw0]
      clear hw0
      go_upto_region 5 with (fail)
      refine wp_region_lit ?_
      first
        | (iterate 1 go_step
           refine wpList_store_row rfl _ _ _ rfl w.heap.size (zeroI).cells rfl rfl 23 zeroI.cells (HI0.out zeroI).2 item_size rfl (item_one1 _) ?_)
        | (iterate 2 go_step
           refine wpList_store_row rfl _ _ _ rfl w.heap.size (zeroI).cells rfl rfl 23 zeroI.cells (HI0.out zeroI).2 item_size rfl (item_one1 _) ?_)
        | (iterate 3 go_step
           refine wpList_store_row rfl _ _ _ rfl w.heap.size (zeroI).cells rfl rfl 23 zeroI.cells (HI0.out zeroI).2 item_size rfl (item_one1 _) ?_)
        | (iterate 4 go_step
           refine wpList_store_row rfl _ _ _ rfl w.heap.size (zeroI).cells rfl rfl 23 zeroI.cells (HI0.out zeroI).2 item_size rfl (item_one1 _) ?_)
        | (iterate 5 go_step
           refine wpList_store_row rfl _ _ _ rfl w.heap.size (zeroI).cells rfl rfl 23 zeroI.cells (HI0.out zeroI).2 item_size rfl (item_one1 _) ?_)
        | (iterate 6 go_step
           refine wpList_store_row rfl _ _ _ rfl w.heap.size (zeroI).cells rfl rfl 23 zeroI.cells (HI0.out zeroI).2 item_size rfl (item_one1 _) ?_)
      have HZ := Lib.hid (GI.set (x := zeroI) (HI0.out zeroI))
      obtain ⟨wz, hwz⟩ : ∃ W, W = w0.setRow w.heap.size (zeroI).cells := ⟨_, rfl⟩
      rw [← hwz] at HZ ⊢
      clear hwz
      go_wp2_with (fail)
      exact bodyPost_ret (v := .agg (zeroI).cells) (results_cell_row rfl _ _ w.heap.size 23 (zeroI).cells (0, 0) _ rfl HZ.out.2 Tryd.underlying23 rfl item_size) rfl ⟨rfl, HZ.out.1⟩
    | false =>
      clear h2
      go_enter Tryd.func36, Tryd.ntmps36
      go_upto_region 1 with (fail)
      rw [← hw0]
      clear hw0
      go_upto_region 5 with (fail)
      refine wp_region_lit ?_
      first
        | (iterate 1 go_step
           refine wpList_store_row rfl _ _ _ rfl w.heap.size (zeroI).cells rfl rfl 23 zeroI.cells (HI0.out zeroI).2 item_size rfl (item_one1 _) ?_)
        | (iterate 2 go_step
           refine wpList_store_row rfl _ _ _ rfl w.heap.size (zeroI).cells rfl rfl 23 zeroI.cells (HI0.out zeroI).2 item_size rfl (item_one1 _) ?_)
        | (iterate 3 go_step
           refine wpList_store_row rfl _ _ _ rfl w.heap.size (zeroI).cells rfl rfl 23 zeroI.cells (HI0.out zeroI).2 item_size rfl (item_one1 _) ?_)
        | (iterate 4 go_step
           refine wpList_store_row rfl _ _ _ rfl w.heap.size (zeroI).cells rfl rfl 23 zeroI.cells (HI0.out zeroI).2 item_size rfl (item_one1 _) ?_)
        | (iterate 5 go_step
           refine wpList_store_row rfl _ _ _ rfl w.heap.size (zeroI).cells rfl rfl 23 zeroI.cells (HI0.out zeroI).2 item_size rfl (item_one1 _) ?_)
        | (iterate 6 go_step
           refine wpList_store_row rfl _ _ _ rfl w.heap.size (zeroI).cells rfl rfl 23 zeroI.cells (HI0.out zeroI).2 item_size rfl (item_one1 _) ?_)
      have HZ := Lib.hid (GI.set (x := zeroI) (HI0.out zeroI))
      obtain ⟨wz, hwz⟩ : ∃ W, W = w0.setRow w.heap.size (zeroI).cells := ⟨_, rfl⟩
      rw [← hwz] at HZ ⊢
      clear hwz
      go_wp2_with (fail)
      exact bodyPost_ret (v := .agg (zeroI).cells) (results_cell_row rfl _ _ w.heap.size 23 (zeroI).cells (0, 0) _ rfl HZ.out.2 Tryd.underlying23 rfl item_size) rfl ⟨rfl, HZ.out.1⟩
end Go.Proofs.YtmjanplhgpcbeaaDoor
