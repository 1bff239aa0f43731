/-
  EventBack, whatever items it is called with.
-/
import Derived.Test.YtmjanplhgpcbeaaDoorEventFirst
import Derived.Test.YtmjanplhgpcbeaaDoorEventSame
namespace Go.Proofs.YtmjanplhgpcbeaaDoor
open Go Go.RowKit

def rightsL (l : List ItemL) : List ItemL := l.filter (·.rightB)
theorem rightsL_next {l : List ItemL} {t : Nat} {x : ItemL} (h : l[t]? = some x) : rightsL (l.take (t + 1)) = rightsL (l.take t) ++ if x.rightB then [x] else [] := by
  rw [take_next h, rightsL, rightsL, List.filter_append]
  cases hx : x.rightB <;> simp [hx]
def BK (w : World) (base : Nat) (l : List ItemL) (v i : Value) (wr : World) : Prop :=
  ∃ t : Nat, t ≤ l.length ∧ i = .int .i64 (t : Int) ∧ OwnI wr base v (rightsL (l.take t)) ∧ Below w.heap.size w wr ∧ base ≤ wr.heap.size
theorem OwnI.mono {w : World} {base base' : Nat} {v : Value} {l : List ItemL} (h : OwnI w base v l) (hb : base' ≤ base) : OwnI w base' v l := by
  refine ⟨h.1, ?_⟩
  rcases h.2 with h | ⟨g, cap, cur, h1, h2, h3⟩
  · exact .inl h
  · exact .inr ⟨g, cap, cur, h1, Nat.le_trans hb h2, h3⟩
set_option maxRecDepth 100000 in
set_option maxHeartbeats 4000000 in
theorem eventBack_any (w : World) (la : Option Addr) (lc : Nat) (l : List ItemL) (hI : ItemsAt w la l) (hk : ∀ x ∈ l, x.key.length ≤ 1048576) (hl : l.length ≤ 1048576) (hL : LibIn w) :
    Calls Tryd.prog 5 #[.slice la l.length lc] w (Below0 w (.bool true)) := by
  have HF := Lib.hid (efirst_any w hL)
  obtain ⟨L, hLn⟩ : ∃ L, L = l.length := ⟨_, rfl⟩
  have HP := Lib.hid (And.intro hI (And.intro hk (And.intro hLn (And.intro hl hL))))
  obtain ⟨q, hq⟩ : ∃ q, q = greatL l := ⟨_, rfl⟩
  have HG : Hid (∀ w', Below w.heap.size w w' → Calls Tryd.prog 7 #[.slice la L lc] w' (Below0 w' (.int .i64 (q : Int)))) := by
    rw [hLn, hq]
    exact Lib.hid (fun w' hB => great_any w' la lc l (hI.below hB) hk hl)
  rw [← hLn]
  by_cases hq5 : 5000 < q
  · have hq5' : (5000 : Int) < (q : Int) := by omega
    clear hI hk hl hL hLn hq hq5
    go_enter Tryd.func5, Tryd.ntmps5
    go_wp2_with (fail)
    refine HF.out.mono ?_
    rintro e w1 ⟨rfl, hB⟩
    have H1 := Lib.hid hB
    clear hB
    dsimp only
    go_wp2_with (fail)
    refine (HG.out w1 H1.out).mono ?_
    rintro e w2 ⟨rfl, hB⟩
    have H2 := Lib.hid (H1.out.trans (hB.mono H1.out.size))
    clear hB
    dsimp only
    go_wp2_with (fail)
    go_ret
    exact ⟨rfl, H2.out⟩
  have hq5' : ¬ (5000 : Int) < (q : Int) := by omega
  have hL5 : L ≤ 500 := by
    have := greatL_length l
    omega
  have HK5 : Hid (∀ x ∈ l, x.key.length ≤ 5000) := Lib.hid (fun x hx => by have := greatL_mem hx; omega)
  clear hI hk hl hL hLn hq hq5
  go_enter Tryd.func5, Tryd.ntmps5
  go_wp2_with (fail)
  refine HF.out.mono ?_
  rintro e w1 ⟨rfl, hB⟩
  have H1 := Lib.hid hB
  clear hB
  dsimp only
  go_wp2_with (fail)
  refine (HG.out w1 H1.out).mono ?_
  rintro e w2 ⟨rfl, hB⟩
  have H2 := Lib.hid (H1.out.trans (hB.mono H1.out.size))
  clear hB
  dsimp only
  go_wp2_with (fail)
  go_loopw [3, 17] (BK w w.heap.size l) (fun _ i _ => L - (intOf i).toNat)
  case atStart => exact ⟨0, Nat.zero_le _, rfl, OwnI.nil _ _, H2.out, H2.out.size⟩
  case round =>
    obtain ⟨t, ht, rfl, ho, hB, hbs⟩ := hrel
    rw [← HP.out.2.2.1] at ht
    have HR := Lib.hid (And.intro ho (And.intro hB hbs))
    clear ho hB hbs
    by_cases hlt : t < L
    · have hi0 : (0 : Int) ≤ (t : Int) ∧ (t : Int) < (L : Int) := by omega
      obtain ⟨x, pb, po, hx, hla, d0, d1, d2, d3⟩ := (HP.out.1.below HR.out.2.1).get (t := t) (by rw [← HP.out.2.2.1]; exact hlt)
      subst hla
      have hxk := HK5.out x (List.mem_of_getElem? hx)
      obtain ⟨r, hr⟩ : ∃ r, r = x.rightB := ⟨_, rfl⟩
      obtain ⟨ob, hob⟩ : ∃ ob, ob = wr.heap.size := ⟨_, rfl⟩
      obtain ⟨wo, hwo⟩ : ∃ wo, wo = wr.alloc (.cells x.cells 23) := ⟨_, rfl⟩
      have hBo : Below wr.heap.size wr wo := by rw [hwo]; exact (Below.refl _ wr).alloc (Nat.le_refl _) _
      have HO : Hid (RowI wo ob x ∧ OwnI wo w.heap.size u3 (rightsL (l.take t)) ∧ Below w.heap.size w wo ∧ (∀ k, u3.ownBlock = some k → k < ob) ∧ w.heap.size ≤ ob) := by
        refine Lib.hid ⟨by rw [hwo, hob]; exact heap_alloc_new wr _, HR.out.1.far hBo, HR.out.2.1.trans (hBo.mono HR.out.2.1.size), fun k hk => by rw [hob]; exact (HR.out.1.lt hk).2, by rw [hob]; exact HR.out.2.2⟩
      have HRt : Hid (∀ w', Calls Tryd.prog 14 #[.agg x.cells] w' (Below0 w' (.bool r))) := by
        rw [hr]
        exact Lib.hid (fun w' => eright_any w' x (by omega))
      have HN : Hid (rightsL (l.take (t + 1)) = rightsL (l.take t) ++ if r then [x] else []) := by
        rw [hr]
        exact Lib.hid (rightsL_next hx)
      have HT : Hid (r = true → ∃ T : List (BitVec 8), (∀ w', Below w.heap.size w w' → Calls Tryd.prog 16 #[.agg x.cells] w' (Below0 w' (Sv T))) ∧ ∀ w', Below w.heap.size w w' → Calls Tryd.prog 12 #[Sv T] w' (Below0 w' (.tuple #[.agg x.cells, .bool true]))) := by
        refine Lib.hid (fun h => ?_)
        have hxr : x.rightB = true := by rw [← hr, h]
        refine ⟨x.text, fun w' hB => etext_yes w' x hxr (HP.out.2.2.2.2.below hB).1, fun w' hB => ?_⟩
        have hp := eparse_any w' x.text (Nat.le_trans (text_short hxr) (by decide)) (HP.out.2.2.2.2.below hB)
        rw [parseL_text hxr] at hp
        exact hp
      obtain ⟨e0, e1, e2, e3⟩ := cells4 HO.out.1.cell
      have HL2 := Lib.hid hlt
      clear hr hx hxk hBo hlt
      obtain ⟨kind, key, time, value⟩ := x
      have HNE : Hid (∀ w, (Op.equalIn 10000 23 (.agg #[.int .i64 kind, Sv key, .int .i64 time, .int .i64 value]) (.agg #[.int .i64 kind, Sv key, .int .i64 time, .int .i64 value])).run Tryd.prog w = .ok true w) := Lib.hid (fun w => by
        have h := run_equal_item w (ItemL.mk kind key time value) (ItemL.mk kind key time value)
        rw [(sameI_iff _ _).2 rfl] at h
        exact h)
      unfold ItemL.cells at hwo HRt HT
      simp only at d0 d1 d2 d3 e0 e1 e2 e3 hwo
      cases r with
      | false =>
        have HZ : Hid (∀ w3, Below wo.heap.size wo w3 → BK w w.heap.size l u3 (.int .i64 ((t : Int) + 1)) w3) := by
          refine Lib.hid (fun w3 h => ⟨t + 1, by rw [← HP.out.2.2.1]; have := HL2.out; omega, by go_num, ?_, HO.out.2.2.1.trans (h.mono HO.out.2.2.1.size), by have := HO.out.2.2.1.size; have := h.size; omega⟩)
          rw [HN.out, if_neg (by decide), List.append_nil]
          exact HO.out.2.1.far h
        go_upto_region 9 with (fail)
        rw [← hwo, ← hob]
        clear hwo hob d0 d1 d2 d3
        go_wp2_with (fail)
        refine (HRt.out _).mono ?_
        rintro e w3 ⟨rfl, hB3⟩
        have H3 := Lib.hid (HZ.out w3 hB3)
        clear hB3 e0 e1 e2 e3
        dsimp only
        go_wp2_with (fail)
        have := HL2.out
        exact ⟨H3.out, by simp [intOf]; omega⟩
      | true =>
        obtain ⟨T, hT, hPr⟩ := HT.out (by trivial)
        have HT2 := Lib.hid (And.intro hT hPr)
        clear hT hPr
        go_upto_region 9 with (fail)
        rw [← hwo, ← hob]
        clear hwo hob d0 d1 d2 d3
        go_wp2_with (fail)
        refine (HRt.out _).mono ?_
        rintro e w3 ⟨rfl, hB3⟩
        have HO3 : Hid (RowI w3 ob ⟨kind, key, time, value⟩ ∧ OwnI w3 w.heap.size u3 (rightsL (l.take t)) ∧ Below w.heap.size w w3) := by
          obtain ⟨k1, k2, k3, _, _⟩ := HO.out
          exact Lib.hid ⟨k1.below hB3, k2.far hB3, k3.trans (hB3.mono k3.size)⟩
        clear hB3 e0 e1 e2 e3
        obtain ⟨e0, e1, e2, e3⟩ := cells4 HO3.out.1.cell
        simp only at e0 e1 e2 e3
        obtain ⟨w4, hw4⟩ : ∃ W, W = w3.alloc (.cells #[.int .i64 kind, Sv key, .int .i64 time, .int .i64 value] 23) := ⟨_, rfl⟩
        have hB4 : Below w3.heap.size w3 w4 := by rw [hw4]; exact (Below.refl _ w3).alloc (Nat.le_refl _) _
        have HO4 : Hid (RowI w4 ob ⟨kind, key, time, value⟩ ∧ OwnI w4 w.heap.size u3 (rightsL (l.take t)) ∧ Below w.heap.size w w4) := by
          obtain ⟨k1, k2, k3⟩ := HO3.out
          exact Lib.hid ⟨k1.below hB4, k2.far hB4, k3.trans (hB4.mono k3.size)⟩
        have HU : Hid (∀ j z, (ItemL.mk kind key time value).cells[j]? = some z → w4.cell? ⟨w3.heap.size, j, none⟩ = some z) := by
          refine Lib.hid (fun j z hj => ?_)
          rw [hw4, cell_of_row _ _ j _ _ _ (heap_alloc_new w3 _)]
          exact hj
        clear hB4
        dsimp only
        go_upto_region 10 with (fail)
        refine wp_region_lit ?_
        first
          | (iterate 4 go_step
             rw [← hw4]
             refine wpList_pushI rfl _ _ rfl w.heap.size u3 (rightsL (l.take t)) rfl HO4.out.2.1 ⟨kind, key, time, value⟩ w3.heap.size rfl HU.out (by have h1 := countL_le (l.take t); have h2 := List.length_take_le t l; show countL (l.take t) + 1 ≤ _; omega) HO4.out.2.2.size ?_)
          | (iterate 5 go_step
             rw [← hw4]
             refine wpList_pushI rfl _ _ rfl w.heap.size u3 (rightsL (l.take t)) rfl HO4.out.2.1 ⟨kind, key, time, value⟩ w3.heap.size rfl HU.out (by have h1 := countL_le (l.take t); have h2 := List.length_take_le t l; show countL (l.take t) + 1 ≤ _; omega) HO4.out.2.2.size ?_)
          | (iterate 6 go_step
             rw [← hw4]
             refine wpList_pushI rfl _ _ rfl w.heap.size u3 (rightsL (l.take t)) rfl HO4.out.2.1 ⟨kind, key, time, value⟩ w3.heap.size rfl HU.out (by have h1 := countL_le (l.take t); have h2 := List.length_take_le t l; show countL (l.take t) + 1 ≤ _; omega) HO4.out.2.2.size ?_)
          | (iterate 7 go_step
             rw [← hw4]
             refine wpList_pushI rfl _ _ rfl w.heap.size u3 (rightsL (l.take t)) rfl HO4.out.2.1 ⟨kind, key, time, value⟩ w3.heap.size rfl HU.out (by have h1 := countL_le (l.take t); have h2 := List.length_take_le t l; show countL (l.take t) + 1 ≤ _; omega) HO4.out.2.2.size ?_)
          | (iterate 8 go_step
             rw [← hw4]
             refine wpList_pushI rfl _ _ rfl w.heap.size u3 (rightsL (l.take t)) rfl HO4.out.2.1 ⟨kind, key, time, value⟩ w3.heap.size rfl HU.out (by have h1 := countL_le (l.take t); have h2 := List.length_take_le t l; show countL (l.take t) + 1 ≤ _; omega) HO4.out.2.2.size ?_)
          | (iterate 9 go_step
             rw [← hw4]
             refine wpList_pushI rfl _ _ rfl w.heap.size u3 (rightsL (l.take t)) rfl HO4.out.2.1 ⟨kind, key, time, value⟩ w3.heap.size rfl HU.out (by have h1 := countL_le (l.take t); have h2 := List.length_take_le t l; show countL (l.take t) + 1 ≤ _; omega) HO4.out.2.2.size ?_)
          | (iterate 10 go_step
             rw [← hw4]
             refine wpList_pushI rfl _ _ rfl w.heap.size u3 (rightsL (l.take t)) rfl HO4.out.2.1 ⟨kind, key, time, value⟩ w3.heap.size rfl HU.out (by have h1 := countL_le (l.take t); have h2 := List.length_take_le t l; show countL (l.take t) + 1 ≤ _; omega) HO4.out.2.2.size ?_)
          | (iterate 11 go_step
             rw [← hw4]
             refine wpList_pushI rfl _ _ rfl w.heap.size u3 (rightsL (l.take t)) rfl HO4.out.2.1 ⟨kind, key, time, value⟩ w3.heap.size rfl HU.out (by have h1 := countL_le (l.take t); have h2 := List.length_take_le t l; show countL (l.take t) + 1 ≤ _; omega) HO4.out.2.2.size ?_)
          | (iterate 12 go_step
             rw [← hw4]
             refine wpList_pushI rfl _ _ rfl w.heap.size u3 (rightsL (l.take t)) rfl HO4.out.2.1 ⟨kind, key, time, value⟩ w3.heap.size rfl HU.out (by have h1 := countL_le (l.take t); have h2 := List.length_take_le t l; show countL (l.take t) + 1 ≤ _; omega) HO4.out.2.2.size ?_)
          | (iterate 13 go_step
             rw [← hw4]
             refine wpList_pushI rfl _ _ rfl w.heap.size u3 (rightsL (l.take t)) rfl HO4.out.2.1 ⟨kind, key, time, value⟩ w3.heap.size rfl HU.out (by have h1 := countL_le (l.take t); have h2 := List.length_take_le t l; show countL (l.take t) + 1 ≤ _; omega) HO4.out.2.2.size ?_)
          | (iterate 14 go_step
             rw [← hw4]
             refine wpList_pushI rfl _ _ rfl w.heap.size u3 (rightsL (l.take t)) rfl HO4.out.2.1 ⟨kind, key, time, value⟩ w3.heap.size rfl HU.out (by have h1 := countL_le (l.take t); have h2 := List.length_take_le t l; show countL (l.take t) + 1 ≤ _; omega) HO4.out.2.2.size ?_)
          | (iterate 15 go_step
             rw [← hw4]
             refine wpList_pushI rfl _ _ rfl w.heap.size u3 (rightsL (l.take t)) rfl HO4.out.2.1 ⟨kind, key, time, value⟩ w3.heap.size rfl HU.out (by have h1 := countL_le (l.take t); have h2 := List.length_take_le t l; show countL (l.take t) + 1 ≤ _; omega) HO4.out.2.2.size ?_)
        intro v' w5 k1 k2 _
        have HO5 : Hid (RowI w5 ob ⟨kind, key, time, value⟩ ∧ OwnI w5 w.heap.size v' (rightsL (l.take (t + 1))) ∧ Below w.heap.size w w5) := by
          obtain ⟨q1, q2, q3⟩ := HO4.out
          refine Lib.hid ⟨(k2.block _ (Array.getElem?_eq_some_iff.1 q1).1 fun e => ?_).trans q1, ?_, q3.trans ⟨k2.os, k2.tape, k2.output, k2.size, fun i hi => k2.block i (by have := q3.size; omega) fun e => ?_⟩⟩
          · have := HO.out.2.2.2.1 _ e.symm
            omega
          · rw [HN.out]
            first
              | (rw [if_pos rfl]; exact k1)
              | (rw [if_pos trivial]; exact k1)
          · have := (q2.lt e.symm).1
            omega
        clear k1 k2 e0 e1 e2 e3 hw4
        obtain ⟨e0, e1, e2, e3⟩ := cells4 HO5.out.1.cell
        simp only at e0 e1 e2 e3
        go_wp2_with (fail)
        refine (HT2.out.1 w5 HO5.out.2.2).mono ?_
        rintro e w6 ⟨rfl, hB6⟩
        have HO6 : Hid (RowI w6 ob ⟨kind, key, time, value⟩ ∧ OwnI w6 w.heap.size v' (rightsL (l.take (t + 1))) ∧ Below w.heap.size w w6) := by
          obtain ⟨k1, k2, k3⟩ := HO5.out
          exact Lib.hid ⟨k1.below hB6, k2.far hB6, k3.trans (hB6.mono k3.size)⟩
        clear hB6 e0 e1 e2 e3
        dsimp only
        go_wp2_with (fail)
        refine (HT2.out.2 w6 HO6.out.2.2).mono ?_
        rintro e w7 ⟨rfl, hB7⟩
        have HO7 : Hid (RowI w7 ob ⟨kind, key, time, value⟩ ∧ OwnI w7 w.heap.size v' (rightsL (l.take (t + 1))) ∧ Below w.heap.size w w7) := by
          obtain ⟨k1, k2, k3⟩ := HO6.out
          exact Lib.hid ⟨k1.below hB7, k2.far hB7, k3.trans (hB7.mono k3.size)⟩
        clear hB7
        dsimp only
        first
          | (iterate 8 go_step
             refine wpList_store_row rfl _ _ _ rfl w7.heap.size (ItemL.mk kind key time value).cells rfl rfl 23 zeroI.cells (heap_alloc_new w7 _) item_size rfl (item_one1 _) ?_)
          | (iterate 9 go_step
             refine wpList_store_row rfl _ _ _ rfl w7.heap.size (ItemL.mk kind key time value).cells rfl rfl 23 zeroI.cells (heap_alloc_new w7 _) item_size rfl (item_one1 _) ?_)
          | (iterate 10 go_step
             refine wpList_store_row rfl _ _ _ rfl w7.heap.size (ItemL.mk kind key time value).cells rfl rfl 23 zeroI.cells (heap_alloc_new w7 _) item_size rfl (item_one1 _) ?_)
          | (iterate 11 go_step
             refine wpList_store_row rfl _ _ _ rfl w7.heap.size (ItemL.mk kind key time value).cells rfl rfl 23 zeroI.cells (heap_alloc_new w7 _) item_size rfl (item_one1 _) ?_)
          | (iterate 12 go_step
             refine wpList_store_row rfl _ _ _ rfl w7.heap.size (ItemL.mk kind key time value).cells rfl rfl 23 zeroI.cells (heap_alloc_new w7 _) item_size rfl (item_one1 _) ?_)
          | (iterate 13 go_step
             refine wpList_store_row rfl _ _ _ rfl w7.heap.size (ItemL.mk kind key time value).cells rfl rfl 23 zeroI.cells (heap_alloc_new w7 _) item_size rfl (item_one1 _) ?_)
          | (iterate 14 go_step
             refine wpList_store_row rfl _ _ _ rfl w7.heap.size (ItemL.mk kind key time value).cells rfl rfl 23 zeroI.cells (heap_alloc_new w7 _) item_size rfl (item_one1 _) ?_)
          | (iterate 15 go_step
             refine wpList_store_row rfl _ _ _ rfl w7.heap.size (ItemL.mk kind key time value).cells rfl rfl 23 zeroI.cells (heap_alloc_new w7 _) item_size rfl (item_one1 _) ?_)
          | (iterate 16 go_step
             refine wpList_store_row rfl _ _ _ rfl w7.heap.size (ItemL.mk kind key time value).cells rfl rfl 23 zeroI.cells (heap_alloc_new w7 _) item_size rfl (item_one1 _) ?_)
          | (iterate 17 go_step
             refine wpList_store_row rfl _ _ _ rfl w7.heap.size (ItemL.mk kind key time value).cells rfl rfl 23 zeroI.cells (heap_alloc_new w7 _) item_size rfl (item_one1 _) ?_)
          | (iterate 18 go_step
             refine wpList_store_row rfl _ _ _ rfl w7.heap.size (ItemL.mk kind key time value).cells rfl rfl 23 zeroI.cells (heap_alloc_new w7 _) item_size rfl (item_one1 _) ?_)
          | (iterate 19 go_step
             refine wpList_store_row rfl _ _ _ rfl w7.heap.size (ItemL.mk kind key time value).cells rfl rfl 23 zeroI.cells (heap_alloc_new w7 _) item_size rfl (item_one1 _) ?_)
          | (iterate 20 go_step
             refine wpList_store_row rfl _ _ _ rfl w7.heap.size (ItemL.mk kind key time value).cells rfl rfl 23 zeroI.cells (heap_alloc_new w7 _) item_size rfl (item_one1 _) ?_)
          | (iterate 21 go_step
             refine wpList_store_row rfl _ _ _ rfl w7.heap.size (ItemL.mk kind key time value).cells rfl rfl 23 zeroI.cells (heap_alloc_new w7 _) item_size rfl (item_one1 _) ?_)
        obtain ⟨w8, hw8⟩ : ∃ W, W = (w7.alloc (Obj.cells #[.int .i64 0, .string ⟨#[]⟩, .int .i64 0, .int .i64 0] 23)).setRow w7.heap.size (ItemL.mk kind key time value).cells := ⟨_, rfl⟩
        obtain ⟨yb, hyb⟩ : ∃ b, b = w7.heap.size := ⟨_, rfl⟩
        have HO8 : Hid (RowI w8 ob ⟨kind, key, time, value⟩ ∧ RowI w8 yb ⟨kind, key, time, value⟩ ∧ OwnI w8 w.heap.size v' (rightsL (l.take (t + 1))) ∧ Below w.heap.size w w8) := by
          obtain ⟨k1, k2, k3⟩ := HO7.out
          obtain ⟨q1, q2⟩ := stored_row w7 (ItemL.mk kind key time value)
          rw [hw8, hyb]
          exact Lib.hid ⟨k1.below q2, q1, k2.far q2, k3.trans (q2.mono k3.size)⟩
        rw [← hw8, ← hyb]
        clear hw8 hyb
        obtain ⟨e0, e1, e2, e3⟩ := cells4 HO8.out.1.cell
        obtain ⟨g0, g1, g2, g3⟩ := cells4 HO8.out.2.1.cell
        simp only at e0 e1 e2 e3 g0 g1 g2 g3
        have HZ : Hid (BK w w.heap.size l v' (.int .i64 ((t : Int) + 1)) w8) := Lib.hid ⟨t + 1, by rw [← HP.out.2.2.1]; have := HL2.out; omega, by go_num, HO8.out.2.2.1, HO8.out.2.2.2, HO8.out.2.2.2.size⟩
        have hne := HNE.out
        go_wp2_with (fail)
        have := HL2.out
        exact ⟨HZ.out, by simp [intOf]; omega⟩
    · obtain rfl : t = L := by omega
      obtain ⟨ga, gc, hu3, hat⟩ := HR.out.1.form
      have hfl : rightsL (l.take t) = rightsL l := by rw [HP.out.2.2.1, List.take_length]
      rw [hfl] at hu3 hat
      have hcl : (rightsL l).length ≤ 500 := by
        have h1 := countL_le l
        have h2 := HP.out.2.2.1
        show countL l ≤ 500
        omega
      have HBy := Lib.hid (ebytes_any wr la lc l (HP.out.1.below HR.out.2.1) (fun x hx => Nat.le_trans (HK5.out x hx) (by decide)) (by have := HP.out.2.2.1; omega))
      rw [← HP.out.2.2.1] at HBy
      have HAt := Lib.hid hat
      subst hu3
      obtain ⟨M, hM⟩ : ∃ M, M = (rightsL l).length := ⟨_, rfl⟩
      rw [← hM]
      have HM := Lib.hid (And.intro hM hcl)
      clear hat hfl hcl hM
      go_wp2_with (fail)
      refine HBy.out.mono ?_
      rintro e w3 ⟨sa, sc, rfl, k1, k2, k3, k4, k5⟩
      have hll : (listL l).length ≤ 1073741824 := by
        have h1 := wordL_length (countL l)
        have h2 := bytesL_len l
        have h4 := HP.out.2.2.1
        have h6 : l.length * 1050 ≤ 500 * 1050 := Nat.mul_le_mul_right _ (by omega)
        rw [listL_eq, List.length_append]
        omega
      have HRd := Lib.hid (eread_any w3 sa sc (listL l).length (listL l) rfl k4.srcP k3 hll)
      have H3 := Lib.hid (And.intro (HAt.out.below k5) (HR.out.2.1.trans (k5.mono HR.out.2.1.size)))
      obtain ⟨N, hN⟩ : ∃ N, N = (listL l).length := ⟨_, rfl⟩
      rw [← hN] at HRd ⊢
      clear k1 k2 k3 k4 k5 hN hll
      dsimp only
      go_wp2_with (fail)
      refine HRd.out.mono ?_
      rintro e w4 ⟨v, rfl, ho, hB⟩
      have hT : readT (listL l) = (rightsL l, 0) := readT_back l (by have := HM.out.2; show (rightsL l).length ≤ 1024; omega)
      rw [hT] at ho ⊢
      obtain ⟨va, vc, rfl, hat⟩ := ho.form
      have HS : Hid (Calls Tryd.prog 28 #[.slice va M vc, .slice ga M gc] w4 (Below0 w4 (.bool true))) := by
        have h := esame_any w4 va ga vc gc (rightsL l) (rightsL l) hat (H3.out.1.below hB) (by have := HM.out.2; omega)
        rw [← HM.out.1, decide_eq_true rfl] at h
        exact Lib.hid h
      have H4 := Lib.hid (H3.out.2.trans (hB.mono H3.out.2.size))
      rw [← HM.out.1]
      clear ho hB hT hat
      dsimp only
      go_wp2_with (fail)
      refine HS.out.mono ?_
      rintro e w5 ⟨rfl, hB⟩
      have H5 := Lib.hid (H4.out.trans (hB.mono H4.out.size))
      clear hB
      dsimp only
      go_wp2_with (fail)
      go_ret
      exact ⟨rfl, H5.out⟩
end Go.Proofs.YtmjanplhgpcbeaaDoor
