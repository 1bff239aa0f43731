/-
  The contract of package query's Get: a query off a reader, as the document's tape tells it.
-/
import Derived.Test.YteoolfifpmbkeaaDoorQueryParse
import Derived.Test.YteoolfifpmbkeaaDoorReadMore
namespace Go.Proofs.YteoolfifpmbkeaaDoor
open Go Go.RowKit

def TapeL.six (t : TapeL) : TapeL × TapeL × TapeL × TapeL × TapeL :=
  ((t.number 9223372036854775807).2, ((t.number 9223372036854775807).2.number 9223372036854775807).2, (((t.number 9223372036854775807).2.number 9223372036854775807).2.number 9223372036854775807).2, ((((t.number 9223372036854775807).2.number 9223372036854775807).2.number 9223372036854775807).2.number 9223372036854775807).2, (((((t.number 9223372036854775807).2.number 9223372036854775807).2.number 9223372036854775807).2.number 9223372036854775807).2.number 9223372036854775807).2)
/-- What a query's bytes tell, ahead of the last test. -/
def TapeL.query0 (t : TapeL) : QueryL × TapeL :=
  (⟨(t.number 9223372036854775807).1, (t.six.1.number 9223372036854775807).1, (t.six.2.1.number 9223372036854775807).1, (t.six.2.2.1.number 9223372036854775807).1, (t.six.2.2.2.1.number 9223372036854775807).1, (t.six.2.2.2.2.number 9223372036854775807).1⟩, (t.six.2.2.2.2.number 9223372036854775807).2)
def TapeL.lastQ (x : QueryL) (t : TapeL) : TapeL := if x.rightB then t else t.fail 11
def TapeL.query (t : TapeL) : QueryL × TapeL := (if (TapeL.lastQ t.query0.1 t.query0.2).e = 0 then t.query0.1 else zeroQ, TapeL.lastQ t.query0.1 t.query0.2)
def GetQ (base b xb : Nat) (w w' : World) (t : TapeL) (x : QueryL) : Prop :=
  RdAt base w' b t ∧ w.grownBy w' (some b) ∧ w'.heap[w.heap.size]? = some (.cells zeroQ.cells 23 (0, 0)) ∧ w'.heap[xb]? = some (.cells x.cells 23 (0, 0)) ∧ w.heap.size < xb ∧ b < w.heap.size ∧ base ≤ w.heap.size
theorem GetQ.cell {base b xb : Nat} {w w' : World} {t : TapeL} {x : QueryL} (h : GetQ base b xb w w' t x) (i : Nat) {v : Value} (hi : x.cells[i]? = some v) : w'.cell? ⟨xb, i, none⟩ = some v := by
  rw [cell_of_row _ _ _ _ _ _ h.2.2.2.1]
  exact hi
theorem GetQ.fro {base b xb : Nat} {w w' : World} {t : TapeL} {x : QueryL} (h : GetQ base b xb w w' t x) (i : Nat) : w'.frozen? ⟨xb, i, none⟩ = false := frozen_of_row _ _ _ _ _ h.2.2.2.1
theorem GetQ.rd {base b xb : Nat} {w w' w2 : World} {t t2 : TapeL} {x : QueryL} (h : GetQ base b xb w w' t x) (hr : RdAt base w2 b t2) (hg : w'.grownBy w2 (some b)) : GetQ base b xb w w2 t2 x := by
  obtain ⟨h1, h2, h3, h4, h5, h6, h7⟩ := h
  exact ⟨hr, grown_trans h2 hg, (hg.block _ (Array.getElem?_eq_some_iff.1 h3).1 (by simp; omega)).trans h3, (hg.block _ (Array.getElem?_eq_some_iff.1 h4).1 (by simp; omega)).trans h4, h5, h6, h7⟩
theorem GetQ.below {base b xb : Nat} {w w' w2 : World} {t : TapeL} {x : QueryL} (h : GetQ base b xb w w' t x) (hB : Below w'.heap.size w' w2) : GetQ base b xb w w2 t x := h.rd (h.1.below hB) (below_gb hB)
theorem GetQ.set {base b xb : Nat} {w w' : World} {t : TapeL} {x y : QueryL} (h : GetQ base b xb w w' t x) (i : Nat) (v : Value) (hy : y.cells = x.cells.setIfInBounds i v) : GetQ base b xb w (w'.setCell ⟨xb, i, none⟩ v) t y := by
  obtain ⟨h1, h2, h3, h4, h5, h6, h7⟩ := h
  refine ⟨h1.same (heap_setCell_other _ _ _ _ (by show b ≠ xb; omega)) (fun k hk _ _ => heap_setCell_other _ _ _ _ (by show k ≠ xb; omega)), ⟨h2.os, h2.tape, h2.output, by simpa [World.setCell] using h2.size, fun k hk hne => (heap_setCell_other _ _ _ _ (by show k ≠ xb; omega)).trans (h2.block k hk hne)⟩,
    (heap_setCell_other _ _ _ _ (by show w.heap.size ≠ xb; omega)).trans h3, ?_, h5, h6, h7⟩
  rw [hy]
  exact heap_setCell_same _ _ _ _ _ _ h4
theorem GetQ.fin {base b xb : Nat} {w w' : World} {t : TapeL} {x : QueryL} (h : GetQ base b xb w w' t x) (cs : Array Value) :
    (w'.setRow w.heap.size cs).heap[w.heap.size]? = some (.cells cs 23 (0, 0)) ∧ RdAt base (w'.setRow w.heap.size cs) b t ∧ w.grownBy (w'.setRow w.heap.size cs) (some b) := by
  obtain ⟨h1, h2, h3, h4, h5, h6, h7⟩ := h
  exact ⟨setRow_heap _ _ _ _ _ _ h3, h1.same (setRow_other _ _ _ _ (by omega)) (fun k hk _ _ => setRow_other _ _ _ _ (by omega)), ⟨h2.os, h2.tape, h2.output, by simpa [World.setRow] using h2.size, fun k hk hne => (setRow_other _ _ _ _ (by omega)).trans (h2.block k hk hne)⟩⟩
theorem qpart_any (w : World) (base b : Nat) (t : TapeL) (h : RdAt base w b t) : Calls Tryd.prog 28 #[.pointer (some ⟨b, 0, none⟩)] w (RdEnd base w b (t.number 9223372036854775807).2 (.int .i64 (t.number 9223372036854775807).1)) := by
  have HN := Lib.hid (rnumber_any w base b t 9223372036854775807 h)
  clear h
  obtain ⟨n, hn⟩ : ∃ n, n = (t.number 9223372036854775807).1 := ⟨_, rfl⟩
  obtain ⟨t2, ht⟩ : ∃ x, x = (t.number 9223372036854775807).2 := ⟨_, rfl⟩
  rw [← hn, ← ht] at HN ⊢
  clear hn ht
  go_enter Tryd.func28, Tryd.ntmps28
  go_wp2_with (fail)
  refine HN.out.mono ?_
  rintro e w1 ⟨rfl, h1, h2⟩
  have H1 := Lib.hid (And.intro h1 h2)
  clear h1 h2
  dsimp only
  go_wp2_with (fail)
  go_ret
  exact ⟨rfl, H1.out.1, H1.out.2⟩
set_option maxRecDepth 100000 in
set_option maxHeartbeats 4000000 in
theorem qget_any (w : World) (base b : Nat) (t0 : TapeL) (h : RdAt base w b t0) (hb : base ≤ w.heap.size) :
    Calls Tryd.prog 14 #[.pointer (some ⟨b, 0, none⟩)] w (RdEnd base w b t0.query.2 (.agg t0.query.1.cells)) := by
  have hbl := h.lt
  obtain ⟨w0, hw0⟩ : ∃ W, W = (w.alloc (.cells #[.int .i64 0, .int .i64 0, .int .i64 0, .int .i64 0, .int .i64 0, .int .i64 0] 23)).alloc (.cells #[.int .i64 0, .int .i64 0, .int .i64 0, .int .i64 0, .int .i64 0, .int .i64 0] 23) := ⟨_, rfl⟩
  have hs : (w.alloc (.cells #[.int .i64 0, .int .i64 0, .int .i64 0, .int .i64 0, .int .i64 0, .int .i64 0] 23)).heap.size = w.heap.size + 1 := by simp
  obtain ⟨xb, hxb⟩ : ∃ x, x = w.heap.size + 1 := ⟨_, rfl⟩
  have S0 : Hid (GetQ base b xb w w0 t0 ⟨0, 0, 0, 0, 0, 0⟩) := by
    have h1 : Below w.heap.size w (w.alloc (.cells #[.int .i64 0, .int .i64 0, .int .i64 0, .int .i64 0, .int .i64 0, .int .i64 0] 23)) := (Below.refl _ w).alloc (Nat.le_refl _) _
    have h2 : Below (w.alloc (.cells #[.int .i64 0, .int .i64 0, .int .i64 0, .int .i64 0, .int .i64 0, .int .i64 0] 23)).heap.size (w.alloc (.cells #[.int .i64 0, .int .i64 0, .int .i64 0, .int .i64 0, .int .i64 0, .int .i64 0] 23)) w0 := by rw [hw0]; exact (Below.refl _ _).alloc (Nat.le_refl _) _
    have h3 := h1.trans (h2.mono h1.size)
    refine Lib.hid ⟨h.below h3, below_gb h3, (h2.block _ (by omega)).trans (heap_alloc_new w _), ?_, by omega, hbl, hb⟩
    rw [hw0, hxb, ← hs]
    exact heap_alloc_new _ _
  obtain ⟨P, hP⟩ : ∃ P, P = RdEnd base w b t0.query.2 (.agg t0.query.1.cells) := ⟨_, rfl⟩
  rw [← hP]
  have HP := Lib.hid hP
  have HPt : Hid (∀ w' t, RdAt base w' b t → Calls Tryd.prog 28 #[.pointer (some ⟨b, 0, none⟩)] w' (RdEnd base w' b (t.number 9223372036854775807).2 (.int .i64 (t.number 9223372036854775807).1))) := Lib.hid (fun w' t h => qpart_any w' base b t h)
  clear hbl hb h hP hs
  obtain ⟨n0, hn0⟩ : ∃ n, n = (t0.number 9223372036854775807).1 := ⟨_, rfl⟩
  obtain ⟨t1, ht1⟩ : ∃ x, x = (t0.number 9223372036854775807).2 := ⟨_, rfl⟩
  obtain ⟨n1, hn1⟩ : ∃ n, n = (t1.number 9223372036854775807).1 := ⟨_, rfl⟩
  obtain ⟨t2, ht2⟩ : ∃ x, x = (t1.number 9223372036854775807).2 := ⟨_, rfl⟩
  obtain ⟨n2, hn2⟩ : ∃ n, n = (t2.number 9223372036854775807).1 := ⟨_, rfl⟩
  obtain ⟨t3, ht3⟩ : ∃ x, x = (t2.number 9223372036854775807).2 := ⟨_, rfl⟩
  obtain ⟨n3, hn3⟩ : ∃ n, n = (t3.number 9223372036854775807).1 := ⟨_, rfl⟩
  obtain ⟨t4, ht4⟩ : ∃ x, x = (t3.number 9223372036854775807).2 := ⟨_, rfl⟩
  obtain ⟨n4, hn4⟩ : ∃ n, n = (t4.number 9223372036854775807).1 := ⟨_, rfl⟩
  obtain ⟨t5, ht5⟩ : ∃ x, x = (t4.number 9223372036854775807).2 := ⟨_, rfl⟩
  obtain ⟨n5, hn5⟩ : ∃ n, n = (t5.number 9223372036854775807).1 := ⟨_, rfl⟩
  obtain ⟨t6, ht6⟩ : ∃ x, x = (t5.number 9223372036854775807).2 := ⟨_, rfl⟩
  have HNt : Hid ((n0 = (t0.number 9223372036854775807).1 ∧ t1 = (t0.number 9223372036854775807).2) ∧ (n1 = (t1.number 9223372036854775807).1 ∧ t2 = (t1.number 9223372036854775807).2) ∧ (n2 = (t2.number 9223372036854775807).1 ∧ t3 = (t2.number 9223372036854775807).2) ∧ (n3 = (t3.number 9223372036854775807).1 ∧ t4 = (t3.number 9223372036854775807).2) ∧ (n4 = (t4.number 9223372036854775807).1 ∧ t5 = (t4.number 9223372036854775807).2) ∧ (n5 = (t5.number 9223372036854775807).1 ∧ t6 = (t5.number 9223372036854775807).2) ∧ True) := Lib.hid ⟨⟨hn0, ht1⟩, ⟨hn1, ht2⟩, ⟨hn2, ht3⟩, ⟨hn3, ht4⟩, ⟨hn4, ht5⟩, ⟨hn5, ht6⟩, trivial⟩
  have HQ : Hid (∀ tz, tz = TapeL.lastQ (QueryL.mk n0 n1 n2 n3 n4 n5) t6 → t0.query = (if tz.e = 0 then (QueryL.mk n0 n1 n2 n3 n4 n5) else zeroQ, tz)) := by
    refine Lib.hid ?_
    rintro tz rfl
    have e : t0.query0 = ((QueryL.mk n0 n1 n2 n3 n4 n5), t6) := by
      rw [hn5, ht6, hn4, ht5, hn3, ht4, hn2, ht3, hn1, ht2, hn0, ht1]
      rfl
    rw [TapeL.query, e]
  clear hn0 ht1 hn1 ht2 hn2 ht3 hn3 ht4 hn4 ht5 hn5 ht6
  go_enter Tryd.func14, Tryd.ntmps14
  go_upto_region 2 with (fail)
  rw [← hw0, ← hxb]
  clear hw0 hxb
  go_wp2_with (fail)
  refine (HPt.out w0 t0 S0.out.1).mono ?_
  rintro e w1 ⟨rfl, h1, h2⟩
  rw [← HNt.out.1.2] at h1
  rw [← HNt.out.1.1]
  have S1 := Lib.hid (S0.out.rd h1 h2)
  clear h1 h2
  have f := S1.out.fro 0
  have g : w1.cell? ⟨xb, 0, none⟩ = _ := S1.out.cell 0 rfl
  dsimp only
  go_upto_region 3 with (fail)
  obtain ⟨w2, hw⟩ : ∃ W, W = w1.setCell ⟨xb, 0, none⟩ (.int .i64 n0) := ⟨_, rfl⟩
  rw [← hw]
  have S2 : Hid (GetQ base b xb w w2 t1 ⟨n0, 0, 0, 0, 0, 0⟩) := by rw [hw]; exact Lib.hid (S1.out.set 0 _ rfl)
  clear hw f g
  go_wp2_with (fail)
  refine (HPt.out w2 t1 S2.out.1).mono ?_
  rintro e w3 ⟨rfl, h1, h2⟩
  rw [← HNt.out.2.1.2] at h1
  rw [← HNt.out.2.1.1]
  have S3 := Lib.hid (S2.out.rd h1 h2)
  clear h1 h2
  have f := S3.out.fro 1
  have g : w3.cell? ⟨xb, 1, none⟩ = _ := S3.out.cell 1 rfl
  dsimp only
  go_upto_region 4 with (fail)
  obtain ⟨w4, hw⟩ : ∃ W, W = w3.setCell ⟨xb, 1, none⟩ (.int .i64 n1) := ⟨_, rfl⟩
  rw [← hw]
  have S4 : Hid (GetQ base b xb w w4 t2 ⟨n0, n1, 0, 0, 0, 0⟩) := by rw [hw]; exact Lib.hid (S3.out.set 1 _ rfl)
  clear hw f g
  go_wp2_with (fail)
  refine (HPt.out w4 t2 S4.out.1).mono ?_
  rintro e w5 ⟨rfl, h1, h2⟩
  rw [← HNt.out.2.2.1.2] at h1
  rw [← HNt.out.2.2.1.1]
  have S5 := Lib.hid (S4.out.rd h1 h2)
  clear h1 h2
  have f := S5.out.fro 2
  have g : w5.cell? ⟨xb, 2, none⟩ = _ := S5.out.cell 2 rfl
  dsimp only
  go_upto_region 5 with (fail)
  obtain ⟨w6, hw⟩ : ∃ W, W = w5.setCell ⟨xb, 2, none⟩ (.int .i64 n2) := ⟨_, rfl⟩
  rw [← hw]
  have S6 : Hid (GetQ base b xb w w6 t3 ⟨n0, n1, n2, 0, 0, 0⟩) := by rw [hw]; exact Lib.hid (S5.out.set 2 _ rfl)
  clear hw f g
  go_wp2_with (fail)
  refine (HPt.out w6 t3 S6.out.1).mono ?_
  rintro e w7 ⟨rfl, h1, h2⟩
  rw [← HNt.out.2.2.2.1.2] at h1
  rw [← HNt.out.2.2.2.1.1]
  have S7 := Lib.hid (S6.out.rd h1 h2)
  clear h1 h2
  have f := S7.out.fro 3
  have g : w7.cell? ⟨xb, 3, none⟩ = _ := S7.out.cell 3 rfl
  dsimp only
  go_upto_region 6 with (fail)
  obtain ⟨w8, hw⟩ : ∃ W, W = w7.setCell ⟨xb, 3, none⟩ (.int .i64 n3) := ⟨_, rfl⟩
  rw [← hw]
  have S8 : Hid (GetQ base b xb w w8 t4 ⟨n0, n1, n2, n3, 0, 0⟩) := by rw [hw]; exact Lib.hid (S7.out.set 3 _ rfl)
  clear hw f g
  go_wp2_with (fail)
  refine (HPt.out w8 t4 S8.out.1).mono ?_
  rintro e w9 ⟨rfl, h1, h2⟩
  rw [← HNt.out.2.2.2.2.1.2] at h1
  rw [← HNt.out.2.2.2.2.1.1]
  have S9 := Lib.hid (S8.out.rd h1 h2)
  clear h1 h2
  have f := S9.out.fro 4
  have g : w9.cell? ⟨xb, 4, none⟩ = _ := S9.out.cell 4 rfl
  dsimp only
  go_upto_region 7 with (fail)
  obtain ⟨w10, hw⟩ : ∃ W, W = w9.setCell ⟨xb, 4, none⟩ (.int .i64 n4) := ⟨_, rfl⟩
  rw [← hw]
  have S10 : Hid (GetQ base b xb w w10 t5 ⟨n0, n1, n2, n3, n4, 0⟩) := by rw [hw]; exact Lib.hid (S9.out.set 4 _ rfl)
  clear hw f g
  go_wp2_with (fail)
  refine (HPt.out w10 t5 S10.out.1).mono ?_
  rintro e w11 ⟨rfl, h1, h2⟩
  rw [← HNt.out.2.2.2.2.2.1.2] at h1
  rw [← HNt.out.2.2.2.2.2.1.1]
  have S11 := Lib.hid (S10.out.rd h1 h2)
  clear h1 h2
  have f := S11.out.fro 5
  have g : w11.cell? ⟨xb, 5, none⟩ = _ := S11.out.cell 5 rfl
  dsimp only
  go_upto_region 8 with (fail)
  obtain ⟨w12, hw⟩ : ∃ W, W = w11.setCell ⟨xb, 5, none⟩ (.int .i64 n5) := ⟨_, rfl⟩
  rw [← hw]
  have S12 : Hid (GetQ base b xb w w12 t6 ⟨n0, n1, n2, n3, n4, n5⟩) := by rw [hw]; exact Lib.hid (S11.out.set 5 _ rfl)
  clear hw f g
  obtain ⟨r, hr⟩ : ∃ r, r = (QueryL.mk n0 n1 n2 n3 n4 n5).rightB := ⟨_, rfl⟩
  have HRt : Hid (Calls Tryd.prog 10 #[.agg (QueryL.mk n0 n1 n2 n3 n4 n5).cells] w12 (Below0 w12 (.bool r))) := by
    rw [hr]
    exact Lib.hid (qright_any w12 _)
  unfold QueryL.cells at HRt
  have Hr := Lib.hid hr
  clear hr
  have d0 : w12.cell? ⟨xb, 0, none⟩ = _ := S12.out.cell 0 rfl
  have d1 : w12.cell? ⟨xb, 1, none⟩ = _ := S12.out.cell 1 rfl
  have d2 : w12.cell? ⟨xb, 2, none⟩ = _ := S12.out.cell 2 rfl
  have d3 : w12.cell? ⟨xb, 3, none⟩ = _ := S12.out.cell 3 rfl
  have d4 : w12.cell? ⟨xb, 4, none⟩ = _ := S12.out.cell 4 rfl
  have d5 : w12.cell? ⟨xb, 5, none⟩ = _ := S12.out.cell 5 rfl
  cases r with
  | true =>
    go_wp2_with (fail)
    refine HRt.out.mono ?_
    rintro e wr ⟨rfl, hBR⟩
    have SR := Lib.hid (S12.out.below hBR)
    clear hBR d0 d1 d2 d3 d4 d5
    dsimp only
    obtain ⟨tz, htz⟩ : ∃ z, z = t6 := ⟨_, rfl⟩
    rw [← htz] at SR
    have HI2 := Lib.hid (HQ.out tz (by rw [htz, TapeL.lastQ, ← Hr.out]; rfl))
    obtain ⟨q, hq⟩ : ∃ q, q = tz.e := ⟨_, rfl⟩
    have HE : Hid (Calls Tryd.prog 30 #[.pointer (some ⟨b, 0, none⟩)] wr fun e w' => e = .returned (.int .i64 q) ∧ w' = wr) := by
      rw [hq]
      exact rerr_any wr base b tz SR.out.1
    clear htz
    by_cases hq0 : q = 0
    · have HF : Hid (∀ wz, RdAt base wz b tz → w.grownBy wz (some b) → P (.returned (.agg (QueryL.mk n0 n1 n2 n3 n4 n5).cells)) wz) := by
        refine Lib.hid (fun wz k1 k2 => ?_)
        rw [HP.out, HI2.out, if_pos (by rw [← hq]; exact hq0)]
        exact ⟨rfl, k1, k2⟩
      clear hq
      subst hq0
      go_wp2_with (fail)
      refine HE.out.mono ?_
      rintro e we ⟨rfl, hwe⟩
      subst we
      have d0 : wr.cell? ⟨xb, 0, none⟩ = _ := SR.out.cell 0 rfl
      have d1 : wr.cell? ⟨xb, 1, none⟩ = _ := SR.out.cell 1 rfl
      have d2 : wr.cell? ⟨xb, 2, none⟩ = _ := SR.out.cell 2 rfl
      have d3 : wr.cell? ⟨xb, 3, none⟩ = _ := SR.out.cell 3 rfl
      have d4 : wr.cell? ⟨xb, 4, none⟩ = _ := SR.out.cell 4 rfl
      have d5 : wr.cell? ⟨xb, 5, none⟩ = _ := SR.out.cell 5 rfl
      dsimp only
      go_upto_region 12 with (fail)
      refine wp_region_lit ?_
      first
        | (refine wpList_store_row rfl _ _ _ rfl w.heap.size (QueryL.mk n0 n1 n2 n3 n4 n5).cells rfl rfl 23 zeroQ.cells SR.out.2.2.1 query_size rfl (query_one _) ?_)
        | (iterate 1 go_step
           refine wpList_store_row rfl _ _ _ rfl w.heap.size (QueryL.mk n0 n1 n2 n3 n4 n5).cells rfl rfl 23 zeroQ.cells SR.out.2.2.1 query_size rfl (query_one _) ?_)
        | (iterate 2 go_step
           refine wpList_store_row rfl _ _ _ rfl w.heap.size (QueryL.mk n0 n1 n2 n3 n4 n5).cells rfl rfl 23 zeroQ.cells SR.out.2.2.1 query_size rfl (query_one _) ?_)
        | (iterate 3 go_step
           refine wpList_store_row rfl _ _ _ rfl w.heap.size (QueryL.mk n0 n1 n2 n3 n4 n5).cells rfl rfl 23 zeroQ.cells SR.out.2.2.1 query_size rfl (query_one _) ?_)
        | (iterate 4 go_step
           refine wpList_store_row rfl _ _ _ rfl w.heap.size (QueryL.mk n0 n1 n2 n3 n4 n5).cells rfl rfl 23 zeroQ.cells SR.out.2.2.1 query_size rfl (query_one _) ?_)
        | (iterate 5 go_step
           refine wpList_store_row rfl _ _ _ rfl w.heap.size (QueryL.mk n0 n1 n2 n3 n4 n5).cells rfl rfl 23 zeroQ.cells SR.out.2.2.1 query_size rfl (query_one _) ?_)
        | (iterate 6 go_step
           refine wpList_store_row rfl _ _ _ rfl w.heap.size (QueryL.mk n0 n1 n2 n3 n4 n5).cells rfl rfl 23 zeroQ.cells SR.out.2.2.1 query_size rfl (query_one _) ?_)
        | (iterate 7 go_step
           refine wpList_store_row rfl _ _ _ rfl w.heap.size (QueryL.mk n0 n1 n2 n3 n4 n5).cells rfl rfl 23 zeroQ.cells SR.out.2.2.1 query_size rfl (query_one _) ?_)
        | (iterate 8 go_step
           refine wpList_store_row rfl _ _ _ rfl w.heap.size (QueryL.mk n0 n1 n2 n3 n4 n5).cells rfl rfl 23 zeroQ.cells SR.out.2.2.1 query_size rfl (query_one _) ?_)
        | (iterate 9 go_step
           refine wpList_store_row rfl _ _ _ rfl w.heap.size (QueryL.mk n0 n1 n2 n3 n4 n5).cells rfl rfl 23 zeroQ.cells SR.out.2.2.1 query_size rfl (query_one _) ?_)
      have HZ := Lib.hid (SR.out.fin (QueryL.mk n0 n1 n2 n3 n4 n5).cells)
      obtain ⟨wz, hwz⟩ : ∃ W, W = wr.setRow w.heap.size (QueryL.mk n0 n1 n2 n3 n4 n5).cells := ⟨_, rfl⟩
      rw [← hwz] at HZ ⊢
      clear hwz
      go_wp2_with (fail)
      exact bodyPost_ret (v := .agg (QueryL.mk n0 n1 n2 n3 n4 n5).cells) (results_cell_row (p := 2) (ty := 23) rfl _ _ w.heap.size 23 (QueryL.mk n0 n1 n2 n3 n4 n5).cells (0, 0) _ rfl HZ.out.1 Tryd.underlying23 rfl query_size) rfl (HF.out _ HZ.out.2.1 HZ.out.2.2)
    · have HF : Hid (∀ wz, RdAt base wz b tz → w.grownBy wz (some b) → P (.returned (.agg zeroQ.cells)) wz) := by
        refine Lib.hid (fun wz k1 k2 => ?_)
        rw [HP.out, HI2.out, if_neg (by rw [← hq]; exact hq0)]
        exact ⟨rfl, k1, k2⟩
      have e1 : (q != 0) = true := by simpa using hq0
      clear hq hq0
      go_wp2_with (fail)
      refine HE.out.mono ?_
      rintro e we ⟨rfl, hwe⟩
      subst we
      dsimp only
      go_upto_region 11 with (fail)
      refine wp_region_lit ?_
      first
        | (refine wpList_store_row rfl _ _ _ rfl w.heap.size zeroQ.cells rfl rfl 23 zeroQ.cells SR.out.2.2.1 query_size rfl (query_one _) ?_)
        | (iterate 1 go_step
           refine wpList_store_row rfl _ _ _ rfl w.heap.size zeroQ.cells rfl rfl 23 zeroQ.cells SR.out.2.2.1 query_size rfl (query_one _) ?_)
        | (iterate 2 go_step
           refine wpList_store_row rfl _ _ _ rfl w.heap.size zeroQ.cells rfl rfl 23 zeroQ.cells SR.out.2.2.1 query_size rfl (query_one _) ?_)
        | (iterate 3 go_step
           refine wpList_store_row rfl _ _ _ rfl w.heap.size zeroQ.cells rfl rfl 23 zeroQ.cells SR.out.2.2.1 query_size rfl (query_one _) ?_)
        | (iterate 4 go_step
           refine wpList_store_row rfl _ _ _ rfl w.heap.size zeroQ.cells rfl rfl 23 zeroQ.cells SR.out.2.2.1 query_size rfl (query_one _) ?_)
        | (iterate 5 go_step
           refine wpList_store_row rfl _ _ _ rfl w.heap.size zeroQ.cells rfl rfl 23 zeroQ.cells SR.out.2.2.1 query_size rfl (query_one _) ?_)
        | (iterate 6 go_step
           refine wpList_store_row rfl _ _ _ rfl w.heap.size zeroQ.cells rfl rfl 23 zeroQ.cells SR.out.2.2.1 query_size rfl (query_one _) ?_)
        | (iterate 7 go_step
           refine wpList_store_row rfl _ _ _ rfl w.heap.size zeroQ.cells rfl rfl 23 zeroQ.cells SR.out.2.2.1 query_size rfl (query_one _) ?_)
        | (iterate 8 go_step
           refine wpList_store_row rfl _ _ _ rfl w.heap.size zeroQ.cells rfl rfl 23 zeroQ.cells SR.out.2.2.1 query_size rfl (query_one _) ?_)
        | (iterate 9 go_step
           refine wpList_store_row rfl _ _ _ rfl w.heap.size zeroQ.cells rfl rfl 23 zeroQ.cells SR.out.2.2.1 query_size rfl (query_one _) ?_)
      have HZ := Lib.hid (SR.out.fin zeroQ.cells)
      obtain ⟨wz, hwz⟩ : ∃ W, W = wr.setRow w.heap.size zeroQ.cells := ⟨_, rfl⟩
      rw [← hwz] at HZ ⊢
      clear hwz
      go_wp2_with (fail)
      exact bodyPost_ret (v := .agg zeroQ.cells) (results_cell_row (p := 2) (ty := 23) rfl _ _ w.heap.size 23 zeroQ.cells (0, 0) _ rfl HZ.out.1 Tryd.underlying23 rfl query_size) rfl (HF.out _ HZ.out.2.1 HZ.out.2.2)
  | false =>
    go_wp2_with (fail)
    refine HRt.out.mono ?_
    rintro e wr ⟨rfl, hBR⟩
    have SR := Lib.hid (S12.out.below hBR)
    clear hBR d0 d1 d2 d3 d4 d5
    dsimp only
    go_wp2_with (fail)
    refine (rfail_any wr base b t6 11 SR.out.1).mono ?_
    rintro e wf ⟨rfl, hf1, hf2⟩
    have SF := Lib.hid (SR.out.rd hf1 hf2)
    clear hf1 hf2
    dsimp only
    obtain ⟨tz, htz⟩ : ∃ z, z = t6.fail 11 := ⟨_, rfl⟩
    rw [← htz] at SF
    have HI2 := Lib.hid (HQ.out tz (by rw [htz, TapeL.lastQ, ← Hr.out]; rfl))
    obtain ⟨q, hq⟩ : ∃ q, q = tz.e := ⟨_, rfl⟩
    have HE : Hid (Calls Tryd.prog 30 #[.pointer (some ⟨b, 0, none⟩)] wf fun e w' => e = .returned (.int .i64 q) ∧ w' = wf) := by
      rw [hq]
      exact rerr_any wf base b tz SF.out.1
    clear htz
    by_cases hq0 : q = 0
    · have HF : Hid (∀ wz, RdAt base wz b tz → w.grownBy wz (some b) → P (.returned (.agg (QueryL.mk n0 n1 n2 n3 n4 n5).cells)) wz) := by
        refine Lib.hid (fun wz k1 k2 => ?_)
        rw [HP.out, HI2.out, if_pos (by rw [← hq]; exact hq0)]
        exact ⟨rfl, k1, k2⟩
      clear hq
      subst hq0
      go_wp2_with (fail)
      refine HE.out.mono ?_
      rintro e we ⟨rfl, hwe⟩
      subst we
      have d0 : wf.cell? ⟨xb, 0, none⟩ = _ := SF.out.cell 0 rfl
      have d1 : wf.cell? ⟨xb, 1, none⟩ = _ := SF.out.cell 1 rfl
      have d2 : wf.cell? ⟨xb, 2, none⟩ = _ := SF.out.cell 2 rfl
      have d3 : wf.cell? ⟨xb, 3, none⟩ = _ := SF.out.cell 3 rfl
      have d4 : wf.cell? ⟨xb, 4, none⟩ = _ := SF.out.cell 4 rfl
      have d5 : wf.cell? ⟨xb, 5, none⟩ = _ := SF.out.cell 5 rfl
      dsimp only
      go_upto_region 12 with (fail)
      refine wp_region_lit ?_
      first
        | (refine wpList_store_row rfl _ _ _ rfl w.heap.size (QueryL.mk n0 n1 n2 n3 n4 n5).cells rfl rfl 23 zeroQ.cells SF.out.2.2.1 query_size rfl (query_one _) ?_)
        | (iterate 1 go_step
           refine wpList_store_row rfl _ _ _ rfl w.heap.size (QueryL.mk n0 n1 n2 n3 n4 n5).cells rfl rfl 23 zeroQ.cells SF.out.2.2.1 query_size rfl (query_one _) ?_)
        | (iterate 2 go_step
           refine wpList_store_row rfl _ _ _ rfl w.heap.size (QueryL.mk n0 n1 n2 n3 n4 n5).cells rfl rfl 23 zeroQ.cells SF.out.2.2.1 query_size rfl (query_one _) ?_)
        | (iterate 3 go_step
           refine wpList_store_row rfl _ _ _ rfl w.heap.size (QueryL.mk n0 n1 n2 n3 n4 n5).cells rfl rfl 23 zeroQ.cells SF.out.2.2.1 query_size rfl (query_one _) ?_)
        | (iterate 4 go_step
           refine wpList_store_row rfl _ _ _ rfl w.heap.size (QueryL.mk n0 n1 n2 n3 n4 n5).cells rfl rfl 23 zeroQ.cells SF.out.2.2.1 query_size rfl (query_one _) ?_)
        | (iterate 5 go_step
           refine wpList_store_row rfl _ _ _ rfl w.heap.size (QueryL.mk n0 n1 n2 n3 n4 n5).cells rfl rfl 23 zeroQ.cells SF.out.2.2.1 query_size rfl (query_one _) ?_)
        | (iterate 6 go_step
           refine wpList_store_row rfl _ _ _ rfl w.heap.size (QueryL.mk n0 n1 n2 n3 n4 n5).cells rfl rfl 23 zeroQ.cells SF.out.2.2.1 query_size rfl (query_one _) ?_)
        | (iterate 7 go_step
           refine wpList_store_row rfl _ _ _ rfl w.heap.size (QueryL.mk n0 n1 n2 n3 n4 n5).cells rfl rfl 23 zeroQ.cells SF.out.2.2.1 query_size rfl (query_one _) ?_)
        | (iterate 8 go_step
           refine wpList_store_row rfl _ _ _ rfl w.heap.size (QueryL.mk n0 n1 n2 n3 n4 n5).cells rfl rfl 23 zeroQ.cells SF.out.2.2.1 query_size rfl (query_one _) ?_)
        | (iterate 9 go_step
           refine wpList_store_row rfl _ _ _ rfl w.heap.size (QueryL.mk n0 n1 n2 n3 n4 n5).cells rfl rfl 23 zeroQ.cells SF.out.2.2.1 query_size rfl (query_one _) ?_)
      have HZ := Lib.hid (SF.out.fin (QueryL.mk n0 n1 n2 n3 n4 n5).cells)
      obtain ⟨wz, hwz⟩ : ∃ W, W = wf.setRow w.heap.size (QueryL.mk n0 n1 n2 n3 n4 n5).cells := ⟨_, rfl⟩
      rw [← hwz] at HZ ⊢
      clear hwz
      go_wp2_with (fail)
      exact bodyPost_ret (v := .agg (QueryL.mk n0 n1 n2 n3 n4 n5).cells) (results_cell_row (p := 2) (ty := 23) rfl _ _ w.heap.size 23 (QueryL.mk n0 n1 n2 n3 n4 n5).cells (0, 0) _ rfl HZ.out.1 Tryd.underlying23 rfl query_size) rfl (HF.out _ HZ.out.2.1 HZ.out.2.2)
    · have HF : Hid (∀ wz, RdAt base wz b tz → w.grownBy wz (some b) → P (.returned (.agg zeroQ.cells)) wz) := by
        refine Lib.hid (fun wz k1 k2 => ?_)
        rw [HP.out, HI2.out, if_neg (by rw [← hq]; exact hq0)]
        exact ⟨rfl, k1, k2⟩
      have e1 : (q != 0) = true := by simpa using hq0
      clear hq hq0
      go_wp2_with (fail)
      refine HE.out.mono ?_
      rintro e we ⟨rfl, hwe⟩
      subst we
      dsimp only
      go_upto_region 11 with (fail)
      refine wp_region_lit ?_
      first
        | (refine wpList_store_row rfl _ _ _ rfl w.heap.size zeroQ.cells rfl rfl 23 zeroQ.cells SF.out.2.2.1 query_size rfl (query_one _) ?_)
        | (iterate 1 go_step
           refine wpList_store_row rfl _ _ _ rfl w.heap.size zeroQ.cells rfl rfl 23 zeroQ.cells SF.out.2.2.1 query_size rfl (query_one _) ?_)
        | (iterate 2 go_step
           refine wpList_store_row rfl _ _ _ rfl w.heap.size zeroQ.cells rfl rfl 23 zeroQ.cells SF.out.2.2.1 query_size rfl (query_one _) ?_)
        | (iterate 3 go_step
           refine wpList_store_row rfl _ _ _ rfl w.heap.size zeroQ.cells rfl rfl 23 zeroQ.cells SF.out.2.2.1 query_size rfl (query_one _) ?_)
        | (iterate 4 go_step
           refine wpList_store_row rfl _ _ _ rfl w.heap.size zeroQ.cells rfl rfl 23 zeroQ.cells SF.out.2.2.1 query_size rfl (query_one _) ?_)
        | (iterate 5 go_step
           refine wpList_store_row rfl _ _ _ rfl w.heap.size zeroQ.cells rfl rfl 23 zeroQ.cells SF.out.2.2.1 query_size rfl (query_one _) ?_)
        | (iterate 6 go_step
           refine wpList_store_row rfl _ _ _ rfl w.heap.size zeroQ.cells rfl rfl 23 zeroQ.cells SF.out.2.2.1 query_size rfl (query_one _) ?_)
        | (iterate 7 go_step
           refine wpList_store_row rfl _ _ _ rfl w.heap.size zeroQ.cells rfl rfl 23 zeroQ.cells SF.out.2.2.1 query_size rfl (query_one _) ?_)
        | (iterate 8 go_step
           refine wpList_store_row rfl _ _ _ rfl w.heap.size zeroQ.cells rfl rfl 23 zeroQ.cells SF.out.2.2.1 query_size rfl (query_one _) ?_)
        | (iterate 9 go_step
           refine wpList_store_row rfl _ _ _ rfl w.heap.size zeroQ.cells rfl rfl 23 zeroQ.cells SF.out.2.2.1 query_size rfl (query_one _) ?_)
      have HZ := Lib.hid (SF.out.fin zeroQ.cells)
      obtain ⟨wz, hwz⟩ : ∃ W, W = wf.setRow w.heap.size zeroQ.cells := ⟨_, rfl⟩
      rw [← hwz] at HZ ⊢
      clear hwz
      go_wp2_with (fail)
      exact bodyPost_ret (v := .agg zeroQ.cells) (results_cell_row (p := 2) (ty := 23) rfl _ _ w.heap.size 23 zeroQ.cells (0, 0) _ rfl HZ.out.1 Tryd.underlying23 rfl query_size) rfl (HF.out _ HZ.out.2.1 HZ.out.2.2)
end Go.Proofs.YteoolfifpmbkeaaDoor
