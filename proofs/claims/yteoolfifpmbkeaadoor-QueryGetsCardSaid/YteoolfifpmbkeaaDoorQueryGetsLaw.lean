/-
  QueryGets, whatever query and bytes it is called with.
-/
import Derived.Test.YteoolfifpmbkeaaDoorQueryFirst
import Derived.Test.YteoolfifpmbkeaaDoorRefQBytes
import Derived.Test.YteoolfifpmbkeaaDoorRefQGet
import Derived.Test.YteoolfifpmbkeaaDoorReadTwo
namespace Go.Proofs.YteoolfifpmbkeaaDoor
open Go Go.RowKit

def stRd6 (B0 : Nat) (m : List (BitVec 8)) : StT (fun w w' => Below w.heap.size w w') :=
  ⟨fun w v => ∃ g base, v = .pointer (some ⟨g, 0, none⟩) ∧ B0 ≤ g ∧ base ≤ w.heap.size ∧ RdAt base w g ⟨m, 0⟩, fun _ _ _ h ⟨g, base, h1, h2, h3, h4⟩ => ⟨g, base, h1, h2, Nat.le_trans h3 h.size, h4.below h⟩⟩
/-- The pen, the reader, the tape, the query's row; what is below w's end is as it was. -/
def GQ (w W6 : World) (pb rb tb xb base : Nat) (X : QueryL) (lp : List (BitVec 8)) (tr tt : TapeL) (w' : World) : Prop :=
  PenAt (fun k => k < W6.heap.size) w' pb lp ∧ RdAt base w' rb tr ∧ TapeAt w' tb tt ∧ RowQ w' xb X ∧ Below w.heap.size w w' ∧ W6.heap.size ≤ w'.heap.size
theorem GQ.below {w W6 w' w2 : World} {pb rb tb xb base : Nat} {X : QueryL} {lp : List (BitVec 8)} {tr tt : TapeL} (h : GQ w W6 pb rb tb xb base X lp tr tt w') (hB : Below w'.heap.size w' w2) : GQ w W6 pb rb tb xb base X lp tr tt w2 :=
  ⟨h.1.below hB, h.2.1.below hB, TapeAt.far h.2.2.1 hB, h.2.2.2.1.below hB, h.2.2.2.2.1.trans (hB.mono h.2.2.2.2.1.size), Nat.le_trans h.2.2.2.2.2 hB.size⟩
theorem GQ.put {w W6 w' w2 : World} {pb rb tb xb base : Nat} {X : QueryL} {lp lq : List (BitVec 8)} {tr tt : TapeL} (h : GQ w W6 pb rb tb xb base X lp tr tt w') (hp : PenAt (fun k => k < W6.heap.size) w2 pb lq) (hk : PKept (fun k => k < W6.heap.size) pb w' w2)
    (hb : base ≤ W6.heap.size) (hw : w.heap.size ≤ pb) (hw6 : w.heap.size ≤ W6.heap.size) (hx : xb ≠ pb) (ht : tb ≠ pb) : GQ w W6 pb rb tb xb base X lq tr tt w2 :=
  ⟨hp, RdAt.pen h.2.1 h.1 hk (fun k hk => by omega), hk.row h.2.2.1 (by decide) ht, hk.row h.2.2.2.1 (by decide) hx, h.2.2.2.2.1.trans (hk.below (B := w.heap.size) (fun k hk => by omega) hw (Nat.le_trans hw6 h.2.2.2.2.2)), Nat.le_trans h.2.2.2.2.2 hk.size⟩
theorem GQ.rd {w W6 w' w2 : World} {pb rb tb xb base : Nat} {X : QueryL} {lp : List (BitVec 8)} {tr tr2 tt : TapeL} (h : GQ w W6 pb rb tb xb base X lp tr tt w') (k1 : RdAt base w2 rb tr2) (k2 : w'.grownBy w2 (some rb)) (hrb : w.heap.size ≤ rb) (hx : xb ≠ rb) :
    GQ w W6 pb rb tb xb base X lp tr2 tt w2 :=
  ⟨PenAt.aside h.1 h.2.1 k2, k1, TapeAt.aside h.2.1 h.2.2.1 k2, (k2.block xb h.2.2.2.1.lt (by simpa using hx)).trans h.2.2.2.1,
    h.2.2.2.2.1.trans ⟨k2.os, k2.tape, k2.output, k2.size, fun k hk => k2.block k (Nat.lt_of_lt_of_le hk h.2.2.2.2.1.size) (by simp; omega)⟩, Nat.le_trans h.2.2.2.2.2 k2.size⟩
theorem pen_tape_ne {X : Nat → Prop} {b q : Nat} {w : World} {t : TapeL} {l : List (BitVec 8)} (h : TapeAt w b t) (hp : PenAt X w q l) : q ≠ b := by
  intro e
  subst e
  obtain ⟨v, hq, _⟩ := hp
  unfold TapeAt at h
  rw [h] at hq
  injection hq with hq
  injection hq with _ e2
  exact absurd e2 (by decide)
theorem GQ.tp {w W6 w' w2 : World} {pb rb tb xb base : Nat} {X : QueryL} {lp : List (BitVec 8)} {tr tt tt2 : TapeL} (h : GQ w W6 pb rb tb xb base X lp tr tt w') (k1 : TapeAt w2 tb tt2) (k2 : w'.grownBy w2 (some tb)) (htb : w.heap.size ≤ tb) (hx : xb ≠ tb) :
    GQ w W6 pb rb tb xb base X lp tr tt2 w2 := by
  have hne := pen_tape_ne h.2.2.1 h.1
  refine ⟨?_, RdAt.aside h.2.1 h.2.2.1 k2, k1, (k2.block xb h.2.2.2.1.lt (by simpa using hx)).trans h.2.2.2.1,
    h.2.2.2.2.1.trans ⟨k2.os, k2.tape, k2.output, k2.size, fun k hk => k2.block k (Nat.lt_of_lt_of_le hk h.2.2.2.2.1.size) (by simp; omega)⟩, Nat.le_trans h.2.2.2.2.2 k2.size⟩
  obtain ⟨v, hq, ho, hX⟩ := h.1
  exact ⟨v, (k2.block pb (Array.getElem?_eq_some_iff.1 hq).1 (by simpa using hne)).trans hq, ho.kept k2 (.inr (own_ne2 ho h.2.2.1 (by decide))), hX⟩
set_option maxRecDepth 100000 in
set_option maxHeartbeats 8000000 in
theorem queryGets_any (w : World) (x : QueryL) (ba : Option Addr) (bc M : Nat) (m : List (BitVec 8)) (hm : M = m.length) (hs : SrcP w ba m.length m) (hbc : ba = none → bc = 0) (hI : QueryIn w) :
    Calls Tryd.prog 4 #[.agg x.cells, .slice ba M bc] w (Below0 w (.bool true)) := by
  obtain ⟨w0, hw0⟩ : ∃ W, W = w.alloc (.cells x.cells 23) := ⟨_, rfl⟩
  obtain ⟨xb, hxb⟩ : ∃ b, b = w.heap.size := ⟨_, rfl⟩
  have H0 : Hid (RowQ w0 xb x ∧ Below w.heap.size w w0) := by
    rw [hw0, hxb]
    exact Lib.hid ⟨heap_alloc_new w _, (Below.refl _ w).alloc (Nat.le_refl _) _⟩
  have HF := Lib.hid (qfirst_any w0 (hI.below H0.out.2))
  have HLb : Hid (∀ w', Below w.heap.size w w' → QueryIn w') := Lib.hid (fun w' h => hI.below h)
  have HS0 := Lib.hid hs
  obtain ⟨X, hX⟩ : ∃ X : QueryL, X = x := ⟨_, rfl⟩
  have HX := Lib.hid hX
  rw [← hX] at H0
  obtain ⟨kind, size, slide, late, agg, tk⟩ := x
  have HXe : Hid (Value.agg #[.int .i64 kind, .int .i64 size, .int .i64 slide, .int .i64 late, .int .i64 agg, .int .i64 tk] = Value.agg X.cells) := by rw [HX.out]; exact Lib.hid rfl
  have HMm := Lib.hid (And.intro hm hbc)
  unfold QueryL.cells at hw0
  unfold QueryL.cells
  simp only at hw0 ⊢
  clear hI hX hs hm hbc
  go_enter Tryd.func4, Tryd.ntmps4
  go_upto_region 1 with (fail)
  rw [← hw0, ← hxb]
  have Hxb := Lib.hid hxb
  clear hw0 hxb
  go_wp2_with (fail)
  refine HF.out.mono ?_
  rintro e w1 ⟨rfl, hB⟩
  have H1 : Hid (RowQ w1 xb X ∧ Below w.heap.size w w1) := Lib.hid ⟨H0.out.1.below hB, H0.out.2.trans (hB.mono H0.out.2.size)⟩
  clear hB
  dsimp only
  by_cases hm2 : 200 < M
  · have hm2' : (200 : Int) < (M : Int) := by omega
    clear hm2
    go_wp2_with (fail)
    go_ret
    exact ⟨rfl, H1.out.2⟩
  have hm2' : ¬ (200 : Int) < (M : Int) := by omega
  have HM : Hid (M = m.length ∧ (ba = none → bc = 0) ∧ M ≤ 200) := Lib.hid ⟨HMm.out.1, HMm.out.2, by omega⟩
  clear hm2
  obtain ⟨r, hr⟩ : ∃ r, r = X.rightB := ⟨_, rfl⟩
  have HRr := Lib.hid hr
  obtain ⟨bb, hbb⟩ : ∃ b : List (BitVec 8), b = if r then X.bytes else [] := ⟨_, rfl⟩
  have HBb := Lib.hid hbb
  have HBl : Hid (bb.length ≤ 60) := by
    rw [hbb]
    split
    · exact Lib.hid X.bytes_length
    · exact Lib.hid (Nat.zero_le _)
  have HBB : Hid (∀ w, (binOp .eql 9 (Sv bb) (Sv bb)).run Tryd.prog w = .ok (.bool true) w) := Lib.hid (fun w => by
    have h := run_eql_Sv w bb bb
    rwa [decide_eq_true rfl] at h)
  clear hr hbb
  go_upto_region 6 with (fail)
  obtain ⟨wp, hwp⟩ : ∃ W, W = w1.alloc (.cells #[.slice none 0 0] 34) := ⟨_, rfl⟩
  obtain ⟨pb, hpb⟩ : ∃ b, b = w1.heap.size := ⟨_, rfl⟩
  have HP : Hid (RowQ wp xb X ∧ (∀ Y, PenAt Y wp pb []) ∧ (pb < wp.heap.size ∧ w.heap.size ≤ pb ∧ xb < pb) ∧ Below w.heap.size w wp) := by
    have hB : Below w1.heap.size w1 wp := by rw [hwp]; exact (Below.refl _ w1).alloc (Nat.le_refl _) _
    obtain ⟨k1, k2⟩ := H1.out
    refine Lib.hid ⟨k1.below hB, fun Y => by rw [hwp, hpb]; exact PenAt.new Y w1, ⟨by rw [hwp, hpb]; simp, by rw [hpb]; exact k2.size, by rw [hpb]; exact k1.lt⟩, k2.trans (hB.mono k2.size)⟩
  rw [← hwp, ← hpb]
  clear hwp hpb
  have HRb1 : Hid (Calls Tryd.prog 6 #[.agg #[.int .i64 kind, .int .i64 size, .int .i64 slide, .int .i64 late, .int .i64 agg, .int .i64 tk]] wp (Below0 wp (.bool r))) := by
    rw [HXe.out, HRr.out]
    exact Lib.hid (rqRight_any wp X)
  obtain ⟨d0, d1, d2, d3, d4, d5⟩ : D6 wp xb kind size slide late agg tk := by
    have h := HP.out.1.d6
    rw [HX.out] at h
    exact h
  go_wp2_with (fail)
  refine HRb1.out.mono ?_
  rintro e w2x ⟨rfl, hB⟩
  have H2 : Hid (RowQ w2x xb X ∧ (∀ Y, PenAt Y w2x pb []) ∧ (pb < w2x.heap.size ∧ w.heap.size ≤ pb ∧ xb < pb) ∧ Below w.heap.size w w2x) := by
    obtain ⟨k1, k2, k3, k4⟩ := HP.out
    have hz := hB.size
    exact Lib.hid ⟨k1.below hB, fun Y => (k2 Y).below hB, ⟨by omega, k3.2⟩, k4.trans (hB.mono k4.size)⟩
  clear hB d0 d1 d2 d3 d4 d5 HRb1
  dsimp only
  go_upto_if 19 with (fail)
  go_cut [6] from 20 to 42 (fun s6 wx => s6 = Sv bb ∧ Below w2x.heap.size w2x wx)
  case first =>
    cases r with
    | false =>
      have HE : Hid (bb = []) := by rw [HBb.out]; exact Lib.hid rfl
      go_wp2_with (fail)
      go_meet
      exact ⟨by rw [HE.out]; rfl, Below.refl _ _⟩
    | true =>
      have HXr : Hid (X.rightB = true) := Lib.hid HRr.out.symm
      have HBx : Hid (bb = X.bytes) := by rw [HBb.out]; exact Lib.hid (if_pos rfl)
      have HD2 : Hid (∀ w', RowQ w' xb X → D6 w' xb kind size slide late agg tk) := Lib.hid (fun w' h => by
        have h := h.d6
        rw [HX.out] at h
        exact h)
      have HBy : Hid (∀ w', Calls Tryd.prog 13 #[.agg #[.int .i64 kind, .int .i64 size, .int .i64 slide, .int .i64 late, .int .i64 agg, .int .i64 tk]] w' (Below0 w' (Sv bb))) := by
        rw [HXe.out, HBx.out]
        exact Lib.hid (fun w' => rqBytes_yes w' X HXr.out)
      have HTx : Hid (∀ w', Below w.heap.size w w' → Calls Tryd.prog 11 #[.agg #[.int .i64 kind, .int .i64 size, .int .i64 slide, .int .i64 late, .int .i64 agg, .int .i64 tk]] w' (Below0 w' (Sv X.text))) := by
        rw [HXe.out]
        exact Lib.hid (fun w' h => by
          have hq := HLb.out w' h
          exact qtext_yes w' X HXr.out hq.1 hq.2.2.2)
      have HPs : Hid (∀ w', Below w.heap.size w w' → Calls Tryd.prog 8 #[Sv X.text] w' (Below0 w' (.tuple #[.agg X.cells, .bool true]))) := by
        refine Lib.hid (fun w' h => ?_)
        have h2 := qparse_any w' X.text (by have := textQ_short HXr.out; omega) (HLb.out w' h)
        rw [parse_text HXr.out] at h2
        exact h2
      obtain ⟨d0, d1, d2, d3, d4, d5⟩ := HD2.out w2x H2.out.1
      go_wp2_with (fail)
      refine (HBy.out w2x).mono ?_
      rintro e w3 ⟨rfl, hB⟩
      have H3 := Lib.hid (And.intro (H2.out.1.below hB) hB)
      clear hB d0 d1 d2 d3 d4 d5
      obtain ⟨d0, d1, d2, d3, d4, d5⟩ := HD2.out w3 H3.out.1
      dsimp only
      go_wp2_with (fail)
      refine (HTx.out w3 (H2.out.2.2.2.trans (H3.out.2.mono H2.out.2.2.2.size))).mono ?_
      rintro e w4 ⟨rfl, hB⟩
      have H4 := Lib.hid (And.intro (H3.out.1.below hB) (H3.out.2.trans (hB.mono H3.out.2.size)))
      clear hB d0 d1 d2 d3 d4 d5
      dsimp only
      go_wp2_with (fail)
      refine (HPs.out w4 (H2.out.2.2.2.trans (H4.out.2.mono H2.out.2.2.2.size))).mono ?_
      rintro e v1 ⟨rfl, hB⟩
      have B1 := Lib.hid (And.intro (H4.out.1.below hB) (H4.out.2.trans (hB.mono H4.out.2.size)))
      clear hB
      dsimp only
      first
        | (refine wpList_store_row rfl _ _ _ rfl v1.heap.size X.cells rfl rfl 23 zeroQ.cells (heap_alloc_new v1 _) query_size rfl (query_one _) ?_)
        | (iterate 1 go_step
           refine wpList_store_row rfl _ _ _ rfl v1.heap.size X.cells rfl rfl 23 zeroQ.cells (heap_alloc_new v1 _) query_size rfl (query_one _) ?_)
        | (iterate 2 go_step
           refine wpList_store_row rfl _ _ _ rfl v1.heap.size X.cells rfl rfl 23 zeroQ.cells (heap_alloc_new v1 _) query_size rfl (query_one _) ?_)
        | (iterate 3 go_step
           refine wpList_store_row rfl _ _ _ rfl v1.heap.size X.cells rfl rfl 23 zeroQ.cells (heap_alloc_new v1 _) query_size rfl (query_one _) ?_)
        | (iterate 4 go_step
           refine wpList_store_row rfl _ _ _ rfl v1.heap.size X.cells rfl rfl 23 zeroQ.cells (heap_alloc_new v1 _) query_size rfl (query_one _) ?_)
        | (iterate 5 go_step
           refine wpList_store_row rfl _ _ _ rfl v1.heap.size X.cells rfl rfl 23 zeroQ.cells (heap_alloc_new v1 _) query_size rfl (query_one _) ?_)
        | (iterate 6 go_step
           refine wpList_store_row rfl _ _ _ rfl v1.heap.size X.cells rfl rfl 23 zeroQ.cells (heap_alloc_new v1 _) query_size rfl (query_one _) ?_)
        | (iterate 7 go_step
           refine wpList_store_row rfl _ _ _ rfl v1.heap.size X.cells rfl rfl 23 zeroQ.cells (heap_alloc_new v1 _) query_size rfl (query_one _) ?_)
        | (iterate 8 go_step
           refine wpList_store_row rfl _ _ _ rfl v1.heap.size X.cells rfl rfl 23 zeroQ.cells (heap_alloc_new v1 _) query_size rfl (query_one _) ?_)
        | (iterate 9 go_step
           refine wpList_store_row rfl _ _ _ rfl v1.heap.size X.cells rfl rfl 23 zeroQ.cells (heap_alloc_new v1 _) query_size rfl (query_one _) ?_)
        | (iterate 10 go_step
           refine wpList_store_row rfl _ _ _ rfl v1.heap.size X.cells rfl rfl 23 zeroQ.cells (heap_alloc_new v1 _) query_size rfl (query_one _) ?_)
        | (iterate 11 go_step
           refine wpList_store_row rfl _ _ _ rfl v1.heap.size X.cells rfl rfl 23 zeroQ.cells (heap_alloc_new v1 _) query_size rfl (query_one _) ?_)
        | (iterate 12 go_step
           refine wpList_store_row rfl _ _ _ rfl v1.heap.size X.cells rfl rfl 23 zeroQ.cells (heap_alloc_new v1 _) query_size rfl (query_one _) ?_)
        | (iterate 13 go_step
           refine wpList_store_row rfl _ _ _ rfl v1.heap.size X.cells rfl rfl 23 zeroQ.cells (heap_alloc_new v1 _) query_size rfl (query_one _) ?_)
      obtain ⟨W0, hv2⟩ : ∃ W, W = (v1.alloc (Obj.cells #[.int .i64 0, .int .i64 0, .int .i64 0, .int .i64 0, .int .i64 0, .int .i64 0] 23)).setRow v1.heap.size X.cells := ⟨_, rfl⟩
      obtain ⟨yb, hyb⟩ : ∃ b, b = v1.heap.size := ⟨_, rfl⟩
      have H8 : Hid (RowQ W0 xb X ∧ RowQ W0 yb X ∧ Below w2x.heap.size w2x W0) := by
        obtain ⟨q1, q2⟩ := stored_query v1 X
        obtain ⟨k1, k2⟩ := B1.out
        rw [hv2, hyb]
        exact Lib.hid ⟨k1.below q2, q1, k2.trans (q2.mono k2.size)⟩
      rw [← hv2, ← hyb]
      clear hv2 hyb
      go_upto_region 10 with (fail)
      obtain ⟨VA, hVA⟩ : ∃ V, V = Value.agg #[.int .i64 kind, .int .i64 size, .int .i64 slide, .int .i64 late, .int .i64 agg, .int .i64 tk] := ⟨_, rfl⟩
      have HV : Hid (VA = Value.agg #[.int .i64 kind, .int .i64 size, .int .i64 slide, .int .i64 late, .int .i64 agg, .int .i64 tk] ∧ (∀ w, (binOp .neq 23 VA VA).run Tryd.prog w = .ok (.bool false) w) ∧ ∀ w op o1 o2, (eqGuard op 23 o1 o2 VA VA).run Tryd.prog w = .ok () w) := by
        refine Lib.hid ⟨hVA, ?_, ?_⟩
        · intro w; rw [hVA, HXe.out, run_neq_query, (sameQ_iff X X).2 rfl]; rfl
        · intro w op o1 o2; rw [hVA, HXe.out]; exact run_guard_query w op o1 o2 X X
      have HW0 : Hid (Below w2x.heap.size w2x W0) := Lib.hid H8.out.2.2
      have HG0 : Hid (Below W0.heap.size W0 W0.drew) := (Below.refl _ W0).drew
      have HD : Hid (∀ w', Below W0.heap.size W0 w' → D6 w' xb kind size slide late agg tk ∧ D6 w' yb kind size slide late agg tk) := by
        refine Lib.hid (fun w' h => ⟨HD2.out w' (H8.out.1.below h), ?_⟩)
        have h := (H8.out.2.1.below h).d6
        rw [HX.out] at h
        exact h
      have HGt : Hid ((TapeL.mk bb 0).query = (X, ⟨[], 0⟩)) := by
        have h := query_back HXr.out []
        rw [List.append_nil, ← HBx.out] at h
        exact Lib.hid h
      clear hVA
      refine wp_region_stage_frame (by kernel_rfl) [none, none, none, none, none, none, none, none, none, some 0, some 1, some 2, none, none, none] [9, 10, 11] (VY ((Value.bool true) :: (Value.bool false) :: (Value.bool false) :: VA :: VA :: (Value.bool false) :: (Value.bool false) :: (Value.bool false) :: Sv bb :: undef :: undef :: VA :: VA :: (Value.bool false) :: (Value.bool false) :: ([] : List Value)) 9 1 (fun w v => ∃ sa sc, v = .slice sa bb.length sc ∧ (sa = none → sc = 0) ∧ SrcP w sa bb.length bb) 10 2 (fun w v => ∃ rb base, v = .pointer (some ⟨rb, 0, none⟩) ∧ W0.heap.size ≤ rb ∧ base ≤ w.heap.size ∧ RdAt base w rb ⟨bb, 0⟩)) (fun _ w' => Below W0.heap.size W0 w') (fun w w' => Below w.heap.size w w') (VY_st _ _ _ _ _ _ _ _ (fun w w' v h ⟨sa, sc, h1, h2, h3⟩ => ⟨sa, sc, h1, h2, h3.below h⟩) (fun w w' v h ⟨rb, base, h1, h2, h3, h4⟩ => ⟨rb, base, h1, h2, Nat.le_trans h3 h.size, h4.below h⟩)) (by kernel_rfl) (by kernel_rfl) (by kernel_rfl) HG0.out (fun _ => ⟨trivial, trivial, trivial, fun _ _ h => h, fun _ _ h => h, fun _ _ h => h, trivial, trivial, fun _ _ h => h, fun _ _ h => h, fun _ _ h => h, fun _ _ h => h, fun _ _ h => h, fun _ _ h => h, trivial, trivial⟩) ?_ ?_
      · refine ⟨?_, ?_, ?_, ?_, ?_, ?_, ?_, ?_, ?_, ?_, ?_, ?_, ?_, ?_, ?_, trivial⟩
        · intro k a w' hG hout hpre K hK
          have q8 := ev_of ((hout 8 rfl).trans (show _ = .bool true from rfl))
          clear hout hpre
          go_step
          exact hK _ _ rfl hG (Below.refl _ _)
        · intro k a w' hG hout hpre K hK
          obtain ⟨p0, _⟩ := hpre
          have q28 := ev_of (show a.eval (.tmp 28) = .bool true from p0)
          clear hout p0
          go_step
          exact hK _ _ rfl hG (Below.refl _ _)
        · intro k a w' hG hout hpre K hK
          obtain ⟨p0, _⟩ := hpre
          have q29 := ev_of (show a.eval (.tmp 29) = .bool false from p0)
          clear hout p0
          go_step
          exact hK _ _ rfl hG (Below.refl _ _)
        · intro k a w' hG hout hpre K hK
          have q7 := ev_of ((hout 7 rfl).trans (show _ = .pointer (some ⟨yb, 0, none⟩) from rfl))
          obtain ⟨d0, d1, d2, d3, d4, d5⟩ := (HD.out w' hG).2
          clear hout hpre
          go_step
          exact hK _ _ HV.out.1.symm hG (Below.refl _ _)
        · intro k a w' hG hout hpre K hK
          have q2 := ev_of ((hout 2 rfl).trans (show _ = .pointer (some ⟨xb, 0, none⟩) from rfl))
          obtain ⟨d0, d1, d2, d3, d4, d5⟩ := (HD.out w' hG).1
          clear hout hpre
          go_step
          exact hK _ _ HV.out.1.symm hG (Below.refl _ _)
        · intro k a w' hG hout hpre K hK
          obtain ⟨p0, p1, _⟩ := hpre
          have q31 := ev_of (show a.eval (.tmp 31) = VA from p0)
          have q32 := ev_of (show a.eval (.tmp 32) = VA from p1)
          have he := HV.out.2.1
          have hgd := HV.out.2.2
          clear hout p0 p1
          go_step
          exact hK _ _ rfl hG (Below.refl _ _)
        · intro k a w' hG hout hpre K hK
          obtain ⟨p0, p1, _⟩ := hpre
          have q30 := ev_of (show a.eval (.tmp 30) = .bool false from p0)
          have q33 := ev_of (show a.eval (.tmp 33) = .bool false from p1)
          clear hout p0 p1
          go_step
          exact hK _ _ rfl hG (Below.refl _ _)
        · intro k a w' hG hout hpre K hK
          obtain ⟨p0, _⟩ := hpre
          have q34 := ev_of (show a.eval (.tmp 34) = .bool false from p0)
          clear hout p0
          go_step
          exact hK _ _ rfl hG (Below.refl _ _)
        · intro k a w' hG hout hpre K hK
          have q6 := ev_of ((hout 6 rfl).trans (show _ = Sv bb from rfl))
          clear hout hpre
          go_step
          exact hK _ _ rfl hG (Below.refl _ _)
        · intro a w' hG hout hpre K hK
          obtain ⟨p0, _⟩ := hpre
          have q36 := ev_of (show a.eval (.tmp 36) = Sv bb from p0)
          obtain ⟨cc, wv, hcv, hB5, hcell⟩ := conv_bytes w' bb
          have HB5 := Lib.hid (And.intro hB5 hcell)
          clear hout p0 hB5 hcell
          go_step
          exact hK _ _ (fun _ => ⟨_, _, rfl, (fun h => by cases h), .inr ⟨_, 0, rfl, fun i hi => by rw [Nat.zero_add]; exact HB5.out.2 i hi⟩⟩) (hG.trans (HB5.out.1.mono hG.size)) (VY_next (by decide) (by decide))
        · intro a w' hG hout hpre K hK
          obtain ⟨p0, _⟩ := hpre
          obtain ⟨sa, sc, hv, k3, k4⟩ := (show (1 = 1) → (∃ sa sc, a.eval (.tmp 37) = .slice sa bb.length sc ∧ (sa = none → sc = 0) ∧ SrcP w' sa bb.length bb) from p0) rfl
          have q := ev_of hv
          have HS := Lib.hid (rread_any w' sa sc bb.length bb rfl k4 k3 (by have := HBl.out; omega))
          clear hout p0 hv k3 k4
          go_step
          refine HS.out.mono ?_
          rintro e w3 ⟨rb, rfl, k1, k2, k3⟩
          exact hK _ _ (fun _ => ⟨rb, w3.heap.size, rfl, Nat.le_trans hG.size k2, Nat.le_refl _, k1⟩) (hG.trans (k3.mono hG.size)) (VY_next (by decide) (by decide))
        · intro a w' hG hout hpre K hK
          obtain ⟨p0, _⟩ := hpre
          obtain ⟨rb, base, hv, k1, k2, k3⟩ := (show (2 = 2) → (∃ rb base, a.eval (.tmp 38) = .pointer (some ⟨rb, 0, none⟩) ∧ W0.heap.size ≤ rb ∧ base ≤ w'.heap.size ∧ RdAt base w' rb ⟨bb, 0⟩) from p0) rfl
          have q := ev_of hv
          have HS : Hid (Calls Tryd.prog 14 #[.pointer (some ⟨rb, 0, none⟩)] w' (RdEnd base w' rb ⟨[], 0⟩ VA)) := by
            have h := qget_any w' base rb ⟨bb, 0⟩ k3 k2
            rw [HGt.out] at h
            rw [HV.out.1, HXe.out]
            exact Lib.hid h
          have k4 := Lib.hid k1
          clear hout p0 hv k1 k2 k3
          go_step
          refine HS.out.mono ?_
          rintro e w3 ⟨rfl, _, k5⟩
          exact hK _ _ rfl (hG.trans ⟨k5.os, k5.tape, k5.output, k5.size, fun j hj => k5.block j (by have := hG.size; omega) (by have := k4.out; simp; omega)⟩) (VY_next (by decide) (by decide))
        · intro k a w' hG hout hpre K hK
          have q2 := ev_of ((hout 2 rfl).trans (show _ = .pointer (some ⟨xb, 0, none⟩) from rfl))
          obtain ⟨d0, d1, d2, d3, d4, d5⟩ := (HD.out w' hG).1
          clear hout hpre
          go_step
          exact hK _ _ HV.out.1.symm hG (Below.refl _ _)
        · intro k a w' hG hout hpre K hK
          obtain ⟨p0, p1, _⟩ := hpre
          have q39 := ev_of (show a.eval (.tmp 39) = VA from p0)
          have q40 := ev_of (show a.eval (.tmp 40) = VA from p1)
          have he := HV.out.2.1
          have hgd := HV.out.2.2
          clear hout p0 p1
          go_step
          exact hK _ _ rfl hG (Below.refl _ _)
        · intro k a w' hG hout hpre K hK
          obtain ⟨p0, p1, _⟩ := hpre
          have q35 := ev_of (show a.eval (.tmp 35) = .bool false from p0)
          have q41 := ev_of (show a.eval (.tmp 41) = .bool false from p1)
          clear hout p0 p1
          go_step
          exact hK _ _ rfl hG (Below.refl _ _)
      · intro vs w2 hG hlen hV
        match vs, hlen, hV with
        | [v0, v1, v2, v3, v4, v5, v6, v7, v8, v9, v10, v11, v12, v13, v14], _, hV =>
          obtain rfl : v14 = .bool false := hV 14 42 v14 rfl rfl
          clear hV
          simp only [putsL, List.tail_cons, List.headD_cons]
          simp only [Act.put, List.setIfInBounds_toArray, List.set_cons_succ, List.set_cons_zero]
          have HZ : Hid (Below w2x.heap.size w2x w2) := HW0.out.trans (hG.mono HW0.out.size)
          clear hG
          go_wp2_with (fail)
          go_meet
          exact ⟨rfl, HZ.out⟩
  case rest =>
    obtain ⟨rfl, hB5⟩ := hcut
    obtain ⟨w5, rfl⟩ : ∃ x, x = wc := ⟨wc, rfl⟩
    have H5 : Hid (RowQ w5 xb X ∧ (∀ Y, PenAt Y w5 pb []) ∧ (pb < w5.heap.size ∧ w.heap.size ≤ pb ∧ xb < pb) ∧ Below w.heap.size w w5) := by
      obtain ⟨k1, k2, k3, k4⟩ := H2.out
      have hz := hB5.size
      exact Lib.hid ⟨k1.below hB5, fun Y => (k2 Y).below hB5, ⟨by omega, k3.2⟩, k4.trans (hB5.mono k4.size)⟩
    have HS1 : Hid (SrcP w5 ba m.length m) := Lib.hid (HS0.out.below H5.out.2.2.2)
    have HG0 : Hid (Below w5.heap.size w5 w5.drew) := (Below.refl _ w5).drew
    clear hB5 hm2' HF HLb
    go_upto_region 12 with (fail)
    refine wp_region_seq_frame (by kernel_rfl) [none, none, none, none, none, none, none, none] [] (vOfT [stE (.slice ba M bc), stRd6 w5.heap.size m, stE (.slice ba M bc), stE (Sv m), stE (.agg #[Sv m, .int .i64 0]), stTp w5.heap.size m, stRd6 w5.heap.size m, stTp w5.heap.size m]) (fun _ w' => Below w5.heap.size w5 w') (fun w w' => Below w.heap.size w w') (vOfT_st _) (by kernel_rfl) (by kernel_rfl) (by kernel_rfl) HG0.out ⟨trivial, trivial, trivial, trivial, trivial, trivial, trivial, trivial, trivial⟩ ?_ ?_
    · refine ⟨?_, ?_, ?_, ?_, ?_, ?_, ?_, ?_, trivial⟩
      · intro k a w' hG hout hpre K hK
        have q1 := ev_of ((hout 1 rfl).trans (show _ = .slice ba M bc from rfl))
        clear hout hpre
        go_step
        exact hK _ _ rfl hG (Below.refl _ _)
      · intro k a w' hG hout hpre K hK
        obtain ⟨p0, _⟩ := hpre
        have q43 := ev_of (show a.eval (.tmp 43) = .slice ba M bc from p0)
        have HS := Lib.hid (rread_any w' ba bc M m HM.out.1 (HS1.out.below hG) HM.out.2.1 (by have := HM.out; omega))
        clear hout p0
        go_step
        refine HS.out.mono ?_
        rintro e w3 ⟨g, rfl, hR, hr, hB⟩
        exact hK _ _ ⟨g, _, rfl, Nat.le_trans hG.size hr, Nat.le_refl _, hR⟩ (hG.trans (hB.mono hG.size)) hB
      · intro k a w' hG hout hpre K hK
        have q1 := ev_of ((hout 1 rfl).trans (show _ = .slice ba M bc from rfl))
        clear hout hpre
        go_step
        exact hK _ _ rfl hG (Below.refl _ _)
      · intro k a w' hG hout hpre K hK
        obtain ⟨p0, _⟩ := hpre
        have q45 := ev_of (show a.eval (.tmp 45) = .slice ba M bc from p0)
        have hcs : (convert 31 9 (.slice ba M bc)).run Tryd.prog w' = .ok (Sv m) w' := by
          have h := run_conv_str w' ba bc m (HS1.out.below hG)
          rwa [← HM.out.1] at h
        clear hout p0
        go_step
        exact hK _ _ rfl hG (Below.refl _ _)
      · intro k a w' hG hout hpre K hK
        obtain ⟨p0, _⟩ := hpre
        have q46 := ev_of (show a.eval (.tmp 46) = Sv m from p0)
        have hbuilt : Tryd.prog.built 40 [(0, Sv m)] = some #[Sv m, .int .i64 0] := by kernel_rfl
        clear hout p0
        go_step
        exact hK _ _ rfl hG (Below.refl _ _)
      · intro k a w' hG hout hpre K hK
        obtain ⟨p0, _⟩ := hpre
        have q47 := ev_of (show a.eval (.tmp 47) = .agg #[Sv m, .int .i64 0] from p0)
        clear hout p0
        go_step
        exact hK _ _ ⟨w'.heap.size, rfl, hG.size, heap_alloc_new w' _⟩ (hG.alloc hG.size _) ((Below.refl _ w').alloc (Nat.le_refl _) _)
      · intro k a w' hG hout hpre K hK
        obtain ⟨p0, _⟩ := hpre
        clear hout
        unfold Oper.wp
        exact hK _ _ p0 hG (Below.refl _ _)
      · intro k a w' hG hout hpre K hK
        obtain ⟨p0, _⟩ := hpre
        clear hout
        unfold Oper.wp
        exact hK _ _ p0 hG (Below.refl _ _)
    · intro vs w2 hG hlen hV
      match vs, hlen, hV with
      | [v0, v1, v2, v3, v4, v5, v6, v7], _, hV =>
        obtain ⟨rb, base, rfl, hrb, hbs, hR⟩ : ∃ g base, v6 = .pointer (some ⟨g, 0, none⟩) ∧ w5.heap.size ≤ g ∧ base ≤ w2.heap.size ∧ RdAt base w2 g ⟨m, 0⟩ := hV 6 9 v6 rfl rfl
        obtain ⟨tb, rfl, htb, hX⟩ : ∃ g, v7 = .pointer (some ⟨g, 0, none⟩) ∧ w5.heap.size ≤ g ∧ TapeAt w2 g ⟨m, 0⟩ := hV 7 10 v7 rfl rfl
        obtain ⟨W6, rfl⟩ : ∃ x, x = w2 := ⟨w2, rfl⟩
        simp only [putsL, List.tail_cons, List.headD_cons]
        simp only [Act.put, List.setIfInBounds_toArray, List.set_cons_succ, List.set_cons_zero]
        obtain ⟨tq, htq⟩ : ∃ t, t = (TapeL.mk m 0).query.2 := ⟨_, rfl⟩
        have H6 : Hid (GQ w W6 pb rb tb xb base X [] ⟨m, 0⟩ ⟨m, 0⟩ W6 ∧ base ≤ W6.heap.size ∧ w5.heap.size ≤ rb ∧ w5.heap.size ≤ tb ∧ rb < W6.heap.size ∧ tb < W6.heap.size) := by
          obtain ⟨k1, k2, k3, k4⟩ := H5.out
          exact Lib.hid ⟨⟨(k2 _).below hG, hR, hX, k1.below hG, k4.trans (hG.mono k4.size), Nat.le_refl _⟩, hbs, hrb, htb, hR.lt, (Array.getElem?_eq_some_iff.1 hX).1⟩
        have HG6 : Hid (GQ w W6 pb rb tb xb base X [] ⟨m, 0⟩ ⟨m, 0⟩ W6.drew) := Lib.hid (GQ.below H6.out.1 (Below.refl _ W6).drew)
        clear hV hG hR hX hrb htb hbs
        obtain ⟨VA, hVA⟩ : ∃ V, V = Value.agg (TapeL.mk m 0).query.1.cells := ⟨_, rfl⟩
        have HV : Hid ((∀ w, (binOp .eql 23 VA VA).run Tryd.prog w = .ok (.bool true) w) ∧ ∀ w op o1 o2, (eqGuard op 23 o1 o2 VA VA).run Tryd.prog w = .ok () w) := by
          refine Lib.hid ⟨?_, ?_⟩
          · intro w; rw [hVA, run_eql_query, (sameQ_iff _ _).2 rfl]
          · intro w op o1 o2; rw [hVA]; exact run_guard_query w op o1 o2 _ _
        have HPut : Hid (∀ w', GQ w W6 pb rb tb xb base X [] ⟨m, 0⟩ ⟨m, 0⟩ w' → Calls Tryd.prog 16 #[.pointer (some ⟨pb, 0, none⟩), .agg #[.int .i64 kind, .int .i64 size, .int .i64 slide, .int .i64 late, .int .i64 agg, .int .i64 tk]] w' (fun e w'' => e = .returned (.bool r) ∧ GQ w W6 pb rb tb xb base X bb ⟨m, 0⟩ ⟨m, 0⟩ w'')) := by
          rw [HXe.out]
          refine Lib.hid (fun w' h => ?_)
          cases r with
          | true =>
            have h2 := qput_yes w' (fun k => k < W6.heap.size) pb [] X HRr.out.symm h.1 (fun k hk => Nat.lt_of_lt_of_le hk h.2.2.2.2.2) (by decide)
            rw [List.nil_append] at h2
            refine h2.mono ?_
            rintro e w'' ⟨rfl, hp, hk⟩
            refine ⟨rfl, ?_⟩
            rw [HBb.out, if_pos rfl]
            have k3 := H5.out.2.2.1
            have k6 := H6.out
            exact h.put hp hk k6.2.1 k3.2.1 (Nat.le_trans (Nat.le_of_lt (Nat.lt_of_le_of_lt k3.2.1 k3.1)) (Nat.le_trans k6.2.2.1 (Nat.le_of_lt k6.2.2.2.2.1))) (by omega) (by omega)
          | false =>
            refine (qput_no w' pb X HRr.out.symm).mono ?_
            rintro e w'' ⟨rfl, hB⟩
            refine ⟨rfl, ?_⟩
            rw [HBb.out]
            exact h.below hB
        have HRb : Hid (∀ w', Calls Tryd.prog 6 #[.agg #[.int .i64 kind, .int .i64 size, .int .i64 slide, .int .i64 late, .int .i64 agg, .int .i64 tk]] w' (Below0 w' (.bool r))) := by
          rw [HXe.out, HRr.out]
          exact Lib.hid (fun w' => rqRight_any w' X)
        have HPn : Hid (∀ w', Calls Tryd.prog 16 #[.pointer none, .agg #[.int .i64 kind, .int .i64 size, .int .i64 slide, .int .i64 late, .int .i64 agg, .int .i64 tk]] w' (Below0 w' (.bool false))) := by
          rw [HXe.out]
          exact Lib.hid (fun w' => qput_nil w' X)
        have HDq : Hid (∀ w', RowQ w' xb X → D6 w' xb kind size slide late agg tk) := Lib.hid (fun w' h => by
          have h := h.d6
          rw [HX.out] at h
          exact h)
        have HG1 : Hid (∀ w', GQ w W6 pb rb tb xb base X bb ⟨m, 0⟩ ⟨m, 0⟩ w' → Calls Tryd.prog 14 #[.pointer (some ⟨rb, 0, none⟩)] w' (fun e w'' => e = .returned VA ∧ GQ w W6 pb rb tb xb base X bb tq ⟨m, 0⟩ w'')) := by
          rw [hVA, htq]
          refine Lib.hid (fun w' h => (qget_any w' base rb ⟨m, 0⟩ h.2.1 (Nat.le_trans H6.out.2.1 h.2.2.2.2.2)).mono ?_)
          rintro e w'' ⟨rfl, k1, k2⟩
          have k3 := H5.out.2.2.1
          have k6 := H6.out.2
          exact ⟨rfl, h.rd k1 k2 (by omega) (by omega)⟩
        have HG2 : Hid (∀ w', GQ w W6 pb rb tb xb base X bb tq ⟨m, 0⟩ w' → Calls Tryd.prog 18 #[.pointer (some ⟨tb, 0, none⟩)] w' (fun e w'' => e = .returned VA ∧ GQ w W6 pb rb tb xb base X bb tq tq w'')) := by
          rw [hVA, htq]
          refine Lib.hid (fun w' h => (rqGet_any w' tb ⟨m, 0⟩ h.2.2.1).mono ?_)
          rintro e w'' ⟨rfl, k1, k2⟩
          have k3 := H5.out.2.2.1
          have k6 := H6.out.2
          exact ⟨rfl, h.tp k1 k2 (by omega) (by omega)⟩
        obtain ⟨d, hd⟩ : ∃ d, d = tq.done := ⟨_, rfl⟩
        have HE1 : Hid (∀ w', GQ w W6 pb rb tb xb base X bb tq tq w' → Calls Tryd.prog 19 #[.pointer (some ⟨rb, 0, none⟩)] w' fun e w'' => e = .returned (.int .i64 d) ∧ w'' = w') := by
          rw [hd]
          exact Lib.hid (fun w' h => rend_any w' base rb tq h.2.1)
        have HE2 : Hid (∀ w', GQ w W6 pb rb tb xb base X bb tq tq w' → Calls Tryd.prog 20 #[.pointer (some ⟨tb, 0, none⟩)] w' fun e w'' => e = .returned (.int .i64 d) ∧ w'' = w') := by
          rw [hd]
          exact Lib.hid (fun w' h => rtEnd_any w' tb tq h.2.2.1)
        clear hVA htq hd
        go_upto_region 13 with (fail)
        refine wp_region_stage_frame (by kernel_rfl) [none, none, some 0, none, none, some 1, some 2, none, some 3, some 4, none, some 5, some 6, some 7, none, some 8, none, some 9, none, none, some 10, none, some 11, none, some 12, none, none, none, none, none, none, none, none] [2, 5, 6, 8, 9, 11, 12, 13, 15, 17, 20, 22, 24] (VY ((Value.pointer (some ⟨pb, 0, none⟩)) :: (Value.agg #[.int .i64 kind, .int .i64 size, .int .i64 slide, .int .i64 late, .int .i64 agg, .int .i64 tk]) :: (Value.bool r) :: (Value.agg #[.int .i64 kind, .int .i64 size, .int .i64 slide, .int .i64 late, .int .i64 agg, .int .i64 tk]) :: (Value.bool r) :: (Value.bool true) :: (Value.bool true) :: (Value.pointer (some ⟨pb, 0, none⟩)) :: undef :: Sv bb :: Sv bb :: (Value.bool true) :: (Value.bool true) :: (Value.bool true) :: (Value.pointer (some ⟨rb, 0, none⟩)) :: VA :: (Value.pointer (some ⟨tb, 0, none⟩)) :: VA :: (Value.bool true) :: (Value.bool true) :: (Value.bool true) :: (Value.pointer (some ⟨rb, 0, none⟩)) :: (Value.int .i64 d) :: (Value.pointer (some ⟨tb, 0, none⟩)) :: (Value.int .i64 d) :: (Value.bool true) :: (Value.bool true) :: (Value.bool true) :: (Value.agg #[.int .i64 kind, .int .i64 size, .int .i64 slide, .int .i64 late, .int .i64 agg, .int .i64 tk]) :: (Value.bool false) :: (Value.bool true) :: (Value.bool true) :: (Value.bool true) :: ([] : List Value)) 8 4 (fun w v => ∃ sa sc, v = .slice sa bb.length sc ∧ (sa = none → sc = 0) ∧ SrcP w sa bb.length bb) 999 999 (fun _ _ => True)) (fun k w' => GQ w W6 pb rb tb xb base X (cond (Nat.beq k 0) [] bb) (cond (Nat.ble k 8) ⟨m, 0⟩ tq) (cond (Nat.ble k 9) ⟨m, 0⟩ tq) w') (fun w w' => Below w.heap.size w w') (VY_st _ _ _ _ _ _ _ _ (fun w w' v h ⟨sa, sc, h1, h2, h3⟩ => ⟨sa, sc, h1, h2, h3.below h⟩) (fun _ _ _ _ h => h)) (by kernel_rfl) (by kernel_rfl) (by kernel_rfl) HG6.out (fun _ => ⟨trivial, trivial, trivial, trivial, trivial, trivial, trivial, fun _ _ h => h, fun _ _ h => h, fun _ _ h => h, fun _ _ h => h, fun _ _ h => h, trivial, trivial, fun _ _ h => h, fun _ _ h => h, fun _ _ h => h, fun _ _ h => h, fun _ _ h => h, trivial, trivial, fun _ _ h => h, fun _ _ h => h, fun _ _ h => h, fun _ _ h => h, fun _ _ h => h, trivial, trivial, fun _ _ h => h, fun _ _ h => h, fun _ _ h => h, trivial, trivial, trivial⟩) ?_ ?_
        · refine ⟨?_, ?_, ?_, ?_, ?_, ?_, ?_, ?_, ?_, ?_, ?_, ?_, ?_, ?_, ?_, ?_, ?_, ?_, ?_, ?_, ?_, ?_, ?_, ?_, ?_, ?_, ?_, ?_, ?_, ?_, ?_, ?_, ?_, trivial⟩
          · intro k a w' hG hout hpre K hK
            have q5 := ev_of ((hout 5 rfl).trans (show _ = .pointer (some ⟨pb, 0, none⟩) from rfl))
            clear hout hpre
            go_step
            exact hK _ _ rfl hG (Below.refl _ _)
          · intro k a w' hG hout hpre K hK
            have q2 := ev_of ((hout 2 rfl).trans (show _ = .pointer (some ⟨xb, 0, none⟩) from rfl))
            obtain ⟨d0, d1, d2, d3, d4, d5⟩ := HDq.out w' hG.2.2.2.1
            clear hout hpre
            go_step
            exact hK _ _ rfl hG (Below.refl _ _)
          · intro a w' hG hout hpre K hK
            obtain ⟨p0, p1, _⟩ := hpre
            have q49 := ev_of (show a.eval (.tmp 49) = .pointer (some ⟨pb, 0, none⟩) from p0)
            have q50 := ev_of (show a.eval (.tmp 50) = .agg #[.int .i64 kind, .int .i64 size, .int .i64 slide, .int .i64 late, .int .i64 agg, .int .i64 tk] from p1)
            have HS := Lib.hid (HPut.out w' hG)
            clear hout p0 p1
            go_step
            refine HS.out.mono ?_
            rintro e w3 ⟨rfl, hB⟩
            exact hK _ _ rfl hB (VY_next (by decide) (by decide))
          · intro k a w' hG hout hpre K hK
            have q2 := ev_of ((hout 2 rfl).trans (show _ = .pointer (some ⟨xb, 0, none⟩) from rfl))
            obtain ⟨d0, d1, d2, d3, d4, d5⟩ := HDq.out w' hG.2.2.2.1
            clear hout hpre
            go_step
            exact hK _ _ rfl hG (Below.refl _ _)
          · intro k a w' hG hout hpre K hK
            obtain ⟨p0, _⟩ := hpre
            have q52 := ev_of (show a.eval (.tmp 52) = .agg #[.int .i64 kind, .int .i64 size, .int .i64 slide, .int .i64 late, .int .i64 agg, .int .i64 tk] from p0)
            have HS := Lib.hid (HRb.out w')
            clear hout p0
            go_step
            refine HS.out.mono ?_
            rintro e w3 ⟨rfl, hB⟩
            exact hK _ _ rfl (hG.below hB) hB
          · intro a w' hG hout hpre K hK
            obtain ⟨p0, p1, _⟩ := hpre
            have q51 := ev_of (show a.eval (.tmp 51) = .bool r from p0)
            have q53 := ev_of (show a.eval (.tmp 53) = .bool r from p1)
            have he : (r == r) = true := by simp
            clear hout p0 p1
            go_step
            exact hK _ _ rfl hG (VY_next (by decide) (by decide))
          · intro a w' hG hout hpre K hK
            obtain ⟨p0, _⟩ := hpre
            have q54 := ev_of (show a.eval (.tmp 54) = .bool true from p0)
            clear hout p0
            go_step
            exact hK _ _ rfl hG (VY_next (by decide) (by decide))
          · intro k a w' hG hout hpre K hK
            have q5 := ev_of ((hout 5 rfl).trans (show _ = .pointer (some ⟨pb, 0, none⟩) from rfl))
            clear hout hpre
            go_step
            exact hK _ _ rfl hG (Below.refl _ _)
          · intro a w' hG hout hpre K hK
            obtain ⟨p0, _⟩ := hpre
            have q56 := ev_of (show a.eval (.tmp 56) = .pointer (some ⟨pb, 0, none⟩) from p0)
            have HS := Lib.hid (pbytes_any w' _ pb bb hG.1 (by have := HBl.out; omega))
            clear hout p0
            go_step
            refine HS.out.mono ?_
            rintro e w3 ⟨sa, sc, rfl, k1, k2, k3, k4, k5⟩
            exact hK _ _ (fun _ => ⟨sa, sc, rfl, k3, k4.srcP⟩) (GQ.below hG k5) (VY_next (by decide) (by decide))
          · intro a w' hG hout hpre K hK
            obtain ⟨p0, _⟩ := hpre
            obtain ⟨sa, sc, hv, k3, k4⟩ := (show (4 = 4) → (∃ sa sc, a.eval (.tmp 57) = .slice sa bb.length sc ∧ (sa = none → sc = 0) ∧ SrcP w' sa bb.length bb) from p0) rfl
            have q := ev_of hv
            have hcs : (convert 31 9 (.slice sa bb.length sc)).run Tryd.prog w' = .ok (Sv bb) w' := run_conv_str w' sa sc bb k4
            clear hout p0 hv k3 k4
            go_step
            exact hK _ _ rfl hG (VY_next (by decide) (by decide))
          · intro k a w' hG hout hpre K hK
            have q6 := ev_of ((hout 6 rfl).trans (show _ = Sv bb from rfl))
            clear hout hpre
            go_step
            exact hK _ _ rfl hG (Below.refl _ _)
          · intro a w' hG hout hpre K hK
            obtain ⟨p0, p1, _⟩ := hpre
            have q58 := ev_of (show a.eval (.tmp 58) = Sv bb from p0)
            have q59 := ev_of (show a.eval (.tmp 59) = Sv bb from p1)
            have he := HBB.out
            clear hout p0 p1
            go_step
            exact hK _ _ rfl hG (VY_next (by decide) (by decide))
          · intro a w' hG hout hpre K hK
            obtain ⟨p0, p1, _⟩ := hpre
            have q55 := ev_of (show a.eval (.tmp 55) = .bool true from p0)
            have q60 := ev_of (show a.eval (.tmp 60) = .bool true from p1)
            clear hout p0 p1
            go_step
            exact hK _ _ rfl hG (VY_next (by decide) (by decide))
          · intro a w' hG hout hpre K hK
            obtain ⟨p0, _⟩ := hpre
            have q61 := ev_of (show a.eval (.tmp 61) = .bool true from p0)
            clear hout p0
            go_step
            exact hK _ _ rfl hG (VY_next (by decide) (by decide))
          · intro k a w' hG hout hpre K hK
            have q9 := ev_of ((hout 9 rfl).trans (show _ = .pointer (some ⟨rb, 0, none⟩) from rfl))
            clear hout hpre
            go_step
            exact hK _ _ rfl hG (Below.refl _ _)
          · intro a w' hG hout hpre K hK
            obtain ⟨p0, _⟩ := hpre
            have q63 := ev_of (show a.eval (.tmp 63) = .pointer (some ⟨rb, 0, none⟩) from p0)
            have HS := Lib.hid (HG1.out w' hG)
            clear hout p0
            go_step
            refine HS.out.mono ?_
            rintro e w3 ⟨rfl, hB⟩
            exact hK _ _ rfl hB (VY_next (by decide) (by decide))
          · intro k a w' hG hout hpre K hK
            have q10 := ev_of ((hout 10 rfl).trans (show _ = .pointer (some ⟨tb, 0, none⟩) from rfl))
            clear hout hpre
            go_step
            exact hK _ _ rfl hG (Below.refl _ _)
          · intro a w' hG hout hpre K hK
            obtain ⟨p0, _⟩ := hpre
            have q65 := ev_of (show a.eval (.tmp 65) = .pointer (some ⟨tb, 0, none⟩) from p0)
            have HS := Lib.hid (HG2.out w' hG)
            clear hout p0
            go_step
            refine HS.out.mono ?_
            rintro e w3 ⟨rfl, hB⟩
            exact hK _ _ rfl hB (VY_next (by decide) (by decide))
          · intro k a w' hG hout hpre K hK
            obtain ⟨p0, p1, _⟩ := hpre
            have q64 := ev_of (show a.eval (.tmp 64) = VA from p0)
            have q66 := ev_of (show a.eval (.tmp 66) = VA from p1)
            have he := HV.out.1
            have hgd := HV.out.2
            clear hout p0 p1
            go_step
            exact hK _ _ rfl hG (Below.refl _ _)
          · intro k a w' hG hout hpre K hK
            obtain ⟨p0, p1, _⟩ := hpre
            have q62 := ev_of (show a.eval (.tmp 62) = .bool true from p0)
            have q67 := ev_of (show a.eval (.tmp 67) = .bool true from p1)
            clear hout p0 p1
            go_step
            exact hK _ _ rfl hG (Below.refl _ _)
          · intro a w' hG hout hpre K hK
            obtain ⟨p0, _⟩ := hpre
            have q68 := ev_of (show a.eval (.tmp 68) = .bool true from p0)
            clear hout p0
            go_step
            exact hK _ _ rfl hG (VY_next (by decide) (by decide))
          · intro k a w' hG hout hpre K hK
            have q9 := ev_of ((hout 9 rfl).trans (show _ = .pointer (some ⟨rb, 0, none⟩) from rfl))
            clear hout hpre
            go_step
            exact hK _ _ rfl hG (Below.refl _ _)
          · intro a w' hG hout hpre K hK
            obtain ⟨p0, _⟩ := hpre
            have q70 := ev_of (show a.eval (.tmp 70) = .pointer (some ⟨rb, 0, none⟩) from p0)
            have HS := Lib.hid (HE1.out w' hG)
            clear hout p0
            go_step
            refine HS.out.mono ?_
            rintro e w3 ⟨rfl, hw⟩
            subst w3
            exact hK _ _ rfl hG (VY_next (by decide) (by decide))
          · intro k a w' hG hout hpre K hK
            have q10 := ev_of ((hout 10 rfl).trans (show _ = .pointer (some ⟨tb, 0, none⟩) from rfl))
            clear hout hpre
            go_step
            exact hK _ _ rfl hG (Below.refl _ _)
          · intro a w' hG hout hpre K hK
            obtain ⟨p0, _⟩ := hpre
            have q72 := ev_of (show a.eval (.tmp 72) = .pointer (some ⟨tb, 0, none⟩) from p0)
            have HS := Lib.hid (HE2.out w' hG)
            clear hout p0
            go_step
            refine HS.out.mono ?_
            rintro e w3 ⟨rfl, hw⟩
            subst w3
            exact hK _ _ rfl hG (VY_next (by decide) (by decide))
          · intro k a w' hG hout hpre K hK
            obtain ⟨p0, p1, _⟩ := hpre
            have q71 := ev_of (show a.eval (.tmp 71) = .int .i64 d from p0)
            have q73 := ev_of (show a.eval (.tmp 73) = .int .i64 d from p1)
            have he : (d == d) = true := by simp
            clear hout p0 p1
            go_step
            exact hK _ _ rfl hG (Below.refl _ _)
          · intro k a w' hG hout hpre K hK
            obtain ⟨p0, p1, _⟩ := hpre
            have q69 := ev_of (show a.eval (.tmp 69) = .bool true from p0)
            have q74 := ev_of (show a.eval (.tmp 74) = .bool true from p1)
            clear hout p0 p1
            go_step
            exact hK _ _ rfl hG (Below.refl _ _)
          · intro k a w' hG hout hpre K hK
            obtain ⟨p0, _⟩ := hpre
            have q75 := ev_of (show a.eval (.tmp 75) = .bool true from p0)
            clear hout p0
            go_step
            exact hK _ _ rfl hG (Below.refl _ _)
          · intro k a w' hG hout hpre K hK
            have q2 := ev_of ((hout 2 rfl).trans (show _ = .pointer (some ⟨xb, 0, none⟩) from rfl))
            obtain ⟨d0, d1, d2, d3, d4, d5⟩ := HDq.out w' hG.2.2.2.1
            clear hout hpre
            go_step
            exact hK _ _ rfl hG (Below.refl _ _)
          · intro k a w' hG hout hpre K hK
            obtain ⟨p0, _⟩ := hpre
            have q77 := ev_of (show a.eval (.tmp 77) = .agg #[.int .i64 kind, .int .i64 size, .int .i64 slide, .int .i64 late, .int .i64 agg, .int .i64 tk] from p0)
            have HS := Lib.hid (HPn.out w')
            clear hout p0
            go_step
            refine HS.out.mono ?_
            rintro e w3 ⟨rfl, hB⟩
            exact hK _ _ rfl (hG.below hB) hB
          · intro k a w' hG hout hpre K hK
            obtain ⟨p0, _⟩ := hpre
            have q78 := ev_of (show a.eval (.tmp 78) = .bool false from p0)
            clear hout p0
            go_step
            exact hK _ _ rfl hG (Below.refl _ _)
          · intro k a w' hG hout hpre K hK
            obtain ⟨p0, p1, _⟩ := hpre
            have q76 := ev_of (show a.eval (.tmp 76) = .bool true from p0)
            have q79 := ev_of (show a.eval (.tmp 79) = .bool true from p1)
            clear hout p0 p1
            go_step
            exact hK _ _ rfl hG (Below.refl _ _)
          · intro k a w' hG hout hpre K hK
            obtain ⟨p0, _⟩ := hpre
            have q80 := ev_of (show a.eval (.tmp 80) = .bool true from p0)
            clear hout p0
            go_step
            exact hK _ _ rfl hG (Below.refl _ _)
        · intro vs w2 hG hlen hV
          match vs, hlen, hV with
          | v0 :: v1 :: v2 :: v3 :: v4 :: v5 :: v6 :: v7 :: v8 :: v9 :: v10 :: v11 :: v12 :: v13 :: v14 :: v15 :: v16 :: v17 :: v18 :: v19 :: v20 :: v21 :: v22 :: v23 :: v24 :: v25 :: v26 :: v27 :: v28 :: v29 :: v30 :: v31 :: v32 :: [], _, hV =>
            obtain rfl : v32 = .bool true := hV 32 4 v32 rfl rfl
            clear hV
            simp only [putsL, List.tail_cons, List.headD_cons]
            simp only [Act.put, List.setIfInBounds_toArray, List.set_cons_succ, List.set_cons_zero]
            have HZ : Hid (Below w.heap.size w w2) := Lib.hid hG.2.2.2.2.1
            clear hG
            go_wp2_with (fail)
            go_ret
            exact ⟨rfl, HZ.out⟩
end Go.Proofs.YteoolfifpmbkeaaDoor
