/-
  WinsTell, whatever query, key, time and mark it is called with.
-/
import Derived.Test.YtkgmcjeficgciaaDoorWinsFirst
import Derived.Test.YtkgmcjeficgciaaDoorWinsMore
import Derived.Test.YtkgmcjeficgciaaDoorRefWOf
import Derived.Test.YtkgmcjeficgciaaDoorRefWSame
import Derived.Test.YtkgmcjeficgciaaDoorHeld
namespace Go.Proofs.YtkgmcjeficgciaaDoor
open Go Go.RowKit

def roomsT (kind size slide late agg tk : Int) : List Room := [⟨8, 9, 3, #[.int .i64 0, .int .i64 0, .int .i64 0, .int .i64 0, .int .i64 0, .int .i64 0], #[.int .i64 kind, .int .i64 size, .int .i64 slide, .int .i64 late, .int .i64 agg, .int .i64 tk], 23⟩]
theorem roomsT_ok (kind size slide late agg tk : Int) : roomsB (roomsT kind size slide late agg tk) = true ∧ ∀ x ∈ roomsT kind size slide late agg tk, ∀ y ∈ roomsT kind size slide late agg tk, x.ai = y.ai → x = y := by
  refine ⟨rfl, fun x hx y hy _ => ?_⟩
  simp only [roomsT, List.mem_singleton] at hx hy
  rw [hx, hy]
def TellRel (w0 : World) (n : Nat) (v : Value) (wr : World) : Prop := ∃ j : Nat, j ≤ n ∧ v = .int .i64 (j : Int) ∧ Below w0.heap.size w0 wr
set_option maxRecDepth 100000 in
set_option maxHeartbeats 4000000 in
theorem winsTell_any (w : World) (x : QueryL) (key : List (BitVec 8)) (t mark : Int) (hI : WinsIn w) :
    Calls Tryd.prog 3 #[.agg #[.int .i64 x.kind, .int .i64 x.size, .int .i64 x.slide, .int .i64 x.late, .int .i64 x.agg, .int .i64 x.k, Sv key, .int .i64 t, .int .i64 mark]] w (Below0 w (.bool true)) := by
  obtain ⟨X, hX⟩ : ∃ X : QueryL, X = x := ⟨_, rfl⟩
  have HX := Lib.hid hX
  clear hX
  obtain ⟨kind, size, slide, late, agg, tk⟩ := x
  have HXe : Hid (Value.agg #[.int .i64 kind, .int .i64 size, .int .i64 slide, .int .i64 late, .int .i64 agg, .int .i64 tk] = Value.agg X.cells) := by rw [HX.out]; exact Lib.hid rfl
  simp only
  obtain ⟨w1, hw1⟩ : ∃ W, W = w.alloc (.cells #[.int .i64 kind, .int .i64 size, .int .i64 slide, .int .i64 late, .int .i64 agg, .int .i64 tk, Sv key, .int .i64 t, .int .i64 mark] 25) := ⟨_, rfl⟩
  obtain ⟨cb, hcb⟩ : ∃ b, b = w.heap.size := ⟨_, rfl⟩
  have H1 : Hid (w1.heap[cb]? = some (.cells #[.int .i64 kind, .int .i64 size, .int .i64 slide, .int .i64 late, .int .i64 agg, .int .i64 tk, Sv key, .int .i64 t, .int .i64 mark] 25 (0, 0)) ∧ Below w.heap.size w w1) := by
    rw [hw1, hcb]
    exact Lib.hid ⟨heap_alloc_new w _, (Below.refl _ w).alloc (Nat.le_refl _) _⟩
  have HF := Lib.hid (wfirst_any w1 (hI.below H1.out.2))
  obtain ⟨M, hM⟩ : ∃ m, m = key.length := ⟨_, rfl⟩
  have HM := Lib.hid hM
  have hlen : ∀ w ty, (Builtin.len_ #[9] ty #[Sv key]).run Tryd.prog w = .ok (.int .i64 (M : Int)) w := by
    rw [hM]
    exact fun w ty => run_len_Sv w ty key
  clear hI hM
  go_enter Tryd.func3, Tryd.ntmps3
  go_upto_region 1 with (fail)
  rw [← hw1, ← hcb]
  clear hw1 hcb
  go_wp2_with (fail)
  refine HF.out.mono ?_
  rintro e w2 ⟨rfl, hB2⟩
  obtain ⟨B1, hB1⟩ : ∃ b, b = w2.heap.size := ⟨_, rfl⟩
  have HG3 : Hid (Held w B1 [(cb, #[.int .i64 kind, .int .i64 size, .int .i64 slide, .int .i64 late, .int .i64 agg, .int .i64 tk, Sv key, .int .i64 t, .int .i64 mark], 25)] { w2 with drawn := w2.drawn + 1 }) := by
    have h0 : Held w w1.heap.size [(cb, #[.int .i64 kind, .int .i64 size, .int .i64 slide, .int .i64 late, .int .i64 agg, .int .i64 tk, Sv key, .int .i64 t, .int .i64 mark], 25)] w1 := ⟨fun x hx => by
      simp only [List.mem_singleton] at hx
      subst hx
      exact H1.out.1, H1.out.2, Nat.le_refl _⟩
    have h2 := (h0.grow hB2).drew
    rw [← hB1] at h2
    exact h2
  have HLt : Hid (w.heap.size ≤ B1 ∧ ∀ x ∈ [(cb, #[.int .i64 kind, .int .i64 size, .int .i64 slide, .int .i64 late, .int .i64 agg, .int .i64 tk, Sv key, .int .i64 t, .int .i64 mark], 25)], x.1 < B1) := by
    have := HG3.out.lt
    rw [hB1]
    exact this
  have HRm := Lib.hid (roomsT_ok kind size slide late agg tk)
  clear hB2 hB1
  dsimp only
  go_upto_region 3 with (fail)
  refine wp_region_joint (by kernel_rfl) (vOpt [some (.pointer (some ⟨cb, 0, none⟩)), some (.agg #[.int .i64 kind, .int .i64 size, .int .i64 slide, .int .i64 late, .int .i64 agg, .int .i64 tk]), some (.pointer (some ⟨cb, 6, none⟩)), some (Sv key), some (.pointer (some ⟨cb, 7, none⟩)), some (.int .i64 t), some (.pointer (some ⟨cb, 8, none⟩)), some (.int .i64 mark), none, none, some (Sv key), some (.int .i64 t), some (.int .i64 mark)]) (Held w B1 [(cb, #[.int .i64 kind, .int .i64 size, .int .i64 slide, .int .i64 late, .int .i64 agg, .int .i64 tk, Sv key, .int .i64 t, .int .i64 mark], 25)]) (Rooms B1 (roomsT kind size slide late agg tk)) (fun _ _ _ _ h => h) (by kernel_rfl) HG3.out (Rooms.none _ _ _ _) ⟨trivial, trivial, trivial, trivial, trivial, trivial, trivial, trivial, trivial, trivial, trivial, trivial, trivial, trivial⟩ ?_ ?_
  · refine ⟨?_, ?_, ?_, ?_, ?_, ?_, ?_, ?_, ?_, ?_, ?_, ?_, ?_, trivial⟩
    · intro L a w' hG hJ hsz hl hb hout hpre K hK
      clear hsz hl hb
      have q1 := ev_of ((hout 1 rfl).trans (show _ = .pointer (some ⟨cb, 0, none⟩) from rfl))
      clear hout hpre
      go_step
      exact hK _ _ rfl hG (hJ.pure 0 (some 12) _ rfl (Below.refl _ _))
    · intro L a w' hG hJ hsz hl hb hout hpre K hK
      clear hsz hl hb
      obtain ⟨p0, _⟩ := hpre
      have q12 := ev_of (show a.eval (.tmp 12) = .pointer (some ⟨cb, 0, none⟩) from p0)
      have hc0 : w'.cell? ⟨cb, 0, none⟩ = some (.int .i64 kind) := (hG.cell (b := cb) (cs := #[.int .i64 kind, .int .i64 size, .int .i64 slide, .int .i64 late, .int .i64 agg, .int .i64 tk, Sv key, .int .i64 t, .int .i64 mark]) (t := 25) (by simp) 0).trans rfl
      have hc1 : w'.cell? ⟨cb, 1, none⟩ = some (.int .i64 size) := (hG.cell (b := cb) (cs := #[.int .i64 kind, .int .i64 size, .int .i64 slide, .int .i64 late, .int .i64 agg, .int .i64 tk, Sv key, .int .i64 t, .int .i64 mark]) (t := 25) (by simp) 1).trans rfl
      have hc2 : w'.cell? ⟨cb, 2, none⟩ = some (.int .i64 slide) := (hG.cell (b := cb) (cs := #[.int .i64 kind, .int .i64 size, .int .i64 slide, .int .i64 late, .int .i64 agg, .int .i64 tk, Sv key, .int .i64 t, .int .i64 mark]) (t := 25) (by simp) 2).trans rfl
      have hc3 : w'.cell? ⟨cb, 3, none⟩ = some (.int .i64 late) := (hG.cell (b := cb) (cs := #[.int .i64 kind, .int .i64 size, .int .i64 slide, .int .i64 late, .int .i64 agg, .int .i64 tk, Sv key, .int .i64 t, .int .i64 mark]) (t := 25) (by simp) 3).trans rfl
      have hc4 : w'.cell? ⟨cb, 4, none⟩ = some (.int .i64 agg) := (hG.cell (b := cb) (cs := #[.int .i64 kind, .int .i64 size, .int .i64 slide, .int .i64 late, .int .i64 agg, .int .i64 tk, Sv key, .int .i64 t, .int .i64 mark]) (t := 25) (by simp) 4).trans rfl
      have hc5 : w'.cell? ⟨cb, 5, none⟩ = some (.int .i64 tk) := (hG.cell (b := cb) (cs := #[.int .i64 kind, .int .i64 size, .int .i64 slide, .int .i64 late, .int .i64 agg, .int .i64 tk, Sv key, .int .i64 t, .int .i64 mark]) (t := 25) (by simp) 5).trans rfl
      clear hout p0
      go_step
      exact hK _ _ rfl hG (hJ.pure 1 (some 13) _ rfl (Below.refl _ _))
    · intro L a w' hG hJ hsz hl hb hout hpre K hK
      clear hsz hl hb
      have q1 := ev_of ((hout 1 rfl).trans (show _ = .pointer (some ⟨cb, 0, none⟩) from rfl))
      clear hout hpre
      go_step
      exact hK _ _ rfl hG (hJ.pure 2 (some 14) _ rfl (Below.refl _ _))
    · intro L a w' hG hJ hsz hl hb hout hpre K hK
      clear hsz hl hb
      obtain ⟨p0, _⟩ := hpre
      have q14 := ev_of (show a.eval (.tmp 14) = .pointer (some ⟨cb, 6, none⟩) from p0)
      have hc6 : w'.cell? ⟨cb, 6, none⟩ = some (Sv key) := (hG.cell (b := cb) (cs := #[.int .i64 kind, .int .i64 size, .int .i64 slide, .int .i64 late, .int .i64 agg, .int .i64 tk, Sv key, .int .i64 t, .int .i64 mark]) (t := 25) (by simp) 6).trans rfl
      clear hout p0
      go_step
      exact hK _ _ rfl hG (hJ.pure 3 (some 15) _ rfl (Below.refl _ _))
    · intro L a w' hG hJ hsz hl hb hout hpre K hK
      clear hsz hl hb
      have q1 := ev_of ((hout 1 rfl).trans (show _ = .pointer (some ⟨cb, 0, none⟩) from rfl))
      clear hout hpre
      go_step
      exact hK _ _ rfl hG (hJ.pure 4 (some 16) _ rfl (Below.refl _ _))
    · intro L a w' hG hJ hsz hl hb hout hpre K hK
      clear hsz hl hb
      obtain ⟨p0, _⟩ := hpre
      have q16 := ev_of (show a.eval (.tmp 16) = .pointer (some ⟨cb, 7, none⟩) from p0)
      have hc7 : w'.cell? ⟨cb, 7, none⟩ = some (.int .i64 t) := (hG.cell (b := cb) (cs := #[.int .i64 kind, .int .i64 size, .int .i64 slide, .int .i64 late, .int .i64 agg, .int .i64 tk, Sv key, .int .i64 t, .int .i64 mark]) (t := 25) (by simp) 7).trans rfl
      clear hout p0
      go_step
      exact hK _ _ rfl hG (hJ.pure 5 (some 17) _ rfl (Below.refl _ _))
    · intro L a w' hG hJ hsz hl hb hout hpre K hK
      clear hsz hl hb
      have q1 := ev_of ((hout 1 rfl).trans (show _ = .pointer (some ⟨cb, 0, none⟩) from rfl))
      clear hout hpre
      go_step
      exact hK _ _ rfl hG (hJ.pure 6 (some 18) _ rfl (Below.refl _ _))
    · intro L a w' hG hJ hsz hl hb hout hpre K hK
      clear hsz hl hb
      obtain ⟨p0, _⟩ := hpre
      have q18 := ev_of (show a.eval (.tmp 18) = .pointer (some ⟨cb, 8, none⟩) from p0)
      have hc8 : w'.cell? ⟨cb, 8, none⟩ = some (.int .i64 mark) := (hG.cell (b := cb) (cs := #[.int .i64 kind, .int .i64 size, .int .i64 slide, .int .i64 late, .int .i64 agg, .int .i64 tk, Sv key, .int .i64 t, .int .i64 mark]) (t := 25) (by simp) 8).trans rfl
      clear hout p0
      go_step
      exact hK _ _ rfl hG (hJ.pure 7 (some 19) _ rfl (Below.refl _ _))
    · intro L a w' hG hJ hsz hl hb hout hpre K hK
      have HSz := Lib.hid hsz
      clear hout hpre hb hsz
      go_step
      exact hK _ _ trivial (hG.grow ((Below.refl _ w').alloc (Nat.le_refl _) _)) (hJ.alloc HRm.out.1 HRm.out.2 ⟨8, 9, 3, #[.int .i64 0, .int .i64 0, .int .i64 0, .int .i64 0, .int .i64 0, .int .i64 0], #[.int .i64 kind, .int .i64 size, .int .i64 slide, .int .i64 late, .int .i64 agg, .int .i64 tk], 23⟩ (by simp [roomsT]) hl (Nat.lt_of_lt_of_eq (show (3 : Nat) < 60 by decide) (HSz.out.trans (show _ = 60 from rfl)).symm) hG.2.2)
    · intro L a w' hG hJ hsz hl hb hout hpre K hK
      clear hsz
      obtain ⟨p0, p1, _⟩ := hpre
      have hai : L 8 = true := hb ⟨8, .data⟩ (by simp) (by decide)
      obtain ⟨g, h1, h2, h3, hR⟩ := hJ.store HRm.out.1 HRm.out.2 ⟨8, 9, 3, #[.int .i64 0, .int .i64 0, .int .i64 0, .int .i64 0, .int .i64 0, .int .i64 0], #[.int .i64 kind, .int .i64 size, .int .i64 slide, .int .i64 late, .int .i64 agg, .int .i64 tk], 23⟩ (by simp [roomsT]) hai hl
      refine wp_store_row 23 (.tmp 3) (.tmp 13) rfl g #[.int .i64 kind, .int .i64 size, .int .i64 slide, .int .i64 late, .int .i64 agg, .int .i64 tk] h1 p1 23 #[.int .i64 0, .int .i64 0, .int .i64 0, .int .i64 0, .int .i64 0, .int .i64 0] h3 (by kernel_rfl) rfl (query_one ⟨kind, size, slide, late, agg, tk⟩) ?_
      exact hK _ _ trivial (hG.set (fun x hx => Nat.lt_of_lt_of_le (HLt.out.2 x hx) h2) (Nat.le_trans HLt.out.1 h2)) hR
    · intro L a w' hG hJ hsz hl hb hout hpre K hK
      clear hsz hl hb
      obtain ⟨p0, _⟩ := hpre
      have q15 := ev_of (show a.eval (.tmp 15) = Sv key from p0)
      clear hout p0
      go_step
      exact hK _ _ rfl hG (hJ.pure 10 (some 4) _ rfl (Below.refl _ _))
    · intro L a w' hG hJ hsz hl hb hout hpre K hK
      clear hsz hl hb
      obtain ⟨p0, _⟩ := hpre
      have q17 := ev_of (show a.eval (.tmp 17) = .int .i64 t from p0)
      clear hout p0
      go_step
      exact hK _ _ rfl hG (hJ.pure 11 (some 5) _ rfl (Below.refl _ _))
    · intro L a w' hG hJ hsz hl hb hout hpre K hK
      clear hsz hl hb
      obtain ⟨p0, _⟩ := hpre
      have q19 := ev_of (show a.eval (.tmp 19) = .int .i64 mark from p0)
      clear hout p0
      go_step
      exact hK _ _ rfl hG (hJ.pure 12 (some 6) _ rfl (Below.refl _ _))
  · intro vs a w2 hG hlen hV hJ
    match vs, hlen, hV with
    | [v0, v1, v2, v3, v4, v5, v6, v7, v8, v9, v10, v11, v12], _, hV =>
      obtain ⟨L, hR, hL⟩ := hJ
      obtain ⟨qb, e1, _, qbr⟩ := hR.1 ⟨8, 9, 3, #[.int .i64 0, .int .i64 0, .int .i64 0, .int .i64 0, .int .i64 0, .int .i64 0], #[.int .i64 kind, .int .i64 size, .int .i64 slide, .int .i64 late, .int .i64 agg, .int .i64 tk], 23⟩ (by simp [roomsT]) (hL 8 (by decide))
      have qbr := qbr
      simp only [hL 9 (by decide), if_true] at qbr
      obtain rfl : v8 = .pointer (some ⟨qb, 0, none⟩) := (hV 8 3 v8 rfl rfl).2.trans e1
      clear e1
      obtain rfl : v10 = Sv key := (hV 10 4 v10 rfl rfl).1
      obtain rfl : v11 = .int .i64 t := (hV 11 5 v11 rfl rfl).1
      obtain rfl : v12 = .int .i64 mark := (hV 12 6 v12 rfl rfl).1
      clear hV hR hL
      simp only [putsL, List.tail_cons, List.headD_cons]
      simp only [Act.put, List.setIfInBounds_toArray, List.set_cons_succ, List.set_cons_zero]
      have h4 := hG.more qbr
      have HR3 : Hid (RowQ w2 qb ⟨kind, size, slide, late, agg, tk⟩ ∧ Below w.heap.size w w2) := Lib.hid ⟨h4.1 (qb, #[.int .i64 kind, .int .i64 size, .int .i64 slide, .int .i64 late, .int .i64 agg, .int .i64 tk], 23) (by simp), h4.2.1⟩
      obtain ⟨wq, hwq⟩ : ∃ W, W = w2 := ⟨_, rfl⟩
      have HR : Hid (RowQ wq qb X ∧ Below w.heap.size w wq) := by
        rw [hwq, HX.out]
        exact HR3.out
      rw [← hwq]
      clear hwq h4 hG qbr HLt HRm HR3
      by_cases hm : 60 < M
      · have hm' : (60 : Int) < (M : Int) := by omega
        clear hm
        go_wp2_with (fail)
        go_ret
        exact ⟨rfl, HR.out.2⟩
      have hm' : ¬ (60 : Int) < (M : Int) := by omega
      have HK : Hid (key.length ≤ 60) := Lib.hid (by have := HM.out; omega)
      clear hm
      have HOf : Hid ((∀ w', Calls Tryd.prog 9 #[.agg #[.int .i64 kind, .int .i64 size, .int .i64 slide, .int .i64 late, .int .i64 agg, .int .i64 tk], Sv key, .int .i64 t] w' (WinsEnd w' (ofW X key t))) ∧ (∀ w', Calls Tryd.prog 11 #[.agg #[.int .i64 kind, .int .i64 size, .int .i64 slide, .int .i64 late, .int .i64 agg, .int .i64 tk], Sv key, .int .i64 t] w' (WinsEnd w' (ofW X key t)))) := by
        rw [HXe.out]
        exact Lib.hid ⟨fun w' => wof_any w' X key t (by have := HK.out; omega), fun w' => rwOf_any w' X key t (by have := HK.out; omega)⟩
      obtain ⟨d0, d1, d2, d3, d4, d5⟩ : D6 wq qb kind size slide late agg tk := by
        have h := HR.out.1.d6
        rw [HX.out] at h
        exact h
      go_wp2_with (fail)
      refine (HOf.out.1 wq).mono ?_
      rintro e w4 ⟨la, lc, rfl, hcap, hL, hB⟩
      have H4 : Hid (WinsAt w4 la (ofW X key t) ∧ Below wq.heap.size wq w4) := Lib.hid ⟨hL, hB⟩
      clear hcap hL hB d0 d1 d2 d3 d4 d5
      obtain ⟨d0, d1, d2, d3, d4, d5⟩ : D6 w4 qb kind size slide late agg tk := by
        have h := (HR.out.1.below H4.out.2).d6
        rw [HX.out] at h
        exact h
      dsimp only
      go_wp2_with (fail)
      refine (HOf.out.2 w4).mono ?_
      rintro e w5 ⟨lb, lc2, rfl, hcap, hL, hB⟩
      have H5 : Hid (WinsAt w5 lb (ofW X key t) ∧ WinsAt w5 la (ofW X key t) ∧ Below wq.heap.size wq w5) := Lib.hid ⟨hL, H4.out.1.below hB, H4.out.2.trans (hB.mono H4.out.2.size)⟩
      clear hcap hL hB d0 d1 d2 d3 d4 d5
      dsimp only
      have HSm : Hid (Calls Tryd.prog 10 #[.slice la (ofW X key t).length lc, .slice lb (ofW X key t).length lc2] w5 (Below0 w5 (.bool true))) := by
        have h := rwSame_any w5 la lb lc lc2 (ofW X key t) (ofW X key t) H5.out.2.1 H5.out.1 (by have := ofW_len X key t; omega)
        rw [decide_eq_true rfl] at h
        exact Lib.hid h
      go_wp2_with (fail)
      refine HSm.out.mono ?_
      rintro e w6 ⟨rfl, hB⟩
      have H6 : Hid (WinsAt w6 la (ofW X key t) ∧ Below wq.heap.size wq w6) := Lib.hid ⟨H5.out.2.1.below hB, H5.out.2.2.trans (hB.mono H5.out.2.2.size)⟩
      clear hB HSm
      dsimp only
      obtain ⟨N, hN⟩ : ∃ N, N = (ofW X key t).length := ⟨_, rfl⟩
      have HN : Hid (N = (ofW X key t).length ∧ N ≤ 16) := Lib.hid ⟨hN, by rw [hN]; exact ofW_len X key t⟩
      rw [← hN]
      have hN16 : N ≤ 16 := HN.out.2
      clear hN
      go_wp2_with (fail)
      go_loopw [36] (TellRel w6 (ofW X key t).length) (fun i _ => N - (intOf i).toNat)
      case atStart => exact ⟨0, Nat.zero_le _, rfl, Below.refl _ _⟩
      case round =>
        obtain ⟨j, hj, rfl, hBw⟩ := hrel
        rw [← HN.out.1] at hj
        by_cases hlt : j < N
        · have hi0 : (0 : Int) ≤ (j : Int) ∧ (j : Int) < (N : Int) := by omega
          obtain ⟨x, pa, oa, hx, rfl, c0, c1, c2⟩ := (H6.out.1.below hBw).get (t := j) (by rw [← HN.out.1]; exact hlt)
          have HGd := Lib.hid (ofW_good (List.mem_of_getElem? hx))
          have HBw := Lib.hid hBw
          have HJ : Hid (j + 1 ≤ (ofW X key t).length ∧ j < N) := Lib.hid ⟨by rw [← HN.out.1]; omega, hlt⟩
          obtain ⟨xk, xl, xh⟩ := x
          simp only at c0 c1 c2
          clear hx hBw hj hlt
          go_upto_region 11 with (fail)
          refine wp_region_lit ?_
          first
            | (iterate 6 go_step
               refine wpList_store_row rfl _ _ _ rfl wr.heap.size (WindowL.mk xk xl xh).cells rfl rfl 31 zeroW.cells (heap_alloc_new wr _) window_size rfl (window_one _) ?_)
            | (iterate 7 go_step
               refine wpList_store_row rfl _ _ _ rfl wr.heap.size (WindowL.mk xk xl xh).cells rfl rfl 31 zeroW.cells (heap_alloc_new wr _) window_size rfl (window_one _) ?_)
            | (iterate 8 go_step
               refine wpList_store_row rfl _ _ _ rfl wr.heap.size (WindowL.mk xk xl xh).cells rfl rfl 31 zeroW.cells (heap_alloc_new wr _) window_size rfl (window_one _) ?_)
            | (iterate 9 go_step
               refine wpList_store_row rfl _ _ _ rfl wr.heap.size (WindowL.mk xk xl xh).cells rfl rfl 31 zeroW.cells (heap_alloc_new wr _) window_size rfl (window_one _) ?_)
            | (iterate 10 go_step
               refine wpList_store_row rfl _ _ _ rfl wr.heap.size (WindowL.mk xk xl xh).cells rfl rfl 31 zeroW.cells (heap_alloc_new wr _) window_size rfl (window_one _) ?_)
            | (iterate 11 go_step
               refine wpList_store_row rfl _ _ _ rfl wr.heap.size (WindowL.mk xk xl xh).cells rfl rfl 31 zeroW.cells (heap_alloc_new wr _) window_size rfl (window_one _) ?_)
            | (iterate 12 go_step
               refine wpList_store_row rfl _ _ _ rfl wr.heap.size (WindowL.mk xk xl xh).cells rfl rfl 31 zeroW.cells (heap_alloc_new wr _) window_size rfl (window_one _) ?_)
            | (iterate 13 go_step
               refine wpList_store_row rfl _ _ _ rfl wr.heap.size (WindowL.mk xk xl xh).cells rfl rfl 31 zeroW.cells (heap_alloc_new wr _) window_size rfl (window_one _) ?_)
            | (iterate 14 go_step
               refine wpList_store_row rfl _ _ _ rfl wr.heap.size (WindowL.mk xk xl xh).cells rfl rfl 31 zeroW.cells (heap_alloc_new wr _) window_size rfl (window_one _) ?_)
            | (iterate 15 go_step
               refine wpList_store_row rfl _ _ _ rfl wr.heap.size (WindowL.mk xk xl xh).cells rfl rfl 31 zeroW.cells (heap_alloc_new wr _) window_size rfl (window_one _) ?_)
          obtain ⟨wx, hwx⟩ : ∃ W, W = (wr.alloc (Obj.cells #[.string ⟨#[]⟩, .int .i64 0, .int .i64 0] 31)).setRow wr.heap.size (WindowL.mk xk xl xh).cells := ⟨_, rfl⟩
          obtain ⟨wb, hwb⟩ : ∃ b, b = wr.heap.size := ⟨_, rfl⟩
          have HX2 : Hid (RowW wx wb ⟨xk, xl, xh⟩ ∧ Below w6.heap.size w6 wx) := by
            obtain ⟨k1, k2⟩ := stored_window wr ⟨xk, xl, xh⟩
            rw [hwx, hwb]
            exact Lib.hid ⟨k1, HBw.out.trans (k2.mono HBw.out.size)⟩
          rw [← hwx, ← hwb]
          clear hwx hwb c0 c1 c2
          go_upto_region 12 with (fail)
          have HWx : Hid (Below w6.heap.size w6 wx) := Lib.hid HX2.out.2
          have HG0 : Hid (Below wx.heap.size wx wx.drew) := (Below.refl _ wx).drew
          obtain ⟨VQ, hVQ⟩ : ∃ V, V = Value.agg #[.int .i64 kind, .int .i64 size, .int .i64 slide, .int .i64 late, .int .i64 agg, .int .i64 tk] := ⟨_, rfl⟩
          obtain ⟨VW, hVW⟩ : ∃ V, V = Value.agg (WindowL.mk xk xl xh).cells := ⟨_, rfl⟩
          have HV : Hid (VQ = Value.agg #[.int .i64 kind, .int .i64 size, .int .i64 slide, .int .i64 late, .int .i64 agg, .int .i64 tk] ∧ VW = Value.agg (WindowL.mk xk xl xh).cells) := Lib.hid ⟨hVQ, hVW⟩
          have HD : Hid (∀ w', Below wx.heap.size wx w' → D6 w' qb kind size slide late agg tk ∧ D3 w' wb xk xl xh) := by
            refine Lib.hid (fun w' h => ?_)
            have h2 := (HR.out.1.below (H6.out.2.trans ((HX2.out.2.trans (h.mono HX2.out.2.size)).mono H6.out.2.size))).d6
            rw [HX.out] at h2
            exact ⟨h2, (HX2.out.1.below h).d3⟩
          obtain ⟨rp, hrp⟩ : ∃ b, b = decide (xh ≤ mark) := ⟨_, rfl⟩
          obtain ⟨gn, hgn⟩ : ∃ b, b = decide (xh + late ≤ mark) := ⟨_, rfl⟩
          have HRp : Hid (decide (xh ≤ mark) = rp) := Lib.hid hrp.symm
          have HCl : Hid ((∀ w', Calls Tryd.prog 12 #[VW, .int .i64 mark] w' (Below0 w' (.bool rp))) ∧ (∀ w', Calls Tryd.prog 13 #[VQ, VW, .int .i64 mark] w' (Below0 w' (.bool gn))) ∧ (∀ w', Calls Tryd.prog 14 #[VQ, VW, .int .i64 mark] w' (Below0 w' (.bool gn)))) := by
            obtain ⟨g1, g2, g3, g4, g5, g6⟩ := HGd.out
            simp only at g4 g5 g6
            have hkl : (WindowL.mk xk xl xh).key.length ≤ 1000000 := by
              show xk.length ≤ 1000000
              rw [g6]
              have := HK.out
              omega
            have hb := rightQ_bd g1
            rw [HX.out] at hb g1
            have hb := hb.2.2.2.2.2.2
            simp only at hb
            obtain ⟨r1, r2, r3, r4, r5, r6, r7⟩ := rightW_cases g2
            simp only at r4 r6 r7
            rw [hVQ, hVW, hrp, hgn]
            refine Lib.hid ⟨fun w' => ?_, fun w' => ?_, fun w' => ?_⟩
            · have h := wripe_any w' (WindowL.mk xk xl xh) mark hkl
              rw [ripeW, g2, Bool.true_and] at h
              exact h
            · have h := wgone_any w' ⟨kind, size, slide, late, agg, tk⟩ (WindowL.mk xk xl xh) mark hkl
              rw [goneW, g1, g2, Bool.true_and, Bool.true_and] at h
              exact h
            · exact rwGone_any w' ⟨kind, size, slide, late, agg, tk⟩ (WindowL.mk xk xl xh) mark ⟨by show 0 ≤ xh; omega, r7⟩ ⟨hb.1, hb.2.1⟩
          clear hVQ hVW hrp hgn
          refine wp_region_seq_frame (by kernel_rfl) [none, none, none, none, none, none, none, none, none, none, none, none, none, none, none, none, none, none, none] [] (vOfT (stE (VW) :: stE (.int .i64 mark) :: stE (.bool rp) :: stE (.pointer (some ⟨wb, 2, none⟩)) :: stE (.int .i64 xh) :: stE (.int .i64 mark) :: stE (.bool rp) :: stE (.bool false) :: stE (.bool false) :: stE (VQ) :: stE (VW) :: stE (.int .i64 mark) :: stE (.bool gn) :: stE (VQ) :: stE (VW) :: stE (.int .i64 mark) :: stE (.bool gn) :: stE (.bool false) :: stE (.bool false) :: ([] : List _))) (fun _ w' => Below wx.heap.size wx w') (fun w w' => Below w.heap.size w w') (vOfT_st _) (by kernel_rfl) (by kernel_rfl) (by kernel_rfl) HG0.out ⟨trivial, trivial, trivial, trivial, trivial, trivial, trivial, trivial, trivial, fun _ _ h => h, fun _ _ h => h, fun _ _ h => h, fun _ _ h => h, fun _ _ h => h, fun _ _ h => h, fun _ _ h => h, fun _ _ h => h, fun _ _ h => h, trivial, trivial⟩ ?_ ?_
          · refine ⟨?_, ?_, ?_, ?_, ?_, ?_, ?_, ?_, ?_, ?_, ?_, ?_, ?_, ?_, ?_, ?_, ?_, ?_, ?_, trivial⟩
            · intro k a w' hG hout hpre K hK
              have q9 := ev_of ((hout 9 rfl).trans (show _ = .pointer (some ⟨wb, 0, none⟩) from rfl))
              obtain ⟨d0, d1, d2⟩ := (HD.out w' hG).2
              clear hout hpre
              go_step
              exact hK _ _ HV.out.2.symm hG (Below.refl _ _)
            · intro k a w' hG hout hpre K hK
              have q6 := ev_of ((hout 6 rfl).trans (show _ = .int .i64 mark from rfl))
              clear hout hpre
              go_step
              exact hK _ _ rfl hG (Below.refl _ _)
            · intro k a w' hG hout hpre K hK
              obtain ⟨p0, p1, _⟩ := hpre
              have q40 := ev_of (show a.eval (.tmp 40) = VW from p0)
              have q41 := ev_of (show a.eval (.tmp 41) = .int .i64 mark from p1)
              have HS := Lib.hid (HCl.out.1 w')
              clear hout p0 p1
              go_step
              refine HS.out.mono ?_
              rintro e w3 ⟨rfl, hB⟩
              exact hK _ _ rfl (hG.trans (hB.mono hG.size)) hB
            · intro k a w' hG hout hpre K hK
              have q9 := ev_of ((hout 9 rfl).trans (show _ = .pointer (some ⟨wb, 0, none⟩) from rfl))
              clear hout hpre
              go_step
              exact hK _ _ rfl hG (Below.refl _ _)
            · intro k a w' hG hout hpre K hK
              obtain ⟨p0, _⟩ := hpre
              have q43 := ev_of (show a.eval (.tmp 43) = .pointer (some ⟨wb, 2, none⟩) from p0)
              obtain ⟨d0, d1, d2⟩ := (HD.out w' hG).2
              clear hout p0
              go_step
              exact hK _ _ rfl hG (Below.refl _ _)
            · intro k a w' hG hout hpre K hK
              have q6 := ev_of ((hout 6 rfl).trans (show _ = .int .i64 mark from rfl))
              clear hout hpre
              go_step
              exact hK _ _ rfl hG (Below.refl _ _)
            · intro k a w' hG hout hpre K hK
              obtain ⟨p0, p1, _⟩ := hpre
              have q44 := ev_of (show a.eval (.tmp 44) = .int .i64 xh from p0)
              have q45 := ev_of (show a.eval (.tmp 45) = .int .i64 mark from p1)
              have hd := HRp.out
              clear hout p0 p1
              go_step
              exact hK _ _ rfl hG (Below.refl _ _)
            · intro k a w' hG hout hpre K hK
              obtain ⟨p0, p1, _⟩ := hpre
              have q42 := ev_of (show a.eval (.tmp 42) = .bool rp from p0)
              have q46 := ev_of (show a.eval (.tmp 46) = .bool rp from p1)
              have he : (rp != rp) = false := by simp
              clear hout p0 p1
              go_step
              exact hK _ _ rfl hG (Below.refl _ _)
            · intro k a w' hG hout hpre K hK
              obtain ⟨p0, _⟩ := hpre
              have q47 := ev_of (show a.eval (.tmp 47) = .bool false from p0)
              clear hout p0
              go_step
              exact hK _ _ rfl hG (Below.refl _ _)
            · intro k a w' hG hout hpre K hK
              have q3 := ev_of ((hout 3 rfl).trans (show _ = .pointer (some ⟨qb, 0, none⟩) from rfl))
              obtain ⟨d0, d1, d2, d3, d4, d5⟩ := (HD.out w' hG).1
              clear hout hpre
              go_step
              exact hK _ _ HV.out.1.symm hG (Below.refl _ _)
            · intro k a w' hG hout hpre K hK
              have q9 := ev_of ((hout 9 rfl).trans (show _ = .pointer (some ⟨wb, 0, none⟩) from rfl))
              obtain ⟨d0, d1, d2⟩ := (HD.out w' hG).2
              clear hout hpre
              go_step
              exact hK _ _ HV.out.2.symm hG (Below.refl _ _)
            · intro k a w' hG hout hpre K hK
              have q6 := ev_of ((hout 6 rfl).trans (show _ = .int .i64 mark from rfl))
              clear hout hpre
              go_step
              exact hK _ _ rfl hG (Below.refl _ _)
            · intro k a w' hG hout hpre K hK
              obtain ⟨p0, p1, p2, _⟩ := hpre
              have q49 := ev_of (show a.eval (.tmp 49) = VQ from p0)
              have q50 := ev_of (show a.eval (.tmp 50) = VW from p1)
              have q51 := ev_of (show a.eval (.tmp 51) = .int .i64 mark from p2)
              have HS := Lib.hid (HCl.out.2.1 w')
              clear hout p0 p1 p2
              go_step
              refine HS.out.mono ?_
              rintro e w3 ⟨rfl, hB⟩
              exact hK _ _ rfl (hG.trans (hB.mono hG.size)) hB
            · intro k a w' hG hout hpre K hK
              have q3 := ev_of ((hout 3 rfl).trans (show _ = .pointer (some ⟨qb, 0, none⟩) from rfl))
              obtain ⟨d0, d1, d2, d3, d4, d5⟩ := (HD.out w' hG).1
              clear hout hpre
              go_step
              exact hK _ _ HV.out.1.symm hG (Below.refl _ _)
            · intro k a w' hG hout hpre K hK
              have q9 := ev_of ((hout 9 rfl).trans (show _ = .pointer (some ⟨wb, 0, none⟩) from rfl))
              obtain ⟨d0, d1, d2⟩ := (HD.out w' hG).2
              clear hout hpre
              go_step
              exact hK _ _ HV.out.2.symm hG (Below.refl _ _)
            · intro k a w' hG hout hpre K hK
              have q6 := ev_of ((hout 6 rfl).trans (show _ = .int .i64 mark from rfl))
              clear hout hpre
              go_step
              exact hK _ _ rfl hG (Below.refl _ _)
            · intro k a w' hG hout hpre K hK
              obtain ⟨p0, p1, p2, _⟩ := hpre
              have q53 := ev_of (show a.eval (.tmp 53) = VQ from p0)
              have q54 := ev_of (show a.eval (.tmp 54) = VW from p1)
              have q55 := ev_of (show a.eval (.tmp 55) = .int .i64 mark from p2)
              have HS := Lib.hid (HCl.out.2.2 w')
              clear hout p0 p1 p2
              go_step
              refine HS.out.mono ?_
              rintro e w3 ⟨rfl, hB⟩
              exact hK _ _ rfl (hG.trans (hB.mono hG.size)) hB
            · intro k a w' hG hout hpre K hK
              obtain ⟨p0, p1, _⟩ := hpre
              have q52 := ev_of (show a.eval (.tmp 52) = .bool gn from p0)
              have q56 := ev_of (show a.eval (.tmp 56) = .bool gn from p1)
              have he : (gn != gn) = false := by simp
              clear hout p0 p1
              go_step
              exact hK _ _ rfl hG (Below.refl _ _)
            · intro k a w' hG hout hpre K hK
              obtain ⟨p0, p1, _⟩ := hpre
              have q48 := ev_of (show a.eval (.tmp 48) = .bool false from p0)
              have q57 := ev_of (show a.eval (.tmp 57) = .bool false from p1)
              clear hout p0 p1
              go_step
              exact hK _ _ rfl hG (Below.refl _ _)
          · intro vs w2 hG hlen hV
            match vs, hlen, hV with
            | [v0, v1, v2, v3, v4, v5, v6, v7, v8, v9, v10, v11, v12, v13, v14, v15, v16, v17, v18], _, hV =>
              obtain rfl : v18 = .bool false := hV 18 58 v18 rfl rfl
              clear hV
              simp only [putsL, List.tail_cons, List.headD_cons]
              simp only [Act.put, List.setIfInBounds_toArray, List.set_cons_succ, List.set_cons_zero]
              have HZ : Hid (TellRel w6 (ofW X key t).length (.int .i64 ((j : Int) + 1)) w2) := by
                refine Lib.hid ⟨j + 1, by have := HJ.out.1; omega, by go_num, HWx.out.trans (hG.mono HWx.out.size)⟩
              clear hG
              go_wp2_with (fail)
              go_roundw
              case rel => exact HZ.out
              case measure => have := HJ.out.2; simp [intOf]; omega
        · obtain rfl : j = N := by omega
          have HZ : Hid (Below w.heap.size w wr) := by
            have h1 := HR.out.2.trans (H6.out.2.mono HR.out.2.size)
            exact Lib.hid (h1.trans (hBw.mono h1.size))
          clear hBw hj hlt
          go_wp2_with (fail)
          go_ret
          exact ⟨rfl, HZ.out⟩
end Go.Proofs.YtkgmcjeficgciaaDoor
