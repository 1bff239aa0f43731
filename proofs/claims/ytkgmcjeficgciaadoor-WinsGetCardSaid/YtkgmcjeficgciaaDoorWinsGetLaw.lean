/-
  WinsGet, whatever window, bytes and text it is called with.
-/
import Derived.Test.YtkgmcjeficgciaaDoorWinsFirst
import Derived.Test.YtkgmcjeficgciaaDoorWinsMore
import Derived.Test.YtkgmcjeficgciaaDoorRefWText
import Derived.Test.YtkgmcjeficgciaaDoorRefWGet
import Derived.Test.YtkgmcjeficgciaaDoorRefWParse
import Derived.Test.YtkgmcjeficgciaaDoorReadBack
namespace Go.Proofs.YtkgmcjeficgciaaDoor
open Go Go.RowKit

def stRdW (B0 : Nat) (m : List (BitVec 8)) : StT (fun w w' => Below w.heap.size w w') :=
  ⟨fun w v => ∃ g base, v = .pointer (some ⟨g, 0, none⟩) ∧ B0 ≤ g ∧ base ≤ w.heap.size ∧ RdAt base w g ⟨m, 0⟩, fun _ _ _ h ⟨g, base, h1, h2, h3, h4⟩ => ⟨g, base, h1, h2, Nat.le_trans h3 h.size, h4.below h⟩⟩
/-- The pen, the reader, the tape, rows of windows; what is below w's end is as it was. -/
def GW (w W6 : World) (pb rb tb base : Nat) (rows : List (Nat × WindowL)) (lp : List (BitVec 8)) (tr tt : TapeL) (w' : World) : Prop :=
  PenAt (fun k => k < W6.heap.size) w' pb lp ∧ RdAt base w' rb tr ∧ TapeAt w' tb tt ∧ (∀ p ∈ rows, RowW w' p.1 p.2) ∧ Below w.heap.size w w' ∧ W6.heap.size ≤ w'.heap.size
theorem GW.below {w W6 w' w2 : World} {pb rb tb base : Nat} {rows : List (Nat × WindowL)} {lp : List (BitVec 8)} {tr tt : TapeL} (h : GW w W6 pb rb tb base rows lp tr tt w') (hB : Below w'.heap.size w' w2) : GW w W6 pb rb tb base rows lp tr tt w2 :=
  ⟨h.1.below hB, h.2.1.below hB, TapeAt.farW h.2.2.1 hB, fun p hp => (h.2.2.2.1 p hp).below hB, h.2.2.2.2.1.trans (hB.mono h.2.2.2.2.1.size), Nat.le_trans h.2.2.2.2.2 hB.size⟩
theorem row_ne {w : World} {b c : Nat} {x y : Array Value} {t u : TypeId} {f g : Nat × Nat} (h : w.heap[b]? = some (.cells x t f)) (k : w.heap[c]? = some (.cells y u g)) (hne : t ≠ u) : b ≠ c := by
  rintro rfl
  rw [h] at k
  injection k with k
  injection k with _ e
  exact hne e
theorem GW.put {w W6 w' w2 : World} {pb rb tb base : Nat} {rows : List (Nat × WindowL)} {lp lq : List (BitVec 8)} {tr tt : TapeL} (h : GW w W6 pb rb tb base rows lp tr tt w') (hp : PenAt (fun k => k < W6.heap.size) w2 pb lq) (hk : PKept (fun k => k < W6.heap.size) pb w' w2)
    (hb : base ≤ W6.heap.size) (hw : w.heap.size ≤ pb) (hw6 : w.heap.size ≤ W6.heap.size) : GW w W6 pb rb tb base rows lq tr tt w2 := by
  obtain ⟨v, hq, _⟩ := h.1
  exact ⟨hp, RdAt.pen h.2.1 h.1 hk (fun k hk => by omega), hk.row h.2.2.1 (by decide) (row_ne h.2.2.1 hq (by decide)), fun p hp => hk.row (h.2.2.2.1 p hp) (by decide) (row_ne (h.2.2.2.1 p hp) hq (by decide)),
    h.2.2.2.2.1.trans (hk.below (B := w.heap.size) (fun k hk => by omega) hw (Nat.le_trans hw6 h.2.2.2.2.2)), Nat.le_trans h.2.2.2.2.2 hk.size⟩
theorem RdAt.rowR {base b : Nat} {w : World} {t : TapeL} (h : RdAt base w b t) : ∃ c f, w.heap[b]? = some (.cells c 76 f) := by
  obtain ⟨_, _, _, h, _⟩ := h
  exact ⟨_, _, h⟩
theorem GW.rd {w W6 w' w2 : World} {pb rb tb base : Nat} {rows : List (Nat × WindowL)} {lp : List (BitVec 8)} {tr tr2 tt : TapeL} (h : GW w W6 pb rb tb base rows lp tr tt w') (k1 : RdAt base w2 rb tr2) (k2 : w'.grownBy w2 (some rb)) (hrb : w.heap.size ≤ rb) :
    GW w W6 pb rb tb base rows lp tr2 tt w2 := by
  obtain ⟨c, f, hq⟩ := h.2.1.rowR
  exact ⟨PenAt.aside h.1 h.2.1 k2, k1, TapeAt.aside h.2.1 h.2.2.1 k2, fun p hp => (k2.block p.1 (h.2.2.2.1 p hp).lt (by simpa using row_ne (h.2.2.2.1 p hp) hq (by decide))).trans (h.2.2.2.1 p hp),
    h.2.2.2.2.1.trans ⟨k2.os, k2.tape, k2.output, k2.size, fun k hk => k2.block k (Nat.lt_of_lt_of_le hk h.2.2.2.2.1.size) (by simp; omega)⟩, Nat.le_trans h.2.2.2.2.2 k2.size⟩
theorem GW.tp {w W6 w' w2 : World} {pb rb tb base : Nat} {rows : List (Nat × WindowL)} {lp : List (BitVec 8)} {tr tt tt2 : TapeL} (h : GW w W6 pb rb tb base rows lp tr tt w') (k1 : TapeAt w2 tb tt2) (k2 : w'.grownBy w2 (some tb)) (htb : w.heap.size ≤ tb) :
    GW w W6 pb rb tb base rows lp tr tt2 w2 := by
  obtain ⟨v, hq, ho, hX⟩ := h.1
  have hne : pb ≠ tb := row_ne hq h.2.2.1 (by decide)
  exact ⟨⟨v, (k2.block pb (Array.getElem?_eq_some_iff.1 hq).1 (by simpa using hne)).trans hq, ho.kept k2 (.inr (own_ne2 ho h.2.2.1 (by decide))), hX⟩, RdAt.aside h.2.1 h.2.2.1 k2, k1,
    fun p hp => (k2.block p.1 (h.2.2.2.1 p hp).lt (by simpa using row_ne (h.2.2.2.1 p hp) h.2.2.1 (by decide))).trans (h.2.2.2.1 p hp),
    h.2.2.2.2.1.trans ⟨k2.os, k2.tape, k2.output, k2.size, fun k hk => k2.block k (Nat.lt_of_lt_of_le hk h.2.2.2.2.1.size) (by simp; omega)⟩, Nat.le_trans h.2.2.2.2.2 k2.size⟩
set_option maxRecDepth 100000 in
set_option maxHeartbeats 8000000 in
theorem winsGet_any (w : World) (x : WindowL) (ba : Option Addr) (bc M : Nat) (m : List (BitVec 8)) (s : List (BitVec 8)) (hm : M = m.length) (hs : SrcP w ba m.length m) (hbc : ba = none → bc = 0) (hI : WinsIn w) :
    Calls Tryd.prog 5 #[.agg x.cells, .slice ba M bc, Sv s] w (Below0 w (.bool true)) := by
  obtain ⟨xk, xl, xh⟩ := x
  obtain ⟨w0, hw0⟩ : ∃ W, W = w.alloc (.cells (WindowL.mk xk xl xh).cells 31) := ⟨_, rfl⟩
  obtain ⟨xb, hxb⟩ : ∃ b, b = w.heap.size := ⟨_, rfl⟩
  have H0 : Hid (RowW w0 xb ⟨xk, xl, xh⟩ ∧ Below w.heap.size w w0) := by
    rw [hw0, hxb]
    exact Lib.hid ⟨heap_alloc_new w _, (Below.refl _ w).alloc (Nat.le_refl _) _⟩
  have HF := Lib.hid (wfirst_any w0 (hI.below H0.out.2))
  have HLb : Hid (∀ w', Below w.heap.size w w' → WinsIn w') := Lib.hid (fun w' h => hI.below h)
  have HS0 := Lib.hid hs
  have HMm := Lib.hid (And.intro hm hbc)
  obtain ⟨KL, hKL⟩ : ∃ n, n = xk.length := ⟨_, rfl⟩
  obtain ⟨SL, hSL⟩ : ∃ n, n = s.length := ⟨_, rfl⟩
  have HKL := Lib.hid (And.intro hKL hSL)
  have hlenK : ∀ w ty, (Builtin.len_ #[9] ty #[Sv xk]).run Tryd.prog w = .ok (.int .i64 (KL : Int)) w := by
    rw [hKL]
    exact fun w ty => run_len_Sv w ty xk
  have hlenS : ∀ w ty, (Builtin.len_ #[9] ty #[Sv s]).run Tryd.prog w = .ok (.int .i64 (SL : Int)) w := by
    rw [hSL]
    exact fun w ty => run_len_Sv w ty s
  unfold WindowL.cells at hw0
  unfold WindowL.cells
  simp only at hw0 ⊢
  clear hI hs hm hbc hKL hSL
  go_enter Tryd.func5, Tryd.ntmps5
  go_upto_region 1 with (fail)
  rw [← hw0, ← hxb]
  clear hw0 hxb
  go_wp2_with (fail)
  refine HF.out.mono ?_
  rintro e w1 ⟨rfl, hB⟩
  have H1 : Hid (RowW w1 xb ⟨xk, xl, xh⟩ ∧ Below w.heap.size w w1) := Lib.hid ⟨H0.out.1.below hB, H0.out.2.trans (hB.mono H0.out.2.size)⟩
  clear hB
  obtain ⟨d0, d1, d2⟩ : D3 w1 xb xk xl xh := H1.out.1.d3
  dsimp only
  by_cases hm1 : 60 < KL
  · have hm1' : (60 : Int) < (KL : Int) := by omega
    clear hm1
    go_wp2_with (fail)
    go_ret
    exact ⟨rfl, H1.out.2⟩
  have hm1' : ¬ (60 : Int) < (KL : Int) := by omega
  by_cases hm2 : 200 < M
  · have hm2' : (200 : Int) < (M : Int) := by omega
    clear hm1 hm2
    go_wp2_with (fail)
    go_ret
    exact ⟨rfl, H1.out.2⟩
  have hm2' : ¬ (200 : Int) < (M : Int) := by omega
  by_cases hm3 : 200 < SL
  · have hm3' : (200 : Int) < (SL : Int) := by omega
    clear hm1 hm2 hm3
    go_wp2_with (fail)
    go_ret
    exact ⟨rfl, H1.out.2⟩
  have hm3' : ¬ (200 : Int) < (SL : Int) := by omega
  have HM : Hid (M = m.length ∧ (ba = none → bc = 0) ∧ M ≤ 200) := Lib.hid ⟨HMm.out.1, HMm.out.2, by omega⟩
  have HKl : Hid ((WindowL.mk xk xl xh).key.length ≤ 1000000) := Lib.hid (by have := HKL.out.1; show xk.length ≤ 1000000; omega)
  have HSl : Hid (s.length ≤ 200) := Lib.hid (by have := HKL.out.2; omega)
  clear hm1 hm2 hm3
  obtain ⟨r, hr⟩ : ∃ r, r = (WindowL.mk xk xl xh).rightB := ⟨_, rfl⟩
  have HRr := Lib.hid hr
  obtain ⟨bb, hbb⟩ : ∃ b : List (BitVec 8), b = if r then (WindowL.mk xk xl xh).bytes else [] := ⟨_, rfl⟩
  have HBb := Lib.hid hbb
  have HBl : Hid (bb.length ≤ 100) := by
    rw [hbb]
    split
    · rename_i h1
      exact Lib.hid (bytesW_len (by rw [← hr]; exact h1))
    · exact Lib.hid (Nat.zero_le _)
  have HBB : Hid (∀ w, (binOp .eql 9 (Sv bb) (Sv bb)).run Tryd.prog w = .ok (.bool true) w) := Lib.hid (fun w => by
    have h := run_eql_Sv w bb bb
    rwa [decide_eq_true rfl] at h)
  clear hr hbb
  go_upto_region 6 with (fail)
  obtain ⟨wp, hwp⟩ : ∃ W, W = w1.alloc (.cells #[.slice none 0 0] 45) := ⟨_, rfl⟩
  obtain ⟨pb, hpb⟩ : ∃ b, b = w1.heap.size := ⟨_, rfl⟩
  have HP : Hid (RowW wp xb ⟨xk, xl, xh⟩ ∧ (∀ Y, PenAt Y wp pb []) ∧ (pb < wp.heap.size ∧ w.heap.size ≤ pb) ∧ Below w.heap.size w wp) := by
    have hB : Below w1.heap.size w1 wp := by rw [hwp]; exact (Below.refl _ w1).alloc (Nat.le_refl _) _
    obtain ⟨k1, k2⟩ := H1.out
    refine Lib.hid ⟨k1.below hB, fun Y => by rw [hwp, hpb]; exact PenAt.new Y w1, ⟨by rw [hwp, hpb, heap_alloc_size]; omega, by rw [hpb]; exact k2.size⟩, k2.trans (hB.mono k2.size)⟩
  rw [← hwp, ← hpb]
  clear hwp hpb d0 d1 d2
  have HRb1 : Hid (Calls Tryd.prog 15 #[.agg #[Sv xk, .int .i64 xl, .int .i64 xh]] wp (Below0 wp (.bool r))) := by
    rw [HRr.out]
    exact Lib.hid (rwRight_any wp ⟨xk, xl, xh⟩ HKl.out)
  obtain ⟨d0, d1, d2⟩ : D3 wp xb xk xl xh := HP.out.1.d3
  go_wp2_with (fail)
  refine HRb1.out.mono ?_
  rintro e w2x ⟨rfl, hB⟩
  have H2 : Hid (RowW w2x xb ⟨xk, xl, xh⟩ ∧ (∀ Y, PenAt Y w2x pb []) ∧ (pb < w2x.heap.size ∧ w.heap.size ≤ pb) ∧ Below w.heap.size w w2x) := by
    obtain ⟨k1, k2, k3, k4⟩ := HP.out
    have hz := hB.size
    exact Lib.hid ⟨k1.below hB, fun Y => (k2 Y).below hB, ⟨by omega, k3.2⟩, k4.trans (hB.mono k4.size)⟩
  clear hB d0 d1 d2 HRb1
  dsimp only
  go_upto_if 34 with (fail)
  go_cut [8] from 35 to 36 (fun s8 wx => s8 = Sv bb ∧ Below w2x.heap.size w2x wx)
  case first =>
    cases r with
    | false =>
      have HE : Hid (bb = []) := by rw [HBb.out]; exact Lib.hid rfl
      go_wp2_with (fail)
      go_meet
      exact ⟨by rw [HE.out]; rfl, Below.refl _ _⟩
    | true =>
      have HBy : Hid (Calls Tryd.prog 25 #[.agg #[Sv xk, .int .i64 xl, .int .i64 xh]] w2x (Below0 w2x (Sv bb))) := by
        rw [HBb.out, if_pos rfl]
        exact Lib.hid (rwBytes_yes w2x ⟨xk, xl, xh⟩ HRr.out.symm)
      obtain ⟨d0, d1, d2⟩ : D3 w2x xb xk xl xh := H2.out.1.d3
      go_wp2_with (fail)
      refine HBy.out.mono ?_
      rintro e w3 ⟨rfl, hB⟩
      have H3 := Lib.hid hB
      clear hB d0 d1 d2
      dsimp only
      go_wp2_with (fail)
      go_meet
      exact ⟨rfl, H3.out⟩
  case rest =>
    obtain ⟨rfl, hBc⟩ := hcut
    obtain ⟨w5, hw5⟩ : ∃ W, W = wc := ⟨_, rfl⟩
    subst wc
    have H5 : Hid (RowW w5 xb ⟨xk, xl, xh⟩ ∧ (∀ Y, PenAt Y w5 pb []) ∧ (w.heap.size ≤ pb ∧ Below w.heap.size w w5) ∧ Below w.heap.size w w5) := by
      obtain ⟨k1, k2, k3, k4⟩ := H2.out
      have k5 := k4.trans (hBc.mono k4.size)
      exact Lib.hid ⟨k1.below hBc, fun Y => (k2 Y).below hBc, ⟨k3.2, k5⟩, k5⟩
    clear hBc
    have HS1 : Hid (SrcP w5 ba m.length m) := Lib.hid (HS0.out.below H5.out.2.2.2)
    have HG0 : Hid (Below w5.heap.size w5 w5.drew) := (Below.refl _ w5).drew
    go_upto_region 9 with (fail)
    refine wp_region_seq_frame (by kernel_rfl) [none, none, none, none, none, none, none, none] [] (vOfT [stE (.slice ba M bc), stRdW w5.heap.size m, stE (.slice ba M bc), stE (Sv m), stE (.agg #[Sv m, .int .i64 0]), stTp w5.heap.size m, stRdW w5.heap.size m, stTp w5.heap.size m]) (fun _ w' => Below w5.heap.size w5 w') (fun w w' => Below w.heap.size w w') (vOfT_st _) (by kernel_rfl) (by kernel_rfl) (by kernel_rfl) HG0.out ⟨trivial, trivial, trivial, trivial, trivial, trivial, trivial, trivial, trivial⟩ ?_ ?_
    · refine ⟨?_, ?_, ?_, ?_, ?_, ?_, ?_, ?_, trivial⟩
      · intro k a w' hG hout hpre K hK
        have q1 := ev_of ((hout 1 rfl).trans (show _ = .slice ba M bc from rfl))
        clear hout hpre
        go_step
        exact hK _ _ rfl hG (Below.refl _ _)
      · intro k a w' hG hout hpre K hK
        obtain ⟨p0, _⟩ := hpre
        have q37 := ev_of (show a.eval (.tmp 37) = .slice ba M bc from p0)
        have HS := Lib.hid (rread_any w' ba bc M m HM.out.1 (HS1.out.below hG) HM.out.2.1 (by have := HM.out; omega))
        clear hout p0
        go_step
        refine HS.out.mono ?_
        rintro e w3 ⟨g, rfl, hR, hr, hB⟩
        exact hK _ _ ⟨g, _, rfl, Nat.le_trans hG.size hr, Nat.le_refl _, hR⟩ (hG.trans (hB.mono hG.size)) hB
      · intro k a w' hG hout hpre K hK
        have q1 := ev_of ((hout 1 rfl).trans (show _ = .slice ba M bc from rfl))
        clear hout hpre
        go_step
        exact hK _ _ rfl hG (Below.refl _ _)
      · intro k a w' hG hout hpre K hK
        obtain ⟨p0, _⟩ := hpre
        have q39 := ev_of (show a.eval (.tmp 39) = .slice ba M bc from p0)
        have hcs : (convert 42 9 (.slice ba M bc)).run Tryd.prog w' = .ok (Sv m) w' := by
          have h := run_conv_str w' ba bc m (HS1.out.below hG)
          rwa [← HM.out.1] at h
        clear hout p0
        go_step
        exact hK _ _ rfl hG (Below.refl _ _)
      · intro k a w' hG hout hpre K hK
        obtain ⟨p0, _⟩ := hpre
        have q40 := ev_of (show a.eval (.tmp 40) = Sv m from p0)
        have hbuilt : Tryd.prog.built 50 [(0, Sv m)] = some #[Sv m, .int .i64 0] := by kernel_rfl
        clear hout p0
        go_step
        exact hK _ _ rfl hG (Below.refl _ _)
      · intro k a w' hG hout hpre K hK
        obtain ⟨p0, _⟩ := hpre
        have q41 := ev_of (show a.eval (.tmp 41) = .agg #[Sv m, .int .i64 0] from p0)
        clear hout p0
        go_step
        exact hK _ _ ⟨w'.heap.size, rfl, hG.size, heap_alloc_new w' _⟩ (hG.alloc hG.size _) ((Below.refl _ w').alloc (Nat.le_refl _) _)
      · intro k a w' hG hout hpre K hK
        obtain ⟨p0, _⟩ := hpre
        clear hout
        unfold Oper.wp
        exact hK _ _ p0 hG (Below.refl _ _)
      · intro k a w' hG hout hpre K hK
        obtain ⟨p0, _⟩ := hpre
        clear hout
        unfold Oper.wp
        exact hK _ _ p0 hG (Below.refl _ _)
    · intro vs w2 hG hlen hV
      match vs, hlen, hV with
      | [v0, v1, v2, v3, v4, v5, v6, v7], _, hV =>
        obtain ⟨rb, base, rfl, hrb, hbs, hR⟩ : ∃ g base, v6 = .pointer (some ⟨g, 0, none⟩) ∧ w5.heap.size ≤ g ∧ base ≤ w2.heap.size ∧ RdAt base w2 g ⟨m, 0⟩ := hV 6 9 v6 rfl rfl
        obtain ⟨tb, rfl, htb, hX⟩ : ∃ g, v7 = .pointer (some ⟨g, 0, none⟩) ∧ w5.heap.size ≤ g ∧ TapeAt w2 g ⟨m, 0⟩ := hV 7 10 v7 rfl rfl
        obtain ⟨W6, rfl⟩ : ∃ x, x = w2 := ⟨w2, rfl⟩
        simp only [putsL, List.tail_cons, List.headD_cons]
        simp only [Act.put, List.setIfInBounds_toArray, List.set_cons_succ, List.set_cons_zero]
        obtain ⟨tq, htq⟩ : ∃ t, t = (TapeL.mk m 0).window.2 := ⟨_, rfl⟩
        have H6 : Hid ((RowW W6 xb ⟨xk, xl, xh⟩ ∧ (∀ Y, PenAt Y W6 pb []) ∧ RdAt base W6 rb ⟨m, 0⟩ ∧ TapeAt W6 tb ⟨m, 0⟩ ∧ Below w.heap.size w W6) ∧ base ≤ W6.heap.size ∧ w5.heap.size ≤ rb ∧ w5.heap.size ≤ tb) := by
          obtain ⟨k1, k2, k3, k4⟩ := H5.out
          exact Lib.hid ⟨⟨k1.below hG, fun Y => (k2 Y).below hG, hR, hX, k4.trans (hG.mono k4.size)⟩, hbs, hrb, htb⟩
        clear hV hG hR hX hrb htb hbs
        obtain ⟨Pr, hPr⟩ : ∃ p, p = parseW s := ⟨_, rfl⟩
        have HPs : Hid ((∀ w', Below w.heap.size w w' → Calls Tryd.prog 27 #[Sv s] w' (Below0 w' (.tuple #[.agg Pr.1.cells, .bool Pr.2]))) ∧ ∀ w', Calls Tryd.prog 28 #[Sv s] w' (Below0 w' (.tuple #[.agg Pr.1.cells, .bool Pr.2]))) := by
          rw [hPr]
          exact Lib.hid ⟨fun w' h => wparse_any w' s (by have := HSl.out; omega) (HLb.out w' h), fun w' => rwParse_any w' s (by have := HSl.out; omega)⟩
        clear hPr
        obtain ⟨⟨yk, yl, yh⟩, is⟩ := Pr
        simp only at HPs
        go_wp2_with (fail)
        refine (HPs.out.1 W6 H6.out.1.2.2.2.2).mono ?_
        rintro e v1 ⟨rfl, hB⟩
        have HB1 := Lib.hid hB
        clear hB
        dsimp only
        first
          | (refine wpList_store_row rfl _ _ _ rfl v1.heap.size (WindowL.mk yk yl yh).cells rfl rfl 31 zeroW.cells (heap_alloc_new v1 _) window_size rfl (window_one _) ?_)
          | (iterate 1 go_step
             refine wpList_store_row rfl _ _ _ rfl v1.heap.size (WindowL.mk yk yl yh).cells rfl rfl 31 zeroW.cells (heap_alloc_new v1 _) window_size rfl (window_one _) ?_)
          | (iterate 2 go_step
             refine wpList_store_row rfl _ _ _ rfl v1.heap.size (WindowL.mk yk yl yh).cells rfl rfl 31 zeroW.cells (heap_alloc_new v1 _) window_size rfl (window_one _) ?_)
          | (iterate 3 go_step
             refine wpList_store_row rfl _ _ _ rfl v1.heap.size (WindowL.mk yk yl yh).cells rfl rfl 31 zeroW.cells (heap_alloc_new v1 _) window_size rfl (window_one _) ?_)
          | (iterate 4 go_step
             refine wpList_store_row rfl _ _ _ rfl v1.heap.size (WindowL.mk yk yl yh).cells rfl rfl 31 zeroW.cells (heap_alloc_new v1 _) window_size rfl (window_one _) ?_)
          | (iterate 5 go_step
             refine wpList_store_row rfl _ _ _ rfl v1.heap.size (WindowL.mk yk yl yh).cells rfl rfl 31 zeroW.cells (heap_alloc_new v1 _) window_size rfl (window_one _) ?_)
          | (iterate 6 go_step
             refine wpList_store_row rfl _ _ _ rfl v1.heap.size (WindowL.mk yk yl yh).cells rfl rfl 31 zeroW.cells (heap_alloc_new v1 _) window_size rfl (window_one _) ?_)
          | (iterate 7 go_step
             refine wpList_store_row rfl _ _ _ rfl v1.heap.size (WindowL.mk yk yl yh).cells rfl rfl 31 zeroW.cells (heap_alloc_new v1 _) window_size rfl (window_one _) ?_)
          | (iterate 8 go_step
             refine wpList_store_row rfl _ _ _ rfl v1.heap.size (WindowL.mk yk yl yh).cells rfl rfl 31 zeroW.cells (heap_alloc_new v1 _) window_size rfl (window_one _) ?_)
          | (iterate 9 go_step
             refine wpList_store_row rfl _ _ _ rfl v1.heap.size (WindowL.mk yk yl yh).cells rfl rfl 31 zeroW.cells (heap_alloc_new v1 _) window_size rfl (window_one _) ?_)
          | (iterate 10 go_step
             refine wpList_store_row rfl _ _ _ rfl v1.heap.size (WindowL.mk yk yl yh).cells rfl rfl 31 zeroW.cells (heap_alloc_new v1 _) window_size rfl (window_one _) ?_)
          | (iterate 11 go_step
             refine wpList_store_row rfl _ _ _ rfl v1.heap.size (WindowL.mk yk yl yh).cells rfl rfl 31 zeroW.cells (heap_alloc_new v1 _) window_size rfl (window_one _) ?_)
          | (iterate 12 go_step
             refine wpList_store_row rfl _ _ _ rfl v1.heap.size (WindowL.mk yk yl yh).cells rfl rfl 31 zeroW.cells (heap_alloc_new v1 _) window_size rfl (window_one _) ?_)
          | (iterate 13 go_step
             refine wpList_store_row rfl _ _ _ rfl v1.heap.size (WindowL.mk yk yl yh).cells rfl rfl 31 zeroW.cells (heap_alloc_new v1 _) window_size rfl (window_one _) ?_)
          | (iterate 14 go_step
             refine wpList_store_row rfl _ _ _ rfl v1.heap.size (WindowL.mk yk yl yh).cells rfl rfl 31 zeroW.cells (heap_alloc_new v1 _) window_size rfl (window_one _) ?_)
          | (iterate 15 go_step
             refine wpList_store_row rfl _ _ _ rfl v1.heap.size (WindowL.mk yk yl yh).cells rfl rfl 31 zeroW.cells (heap_alloc_new v1 _) window_size rfl (window_one _) ?_)
          | (iterate 16 go_step
             refine wpList_store_row rfl _ _ _ rfl v1.heap.size (WindowL.mk yk yl yh).cells rfl rfl 31 zeroW.cells (heap_alloc_new v1 _) window_size rfl (window_one _) ?_)
          | (iterate 17 go_step
             refine wpList_store_row rfl _ _ _ rfl v1.heap.size (WindowL.mk yk yl yh).cells rfl rfl 31 zeroW.cells (heap_alloc_new v1 _) window_size rfl (window_one _) ?_)
          | (iterate 18 go_step
             refine wpList_store_row rfl _ _ _ rfl v1.heap.size (WindowL.mk yk yl yh).cells rfl rfl 31 zeroW.cells (heap_alloc_new v1 _) window_size rfl (window_one _) ?_)
          | (iterate 19 go_step
             refine wpList_store_row rfl _ _ _ rfl v1.heap.size (WindowL.mk yk yl yh).cells rfl rfl 31 zeroW.cells (heap_alloc_new v1 _) window_size rfl (window_one _) ?_)
          | (iterate 20 go_step
             refine wpList_store_row rfl _ _ _ rfl v1.heap.size (WindowL.mk yk yl yh).cells rfl rfl 31 zeroW.cells (heap_alloc_new v1 _) window_size rfl (window_one _) ?_)
          | (iterate 21 go_step
             refine wpList_store_row rfl _ _ _ rfl v1.heap.size (WindowL.mk yk yl yh).cells rfl rfl 31 zeroW.cells (heap_alloc_new v1 _) window_size rfl (window_one _) ?_)
        obtain ⟨v2, hv2⟩ : ∃ W, W = (v1.alloc (Obj.cells #[.string ⟨#[]⟩, .int .i64 0, .int .i64 0] 31)).setRow v1.heap.size (WindowL.mk yk yl yh).cells := ⟨_, rfl⟩
        obtain ⟨yb, hyb⟩ : ∃ b, b = v1.heap.size := ⟨_, rfl⟩
        have HY : Hid (RowW v2 yb ⟨yk, yl, yh⟩ ∧ Below W6.heap.size W6 v2) := by
          obtain ⟨k1, k2⟩ := stored_window v1 ⟨yk, yl, yh⟩
          rw [hv2, hyb]
          exact Lib.hid ⟨k1, HB1.out.trans (k2.mono HB1.out.size)⟩
        rw [← hv2, ← hyb]
        clear hv2 hyb
        go_wp2_with (fail)
        refine (HPs.out.2 v2).mono ?_
        rintro e v3 ⟨rfl, hB⟩
        have HB3 := Lib.hid hB
        clear hB
        dsimp only
        first
          | (refine wpList_store_row rfl _ _ _ rfl v3.heap.size (WindowL.mk yk yl yh).cells rfl rfl 31 zeroW.cells (heap_alloc_new v3 _) window_size rfl (window_one _) ?_)
          | (iterate 1 go_step
             refine wpList_store_row rfl _ _ _ rfl v3.heap.size (WindowL.mk yk yl yh).cells rfl rfl 31 zeroW.cells (heap_alloc_new v3 _) window_size rfl (window_one _) ?_)
          | (iterate 2 go_step
             refine wpList_store_row rfl _ _ _ rfl v3.heap.size (WindowL.mk yk yl yh).cells rfl rfl 31 zeroW.cells (heap_alloc_new v3 _) window_size rfl (window_one _) ?_)
          | (iterate 3 go_step
             refine wpList_store_row rfl _ _ _ rfl v3.heap.size (WindowL.mk yk yl yh).cells rfl rfl 31 zeroW.cells (heap_alloc_new v3 _) window_size rfl (window_one _) ?_)
          | (iterate 4 go_step
             refine wpList_store_row rfl _ _ _ rfl v3.heap.size (WindowL.mk yk yl yh).cells rfl rfl 31 zeroW.cells (heap_alloc_new v3 _) window_size rfl (window_one _) ?_)
          | (iterate 5 go_step
             refine wpList_store_row rfl _ _ _ rfl v3.heap.size (WindowL.mk yk yl yh).cells rfl rfl 31 zeroW.cells (heap_alloc_new v3 _) window_size rfl (window_one _) ?_)
          | (iterate 6 go_step
             refine wpList_store_row rfl _ _ _ rfl v3.heap.size (WindowL.mk yk yl yh).cells rfl rfl 31 zeroW.cells (heap_alloc_new v3 _) window_size rfl (window_one _) ?_)
          | (iterate 7 go_step
             refine wpList_store_row rfl _ _ _ rfl v3.heap.size (WindowL.mk yk yl yh).cells rfl rfl 31 zeroW.cells (heap_alloc_new v3 _) window_size rfl (window_one _) ?_)
          | (iterate 8 go_step
             refine wpList_store_row rfl _ _ _ rfl v3.heap.size (WindowL.mk yk yl yh).cells rfl rfl 31 zeroW.cells (heap_alloc_new v3 _) window_size rfl (window_one _) ?_)
          | (iterate 9 go_step
             refine wpList_store_row rfl _ _ _ rfl v3.heap.size (WindowL.mk yk yl yh).cells rfl rfl 31 zeroW.cells (heap_alloc_new v3 _) window_size rfl (window_one _) ?_)
          | (iterate 10 go_step
             refine wpList_store_row rfl _ _ _ rfl v3.heap.size (WindowL.mk yk yl yh).cells rfl rfl 31 zeroW.cells (heap_alloc_new v3 _) window_size rfl (window_one _) ?_)
          | (iterate 11 go_step
             refine wpList_store_row rfl _ _ _ rfl v3.heap.size (WindowL.mk yk yl yh).cells rfl rfl 31 zeroW.cells (heap_alloc_new v3 _) window_size rfl (window_one _) ?_)
          | (iterate 12 go_step
             refine wpList_store_row rfl _ _ _ rfl v3.heap.size (WindowL.mk yk yl yh).cells rfl rfl 31 zeroW.cells (heap_alloc_new v3 _) window_size rfl (window_one _) ?_)
          | (iterate 13 go_step
             refine wpList_store_row rfl _ _ _ rfl v3.heap.size (WindowL.mk yk yl yh).cells rfl rfl 31 zeroW.cells (heap_alloc_new v3 _) window_size rfl (window_one _) ?_)
          | (iterate 14 go_step
             refine wpList_store_row rfl _ _ _ rfl v3.heap.size (WindowL.mk yk yl yh).cells rfl rfl 31 zeroW.cells (heap_alloc_new v3 _) window_size rfl (window_one _) ?_)
          | (iterate 15 go_step
             refine wpList_store_row rfl _ _ _ rfl v3.heap.size (WindowL.mk yk yl yh).cells rfl rfl 31 zeroW.cells (heap_alloc_new v3 _) window_size rfl (window_one _) ?_)
          | (iterate 16 go_step
             refine wpList_store_row rfl _ _ _ rfl v3.heap.size (WindowL.mk yk yl yh).cells rfl rfl 31 zeroW.cells (heap_alloc_new v3 _) window_size rfl (window_one _) ?_)
          | (iterate 17 go_step
             refine wpList_store_row rfl _ _ _ rfl v3.heap.size (WindowL.mk yk yl yh).cells rfl rfl 31 zeroW.cells (heap_alloc_new v3 _) window_size rfl (window_one _) ?_)
          | (iterate 18 go_step
             refine wpList_store_row rfl _ _ _ rfl v3.heap.size (WindowL.mk yk yl yh).cells rfl rfl 31 zeroW.cells (heap_alloc_new v3 _) window_size rfl (window_one _) ?_)
          | (iterate 19 go_step
             refine wpList_store_row rfl _ _ _ rfl v3.heap.size (WindowL.mk yk yl yh).cells rfl rfl 31 zeroW.cells (heap_alloc_new v3 _) window_size rfl (window_one _) ?_)
          | (iterate 20 go_step
             refine wpList_store_row rfl _ _ _ rfl v3.heap.size (WindowL.mk yk yl yh).cells rfl rfl 31 zeroW.cells (heap_alloc_new v3 _) window_size rfl (window_one _) ?_)
          | (iterate 21 go_step
             refine wpList_store_row rfl _ _ _ rfl v3.heap.size (WindowL.mk yk yl yh).cells rfl rfl 31 zeroW.cells (heap_alloc_new v3 _) window_size rfl (window_one _) ?_)
        obtain ⟨W7, hW7⟩ : ∃ W, W = (v3.alloc (Obj.cells #[.string ⟨#[]⟩, .int .i64 0, .int .i64 0] 31)).setRow v3.heap.size (WindowL.mk yk yl yh).cells := ⟨_, rfl⟩
        obtain ⟨zb, hzb⟩ : ∃ b, b = v3.heap.size := ⟨_, rfl⟩
        have HZ7 : Hid (RowW W7 zb ⟨yk, yl, yh⟩ ∧ RowW W7 yb ⟨yk, yl, yh⟩ ∧ Below W6.heap.size W6 W7) := by
          obtain ⟨k1, k2⟩ := stored_window v3 ⟨yk, yl, yh⟩
          have k3 := HB3.out.trans (k2.mono HB3.out.size)
          rw [hW7, hzb]
          exact Lib.hid ⟨k1, HY.out.1.below k3, HY.out.2.trans (k3.mono HY.out.2.size)⟩
        rw [← hW7, ← hzb]
        clear hW7 hzb
        have H7 : Hid (GW w W7 pb rb tb base [(xb, ⟨xk, xl, xh⟩), (yb, ⟨yk, yl, yh⟩), (zb, ⟨yk, yl, yh⟩)] [] ⟨m, 0⟩ ⟨m, 0⟩ W7 ∧ base ≤ W7.heap.size) := by
          obtain ⟨⟨k1, k2, k3, k4, k5⟩, k6, _, _⟩ := H6.out
          obtain ⟨z1, z2, z3⟩ := HZ7.out
          refine Lib.hid ⟨⟨(k2 _).below z3, k3.below z3, TapeAt.farW k4 z3, ?_, k5.trans (z3.mono k5.size), Nat.le_refl _⟩, Nat.le_trans k6 z3.size⟩
          intro p hp
          simp only [List.mem_cons, List.not_mem_nil, or_false] at hp
          rcases hp with rfl | rfl | rfl
          · exact k1.below z3
          · exact z2
          · exact z1
        have HG7 : Hid (GW w W7 pb rb tb base [(xb, ⟨xk, xl, xh⟩), (yb, ⟨yk, yl, yh⟩), (zb, ⟨yk, yl, yh⟩)] [] ⟨m, 0⟩ ⟨m, 0⟩ W7.drew) := Lib.hid (GW.below H7.out.1 (Below.refl _ W7).drew)
        obtain ⟨VA, hVA⟩ : ∃ V, V = Value.agg (TapeL.mk m 0).window.1.cells := ⟨_, rfl⟩
        obtain ⟨VZ, hVZ⟩ : ∃ V, V = Value.agg (WindowL.mk yk yl yh).cells := ⟨_, rfl⟩
        have HV : Hid ((∀ w, (binOp .eql 31 VA VA).run Tryd.prog w = .ok (.bool true) w) ∧ (∀ w op o1 o2, (eqGuard op 31 o1 o2 VA VA).run Tryd.prog w = .ok () w) ∧ VZ = Value.agg (WindowL.mk yk yl yh).cells ∧ (∀ w, (binOp .eql 31 VZ VZ).run Tryd.prog w = .ok (.bool true) w) ∧ ∀ w op o1 o2, (eqGuard op 31 o1 o2 VZ VZ).run Tryd.prog w = .ok () w) := by
          refine Lib.hid ⟨?_, ?_, hVZ, ?_, ?_⟩
          · intro w; rw [hVA, run_eql_window, (sameW_iff _ _).2 rfl]
          · intro w op o1 o2; rw [hVA]; exact run_guard_window w op o1 o2 _ _
          · intro w; rw [hVZ, run_eql_window, (sameW_iff _ _).2 rfl]
          · intro w op o1 o2; rw [hVZ]; exact run_guard_window w op o1 o2 _ _
        have HPut : Hid (∀ w', GW w W7 pb rb tb base [(xb, ⟨xk, xl, xh⟩), (yb, ⟨yk, yl, yh⟩), (zb, ⟨yk, yl, yh⟩)] [] ⟨m, 0⟩ ⟨m, 0⟩ w' → Calls Tryd.prog 29 #[.pointer (some ⟨pb, 0, none⟩), .agg #[Sv xk, .int .i64 xl, .int .i64 xh]] w' (fun e w'' => e = .returned (.bool r) ∧ GW w W7 pb rb tb base [(xb, ⟨xk, xl, xh⟩), (yb, ⟨yk, yl, yh⟩), (zb, ⟨yk, yl, yh⟩)] bb ⟨m, 0⟩ ⟨m, 0⟩ w'')) := by
          refine Lib.hid (fun w' h => ?_)
          cases r with
          | true =>
            have h2 := wput_yes w' (fun k => k < W7.heap.size) pb [] ⟨xk, xl, xh⟩ HRr.out.symm h.1 (fun k hk => Nat.lt_of_lt_of_le hk h.2.2.2.2.2) (by decide)
            rw [List.nil_append] at h2
            refine h2.mono ?_
            rintro e w'' ⟨rfl, hp, hk⟩
            refine ⟨rfl, ?_⟩
            rw [HBb.out, if_pos rfl]
            exact h.put hp hk H7.out.2 H5.out.2.2.1.1 H7.out.1.2.2.2.2.1.size
          | false =>
            refine (wput_no w' pb ⟨xk, xl, xh⟩ HRr.out.symm HKl.out).mono ?_
            rintro e w'' ⟨rfl, hB⟩
            refine ⟨rfl, ?_⟩
            rw [HBb.out]
            exact h.below hB
        have HRb : Hid (∀ w', Calls Tryd.prog 15 #[.agg #[Sv xk, .int .i64 xl, .int .i64 xh]] w' (Below0 w' (.bool r))) := by
          rw [HRr.out]
          exact Lib.hid (fun w' => rwRight_any w' ⟨xk, xl, xh⟩ HKl.out)
        have HPn : Hid (∀ w', Calls Tryd.prog 29 #[.pointer none, .agg #[Sv xk, .int .i64 xl, .int .i64 xh]] w' (Below0 w' (.bool false))) := Lib.hid (fun w' => wput_nil w' ⟨xk, xl, xh⟩ HKl.out)
        have HG1 : Hid (∀ w', GW w W7 pb rb tb base [(xb, ⟨xk, xl, xh⟩), (yb, ⟨yk, yl, yh⟩), (zb, ⟨yk, yl, yh⟩)] bb ⟨m, 0⟩ ⟨m, 0⟩ w' → Calls Tryd.prog 31 #[.pointer (some ⟨rb, 0, none⟩)] w' (fun e w'' => e = .returned VA ∧ GW w W7 pb rb tb base [(xb, ⟨xk, xl, xh⟩), (yb, ⟨yk, yl, yh⟩), (zb, ⟨yk, yl, yh⟩)] bb tq ⟨m, 0⟩ w'')) := by
          rw [hVA, htq]
          refine Lib.hid (fun w' h => (wget_any w' base rb ⟨m, 0⟩ h.2.1 (Nat.le_trans H7.out.2 h.2.2.2.2.2)).mono ?_)
          rintro e w'' ⟨rfl, k1, k2⟩
          have k3 := H5.out.2.2
          have k6 := H6.out.2.2.1
          exact ⟨rfl, h.rd k1 k2 (by have := k3.2.size; omega)⟩
        have HG2 : Hid (∀ w', GW w W7 pb rb tb base [(xb, ⟨xk, xl, xh⟩), (yb, ⟨yk, yl, yh⟩), (zb, ⟨yk, yl, yh⟩)] bb tq ⟨m, 0⟩ w' → Calls Tryd.prog 32 #[.pointer (some ⟨tb, 0, none⟩)] w' (fun e w'' => e = .returned VA ∧ GW w W7 pb rb tb base [(xb, ⟨xk, xl, xh⟩), (yb, ⟨yk, yl, yh⟩), (zb, ⟨yk, yl, yh⟩)] bb tq tq w'')) := by
          rw [hVA, htq]
          refine Lib.hid (fun w' h => (rwGet_any w' tb ⟨m, 0⟩ h.2.2.1).mono ?_)
          rintro e w'' ⟨rfl, k1, k2⟩
          have k3 := H5.out.2.2
          have k6 := H6.out.2.2.2
          exact ⟨rfl, h.tp k1 k2 (by have := k3.2.size; omega)⟩
        obtain ⟨d, hd⟩ : ∃ d, d = tq.done := ⟨_, rfl⟩
        have HE1 : Hid (∀ w', GW w W7 pb rb tb base [(xb, ⟨xk, xl, xh⟩), (yb, ⟨yk, yl, yh⟩), (zb, ⟨yk, yl, yh⟩)] bb tq tq w' → Calls Tryd.prog 33 #[.pointer (some ⟨rb, 0, none⟩)] w' fun e w'' => e = .returned (.int .i64 d) ∧ w'' = w') := by
          rw [hd]
          exact Lib.hid (fun w' h => rend_any w' base rb tq h.2.1)
        have HE2 : Hid (∀ w', GW w W7 pb rb tb base [(xb, ⟨xk, xl, xh⟩), (yb, ⟨yk, yl, yh⟩), (zb, ⟨yk, yl, yh⟩)] bb tq tq w' → Calls Tryd.prog 34 #[.pointer (some ⟨tb, 0, none⟩)] w' fun e w'' => e = .returned (.int .i64 d) ∧ w'' = w') := by
          rw [hd]
          exact Lib.hid (fun w' h => rtEnd_any w' tb tq h.2.2.1)
        clear hVA hVZ htq hd
        go_upto_region 12 with (fail)
        refine wp_region_stage_frame (by kernel_rfl) [none, none, some 0, none, none, some 1, some 2, none, some 3, some 4, none, some 5, some 6, some 7, none, some 8, none, some 9, none, none, some 10, none, some 11, none, some 12, none, none, none, none, none, none, none, none, none, none, none, none, none, none, none, none, none, none] [2, 5, 6, 8, 9, 11, 12, 13, 15, 17, 20, 22, 24] (VY ((Value.pointer (some ⟨pb, 0, none⟩)) :: (Value.agg #[Sv xk, .int .i64 xl, .int .i64 xh]) :: (Value.bool r) :: (Value.agg #[Sv xk, .int .i64 xl, .int .i64 xh]) :: (Value.bool r) :: (Value.bool true) :: (Value.bool true) :: (Value.pointer (some ⟨pb, 0, none⟩)) :: undef :: Sv bb :: Sv bb :: (Value.bool true) :: (Value.bool true) :: (Value.bool true) :: (Value.pointer (some ⟨rb, 0, none⟩)) :: VA :: (Value.pointer (some ⟨tb, 0, none⟩)) :: VA :: (Value.bool true) :: (Value.bool true) :: (Value.bool true) :: (Value.pointer (some ⟨rb, 0, none⟩)) :: (Value.int .i64 d) :: (Value.pointer (some ⟨tb, 0, none⟩)) :: (Value.int .i64 d) :: (Value.bool true) :: (Value.bool true) :: (Value.bool true) :: VZ :: VZ :: (Value.bool true) :: (Value.bool true) :: (Value.bool true) :: (Value.bool is) :: (Value.bool is) :: (Value.bool true) :: (Value.bool true) :: (Value.bool true) :: (Value.agg #[Sv xk, .int .i64 xl, .int .i64 xh]) :: (Value.bool false) :: (Value.bool true) :: (Value.bool true) :: (Value.bool true) :: ([] : List Value)) 8 4 (fun w v => ∃ sa sc, v = .slice sa bb.length sc ∧ (sa = none → sc = 0) ∧ SrcP w sa bb.length bb) 999 999 (fun _ _ => True)) (fun k w' => GW w W7 pb rb tb base [(xb, ⟨xk, xl, xh⟩), (yb, ⟨yk, yl, yh⟩), (zb, ⟨yk, yl, yh⟩)] (cond (Nat.beq k 0) [] bb) (cond (Nat.ble k 8) ⟨m, 0⟩ tq) (cond (Nat.ble k 9) ⟨m, 0⟩ tq) w') (fun w w' => Below w.heap.size w w') (VY_st _ _ _ _ _ _ _ _ (fun w w' v h ⟨sa, sc, h1, h2, h3⟩ => ⟨sa, sc, h1, h2, h3.below h⟩) (fun _ _ _ _ h => h)) (by kernel_rfl) (by kernel_rfl) (by kernel_rfl) HG7.out (fun _ => ⟨trivial, trivial, trivial, trivial, trivial, trivial, trivial, fun _ _ h => h, fun _ _ h => h, fun _ _ h => h, fun _ _ h => h, fun _ _ h => h, trivial, trivial, fun _ _ h => h, fun _ _ h => h, fun _ _ h => h, fun _ _ h => h, fun _ _ h => h, trivial, trivial, fun _ _ h => h, fun _ _ h => h, fun _ _ h => h, fun _ _ h => h, fun _ _ h => h, trivial, trivial, fun _ _ h => h, fun _ _ h => h, fun _ _ h => h, trivial, trivial, fun _ _ h => h, fun _ _ h => h, fun _ _ h => h, trivial, trivial, fun _ _ h => h, fun _ _ h => h, fun _ _ h => h, trivial, trivial, trivial⟩) ?_ ?_
        · refine ⟨?_, ?_, ?_, ?_, ?_, ?_, ?_, ?_, ?_, ?_, ?_, ?_, ?_, ?_, ?_, ?_, ?_, ?_, ?_, ?_, ?_, ?_, ?_, ?_, ?_, ?_, ?_, ?_, ?_, ?_, ?_, ?_, ?_, ?_, ?_, ?_, ?_, ?_, ?_, ?_, ?_, ?_, ?_, trivial⟩
          · intro k a w' hG hout hpre K hK
            have q7 := ev_of ((hout 7 rfl).trans (show _ = .pointer (some ⟨pb, 0, none⟩) from rfl))
            clear hout hpre
            go_step
            exact hK _ _ rfl hG (Below.refl _ _)
          · intro k a w' hG hout hpre K hK
            have q3 := ev_of ((hout 3 rfl).trans (show _ = .pointer (some ⟨xb, 0, none⟩) from rfl))
            obtain ⟨d0, d1, d2⟩ := (hG.2.2.2.1 (xb, ⟨xk, xl, xh⟩) (by simp)).d3
            clear hout hpre
            go_step
            exact hK _ _ rfl hG (Below.refl _ _)
          · intro a w' hG hout hpre K hK
            obtain ⟨p0, p1, _⟩ := hpre
            have q53 := ev_of (show a.eval (.tmp 53) = .pointer (some ⟨pb, 0, none⟩) from p0)
            have q54 := ev_of (show a.eval (.tmp 54) = .agg #[Sv xk, .int .i64 xl, .int .i64 xh] from p1)
            have HS := Lib.hid (HPut.out w' hG)
            clear hout p0 p1
            go_step
            refine HS.out.mono ?_
            rintro e w3 ⟨rfl, hB⟩
            exact hK _ _ rfl hB (VY_next (by decide) (by decide))
          · intro k a w' hG hout hpre K hK
            have q3 := ev_of ((hout 3 rfl).trans (show _ = .pointer (some ⟨xb, 0, none⟩) from rfl))
            obtain ⟨d0, d1, d2⟩ := (hG.2.2.2.1 (xb, ⟨xk, xl, xh⟩) (by simp)).d3
            clear hout hpre
            go_step
            exact hK _ _ rfl hG (Below.refl _ _)
          · intro k a w' hG hout hpre K hK
            obtain ⟨p0, _⟩ := hpre
            have q56 := ev_of (show a.eval (.tmp 56) = .agg #[Sv xk, .int .i64 xl, .int .i64 xh] from p0)
            have HS := Lib.hid (HRb.out w')
            clear hout p0
            go_step
            refine HS.out.mono ?_
            rintro e w3 ⟨rfl, hB⟩
            exact hK _ _ rfl (hG.below hB) hB
          · intro a w' hG hout hpre K hK
            obtain ⟨p0, p1, _⟩ := hpre
            have q55 := ev_of (show a.eval (.tmp 55) = .bool r from p0)
            have q57 := ev_of (show a.eval (.tmp 57) = .bool r from p1)
            have he : (r == r) = true := by simp
            clear hout p0 p1
            go_step
            exact hK _ _ rfl hG (VY_next (by decide) (by decide))
          · intro a w' hG hout hpre K hK
            obtain ⟨p0, _⟩ := hpre
            have q58 := ev_of (show a.eval (.tmp 58) = .bool true from p0)
            clear hout p0
            go_step
            exact hK _ _ rfl hG (VY_next (by decide) (by decide))
          · intro k a w' hG hout hpre K hK
            have q7 := ev_of ((hout 7 rfl).trans (show _ = .pointer (some ⟨pb, 0, none⟩) from rfl))
            clear hout hpre
            go_step
            exact hK _ _ rfl hG (Below.refl _ _)
          · intro a w' hG hout hpre K hK
            obtain ⟨p0, _⟩ := hpre
            have q60 := ev_of (show a.eval (.tmp 60) = .pointer (some ⟨pb, 0, none⟩) from p0)
            have HS := Lib.hid (pbytes_any w' _ pb bb hG.1 (by have := HBl.out; omega))
            clear hout p0
            go_step
            refine HS.out.mono ?_
            rintro e w3 ⟨sa, sc, rfl, k1, k2, k3, k4, k5⟩
            exact hK _ _ (fun _ => ⟨sa, sc, rfl, k3, k4.srcP⟩) (GW.below hG k5) (VY_next (by decide) (by decide))
          · intro a w' hG hout hpre K hK
            obtain ⟨p0, _⟩ := hpre
            obtain ⟨sa, sc, hv, k3, k4⟩ := (show (4 = 4) → (∃ sa sc, a.eval (.tmp 61) = .slice sa bb.length sc ∧ (sa = none → sc = 0) ∧ SrcP w' sa bb.length bb) from p0) rfl
            have q := ev_of hv
            have hcs : (convert 42 9 (.slice sa bb.length sc)).run Tryd.prog w' = .ok (Sv bb) w' := run_conv_str w' sa sc bb k4
            clear hout p0 hv k3 k4
            go_step
            exact hK _ _ rfl hG (VY_next (by decide) (by decide))
          · intro k a w' hG hout hpre K hK
            have q8 := ev_of ((hout 8 rfl).trans (show _ = Sv bb from rfl))
            clear hout hpre
            go_step
            exact hK _ _ rfl hG (Below.refl _ _)
          · intro a w' hG hout hpre K hK
            obtain ⟨p0, p1, _⟩ := hpre
            have q62 := ev_of (show a.eval (.tmp 62) = Sv bb from p0)
            have q63 := ev_of (show a.eval (.tmp 63) = Sv bb from p1)
            have he := HBB.out
            clear hout p0 p1
            go_step
            exact hK _ _ rfl hG (VY_next (by decide) (by decide))
          · intro a w' hG hout hpre K hK
            obtain ⟨p0, p1, _⟩ := hpre
            have q59 := ev_of (show a.eval (.tmp 59) = .bool true from p0)
            have q64 := ev_of (show a.eval (.tmp 64) = .bool true from p1)
            clear hout p0 p1
            go_step
            exact hK _ _ rfl hG (VY_next (by decide) (by decide))
          · intro a w' hG hout hpre K hK
            obtain ⟨p0, _⟩ := hpre
            have q65 := ev_of (show a.eval (.tmp 65) = .bool true from p0)
            clear hout p0
            go_step
            exact hK _ _ rfl hG (VY_next (by decide) (by decide))
          · intro k a w' hG hout hpre K hK
            have q9 := ev_of ((hout 9 rfl).trans (show _ = .pointer (some ⟨rb, 0, none⟩) from rfl))
            clear hout hpre
            go_step
            exact hK _ _ rfl hG (Below.refl _ _)
          · intro a w' hG hout hpre K hK
            obtain ⟨p0, _⟩ := hpre
            have q67 := ev_of (show a.eval (.tmp 67) = .pointer (some ⟨rb, 0, none⟩) from p0)
            have HS := Lib.hid (HG1.out w' hG)
            clear hout p0
            go_step
            refine HS.out.mono ?_
            rintro e w3 ⟨rfl, hB⟩
            exact hK _ _ rfl hB (VY_next (by decide) (by decide))
          · intro k a w' hG hout hpre K hK
            have q10 := ev_of ((hout 10 rfl).trans (show _ = .pointer (some ⟨tb, 0, none⟩) from rfl))
            clear hout hpre
            go_step
            exact hK _ _ rfl hG (Below.refl _ _)
          · intro a w' hG hout hpre K hK
            obtain ⟨p0, _⟩ := hpre
            have q69 := ev_of (show a.eval (.tmp 69) = .pointer (some ⟨tb, 0, none⟩) from p0)
            have HS := Lib.hid (HG2.out w' hG)
            clear hout p0
            go_step
            refine HS.out.mono ?_
            rintro e w3 ⟨rfl, hB⟩
            exact hK _ _ rfl hB (VY_next (by decide) (by decide))
          · intro k a w' hG hout hpre K hK
            obtain ⟨p0, p1, _⟩ := hpre
            have q68 := ev_of (show a.eval (.tmp 68) = VA from p0)
            have q70 := ev_of (show a.eval (.tmp 70) = VA from p1)
            have he := HV.out.1
            have hgd := HV.out.2.1
            clear hout p0 p1
            go_step
            exact hK _ _ rfl hG (Below.refl _ _)
          · intro k a w' hG hout hpre K hK
            obtain ⟨p0, p1, _⟩ := hpre
            have q66 := ev_of (show a.eval (.tmp 66) = .bool true from p0)
            have q71 := ev_of (show a.eval (.tmp 71) = .bool true from p1)
            clear hout p0 p1
            go_step
            exact hK _ _ rfl hG (Below.refl _ _)
          · intro a w' hG hout hpre K hK
            obtain ⟨p0, _⟩ := hpre
            have q72 := ev_of (show a.eval (.tmp 72) = .bool true from p0)
            clear hout p0
            go_step
            exact hK _ _ rfl hG (VY_next (by decide) (by decide))
          · intro k a w' hG hout hpre K hK
            have q9 := ev_of ((hout 9 rfl).trans (show _ = .pointer (some ⟨rb, 0, none⟩) from rfl))
            clear hout hpre
            go_step
            exact hK _ _ rfl hG (Below.refl _ _)
          · intro a w' hG hout hpre K hK
            obtain ⟨p0, _⟩ := hpre
            have q74 := ev_of (show a.eval (.tmp 74) = .pointer (some ⟨rb, 0, none⟩) from p0)
            have HS := Lib.hid (HE1.out w' hG)
            clear hout p0
            go_step
            refine HS.out.mono ?_
            rintro e w3 ⟨rfl, hw⟩
            subst w3
            exact hK _ _ rfl hG (VY_next (by decide) (by decide))
          · intro k a w' hG hout hpre K hK
            have q10 := ev_of ((hout 10 rfl).trans (show _ = .pointer (some ⟨tb, 0, none⟩) from rfl))
            clear hout hpre
            go_step
            exact hK _ _ rfl hG (Below.refl _ _)
          · intro a w' hG hout hpre K hK
            obtain ⟨p0, _⟩ := hpre
            have q76 := ev_of (show a.eval (.tmp 76) = .pointer (some ⟨tb, 0, none⟩) from p0)
            have HS := Lib.hid (HE2.out w' hG)
            clear hout p0
            go_step
            refine HS.out.mono ?_
            rintro e w3 ⟨rfl, hw⟩
            subst w3
            exact hK _ _ rfl hG (VY_next (by decide) (by decide))
          · intro k a w' hG hout hpre K hK
            obtain ⟨p0, p1, _⟩ := hpre
            have q75 := ev_of (show a.eval (.tmp 75) = .int .i64 d from p0)
            have q77 := ev_of (show a.eval (.tmp 77) = .int .i64 d from p1)
            have he : (d == d) = true := by simp
            clear hout p0 p1
            go_step
            exact hK _ _ rfl hG (Below.refl _ _)
          · intro k a w' hG hout hpre K hK
            obtain ⟨p0, p1, _⟩ := hpre
            have q73 := ev_of (show a.eval (.tmp 73) = .bool true from p0)
            have q78 := ev_of (show a.eval (.tmp 78) = .bool true from p1)
            clear hout p0 p1
            go_step
            exact hK _ _ rfl hG (Below.refl _ _)
          · intro k a w' hG hout hpre K hK
            obtain ⟨p0, _⟩ := hpre
            have q79 := ev_of (show a.eval (.tmp 79) = .bool true from p0)
            clear hout p0
            go_step
            exact hK _ _ rfl hG (Below.refl _ _)
          · intro k a w' hG hout hpre K hK
            have q11 := ev_of ((hout 11 rfl).trans (show _ = .pointer (some ⟨yb, 0, none⟩) from rfl))
            obtain ⟨d0, d1, d2⟩ := (hG.2.2.2.1 (yb, ⟨yk, yl, yh⟩) (by simp)).d3
            clear hout hpre
            go_step
            exact hK _ _ HV.out.2.2.1.symm hG (Below.refl _ _)
          · intro k a w' hG hout hpre K hK
            have q13 := ev_of ((hout 13 rfl).trans (show _ = .pointer (some ⟨zb, 0, none⟩) from rfl))
            obtain ⟨d0, d1, d2⟩ := (hG.2.2.2.1 (zb, ⟨yk, yl, yh⟩) (by simp)).d3
            clear hout hpre
            go_step
            exact hK _ _ HV.out.2.2.1.symm hG (Below.refl _ _)
          · intro k a w' hG hout hpre K hK
            obtain ⟨p0, p1, _⟩ := hpre
            have q81 := ev_of (show a.eval (.tmp 81) = VZ from p0)
            have q82 := ev_of (show a.eval (.tmp 82) = VZ from p1)
            have he := HV.out.2.2.2.1
            have hgd := HV.out.2.2.2.2
            clear hout p0 p1
            go_step
            exact hK _ _ rfl hG (Below.refl _ _)
          · intro k a w' hG hout hpre K hK
            obtain ⟨p0, p1, _⟩ := hpre
            have q80 := ev_of (show a.eval (.tmp 80) = .bool true from p0)
            have q83 := ev_of (show a.eval (.tmp 83) = .bool true from p1)
            clear hout p0 p1
            go_step
            exact hK _ _ rfl hG (Below.refl _ _)
          · intro k a w' hG hout hpre K hK
            obtain ⟨p0, _⟩ := hpre
            have q84 := ev_of (show a.eval (.tmp 84) = .bool true from p0)
            clear hout p0
            go_step
            exact hK _ _ rfl hG (Below.refl _ _)
          · intro k a w' hG hout hpre K hK
            have q12 := ev_of ((hout 12 rfl).trans (show _ = .bool is from rfl))
            clear hout hpre
            go_step
            exact hK _ _ rfl hG (Below.refl _ _)
          · intro k a w' hG hout hpre K hK
            have q14 := ev_of ((hout 14 rfl).trans (show _ = .bool is from rfl))
            clear hout hpre
            go_step
            exact hK _ _ rfl hG (Below.refl _ _)
          · intro k a w' hG hout hpre K hK
            obtain ⟨p0, p1, _⟩ := hpre
            have q86 := ev_of (show a.eval (.tmp 86) = .bool is from p0)
            have q87 := ev_of (show a.eval (.tmp 87) = .bool is from p1)
            have he : (is == is) = true := by simp
            clear hout p0 p1
            go_step
            exact hK _ _ rfl hG (Below.refl _ _)
          · intro k a w' hG hout hpre K hK
            obtain ⟨p0, p1, _⟩ := hpre
            have q85 := ev_of (show a.eval (.tmp 85) = .bool true from p0)
            have q88 := ev_of (show a.eval (.tmp 88) = .bool true from p1)
            clear hout p0 p1
            go_step
            exact hK _ _ rfl hG (Below.refl _ _)
          · intro k a w' hG hout hpre K hK
            obtain ⟨p0, _⟩ := hpre
            have q89 := ev_of (show a.eval (.tmp 89) = .bool true from p0)
            clear hout p0
            go_step
            exact hK _ _ rfl hG (Below.refl _ _)
          · intro k a w' hG hout hpre K hK
            have q3 := ev_of ((hout 3 rfl).trans (show _ = .pointer (some ⟨xb, 0, none⟩) from rfl))
            obtain ⟨d0, d1, d2⟩ := (hG.2.2.2.1 (xb, ⟨xk, xl, xh⟩) (by simp)).d3
            clear hout hpre
            go_step
            exact hK _ _ rfl hG (Below.refl _ _)
          · intro k a w' hG hout hpre K hK
            obtain ⟨p0, _⟩ := hpre
            have q91 := ev_of (show a.eval (.tmp 91) = .agg #[Sv xk, .int .i64 xl, .int .i64 xh] from p0)
            have HS := Lib.hid (HPn.out w')
            clear hout p0
            go_step
            refine HS.out.mono ?_
            rintro e w3 ⟨rfl, hB⟩
            exact hK _ _ rfl (hG.below hB) hB
          · intro k a w' hG hout hpre K hK
            obtain ⟨p0, _⟩ := hpre
            have q92 := ev_of (show a.eval (.tmp 92) = .bool false from p0)
            clear hout p0
            go_step
            exact hK _ _ rfl hG (Below.refl _ _)
          · intro k a w' hG hout hpre K hK
            obtain ⟨p0, p1, _⟩ := hpre
            have q90 := ev_of (show a.eval (.tmp 90) = .bool true from p0)
            have q93 := ev_of (show a.eval (.tmp 93) = .bool true from p1)
            clear hout p0 p1
            go_step
            exact hK _ _ rfl hG (Below.refl _ _)
          · intro k a w' hG hout hpre K hK
            obtain ⟨p0, _⟩ := hpre
            have q94 := ev_of (show a.eval (.tmp 94) = .bool true from p0)
            clear hout p0
            go_step
            exact hK _ _ rfl hG (Below.refl _ _)
        · intro vs w2 hG hlen hV
          match vs, hlen, hV with
          | v0 :: v1 :: v2 :: v3 :: v4 :: v5 :: v6 :: v7 :: v8 :: v9 :: v10 :: v11 :: v12 :: v13 :: v14 :: v15 :: v16 :: v17 :: v18 :: v19 :: v20 :: v21 :: v22 :: v23 :: v24 :: v25 :: v26 :: v27 :: v28 :: v29 :: v30 :: v31 :: v32 :: v33 :: v34 :: v35 :: v36 :: v37 :: v38 :: v39 :: v40 :: v41 :: v42 :: [], _, hV =>
            obtain rfl : v42 = .bool true := hV 42 6 v42 rfl rfl
            clear hV
            simp only [putsL, List.tail_cons, List.headD_cons]
            simp only [Act.put, List.setIfInBounds_toArray, List.set_cons_succ, List.set_cons_zero]
            have HZ : Hid (Below w.heap.size w w2) := Lib.hid hG.2.2.2.2.1
            clear hG
            go_wp2_with (fail)
            go_ret
            exact ⟨rfl, HZ.out⟩
end Go.Proofs.YtkgmcjeficgciaaDoor
