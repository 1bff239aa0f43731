/-
  GaussTurns, whatever it is called with.
-/
import Derived.Test.YtoelfjhejfgkiaaDoorGaussRot
import Derived.Test.YtoelfjhejfgkiaaDoorLocalSeq
import Derived.Deep.QuietTactic
import Derived.BigQuiet
namespace Go.Proofs.YtoelfjhejfgkiaaDoor
open Go Go.RowKit

theorem numZ_eql {a b : Int} (h : InP a b) (t : TypeId) (w : World) : (binOp .neq t (numZ a b) (numZ a b)).run Tryd.prog w = .ok (.bool false) w := by
  have := (CRep.of a b h).neq (CRep.of a b h) t w
  rw [decide_eq_true ⟨rfl, rfl⟩] at this
  exact this
theorem run_conv_i64f (w : World) (a : Int) : (convert 3 22 (.int .i64 a)).run Tryd.prog w = .ok (.float .f64 (fOf a)) w := run_conv_int_f64 w Tryd.underlying3 Tryd.underlying22
/-- After k quarters. -/
def RotRel (B0 : Nat) (w0 : World) (x0 x1 : Int) (vz vk : Value) (wr : World) : Prop :=
  ∃ k : Nat, k ≤ 4 ∧ vz = numZ (rotN x0 x1 k).1 (rotN x0 x1 k).2 ∧ vk = .int .i64 (k : Int) ∧ Below B0 w0 wr
/-- One quarter more. -/
theorem turn_more (x0 x1 : Int) (h : InP x0 x1) (k : Nat) (w : World) :
    Calls Tryd.prog 14 #[numZ (rotN x0 x1 k).1 (rotN x0 x1 k).2, .complex .f64 0 4607182418800017408] w fun e w' => e = .returned (.tuple #[numZ (rotN x0 x1 (k + 1)).1 (rotN x0 x1 (k + 1)).2, .int .i64 0]) ∧ w' = w := by
  have hk := rotN_in h k
  have hk1 := rotN_in h (k + 1)
  have := times_yes w _ _ _ _ _ _ (numZ_whole hk) (show WholeZ (.complex .f64 0 4607182418800017408) 0 1 from ⟨⟨_, _, rfl, frep_0, frep_one⟩, by unfold InP; omega⟩)
  unfold OpEnd at this
  rw [show (rotN x0 x1 k).1 * 0 - (rotN x0 x1 k).2 * 1 = (rotN x0 x1 (k + 1)).1 by simp only [rotN]; omega, show (rotN x0 x1 k).1 * 1 + (rotN x0 x1 k).2 * 0 = (rotN x0 x1 (k + 1)).2 by simp only [rotN]; omega, ofV, ofE, if_pos hk1, if_pos hk1] at this
  exact this
theorem norm_rot (x0 x1 : Int) (h : InP x0 x1) (k : Nat) (w : World) : Calls Tryd.prog 15 #[numZ (rotN x0 x1 k).1 (rotN x0 x1 k).2] w fun e w' => e = .returned (.int .i64 (x0 * x0 + x1 * x1)) ∧ w' = w := by
  have := norm_yes w _ _ _ (numZ_whole (rotN_in h k))
  rw [rotN_norm] at this
  exact this
set_option maxRecDepth 100000 in
set_option maxHeartbeats 4000000 in
theorem gaussTurns_any (w : World) (a0 a1 b0 b1 : Int) (hT : PowTab w) :
    Calls Tryd.prog 4 #[.agg #[.int .i64 a0, .int .i64 a1], .agg #[.int .i64 b0, .int .i64 b1]] w (Below0 w (.bool true)) := by
  obtain ⟨Pz, hP⟩ : ∃ P : Ending → World → Prop, P = Below0 w (.bool true) := ⟨_, rfl⟩
  rw [← hP]
  have HP := Lib.hid hP
  clear hP
  obtain ⟨x0, hx0⟩ : ∃ y, y = a0.tmod 1073741825 := ⟨_, rfl⟩
  obtain ⟨x1, hx1⟩ : ∃ y, y = a1.tmod 1073741825 := ⟨_, rfl⟩
  obtain ⟨y0, hy0⟩ : ∃ y, y = b0.tmod 1048576 := ⟨_, rfl⟩
  obtain ⟨y1, hy1⟩ : ∃ y, y = b1.tmod 1048576 := ⟨_, rfl⟩
  have tm : ∀ n m : Int, 0 < m → -(m - 1) ≤ n.tmod m ∧ n.tmod m ≤ m - 1 := fun n m hm => by
    rcases Int.le_total 0 n with h | h
    · rw [Int.tmod_eq_emod_of_nonneg h]
      have h1 := Int.emod_nonneg n (show m ≠ 0 by omega)
      have h2 := Int.emod_lt_of_pos n hm
      omega
    · obtain ⟨k, rfl⟩ : ∃ k, n = -k := ⟨-n, by omega⟩
      rw [Int.neg_tmod, Int.tmod_eq_emod_of_nonneg (by omega)]
      have h1 := Int.emod_nonneg k (show m ≠ 0 by omega)
      have h2 := Int.emod_lt_of_pos k hm
      omega
  have bx0 := tm a0 1073741825 (by decide)
  have bx1 := tm a1 1073741825 (by decide)
  have by0 := tm b0 1048576 (by decide)
  have by1 := tm b1 1048576 (by decide)
  rw [← hx0] at bx0
  rw [← hx1] at bx1
  rw [← hy0] at by0
  rw [← hy1] at by1
  have hinx : InP x0 x1 := by unfold InP; omega
  have hiny : InP y0 y1 := by unfold InP; omega
  have HI : Hid (InP x0 x1 ∧ InP y0 y1 ∧ (-1048575 ≤ y0 ∧ y0 ≤ 1048575) ∧ -1048575 ≤ y1 ∧ y1 ≤ 1048575) := Lib.hid ⟨hinx, hiny, by omega, by omega⟩
  have HRem := Lib.hid (And.intro (And.intro hx0.symm hx1.symm) (And.intro hy0.symm hy1.symm))
  obtain ⟨fx0, hfx0⟩ : ∃ f, f = Value.float .f64 (fOf x0) := ⟨_, rfl⟩
  obtain ⟨fx1, hfx1⟩ : ∃ f, f = Value.float .f64 (fOf x1) := ⟨_, rfl⟩
  obtain ⟨fy0, hfy0⟩ : ∃ f, f = Value.float .f64 (fOf y0) := ⟨_, rfl⟩
  obtain ⟨fy1, hfy1⟩ : ∃ f, f = Value.float .f64 (fOf y1) := ⟨_, rfl⟩
  obtain ⟨X, hX⟩ : ∃ f, f = numZ x0 x1 := ⟨_, rfl⟩
  obtain ⟨Y, hY⟩ : ∃ f, f = numZ y0 y1 := ⟨_, rfl⟩
  have HCc : Hid ((∀ ts t w, (Builtin.complex_ ts t #[fx0, fx1]).run Tryd.prog w = .ok X w) ∧ (∀ ts t w, (Builtin.complex_ ts t #[fy0, fy1]).run Tryd.prog w = .ok Y w)) :=
    Lib.hid ⟨fun ts t w => by rw [hfx0, hfx1, hX]; exact run_complex w ts t .f64 _ _, fun ts t w => by rw [hfy0, hfy1, hY]; exact run_complex w ts t .f64 _ _⟩
  have HCv : Hid (((∀ w, (convert 3 22 (.int .i64 x0)).run Tryd.prog w = .ok fx0 w) ∧ (∀ w, (convert 3 22 (.int .i64 x1)).run Tryd.prog w = .ok fx1 w)) ∧ ((∀ w, (convert 3 22 (.int .i64 y0)).run Tryd.prog w = .ok fy0 w) ∧ (∀ w, (convert 3 22 (.int .i64 y1)).run Tryd.prog w = .ok fy1 w))) := by
    rw [hfx0, hfx1, hfy0, hfy1]
    exact Lib.hid ⟨⟨fun w => run_conv_i64f w _, fun w => run_conv_i64f w _⟩, ⟨fun w => run_conv_i64f w _, fun w => run_conv_i64f w _⟩⟩
  have HXY := Lib.hid (And.intro hX hY)
  obtain ⟨w3, hw3⟩ : ∃ W, W = (w.alloc (.cells #[.int .i64 a0, .int .i64 a1] 24)).alloc (.cells #[.int .i64 b0, .int .i64 b1] 24) := ⟨_, rfl⟩
  obtain ⟨xb, hxb⟩ : ∃ b, b = w.heap.size := ⟨_, rfl⟩
  obtain ⟨yb, hyb⟩ : ∃ b, b = w.heap.size + 1 := ⟨_, rfl⟩
  have H3 : Hid (((w3.cell? ⟨xb, 0, none⟩ = some (.int .i64 a0) ∧ w3.cell? ⟨xb, 1, none⟩ = some (.int .i64 a1)) ∧ (w3.cell? ⟨yb, 0, none⟩ = some (.int .i64 b0) ∧ w3.cell? ⟨yb, 1, none⟩ = some (.int .i64 b1))) ∧ Below w.heap.size w w3 ∧ w3.heap.size = w.heap.size + 2 ∧ xb = w.heap.size ∧ yb = w.heap.size + 1) := by
    have hx : w3.heap[xb]? = some (.cells #[.int .i64 a0, .int .i64 a1] 24 (0, 0)) := by
      rw [hw3, hxb]
      have h0 := heap_alloc_new w (.cells #[.int .i64 a0, .int .i64 a1] 24)
      have B1 : Below (w.heap.size + 1) (w.alloc (.cells #[.int .i64 a0, .int .i64 a1] 24)) ((w.alloc (.cells #[.int .i64 a0, .int .i64 a1] 24)).alloc (.cells #[.int .i64 b0, .int .i64 b1] 24)) := (Below.refl _ _).alloc (by simp) _
      exact (B1.block _ (by omega)).trans h0
    have hy : w3.heap[yb]? = some (.cells #[.int .i64 b0, .int .i64 b1] 24 (0, 0)) := by
      rw [hw3, hyb]
      have h0 := heap_alloc_new (w.alloc (.cells #[.int .i64 a0, .int .i64 a1] 24)) (.cells #[.int .i64 b0, .int .i64 b1] 24)
      rw [show (w.alloc (.cells #[.int .i64 a0, .int .i64 a1] 24)).heap.size = w.heap.size + 1 by simp] at h0
      exact h0
    refine ⟨⟨⟨?_, ?_⟩, ?_, ?_⟩, ?_, ?_, hxb, hyb⟩
    · rw [cell_of_row _ _ _ _ _ _ hx]; rfl
    · rw [cell_of_row _ _ _ _ _ _ hx]; rfl
    · rw [cell_of_row _ _ _ _ _ _ hy]; rfl
    · rw [cell_of_row _ _ _ _ _ _ hy]; rfl
    · rw [hw3]
      exact ((Below.refl _ w).alloc (Nat.le_refl _) _).alloc (by simp) _
    · rw [hw3]
      simp
  have HF := Lib.hid (gfirst_any w3 (hT.below H3.out.2.1))
  have HTab := Lib.hid hT
  clear hT hx0 hx1 hy0 hy1 tm bx0 bx1 by0 by1 hfx0 hfx1 hfy0 hfy1 hX hY hinx hiny
  go_enter Tryd.func4, Tryd.ntmps4
  go_upto_region 1 with (fail)
  rw [← hw3, ← hyb, ← hxb]
  clear hw3 hxb hyb
  go_wp2_with (fail)
  refine HF.out.mono ?_
  rintro e w4 ⟨rfl, hB4⟩
  have hs3 : xb < w3.heap.size ∧ yb < w3.heap.size := by have := H3.out.2.2; omega
  have HG0 : Hid ((fun (_ : Nat) (w' : World) => (w'.cell? ⟨xb, 0, none⟩ = some (.int .i64 a0) ∧ w'.cell? ⟨xb, 1, none⟩ = some (.int .i64 a1)) ∧ (w'.cell? ⟨yb, 0, none⟩ = some (.int .i64 b0) ∧ w'.cell? ⟨yb, 1, none⟩ = some (.int .i64 b1)) ∧ Below w.heap.size w w') 0 { w4 with drawn := w4.drawn + 1 }) := by
    obtain ⟨⟨⟨x1', x2⟩, y1', y2⟩, hB, _⟩ := H3.out
    have hc : ∀ (b o : Nat) (v : Value), b < w3.heap.size → w3.cell? ⟨b, o, none⟩ = some v → ({ w4 with drawn := w4.drawn + 1 } : World).cell? ⟨b, o, none⟩ = some v := fun b o v hb h => by
      have := (hB4.cell (p := ⟨b, o, none⟩) hb).trans h
      exact this
    have hB5 : Below w.heap.size w w4 := hB.trans (hB4.mono hB.size)
    exact ⟨⟨hc _ _ _ hs3.1 x1', hc _ _ _ hs3.1 x2⟩, ⟨hc _ _ _ hs3.2 y1', hc _ _ _ hs3.2 y2⟩, hB5.drew⟩
  clear hs3 hB4
  dsimp only
  go_upto_region 3 with (fail)
  refine wp_region_seq_frame (by kernel_rfl) [none, none, none, none, none, none, none, none, none, none, none, none, none, none, none, none, none, none, none, none] [] (vOfC [.pointer (some ⟨xb, 0, none⟩), .int .i64 a0, .int .i64 x0, fx0, .pointer (some ⟨xb, 1, none⟩), .int .i64 a1, .int .i64 x1, fx1, X, .pointer (some ⟨yb, 0, none⟩), .int .i64 b0, .int .i64 y0, fy0, .pointer (some ⟨yb, 1, none⟩), .int .i64 b1, .int .i64 y1, fy1, Y, X, Y]) (fun _ w' => (w'.cell? ⟨xb, 0, none⟩ = some (.int .i64 a0) ∧ w'.cell? ⟨xb, 1, none⟩ = some (.int .i64 a1)) ∧ (w'.cell? ⟨yb, 0, none⟩ = some (.int .i64 b0) ∧ w'.cell? ⟨yb, 1, none⟩ = some (.int .i64 b1)) ∧ Below w.heap.size w w') (fun _ _ => True) (fun _ _ _ _ _ h => h) (by kernel_rfl) (by kernel_rfl) (by kernel_rfl) HG0.out ⟨trivial, trivial, trivial, trivial, trivial, trivial, trivial, trivial, trivial, trivial, trivial, trivial, trivial, trivial, trivial, trivial, trivial, trivial, trivial, trivial, trivial⟩ ?_ ?_
  · refine ⟨?_, ?_, ?_, ?_, ?_, ?_, ?_, ?_, ?_, ?_, ?_, ?_, ?_, ?_, ?_, ?_, ?_, ?_, ?_, ?_, trivial⟩
    · intro k a w' hG hout hpre K hK
      have q2 := ev_of ((hout 2 rfl).trans (show _ = .pointer (some ⟨xb, 0, none⟩) from rfl))
      clear hout hpre
      go_step
      exact hK _ _ rfl hG trivial
    · intro k a w' hG hout hpre K hK
      obtain ⟨p0, _⟩ := hpre
      have q19 := ev_of (show a.eval (.tmp 19) = .pointer (some ⟨xb, 0, none⟩) from p0)
      have hc : w'.cell? ⟨xb, 0, none⟩ = some (.int .i64 a0) := hG.1.1
      clear hout p0
      go_step
      exact hK _ _ rfl hG trivial
    · intro k a w' hG hout hpre K hK
      obtain ⟨p0, _⟩ := hpre
      have q20 := ev_of (show a.eval (.tmp 20) = .int .i64 a0 from p0)
      have hr := HRem.out.1.1
      clear hout p0
      go_step
      exact hK _ _ rfl hG trivial
    · intro k a w' hG hout hpre K hK
      obtain ⟨p0, _⟩ := hpre
      have q21 := ev_of (show a.eval (.tmp 21) = .int .i64 x0 from p0)
      have hv := HCv.out.1.1
      clear hout p0
      go_step
      exact hK _ _ rfl hG trivial
    · intro k a w' hG hout hpre K hK
      have q2 := ev_of ((hout 2 rfl).trans (show _ = .pointer (some ⟨xb, 0, none⟩) from rfl))
      clear hout hpre
      go_step
      exact hK _ _ rfl hG trivial
    · intro k a w' hG hout hpre K hK
      obtain ⟨p0, _⟩ := hpre
      have q23 := ev_of (show a.eval (.tmp 23) = .pointer (some ⟨xb, 1, none⟩) from p0)
      have hc : w'.cell? ⟨xb, 1, none⟩ = some (.int .i64 a1) := hG.1.2
      clear hout p0
      go_step
      exact hK _ _ rfl hG trivial
    · intro k a w' hG hout hpre K hK
      obtain ⟨p0, _⟩ := hpre
      have q24 := ev_of (show a.eval (.tmp 24) = .int .i64 a1 from p0)
      have hr := HRem.out.1.2
      clear hout p0
      go_step
      exact hK _ _ rfl hG trivial
    · intro k a w' hG hout hpre K hK
      obtain ⟨p0, _⟩ := hpre
      have q25 := ev_of (show a.eval (.tmp 25) = .int .i64 x1 from p0)
      have hv := HCv.out.1.2
      clear hout p0
      go_step
      exact hK _ _ rfl hG trivial
    · intro k a w' hG hout hpre K hK
      obtain ⟨p0, p1, _⟩ := hpre
      have q22 := ev_of (show a.eval (.tmp 22) = fx0 from p0)
      have q26 := ev_of (show a.eval (.tmp 26) = fx1 from p1)
      have hv := HCc.out.1
      clear hout p0 p1
      go_step
      exact hK _ _ rfl hG trivial
    · intro k a w' hG hout hpre K hK
      have q3 := ev_of ((hout 3 rfl).trans (show _ = .pointer (some ⟨yb, 0, none⟩) from rfl))
      clear hout hpre
      go_step
      exact hK _ _ rfl hG trivial
    · intro k a w' hG hout hpre K hK
      obtain ⟨p0, _⟩ := hpre
      have q28 := ev_of (show a.eval (.tmp 28) = .pointer (some ⟨yb, 0, none⟩) from p0)
      have hc : w'.cell? ⟨yb, 0, none⟩ = some (.int .i64 b0) := hG.2.1.1
      clear hout p0
      go_step
      exact hK _ _ rfl hG trivial
    · intro k a w' hG hout hpre K hK
      obtain ⟨p0, _⟩ := hpre
      have q29 := ev_of (show a.eval (.tmp 29) = .int .i64 b0 from p0)
      have hr := HRem.out.2.1
      clear hout p0
      go_step
      exact hK _ _ rfl hG trivial
    · intro k a w' hG hout hpre K hK
      obtain ⟨p0, _⟩ := hpre
      have q30 := ev_of (show a.eval (.tmp 30) = .int .i64 y0 from p0)
      have hv := HCv.out.2.1
      clear hout p0
      go_step
      exact hK _ _ rfl hG trivial
    · intro k a w' hG hout hpre K hK
      have q3 := ev_of ((hout 3 rfl).trans (show _ = .pointer (some ⟨yb, 0, none⟩) from rfl))
      clear hout hpre
      go_step
      exact hK _ _ rfl hG trivial
    · intro k a w' hG hout hpre K hK
      obtain ⟨p0, _⟩ := hpre
      have q32 := ev_of (show a.eval (.tmp 32) = .pointer (some ⟨yb, 1, none⟩) from p0)
      have hc : w'.cell? ⟨yb, 1, none⟩ = some (.int .i64 b1) := hG.2.1.2
      clear hout p0
      go_step
      exact hK _ _ rfl hG trivial
    · intro k a w' hG hout hpre K hK
      obtain ⟨p0, _⟩ := hpre
      have q33 := ev_of (show a.eval (.tmp 33) = .int .i64 b1 from p0)
      have hr := HRem.out.2.2
      clear hout p0
      go_step
      exact hK _ _ rfl hG trivial
    · intro k a w' hG hout hpre K hK
      obtain ⟨p0, _⟩ := hpre
      have q34 := ev_of (show a.eval (.tmp 34) = .int .i64 y1 from p0)
      have hv := HCv.out.2.2
      clear hout p0
      go_step
      exact hK _ _ rfl hG trivial
    · intro k a w' hG hout hpre K hK
      obtain ⟨p0, p1, _⟩ := hpre
      have q31 := ev_of (show a.eval (.tmp 31) = fy0 from p0)
      have q35 := ev_of (show a.eval (.tmp 35) = fy1 from p1)
      have hv := HCc.out.2
      clear hout p0 p1
      go_step
      exact hK _ _ rfl hG trivial
    · intro k a w' hG hout hpre K hK
      obtain ⟨p0, _⟩ := hpre
      have q27 := ev_of (show a.eval (.tmp 27) = X from p0)
      clear hout p0
      go_step
      exact hK _ _ rfl hG trivial
    · intro k a w' hG hout hpre K hK
      obtain ⟨p0, _⟩ := hpre
      have q36 := ev_of (show a.eval (.tmp 36) = Y from p0)
      clear hout p0
      go_step
      exact hK _ _ rfl hG trivial
  · intro vs w2 hG hlen hV
    match vs, hlen, hV with
    | [v0, v1, v2, v3, v4, v5, v6, v7, v8, v9, v10, v11, v12, v13, v14, v15, v16, v17, v18, v19], _, hV =>
      obtain rfl : v18 = X := hV 18 5 v18 rfl rfl
      obtain rfl : v19 = Y := hV 19 6 v19 rfl rfl
      clear hV
      simp only [putsL, List.tail_cons, List.headD_cons]
      simp only [Act.put, List.setIfInBounds_toArray, List.set_cons_succ, List.set_cons_zero]
      have H5 : Hid (Below w.heap.size w w2) := hG.2.2
      clear hG HG0 HCc HCv HRem H3 HF
      obtain ⟨N, hN⟩ : ∃ N, N = x0 * x0 + x1 * x1 := ⟨_, rfl⟩
      have HNx : Hid (∀ w, Calls Tryd.prog 15 #[v18] w fun e w' => e = .returned (.int .i64 N) ∧ w' = w) := Lib.hid (fun w => by
        rw [HXY.out.1, hN]
        exact norm_yes w _ x0 x1 (numZ_whole HI.out.1))
      have HNn := Lib.hid hN
      go_wp2_with (fail)
      go_loopw [7, 38] (RotRel w.heap.size w x0 x1) (fun _ v _ => 4 - (intOf v).toNat)
      case atStart => exact ⟨0, by omega, by rw [HXY.out.1]; rfl, rfl, H5.out⟩
      case round =>
        obtain ⟨k, hk, rfl, rfl, hB⟩ := hrel
        have HB := Lib.hid hB
        clear hB
        by_cases hlt : k < 4
        · have hlt' : (k : Int) < 4 := by omega
          have HTm := Lib.hid (turn_more x0 x1 HI.out.1 k)
          have HNk := Lib.hid (norm_rot x0 x1 HI.out.1 (k + 1))
          have hink := rotN_in HI.out.1 k
          have HSn := Lib.hid (fun w => side_yes w _ _ _ (numZ_whole (rotN_in HI.out.1 (k + 1))))
          have HSk := Lib.hid (fun w => side_yes w _ _ _ (numZ_whole hink))
          have hz0 := (CRep.of _ _ hink).neq zeroZ_rep
          have HZ : Hid (∀ wr, Below w.heap.size w wr → RotRel w.heap.size w x0 x1 (numZ (rotN x0 x1 (k + 1)).1 (rotN x0 x1 (k + 1)).2) (.int .i64 ((k : Int) + 1)) wr) := Lib.hid (fun wr hB => ⟨k + 1, by omega, rfl, by go_num, hB⟩)
          have HM : Hid (4 - ((k : Int) + 1).toNat < 4 - (k : Int).toNat) := Lib.hid (by omega)
          have hst := side_turn (rotN x0 x1 k).1 (rotN x0 x1 k).2
          obtain ⟨Zk, hZk⟩ : ∃ Z, Z = numZ (rotN x0 x1 k).1 (rotN x0 x1 k).2 := ⟨_, rfl⟩
          obtain ⟨Zn, hZn⟩ : ∃ Z, Z = numZ (rotN x0 x1 (k + 1)).1 (rotN x0 x1 (k + 1)).2 := ⟨_, rfl⟩
          have hgd : ∀ op t o1 o2 w, (eqGuard op t o1 o2 Zk (.complex .f64 0 0)).run Tryd.prog w = .ok () w := fun op t o1 o2 w => by rw [hZk]; cases op <;> rfl
          rw [show Value.complex .f64 (fOf (rotN x0 x1 k).1) (fOf (rotN x0 x1 k).2) = Zk from hZk.symm] at hz0
          obtain ⟨s, hs⟩ : ∃ s, s = sideP (rotN x0 x1 k).1 (rotN x0 x1 k).2 := ⟨_, rfl⟩
          obtain ⟨s2, hs2⟩ : ∃ s, s = sideP (rotN x0 x1 (k + 1)).1 (rotN x0 x1 (k + 1)).2 := ⟨_, rfl⟩
          rw [show sideP (-(rotN x0 x1 k).2) (rotN x0 x1 k).1 = s2 from hs2.symm, ← hs] at hst
          simp only [← hZk, ← hZn, ← hs, ← hs2, ← HNn.out] at HTm HNk HSn HSk HZ
          rw [← hZk]
          clear hlt hk hink hZk hZn hs hs2 hN
          by_cases h0 : (rotN x0 x1 k).1 = 0 ∧ (rotN x0 x1 k).2 = 0
          · rw [decide_eq_true h0] at hz0
            have hz1 : ∀ t w, (binOp .neq t Zk (.complex .f64 0 0)).run Tryd.prog w = .ok (.bool false) w := hz0
            clear h0 hst hz0
            go_wp2_with (fail)
            refine (HTm.out _).mono ?_
            rintro e w' ⟨rfl, hw'⟩
            subst w'
            dsimp only
            go_wp2_with (fail)
            refine (HNk.out _).mono ?_
            rintro e w' ⟨rfl, hw'⟩
            subst w'
            dsimp only
            go_wp2_with (fail)
            refine (HNx.out _).mono ?_
            rintro e w' ⟨rfl, hw'⟩
            subst w'
            dsimp only
            go_wp2_with (fail)
            refine ⟨HZ.out _ HB.out, ?_⟩
            rw [intOf_int, intOf_int]
            exact HM.out
          · obtain ⟨hst1, hst2, hst3⟩ := hst h0
            rw [decide_eq_false h0] at hz0
            have hz1 : ∀ t w, (binOp .neq t Zk (.complex .f64 0 0)).run Tryd.prog w = .ok (.bool true) w := hz0
            have hst4 := hst1.symm
            clear h0 hz0 hst1
            go_wp2_with (fail)
            refine (HTm.out _).mono ?_
            rintro e w' ⟨rfl, hw'⟩
            subst w'
            dsimp only
            go_wp2_with (fail)
            refine (HNk.out _).mono ?_
            rintro e w' ⟨rfl, hw'⟩
            subst w'
            dsimp only
            go_wp2_with (fail)
            refine (HNx.out _).mono ?_
            rintro e w' ⟨rfl, hw'⟩
            subst w'
            dsimp only
            go_wp2_with (fail)
            refine (HSn.out _).mono ?_
            rintro e w5 ⟨rfl, hB⟩
            have HB5 : Hid (Below w.heap.size w w5) := HB.out.trans (hB.mono HB.out.size)
            clear hB
            dsimp only
            go_wp2_with (fail)
            refine (HSk.out _).mono ?_
            rintro e w6 ⟨rfl, hB⟩
            have HB6 : Hid (Below w.heap.size w w6) := HB5.out.trans (hB.mono HB5.out.size)
            clear hB
            dsimp only
            go_wp2_with (fail)
            refine ⟨HZ.out _ HB6.out, ?_⟩
            rw [intOf_int, intOf_int]
            exact HM.out
        · obtain rfl : k = 4 := by omega
          have e4 : numZ (rotN x0 x1 4).1 (rotN x0 x1 4).2 = v18 := by rw [rotN_four, HXY.out.1]
          rw [e4]
          clear hlt hk e4 hN
          obtain ⟨nY, hnY⟩ : ∃ N, N = y0 * y0 + y1 * y1 := ⟨_, rfl⟩
          have zX : WholeZ v18 x0 x1 := by rw [HXY.out.1]; exact numZ_whole HI.out.1
          have zY : WholeZ v19 y0 y1 := by rw [HXY.out.2]; exact numZ_whole HI.out.2.1
          have HTx : Hid (∀ w', Below w.heap.size w w' → Calls Tryd.prog 17 #[v18] w' (Below0 w' (Sv (bvL (textB x0 x1))))) := Lib.hid (fun w' hB => text_yes w' _ x0 x1 zX (HTab.out.below hB))
          have HPs : Hid (∀ w', Below w.heap.size w w' → Calls Tryd.prog 23 #[Sv (bvL (textB x0 x1))] w' (Below0 w' (.tuple #[v18, .bool true]))) := Lib.hid (fun w' hB => by
            have := parse_text w' x0 x1 HI.out.1 (HTab.out.below hB)
            rw [← HXY.out.1] at this
            exact this)
          have HNy : Hid (∀ w, Calls Tryd.prog 15 #[v19] w fun e w' => e = .returned (.int .i64 nY) ∧ w' = w) := Lib.hid (fun w => by
            rw [hnY]
            exact norm_yes w _ y0 y1 zY)
          have HT2 := Lib.hid (fun w => times_yes w v18 v19 x0 x1 y0 y1 zX zY)
          obtain ⟨Sx, hSx⟩ : ∃ S, S = Sv (bvL (textB x0 x1)) := ⟨_, rfl⟩
          simp only [← hSx] at HTx HPs
          have hne : ∀ t w, (binOp .neq t v18 v18).run Tryd.prog w = .ok (.bool false) w := fun t w => by rw [HXY.out.1]; exact numZ_eql HI.out.1 t w
          have hgd : ∀ op t o1 o2 w, (eqGuard op t o1 o2 v18 v18).run Tryd.prog w = .ok () w := fun op t o1 o2 w => by rw [HXY.out.1]; cases op <;> rfl
          obtain ⟨W0, hW0⟩ : ∃ W, W = wr.alloc (.cells #[.slice none 0 0] 50) := ⟨_, rfl⟩
          obtain ⟨b, hb⟩ : ∃ b, b = wr.heap.size := ⟨_, rfl⟩
          have p0 : PenAt (· < b) W0 b [] := by rw [hW0, hb]; exact PenAt.new _ wr
          have s0 : b < W0.heap.size := by rw [hW0, hb]; simp
          have B0 : Below b wr W0 := by rw [hW0, hb]; exact (Below.refl _ wr).alloc (Nat.le_refl _) _
          have HU := Lib.hid (put_yes W0 (· < b) b [] v18 x0 x1 zX p0 (fun k hk => Nat.lt_trans hk s0) (by simp))
          have HG := Lib.hid (fun w hP => got_any w (· < b) b x0 x1 HI.out.1 hP)
          simp only [← HXY.out.1] at HG
          have HBk : Hid (b < W0.heap.size ∧ Below b wr W0 ∧ b = wr.heap.size) := Lib.hid ⟨s0, B0, hb⟩
          have HNY := Lib.hid hnY
          clear hSx p0 s0 B0 hnY zX zY
          go_upto_region 13 with (fail)
          rw [← hW0, ← hb]
          clear hW0 hb
          go_wp2_with (fail)
          refine HU.out.mono ?_
          rintro e W1 ⟨rfl, p1, k1⟩
          have H1 : Hid (PenAt (· < b) W1 b (signedL x0 ++ signedL x1) ∧ Below w.heap.size w W1) := by
            refine ⟨p1, ?_⟩
            have h := (k1.below (B := b) (fun k hk => hk) (Nat.le_refl _) (Nat.le_of_lt HBk.out.1))
            have h2 : Below b wr W1 := HBk.out.2.1.trans h
            rw [HBk.out.2.2] at h2
            exact HB.out.trans (h2.mono HB.out.size)
          clear p1 k1
          dsimp only
          go_wp2_with (fail)
          refine (HTx.out _ H1.out.2).mono ?_
          rintro e W2 ⟨rfl, hB⟩
          have H2 : Hid (PenAt (· < b) W2 b (signedL x0 ++ signedL x1) ∧ Below w.heap.size w W2) := ⟨H1.out.1.below hB, H1.out.2.trans (hB.mono H1.out.2.size)⟩
          clear hB H1
          dsimp only
          go_wp2_with (fail)
          refine (HPs.out _ H2.out.2).mono ?_
          rintro e W3 ⟨rfl, hB⟩
          have H3 : Hid (PenAt (· < b) W3 b (signedL x0 ++ signedL x1) ∧ Below w.heap.size w W3) := ⟨H2.out.1.below hB, H2.out.2.trans (hB.mono H2.out.2.size)⟩
          clear hB H2
          dsimp only
          go_wp2_with (fail)
          refine (HG.out _ H3.out.1).mono ?_
          rintro e W4 ⟨V, rfl, hB4, hc4⟩
          have HC4 := Lib.hid hc4
          clear hB4 hc4
          dsimp only
          go_wp2_with (fail)
          refine HC4.out.mono ?_
          rintro e W5 ⟨r, rfl, hB5, hc5⟩
          have HC5 := Lib.hid hc5
          clear hB5 hc5 HC4
          dsimp only
          go_wp2_with (fail)
          refine HC5.out.mono ?_
          rintro e W6 ⟨rfl, hB⟩
          have H6 : Hid (Below w.heap.size w W6) := H3.out.2.trans (hB.mono H3.out.2.size)
          clear hB H3 HC5
          dsimp only
          go_wp2_with (fail)
          by_cases hin : InP (x0 * y0 - x1 * y1) (x0 * y1 + x1 * y0)
          · have HT3 : Hid (∀ w, Calls Tryd.prog 14 #[v18, v19] w fun e w' => e = .returned (.tuple #[numZ (x0 * y0 - x1 * y1) (x0 * y1 + x1 * y0), .int .i64 0]) ∧ w' = w) := Lib.hid (fun w => by
              have := HT2.out w
              unfold OpEnd at this
              rw [ofV, ofE, if_pos hin, if_pos hin] at this
              exact this)
            obtain ⟨nM, hnM⟩ : ∃ N, N = (x0 * y0 - x1 * y1) * (x0 * y0 - x1 * y1) + (x0 * y1 + x1 * y0) * (x0 * y1 + x1 * y0) := ⟨_, rfl⟩
            have HNm : Hid (∀ w, Calls Tryd.prog 15 #[numZ (x0 * y0 - x1 * y1) (x0 * y1 + x1 * y0)] w fun e w' => e = .returned (.int .i64 nM) ∧ w' = w) := Lib.hid (fun w => by
              rw [hnM]
              exact norm_yes w _ _ _ (numZ_whole hin))
            have hmul : N * nY = nM := by rw [HNn.out, HNY.out, hnM]; exact norm_prod x0 x1 y0 y1
            have hbM : -9223372036854775808 ≤ nM ∧ nM < 9223372036854775808 := by
              unfold InP at hin
              have k1 := prod_bd (a := x0 * y0 - x1 * y1) (b := x0 * y0 - x1 * y1) (A := 1073741824) (B := 1073741824) (by omega) (by omega)
              have k2 := prod_bd (a := x0 * y1 + x1 * y0) (b := x0 * y1 + x1 * y0) (A := 1073741824) (B := 1073741824) (by omega) (by omega)
              omega
            have hw1 : IntKind.i64.wrap nM = nM := IntWalk.i64_in _ (by omega)
            have hw2 : wrap64 nM = nM := by unfold wrap64; omega
            obtain ⟨M, hM⟩ : ∃ M, M = numZ (x0 * y0 - x1 * y1) (x0 * y1 + x1 * y0) := ⟨_, rfl⟩
            simp only [← hM] at HT3 HNm
            clear hin hnM hbM hM
            refine (HT3.out _).mono ?_
            rintro e w' ⟨rfl, hw'⟩
            subst w'
            dsimp only
            go_wp2_with (fail)
            refine (HNy.out _).mono ?_
            rintro e w' ⟨rfl, hw'⟩
            subst w'
            dsimp only
            by_cases hn0 : 0 < nY
            · obtain ⟨Q, hQ⟩ : ∃ Q, Q = (4611686018427387903 : Int).tdiv nY := ⟨_, rfl⟩
              have hq : (4611686018427387903 : Int).tdiv nY = Q := hQ.symm
              have hq0 : 0 ≤ Q := by rw [hQ]; exact Int.tdiv_nonneg (by decide) (by omega)
              have hq1 : Q ≤ 4611686018427387903 := by rw [hQ]; exact Int.tdiv_le_self _ (by decide)
              have hqw : IntKind.i64.wrap Q = Q := IntWalk.i64_in _ (by omega)
              have hqw2 : wrap64 Q = Q := by unfold wrap64; omega
              have hnz : (nY == 0) = false := by rw [beq_eq_false_iff_ne]; omega
              by_cases hg : Q < N
              · clear hQ hq0 hq1
                go_wp2_with (fail)
                go_quiet ((go_at_call 15; exact Calls.quiet_of_same (HNx.out _)))
                go_wp2_with (fail)
                first
                | (rw [HP.out]; exact ⟨rfl, H6.out.trans ((below_draws (Below.refl _ _) _).mono H6.out.size)⟩)
                | (go_ret; rw [HP.out]; exact ⟨rfl, H6.out.trans ((below_draws (Below.refl _ _) _).mono H6.out.size)⟩)
              · have hg2 : decide (Q < N) = false := decide_eq_false hg
                clear hQ hq0 hq1 hg
                go_wp2_with (fail)
                go_quiet ((go_at_call 15; exact Calls.quiet_of_same (HNx.out _)))
                go_wp2_with (fail)
                refine (HNm.out _).mono ?_
                rintro e w' ⟨rfl, hw'⟩
                subst w'
                dsimp only
                go_wp2_with (fail)
                refine (HNx.out _).mono ?_
                rintro e w' ⟨rfl, hw'⟩
                subst w'
                dsimp only
                go_wp2_with (fail)
                refine (HNy.out _).mono ?_
                rintro e w' ⟨rfl, hw'⟩
                subst w'
                dsimp only
                go_wp2_with (fail)
                first
                | (rw [HP.out]; exact ⟨rfl, H6.out.trans ((below_draws (Below.refl _ _) _).mono H6.out.size)⟩)
                | (go_ret; rw [HP.out]; exact ⟨rfl, H6.out.trans ((below_draws (Below.refl _ _) _).mono H6.out.size)⟩)
            · have hn2 : decide ((0 : Int) < nY) = false := decide_eq_false hn0
              clear hn0
              go_wp2_with (fail)
              go_quiet (fail)
              go_wp2_with (fail)
              refine (HNm.out _).mono ?_
              rintro e w' ⟨rfl, hw'⟩
              subst w'
              dsimp only
              go_wp2_with (fail)
              refine (HNx.out _).mono ?_
              rintro e w' ⟨rfl, hw'⟩
              subst w'
              dsimp only
              go_wp2_with (fail)
              refine (HNy.out _).mono ?_
              rintro e w' ⟨rfl, hw'⟩
              subst w'
              dsimp only
              go_wp2_with (fail)
              first
              | (rw [HP.out]; exact ⟨rfl, H6.out.trans ((below_draws (Below.refl _ _) _).mono H6.out.size)⟩)
              | (go_ret; rw [HP.out]; exact ⟨rfl, H6.out.trans ((below_draws (Below.refl _ _) _).mono H6.out.size)⟩)
          · have HT3 : Hid (∀ w, Calls Tryd.prog 14 #[v18, v19] w fun e w' => e = .returned (.tuple #[zeroZ, .int .i64 20]) ∧ w' = w) := Lib.hid (fun w => by
              have := HT2.out w
              unfold OpEnd at this
              rw [ofV, ofE, if_neg hin, if_neg hin] at this
              exact this)
            clear hin
            refine (HT3.out _).mono ?_
            rintro e w' ⟨rfl, hw'⟩
            subst w'
            dsimp only
            go_wp2_with (fail)
            refine (HNy.out _).mono ?_
            rintro e w' ⟨rfl, hw'⟩
            subst w'
            dsimp only
            go_wp2_with (fail)
            go_quiet (fail)
            go_wp2_with (fail)
            first
            | (rw [HP.out]; exact ⟨rfl, H6.out.trans ((below_draws (Below.refl _ _) _).mono H6.out.size)⟩)
            | (go_ret; rw [HP.out]; exact ⟨rfl, H6.out.trans ((below_draws (Below.refl _ _) _).mono H6.out.size)⟩)
end Go.Proofs.YtoelfjhejfgkiaaDoor
