/-
  GaussRing, whatever it is called with.
-/
import Derived.Test.YtoelfjhejfgkiaaDoorGaussFirst
import Derived.Test.YtoelfjhejfgkiaaDoorLocalSeq
namespace Go.Proofs.YtoelfjhejfgkiaaDoor
open Go Go.RowKit

theorem add_in (w : World) (x y : Value) (u v a b c d : Int) (hx : WholeZ x u v) (hy : WholeZ y a b) (hc : u + a = c) (hd : v + b = d) (hin : InP c d) :
    Calls Tryd.prog 13 #[x, y] w fun e w' => e = .returned (.tuple #[numZ c d, .int .i64 0]) ∧ w' = w := by
  have := add_yes w x y u v a b hx hy
  unfold OpEnd at this
  rw [hc, hd, ofV, ofE, if_pos hin, if_pos hin] at this
  exact this
theorem times_in (w : World) (x y : Value) (u v a b c d : Int) (hx : WholeZ x u v) (hy : WholeZ y a b) (hc : u * a - v * b = c) (hd : u * b + v * a = d) (hin : InP c d) :
    Calls Tryd.prog 14 #[x, y] w fun e w' => e = .returned (.tuple #[numZ c d, .int .i64 0]) ∧ w' = w := by
  have := times_yes w x y u v a b hx hy
  unfold OpEnd at this
  rw [hc, hd, ofV, ofE, if_pos hin, if_pos hin] at this
  exact this
/-- What a sum or a product of two answers. -/
def AddP (x y r : Value) : Prop := ∀ w, Calls Tryd.prog 13 #[x, y] w fun e w' => e = .returned (.tuple #[r, .int .i64 0]) ∧ w' = w
def TimesP (x y r : Value) : Prop := ∀ w, Calls Tryd.prog 14 #[x, y] w fun e w' => e = .returned (.tuple #[r, .int .i64 0]) ∧ w' = w
theorem eql_whole {z : Value} {u v : Int} (h : WholeZ z u v) (t : TypeId) (w : World) : (binOp .eql t z z).run Tryd.prog w = .ok (.bool true) w := by
  have := h.1.eql h.1 t w
  rw [decide_eq_true ⟨rfl, rfl⟩] at this
  exact this
/-- The ring's laws, over three small ones. -/
theorem ring_facts (x0 x1 y0 y1 z0 z1 : Int) (hx : (-32768 ≤ x0 ∧ x0 ≤ 32768) ∧ -32768 ≤ x1 ∧ x1 ≤ 32768) (hy : (-127 ≤ y0 ∧ y0 ≤ 127) ∧ -127 ≤ y1 ∧ y1 ≤ 127) (hz : (-63 ≤ z0 ∧ z0 ≤ 63) ∧ -63 ≤ z1 ∧ z1 ≤ 63) :
    ∃ S P Q R V W : Value, (AddP (numZ y0 y1) (numZ z0 z1) S ∧ AddP (numZ z0 z1) (numZ y0 y1) S ∧ TimesP (numZ x0 x1) S P ∧ TimesP (numZ x0 x1) (numZ y0 y1) Q ∧ TimesP (numZ x0 x1) (numZ z0 z1) R ∧ AddP Q R P ∧ TimesP Q (numZ z0 z1) V ∧ TimesP (numZ y0 y1) (numZ z0 z1) W ∧ TimesP (numZ x0 x1) W V ∧ TimesP (numZ y0 y1) (numZ x0 x1) Q) ∧
      (∃ a b, WholeZ S a b) ∧ (∃ a b, WholeZ P a b) ∧ (∃ a b, WholeZ Q a b) ∧ (∃ a b, WholeZ V a b) := by
  have X := numZ_whole (a := x0) (b := x1) (by unfold InP; omega)
  have Y := numZ_whole (a := y0) (b := y1) (by unfold InP; omega)
  have Z := numZ_whole (a := z0) (b := z1) (by unfold InP; omega)
  have k1 := prod_bd (a := x0) (b := y0) hx.1 hy.1
  have k2 := prod_bd (a := x1) (b := y1) hx.2 hy.2
  have k3 := prod_bd (a := x0) (b := y1) hx.1 hy.2
  have k4 := prod_bd (a := x1) (b := y0) hx.2 hy.1
  have l1 := prod_bd (a := x0) (b := z0) hx.1 hz.1
  have l2 := prod_bd (a := x1) (b := z1) hx.2 hz.2
  have l3 := prod_bd (a := x0) (b := z1) hx.1 hz.2
  have l4 := prod_bd (a := x1) (b := z0) hx.2 hz.1
  have m1 := prod_bd (a := y0) (b := z0) hy.1 hz.1
  have m2 := prod_bd (a := y1) (b := z1) hy.2 hz.2
  have m3 := prod_bd (a := y0) (b := z1) hy.1 hz.2
  have m4 := prod_bd (a := y1) (b := z0) hy.2 hz.1
  have iS : InP (y0 + z0) (y1 + z1) := by unfold InP; omega
  have iQ : InP (x0 * y0 - x1 * y1) (x0 * y1 + x1 * y0) := by unfold InP; omega
  have iR : InP (x0 * z0 - x1 * z1) (x0 * z1 + x1 * z0) := by unfold InP; omega
  have iW : InP (y0 * z0 - y1 * z1) (y0 * z1 + y1 * z0) := by unfold InP; omega
  have eP1 : x0 * (y0 + z0) - x1 * (y1 + z1) = (x0 * y0 - x1 * y1) + (x0 * z0 - x1 * z1) := by rw [Int.mul_add, Int.mul_add]; omega
  have eP2 : x0 * (y1 + z1) + x1 * (y0 + z0) = (x0 * y1 + x1 * y0) + (x0 * z1 + x1 * z0) := by rw [Int.mul_add, Int.mul_add]; omega
  have iP : InP ((x0 * y0 - x1 * y1) + (x0 * z0 - x1 * z1)) ((x0 * y1 + x1 * y0) + (x0 * z1 + x1 * z0)) := by unfold InP; omega
  have n1 := prod_bd (a := x0 * y0 - x1 * y1) (b := z0) (A := 8323072) (by omega) hz.1
  have n2 := prod_bd (a := x0 * y1 + x1 * y0) (b := z1) (A := 8323072) (by omega) hz.2
  have n3 := prod_bd (a := x0 * y0 - x1 * y1) (b := z1) (A := 8323072) (by omega) hz.2
  have n4 := prod_bd (a := x0 * y1 + x1 * y0) (b := z0) (A := 8323072) (by omega) hz.1
  have iV : InP ((x0 * y0 - x1 * y1) * z0 - (x0 * y1 + x1 * y0) * z1) ((x0 * y0 - x1 * y1) * z1 + (x0 * y1 + x1 * y0) * z0) := by unfold InP; omega
  have eV1 : x0 * (y0 * z0 - y1 * z1) - x1 * (y0 * z1 + y1 * z0) = (x0 * y0 - x1 * y1) * z0 - (x0 * y1 + x1 * y0) * z1 := by
    rw [Int.mul_sub, Int.mul_add, Int.sub_mul, Int.add_mul, ← Int.mul_assoc, ← Int.mul_assoc, ← Int.mul_assoc, ← Int.mul_assoc]
    omega
  have eV2 : x0 * (y0 * z1 + y1 * z0) + x1 * (y0 * z0 - y1 * z1) = (x0 * y0 - x1 * y1) * z1 + (x0 * y1 + x1 * y0) * z0 := by
    rw [Int.mul_sub, Int.mul_add, Int.sub_mul, Int.add_mul, ← Int.mul_assoc, ← Int.mul_assoc, ← Int.mul_assoc, ← Int.mul_assoc]
    omega
  refine ⟨_, _, _, _, _, _, ⟨fun w => add_in w _ _ _ _ _ _ _ _ Y Z rfl rfl iS, fun w => add_in w _ _ _ _ _ _ _ _ Z Y (Int.add_comm _ _) (Int.add_comm _ _) iS, fun w => times_in w _ _ _ _ _ _ _ _ X (numZ_whole iS) eP1 eP2 iP, fun w => times_in w _ _ _ _ _ _ _ _ X Y rfl rfl iQ,
    fun w => times_in w _ _ _ _ _ _ _ _ X Z rfl rfl iR, fun w => add_in w _ _ _ _ _ _ _ _ (numZ_whole iQ) (numZ_whole iR) rfl rfl iP, fun w => times_in w _ _ _ _ _ _ _ _ (numZ_whole iQ) Z rfl rfl iV, fun w => times_in w _ _ _ _ _ _ _ _ Y Z rfl rfl iW,
    fun w => times_in w _ _ _ _ _ _ _ _ X (numZ_whole iW) eV1 eV2 iV, fun w => times_in w _ _ _ _ _ _ _ _ Y X ?_ ?_ iQ⟩, ⟨_, _, numZ_whole iS⟩, ⟨_, _, numZ_whole iP⟩, ⟨_, _, numZ_whole iQ⟩, ⟨_, _, numZ_whole iV⟩⟩
  · rw [Int.mul_comm y0, Int.mul_comm y1]
  · rw [Int.mul_comm y0, Int.mul_comm y1, Int.add_comm]
def ErrRel (w0 : World) (v : Value) (wr : World) : Prop := ∃ k : Nat, k ≤ 10 ∧ v = .int .i64 (k : Int) ∧ wr = w0
theorem run_conv_i16 (w : World) (a : Int) : (convert 59 22 (.int .i16 a)).run Tryd.prog w = .ok (.float .f64 (fOf a)) w := run_conv_int_f64 w Tryd.underlying59 Tryd.underlying22
set_option maxRecDepth 100000 in
set_option maxHeartbeats 4000000 in
theorem gaussRing_any (w : World) (a0 a1 b0 b1 c0 c1 : Int) (ha : (-32768 ≤ a0 ∧ a0 ≤ 32767) ∧ -32768 ≤ a1 ∧ a1 ≤ 32767) (hT : PowTab w) :
    Calls Tryd.prog 5 #[.agg #[.int .i16 a0, .int .i16 a1], .agg #[.int .i16 b0, .int .i16 b1], .agg #[.int .i16 c0, .int .i16 c1]] w (Below0 w (.bool true)) := by
  obtain ⟨Pz, hP⟩ : ∃ P : Ending → World → Prop, P = Below0 w (.bool true) := ⟨_, rfl⟩
  rw [← hP]
  have HP := Lib.hid hP
  clear hP
  obtain ⟨y0, hy0⟩ : ∃ y, y = b0.tmod 128 := ⟨_, rfl⟩
  obtain ⟨y1, hy1⟩ : ∃ y, y = b1.tmod 128 := ⟨_, rfl⟩
  obtain ⟨z0, hz0⟩ : ∃ y, y = c0.tmod 64 := ⟨_, rfl⟩
  obtain ⟨z1, hz1⟩ : ∃ y, y = c1.tmod 64 := ⟨_, rfl⟩
  have tm : ∀ n m : Int, 0 < m → -(m - 1) ≤ n.tmod m ∧ n.tmod m ≤ m - 1 := fun n m hm => by
    rcases Int.le_total 0 n with h | h
    · rw [Int.tmod_eq_emod_of_nonneg h]
      have h1 := Int.emod_nonneg n (show m ≠ 0 by omega)
      have h2 := Int.emod_lt_of_pos n hm
      omega
    · obtain ⟨k, rfl⟩ : ∃ k, n = -k := ⟨-n, by omega⟩
      rw [Int.neg_tmod, Int.tmod_eq_emod_of_nonneg (by omega)]
      have h1 := Int.emod_nonneg k (show m ≠ 0 by omega)
      have h2 := Int.emod_lt_of_pos k hm
      omega
  have by0 := tm b0 128 (by decide)
  have by1 := tm b1 128 (by decide)
  have bz0 := tm c0 64 (by decide)
  have bz1 := tm c1 64 (by decide)
  rw [← hy0] at by0
  rw [← hy1] at by1
  rw [← hz0] at bz0
  rw [← hz1] at bz1
  obtain ⟨S, Pv, Q, R, V, W, hops, ⟨s1, s2, hS⟩, ⟨p1, p2, hPv⟩, ⟨q1, q2, hQ⟩, v1, v2, hV⟩ := ring_facts a0 a1 y0 y1 z0 z1 (by omega) (by omega) (by omega)
  have HRem := Lib.hid (And.intro (And.intro hy0.symm hy1.symm) (And.intro hz0.symm hz1.symm))
  have eS := eql_whole hS
  have eP := eql_whole hPv
  have eQ := eql_whole hQ
  have eV := eql_whole hV
  have gS := hS.1.guard hS.1
  have gP := hPv.1.guard hPv.1
  have gQ := hQ.1.guard hQ.1
  have gV := hV.1.guard hV.1
  have HE := Lib.hid (And.intro (And.intro eS gS) (And.intro (And.intro eP gP) (And.intro (And.intro eQ gQ) (And.intro eV gV))))
  obtain ⟨fx0, hfx0⟩ : ∃ f, f = Value.float .f64 (fOf a0) := ⟨_, rfl⟩
  obtain ⟨fx1, hfx1⟩ : ∃ f, f = Value.float .f64 (fOf a1) := ⟨_, rfl⟩
  obtain ⟨fy0, hfy0⟩ : ∃ f, f = Value.float .f64 (fOf y0) := ⟨_, rfl⟩
  obtain ⟨fy1, hfy1⟩ : ∃ f, f = Value.float .f64 (fOf y1) := ⟨_, rfl⟩
  obtain ⟨fz0, hfz0⟩ : ∃ f, f = Value.float .f64 (fOf z0) := ⟨_, rfl⟩
  obtain ⟨fz1, hfz1⟩ : ∃ f, f = Value.float .f64 (fOf z1) := ⟨_, rfl⟩
  obtain ⟨X, hX⟩ : ∃ f, f = numZ a0 a1 := ⟨_, rfl⟩
  obtain ⟨Y, hY⟩ : ∃ f, f = numZ y0 y1 := ⟨_, rfl⟩
  obtain ⟨Z, hZ⟩ : ∃ f, f = numZ z0 z1 := ⟨_, rfl⟩
  have HCc : Hid ((∀ ts t w, (Builtin.complex_ ts t #[fx0, fx1]).run Tryd.prog w = .ok X w) ∧ (∀ ts t w, (Builtin.complex_ ts t #[fy0, fy1]).run Tryd.prog w = .ok Y w) ∧ (∀ ts t w, (Builtin.complex_ ts t #[fz0, fz1]).run Tryd.prog w = .ok Z w)) :=
    Lib.hid ⟨fun ts t w => by rw [hfx0, hfx1, hX]; exact run_complex w ts t .f64 _ _, fun ts t w => by rw [hfy0, hfy1, hY]; exact run_complex w ts t .f64 _ _, fun ts t w => by rw [hfz0, hfz1, hZ]; exact run_complex w ts t .f64 _ _⟩
  have HCv : Hid (((∀ w, (convert 59 22 (.int .i16 a0)).run Tryd.prog w = .ok fx0 w) ∧ (∀ w, (convert 59 22 (.int .i16 a1)).run Tryd.prog w = .ok fx1 w)) ∧ ((∀ w, (convert 59 22 (.int .i16 y0)).run Tryd.prog w = .ok fy0 w) ∧ (∀ w, (convert 59 22 (.int .i16 y1)).run Tryd.prog w = .ok fy1 w)) ∧
      ((∀ w, (convert 59 22 (.int .i16 z0)).run Tryd.prog w = .ok fz0 w) ∧ (∀ w, (convert 59 22 (.int .i16 z1)).run Tryd.prog w = .ok fz1 w))) := by
    rw [hfx0, hfx1, hfy0, hfy1, hfz0, hfz1]
    exact Lib.hid ⟨⟨fun w => run_conv_i16 w _, fun w => run_conv_i16 w _⟩, ⟨fun w => run_conv_i16 w _, fun w => run_conv_i16 w _⟩, ⟨fun w => run_conv_i16 w _, fun w => run_conv_i16 w _⟩⟩
  rw [← hX, ← hY, ← hZ] at hops
  have HOp := Lib.hid hops
  obtain ⟨w3, hw3⟩ : ∃ W, W = ((w.alloc (.cells #[.int .i16 a0, .int .i16 a1] 60)).alloc (.cells #[.int .i16 b0, .int .i16 b1] 60)).alloc (.cells #[.int .i16 c0, .int .i16 c1] 60) := ⟨_, rfl⟩
  obtain ⟨xb, hxb⟩ : ∃ b, b = w.heap.size := ⟨_, rfl⟩
  obtain ⟨yb, hyb⟩ : ∃ b, b = w.heap.size + 1 := ⟨_, rfl⟩
  obtain ⟨zb, hzb⟩ : ∃ b, b = w.heap.size + 1 + 1 := ⟨_, rfl⟩
  have H3 : Hid (((w3.cell? ⟨xb, 0, none⟩ = some (.int .i16 a0) ∧ w3.cell? ⟨xb, 1, none⟩ = some (.int .i16 a1)) ∧ (w3.cell? ⟨yb, 0, none⟩ = some (.int .i16 b0) ∧ w3.cell? ⟨yb, 1, none⟩ = some (.int .i16 b1)) ∧ (w3.cell? ⟨zb, 0, none⟩ = some (.int .i16 c0) ∧ w3.cell? ⟨zb, 1, none⟩ = some (.int .i16 c1))) ∧ Below w.heap.size w w3 ∧ w3.heap.size = w.heap.size + 3 ∧ xb = w.heap.size ∧ yb = w.heap.size + 1 ∧ zb = w.heap.size + 2) := by
    have hx : w3.heap[xb]? = some (.cells #[.int .i16 a0, .int .i16 a1] 60 (0, 0)) := by
      rw [hw3, hxb]
      have h0 := heap_alloc_new w (.cells #[.int .i16 a0, .int .i16 a1] 60)
      have B1 : Below (w.heap.size + 1) (w.alloc (.cells #[.int .i16 a0, .int .i16 a1] 60)) (((w.alloc (.cells #[.int .i16 a0, .int .i16 a1] 60)).alloc (.cells #[.int .i16 b0, .int .i16 b1] 60)).alloc (.cells #[.int .i16 c0, .int .i16 c1] 60)) := ((Below.refl _ _).alloc (by simp) _).alloc (by simp) _
      exact (B1.block _ (by omega)).trans h0
    have hy : w3.heap[yb]? = some (.cells #[.int .i16 b0, .int .i16 b1] 60 (0, 0)) := by
      rw [hw3, hyb]
      have h0 := heap_alloc_new (w.alloc (.cells #[.int .i16 a0, .int .i16 a1] 60)) (.cells #[.int .i16 b0, .int .i16 b1] 60)
      rw [show (w.alloc (.cells #[.int .i16 a0, .int .i16 a1] 60)).heap.size = w.heap.size + 1 by simp] at h0
      have B1 : Below (w.heap.size + 1 + 1) ((w.alloc (.cells #[.int .i16 a0, .int .i16 a1] 60)).alloc (.cells #[.int .i16 b0, .int .i16 b1] 60)) (((w.alloc (.cells #[.int .i16 a0, .int .i16 a1] 60)).alloc (.cells #[.int .i16 b0, .int .i16 b1] 60)).alloc (.cells #[.int .i16 c0, .int .i16 c1] 60)) := (Below.refl _ _).alloc (by simp) _
      exact (B1.block _ (by omega)).trans h0
    have hz : w3.heap[zb]? = some (.cells #[.int .i16 c0, .int .i16 c1] 60 (0, 0)) := by
      rw [hw3, hzb]
      have h0 := heap_alloc_new ((w.alloc (.cells #[.int .i16 a0, .int .i16 a1] 60)).alloc (.cells #[.int .i16 b0, .int .i16 b1] 60)) (.cells #[.int .i16 c0, .int .i16 c1] 60)
      rw [show ((w.alloc (.cells #[.int .i16 a0, .int .i16 a1] 60)).alloc (.cells #[.int .i16 b0, .int .i16 b1] 60)).heap.size = w.heap.size + 1 + 1 by simp] at h0
      exact h0
    refine ⟨⟨⟨?_, ?_⟩, ⟨?_, ?_⟩, ?_, ?_⟩, ?_, ?_, hxb, hyb, hzb⟩
    · rw [cell_of_row _ _ _ _ _ _ hx]; rfl
    · rw [cell_of_row _ _ _ _ _ _ hx]; rfl
    · rw [cell_of_row _ _ _ _ _ _ hy]; rfl
    · rw [cell_of_row _ _ _ _ _ _ hy]; rfl
    · rw [cell_of_row _ _ _ _ _ _ hz]; rfl
    · rw [cell_of_row _ _ _ _ _ _ hz]; rfl
    · rw [hw3]
      exact (((Below.refl _ w).alloc (Nat.le_refl _) _).alloc (by simp) _).alloc (by simp; omega) _
    · rw [hw3]
      simp
  have HF := Lib.hid (gfirst_any w3 (hT.below H3.out.2.1))
  clear ha hT hy0 hy1 hz0 hz1 tm by0 by1 bz0 bz1 hops hS hPv hQ hV eS eP eQ eV gS gP gQ gV hfx0 hfx1 hfy0 hfy1 hfz0 hfz1 hX hY hZ
  go_enter Tryd.func5, Tryd.ntmps5
  go_upto_region 1 with (fail)
  rw [← hw3, ← hzb, ← hyb, ← hxb]
  clear hw3 hxb hyb hzb
  go_wp2_with (fail)
  refine HF.out.mono ?_
  rintro e w4 ⟨rfl, hB4⟩
  have hs3 : xb < w3.heap.size ∧ yb < w3.heap.size ∧ zb < w3.heap.size := by have := H3.out.2.2; omega
  have HG0 : Hid ((fun (_ : Nat) (w' : World) => (w'.cell? ⟨xb, 0, none⟩ = some (.int .i16 a0) ∧ w'.cell? ⟨xb, 1, none⟩ = some (.int .i16 a1)) ∧ (w'.cell? ⟨yb, 0, none⟩ = some (.int .i16 b0) ∧ w'.cell? ⟨yb, 1, none⟩ = some (.int .i16 b1)) ∧ (w'.cell? ⟨zb, 0, none⟩ = some (.int .i16 c0) ∧ w'.cell? ⟨zb, 1, none⟩ = some (.int .i16 c1)) ∧ Below w.heap.size w w') 0 { w4 with drawn := w4.drawn + 1 }) := by
    obtain ⟨⟨⟨x1, x2⟩, ⟨y1', y2⟩, z1', z2⟩, hB, _⟩ := H3.out
    have hc : ∀ (b o : Nat) (v : Value), b < w3.heap.size → w3.cell? ⟨b, o, none⟩ = some v → ({ w4 with drawn := w4.drawn + 1 } : World).cell? ⟨b, o, none⟩ = some v := fun b o v hb h => by
      have := (hB4.cell (p := ⟨b, o, none⟩) hb).trans h
      exact this
    have hB5 : Below w.heap.size w w4 := hB.trans (hB4.mono hB.size)
    exact ⟨⟨hc _ _ _ hs3.1 x1, hc _ _ _ hs3.1 x2⟩, ⟨hc _ _ _ hs3.2.1 y1', hc _ _ _ hs3.2.1 y2⟩, ⟨hc _ _ _ hs3.2.2 z1', hc _ _ _ hs3.2.2 z2⟩, hB5.drew⟩
  clear hs3 hB4
  dsimp only
  go_upto_region 3 with (fail)
  refine wp_region_seq_frame (by kernel_rfl) [none, none, none, none, none, none, none, none, none, none, none, none, none, none, none, none, none, none, none, none, none, none, none, none, none, none, none, none] [] (vOfC [.pointer (some ⟨xb, 0, none⟩), .int .i16 a0, fx0, .pointer (some ⟨xb, 1, none⟩), .int .i16 a1, fx1, X, .pointer (some ⟨yb, 0, none⟩), .int .i16 b0, .int .i16 y0, fy0, .pointer (some ⟨yb, 1, none⟩), .int .i16 b1, .int .i16 y1, fy1, Y, .pointer (some ⟨zb, 0, none⟩), .int .i16 c0, .int .i16 z0, fz0, .pointer (some ⟨zb, 1, none⟩), .int .i16 c1, .int .i16 z1, fz1, Z, X, Y, Z]) (fun _ w' => (w'.cell? ⟨xb, 0, none⟩ = some (.int .i16 a0) ∧ w'.cell? ⟨xb, 1, none⟩ = some (.int .i16 a1)) ∧ (w'.cell? ⟨yb, 0, none⟩ = some (.int .i16 b0) ∧ w'.cell? ⟨yb, 1, none⟩ = some (.int .i16 b1)) ∧ (w'.cell? ⟨zb, 0, none⟩ = some (.int .i16 c0) ∧ w'.cell? ⟨zb, 1, none⟩ = some (.int .i16 c1)) ∧ Below w.heap.size w w') (fun _ _ => True) (fun _ _ _ _ _ h => h) (by kernel_rfl) (by kernel_rfl) (by kernel_rfl) HG0.out ⟨trivial, trivial, trivial, trivial, trivial, trivial, trivial, trivial, trivial, trivial, trivial, trivial, trivial, trivial, trivial, trivial, trivial, trivial, trivial, trivial, trivial, trivial, trivial, trivial, trivial, trivial, trivial, trivial, trivial⟩ ?_ ?_
  · refine ⟨?_, ?_, ?_, ?_, ?_, ?_, ?_, ?_, ?_, ?_, ?_, ?_, ?_, ?_, ?_, ?_, ?_, ?_, ?_, ?_, ?_, ?_, ?_, ?_, ?_, ?_, ?_, ?_, trivial⟩
    · intro k a w' hG hout hpre K hK
      have q3 := ev_of ((hout 3 rfl).trans (show _ = .pointer (some ⟨xb, 0, none⟩) from rfl))
      clear hout hpre
      go_step
      exact hK _ _ rfl hG trivial
    · intro k a w' hG hout hpre K hK
      obtain ⟨p0, _⟩ := hpre
      have q34 := ev_of (show a.eval (.tmp 34) = .pointer (some ⟨xb, 0, none⟩) from p0)
      have hc : w'.cell? ⟨xb, 0, none⟩ = some (.int .i16 a0) := hG.1.1
      clear hout p0
      go_step
      exact hK _ _ rfl hG trivial
    · intro k a w' hG hout hpre K hK
      obtain ⟨p0, _⟩ := hpre
      have q35 := ev_of (show a.eval (.tmp 35) = .int .i16 a0 from p0)
      have hv := HCv.out.1.1
      clear hout p0
      go_step
      exact hK _ _ rfl hG trivial
    · intro k a w' hG hout hpre K hK
      have q3 := ev_of ((hout 3 rfl).trans (show _ = .pointer (some ⟨xb, 0, none⟩) from rfl))
      clear hout hpre
      go_step
      exact hK _ _ rfl hG trivial
    · intro k a w' hG hout hpre K hK
      obtain ⟨p0, _⟩ := hpre
      have q37 := ev_of (show a.eval (.tmp 37) = .pointer (some ⟨xb, 1, none⟩) from p0)
      have hc : w'.cell? ⟨xb, 1, none⟩ = some (.int .i16 a1) := hG.1.2
      clear hout p0
      go_step
      exact hK _ _ rfl hG trivial
    · intro k a w' hG hout hpre K hK
      obtain ⟨p0, _⟩ := hpre
      have q38 := ev_of (show a.eval (.tmp 38) = .int .i16 a1 from p0)
      have hv := HCv.out.1.2
      clear hout p0
      go_step
      exact hK _ _ rfl hG trivial
    · intro k a w' hG hout hpre K hK
      obtain ⟨p0, p1, _⟩ := hpre
      have q36 := ev_of (show a.eval (.tmp 36) = fx0 from p0)
      have q39 := ev_of (show a.eval (.tmp 39) = fx1 from p1)
      have hv := HCc.out.1
      clear hout p0 p1
      go_step
      exact hK _ _ rfl hG trivial
    · intro k a w' hG hout hpre K hK
      have q4 := ev_of ((hout 4 rfl).trans (show _ = .pointer (some ⟨yb, 0, none⟩) from rfl))
      clear hout hpre
      go_step
      exact hK _ _ rfl hG trivial
    · intro k a w' hG hout hpre K hK
      obtain ⟨p0, _⟩ := hpre
      have q41 := ev_of (show a.eval (.tmp 41) = .pointer (some ⟨yb, 0, none⟩) from p0)
      have hc : w'.cell? ⟨yb, 0, none⟩ = some (.int .i16 b0) := hG.2.1.1
      clear hout p0
      go_step
      exact hK _ _ rfl hG trivial
    · intro k a w' hG hout hpre K hK
      obtain ⟨p0, _⟩ := hpre
      have q42 := ev_of (show a.eval (.tmp 42) = .int .i16 b0 from p0)
      have hr := HRem.out.1.1
      clear hout p0
      go_step
      exact hK _ _ rfl hG trivial
    · intro k a w' hG hout hpre K hK
      obtain ⟨p0, _⟩ := hpre
      have q43 := ev_of (show a.eval (.tmp 43) = .int .i16 y0 from p0)
      have hv := HCv.out.2.1.1
      clear hout p0
      go_step
      exact hK _ _ rfl hG trivial
    · intro k a w' hG hout hpre K hK
      have q4 := ev_of ((hout 4 rfl).trans (show _ = .pointer (some ⟨yb, 0, none⟩) from rfl))
      clear hout hpre
      go_step
      exact hK _ _ rfl hG trivial
    · intro k a w' hG hout hpre K hK
      obtain ⟨p0, _⟩ := hpre
      have q45 := ev_of (show a.eval (.tmp 45) = .pointer (some ⟨yb, 1, none⟩) from p0)
      have hc : w'.cell? ⟨yb, 1, none⟩ = some (.int .i16 b1) := hG.2.1.2
      clear hout p0
      go_step
      exact hK _ _ rfl hG trivial
    · intro k a w' hG hout hpre K hK
      obtain ⟨p0, _⟩ := hpre
      have q46 := ev_of (show a.eval (.tmp 46) = .int .i16 b1 from p0)
      have hr := HRem.out.1.2
      clear hout p0
      go_step
      exact hK _ _ rfl hG trivial
    · intro k a w' hG hout hpre K hK
      obtain ⟨p0, _⟩ := hpre
      have q47 := ev_of (show a.eval (.tmp 47) = .int .i16 y1 from p0)
      have hv := HCv.out.2.1.2
      clear hout p0
      go_step
      exact hK _ _ rfl hG trivial
    · intro k a w' hG hout hpre K hK
      obtain ⟨p0, p1, _⟩ := hpre
      have q44 := ev_of (show a.eval (.tmp 44) = fy0 from p0)
      have q48 := ev_of (show a.eval (.tmp 48) = fy1 from p1)
      have hv := HCc.out.2.1
      clear hout p0 p1
      go_step
      exact hK _ _ rfl hG trivial
    · intro k a w' hG hout hpre K hK
      have q5 := ev_of ((hout 5 rfl).trans (show _ = .pointer (some ⟨zb, 0, none⟩) from rfl))
      clear hout hpre
      go_step
      exact hK _ _ rfl hG trivial
    · intro k a w' hG hout hpre K hK
      obtain ⟨p0, _⟩ := hpre
      have q50 := ev_of (show a.eval (.tmp 50) = .pointer (some ⟨zb, 0, none⟩) from p0)
      have hc : w'.cell? ⟨zb, 0, none⟩ = some (.int .i16 c0) := hG.2.2.1.1
      clear hout p0
      go_step
      exact hK _ _ rfl hG trivial
    · intro k a w' hG hout hpre K hK
      obtain ⟨p0, _⟩ := hpre
      have q51 := ev_of (show a.eval (.tmp 51) = .int .i16 c0 from p0)
      have hr := HRem.out.2.1
      clear hout p0
      go_step
      exact hK _ _ rfl hG trivial
    · intro k a w' hG hout hpre K hK
      obtain ⟨p0, _⟩ := hpre
      have q52 := ev_of (show a.eval (.tmp 52) = .int .i16 z0 from p0)
      have hv := HCv.out.2.2.1
      clear hout p0
      go_step
      exact hK _ _ rfl hG trivial
    · intro k a w' hG hout hpre K hK
      have q5 := ev_of ((hout 5 rfl).trans (show _ = .pointer (some ⟨zb, 0, none⟩) from rfl))
      clear hout hpre
      go_step
      exact hK _ _ rfl hG trivial
    · intro k a w' hG hout hpre K hK
      obtain ⟨p0, _⟩ := hpre
      have q54 := ev_of (show a.eval (.tmp 54) = .pointer (some ⟨zb, 1, none⟩) from p0)
      have hc : w'.cell? ⟨zb, 1, none⟩ = some (.int .i16 c1) := hG.2.2.1.2
      clear hout p0
      go_step
      exact hK _ _ rfl hG trivial
    · intro k a w' hG hout hpre K hK
      obtain ⟨p0, _⟩ := hpre
      have q55 := ev_of (show a.eval (.tmp 55) = .int .i16 c1 from p0)
      have hr := HRem.out.2.2
      clear hout p0
      go_step
      exact hK _ _ rfl hG trivial
    · intro k a w' hG hout hpre K hK
      obtain ⟨p0, _⟩ := hpre
      have q56 := ev_of (show a.eval (.tmp 56) = .int .i16 z1 from p0)
      have hv := HCv.out.2.2.2
      clear hout p0
      go_step
      exact hK _ _ rfl hG trivial
    · intro k a w' hG hout hpre K hK
      obtain ⟨p0, p1, _⟩ := hpre
      have q53 := ev_of (show a.eval (.tmp 53) = fz0 from p0)
      have q57 := ev_of (show a.eval (.tmp 57) = fz1 from p1)
      have hv := HCc.out.2.2
      clear hout p0 p1
      go_step
      exact hK _ _ rfl hG trivial
    · intro k a w' hG hout hpre K hK
      obtain ⟨p0, _⟩ := hpre
      have q40 := ev_of (show a.eval (.tmp 40) = X from p0)
      clear hout p0
      go_step
      exact hK _ _ rfl hG trivial
    · intro k a w' hG hout hpre K hK
      obtain ⟨p0, _⟩ := hpre
      have q49 := ev_of (show a.eval (.tmp 49) = Y from p0)
      clear hout p0
      go_step
      exact hK _ _ rfl hG trivial
    · intro k a w' hG hout hpre K hK
      obtain ⟨p0, _⟩ := hpre
      have q58 := ev_of (show a.eval (.tmp 58) = Z from p0)
      clear hout p0
      go_step
      exact hK _ _ rfl hG trivial
  · intro vs w2 hG hlen hV
    match vs, hlen, hV with
    | [v0, v1, v2, v3, v4, v5, v6, v7, v8, v9, v10, v11, v12, v13, v14, v15, v16, v17, v18, v19, v20, v21, v22, v23, v24, v25, v26, v27], _, hV =>
      obtain rfl : v25 = X := hV 25 7 v25 rfl rfl
      obtain rfl : v26 = Y := hV 26 8 v26 rfl rfl
      obtain rfl : v27 = Z := hV 27 9 v27 rfl rfl
      clear hV
      simp only [putsL, List.tail_cons, List.headD_cons]
      simp only [Act.put, List.setIfInBounds_toArray, List.set_cons_succ, List.set_cons_zero]
      have H5 : Hid (Below w.heap.size w w2) := hG.2.2.2
      clear hG
      obtain ⟨o1, o2, o3, o4, o5, o6, o7, o8, o9, o10⟩ := HOp.out
      have O1 := Lib.hid o1
      have O2 := Lib.hid o2
      have O3 := Lib.hid o3
      have O4 := Lib.hid o4
      have O5 := Lib.hid o5
      have O6 := Lib.hid o6
      have O7 := Lib.hid o7
      have O8 := Lib.hid o8
      have O9 := Lib.hid o9
      have O10 := Lib.hid o10
      clear o1 o2 o3 o4 o5 o6 o7 o8 o9 o10
      go_wp2_with (fail)
      refine (O1.out _).mono ?_
      rintro e w' ⟨rfl, hw'⟩
      subst w'
      dsimp only
      go_wp2_with (fail)
      refine (O2.out _).mono ?_
      rintro e w' ⟨rfl, hw'⟩
      subst w'
      dsimp only
      go_wp2_with (fail)
      refine (O3.out _).mono ?_
      rintro e w' ⟨rfl, hw'⟩
      subst w'
      dsimp only
      go_wp2_with (fail)
      refine (O4.out _).mono ?_
      rintro e w' ⟨rfl, hw'⟩
      subst w'
      dsimp only
      go_wp2_with (fail)
      refine (O5.out _).mono ?_
      rintro e w' ⟨rfl, hw'⟩
      subst w'
      dsimp only
      go_wp2_with (fail)
      refine (O6.out _).mono ?_
      rintro e w' ⟨rfl, hw'⟩
      subst w'
      dsimp only
      go_wp2_with (fail)
      refine (O7.out _).mono ?_
      rintro e w' ⟨rfl, hw'⟩
      subst w'
      dsimp only
      go_wp2_with (fail)
      refine (O8.out _).mono ?_
      rintro e w' ⟨rfl, hw'⟩
      subst w'
      dsimp only
      go_wp2_with (fail)
      refine (O9.out _).mono ?_
      rintro e w' ⟨rfl, hw'⟩
      subst w'
      dsimp only
      go_wp2_with (fail)
      refine (O10.out _).mono ?_
      rintro e w' ⟨rfl, hw'⟩
      subst w'
      dsimp only
      go_wp2_with (fail)
      obtain ⟨wl, hwl⟩ : ∃ W, W = w2.alloc (.cells #[.int .i64 0, .int .i64 0, .int .i64 0, .int .i64 0, .int .i64 0, .int .i64 0, .int .i64 0, .int .i64 0, .int .i64 0, .int .i64 0] 32) := ⟨_, rfl⟩
      obtain ⟨sb, hsb⟩ : ∃ b, b = w2.heap.size := ⟨_, rfl⟩
      rw [← hwl, ← hsb]
      have HL : Hid ((∀ k : Nat, k < 10 → wl.cell? ⟨sb, k, none⟩ = some (.int .i64 0)) ∧ Below w.heap.size w wl) := by
        refine ⟨fun k hk => ?_, ?_⟩
        · have hr : wl.heap[sb]? = some (.cells #[.int .i64 0, .int .i64 0, .int .i64 0, .int .i64 0, .int .i64 0, .int .i64 0, .int .i64 0, .int .i64 0, .int .i64 0, .int .i64 0] 32 (0, 0)) := by rw [hwl, hsb]; exact heap_alloc_new w2 _
          rw [cell_of_row _ _ _ _ _ _ hr]
          have hk10 : k = 0 ∨ k = 1 ∨ k = 2 ∨ k = 3 ∨ k = 4 ∨ k = 5 ∨ k = 6 ∨ k = 7 ∨ k = 8 ∨ k = 9 := by omega
          rcases hk10 with rfl | rfl | rfl | rfl | rfl | rfl | rfl | rfl | rfl | rfl <;> rfl
        · rw [hwl]
          exact H5.out.alloc H5.out.size _
      clear hwl hsb
      go_loopw [131] (ErrRel wl) (fun v _ => 10 - (intOf v).toNat)
      case atStart => exact ⟨0, by omega, rfl, rfl⟩
      case round =>
        obtain ⟨k, hk, rfl, hwr⟩ := hrel
        subst wr
        by_cases hlt : k < 10
        · have hlt' : (k : Int) < 10 := by omega
          have d0 := HL.out.1 k hlt
          have HZ : Hid (ErrRel wl (.int .i64 ((k : Int) + 1)) wl ∧ 10 - ((k : Int) + 1).toNat < 10 - (k : Int).toNat) := ⟨⟨k + 1, by omega, by go_num, rfl⟩, by omega⟩
          clear hlt
          go_wp2_with (fail)
          refine ⟨HZ.out.1, ?_⟩
          rw [intOf_int, intOf_int]
          exact HZ.out.2
        · have hlt' : ¬ (k : Int) < 10 := by omega
          obtain ⟨⟨eS, gS⟩, ⟨eP, gP⟩, ⟨eQ, gQ⟩, eV, gV⟩ := HE.out
          clear hlt hk
          go_wp2_with (fail)
          first
          | (rw [HP.out]; exact ⟨rfl, HL.out.2⟩)
          | (go_ret; rw [HP.out]; exact ⟨rfl, HL.out.2⟩)
end Go.Proofs.YtoelfjhejfgkiaaDoor
