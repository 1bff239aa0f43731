/-
  The contracts of package gauss' Of, Parts, Turn, Add, Times, Norm, Side.
-/
import Derived.Test.YtoelfjhejfgkiaaDoorGaussWhole
import Derived.Test.YtoelfjhejfgkiaaDoorCoreNear
import Derived.Laws.Cover3
namespace Go.Proofs.YtoelfjhejfgkiaaDoor
open Go Go.RowKit Ieee

def zeroZ : Value := .complex .f64 0 0
def numZ (a b : Int) : Value := .complex .f64 (fOf a) (fOf b)
def ofV (a b : Int) : Value := if InP a b then numZ a b else zeroZ
def ofE (a b : Int) : Int := if InP a b then 0 else 20
theorem numZ_whole {a b : Int} (h : InP a b) : WholeZ (numZ a b) a b := ⟨CRep.of a b h, h⟩
theorem zeroZ_rep : CRep zeroZ 0 0 := ⟨_, _, rfl, frep_0, frep_0⟩
theorem zeroZ_whole : WholeZ zeroZ 0 0 := ⟨zeroZ_rep, by unfold InP; omega⟩
set_option maxRecDepth 100000 in
theorem of_any (w : World) (a b : Int) : Calls Tryd.prog 9 #[.int .i64 a, .int .i64 b] w fun e w' => e = .returned (.tuple #[ofV a b, .int .i64 (ofE a b)]) ∧ w' = w := by
  by_cases hin : InP a b
  · rw [ofV, ofE, if_pos hin, if_pos hin, numZ]
    obtain ⟨fa, hfa⟩ : ∃ V, V = Value.float .f64 (fOf a) := ⟨_, rfl⟩
    obtain ⟨fb, hfb⟩ : ∃ V, V = Value.float .f64 (fOf b) := ⟨_, rfl⟩
    obtain ⟨z2, hz2⟩ : ∃ V, V = Value.complex .f64 (fOf a) (fOf b) := ⟨_, rfl⟩
    have hca : ∀ w, (convert 3 22 (.int .i64 a)).run Tryd.prog w = .ok fa w := fun w => by rw [hfa]; exact run_conv_int_f64 w Tryd.underlying3 Tryd.underlying22
    have hcb : ∀ w, (convert 3 22 (.int .i64 b)).run Tryd.prog w = .ok fb w := fun w => by rw [hfb]; exact run_conv_int_f64 w Tryd.underlying3 Tryd.underlying22
    have hcc : ∀ ts t w, (Builtin.complex_ ts t #[fa, fb]).run Tryd.prog w = .ok z2 w := fun ts t w => by rw [hfa, hfb, hz2]; exact run_complex w ts t .f64 _ _
    rw [← hz2]
    unfold InP at hin
    obtain ⟨h1, h2, h3, h4⟩ := hin
    have g1 : ¬ a < -1073741824 := by omega
    have g2 : ¬ (1073741824 : Int) < a := by omega
    have g3 : ¬ b < -1073741824 := by omega
    have g4 : ¬ (1073741824 : Int) < b := by omega
    clear hfa hfb hz2 h1 h2 h3 h4
    go_enter Tryd.func9, Tryd.ntmps9
    go_wp2_with (fail)
    refine bodyPost_ret (results_tmp2 rfl _ _ _) rfl ?_
    exact ⟨rfl, rfl⟩
  · rw [ofV, ofE, if_neg hin, if_neg hin, zeroZ]
    have hcase : a < -1073741824 ∨ (¬ a < -1073741824 ∧ (1073741824 : Int) < a) ∨ (¬ a < -1073741824 ∧ ¬ (1073741824 : Int) < a ∧ b < -1073741824) ∨ (¬ a < -1073741824 ∧ ¬ (1073741824 : Int) < a ∧ ¬ b < -1073741824 ∧ (1073741824 : Int) < b) := by
      unfold InP at hin
      omega
    clear hin
    rcases hcase with g1 | ⟨g1, g2⟩ | ⟨g1, g2, g3⟩ | ⟨g1, g2, g3, g4⟩
    all_goals
      go_enter Tryd.func9, Tryd.ntmps9
      go_wp2_with (fail)
      refine bodyPost_ret (results_tmp2 rfl _ _ _) rfl ?_
      exact ⟨rfl, rfl⟩
theorem frep_one : FRep 4607182418800017408 1 := ⟨false, 4503599627370496, -52, by kernel_rfl, by decide +kernel⟩
theorem frep_mone : FRep 13830554455654793216 (-1) := ⟨true, 4503599627370496, -52, by kernel_rfl, by decide +kernel⟩
theorem bits_and3 (q : Int) : bits .and .i64 q 3 = q % 4 := by
  have e1 : BitVec.ofInt 64 3 = BitVec.ofNat 64 (2 ^ 2 - 1) := rfl
  show IntKind.i64.wrap ((BitVec.ofInt 64 q &&& BitVec.ofInt 64 3).toNat : Int) = _
  rw [e1, BitVec.toNat_and, BitVec.toNat_ofNat, show (2 ^ 2 - 1) % 2 ^ 64 = 2 ^ 2 - 1 by decide, Nat.and_two_pow_sub_one_eq_mod, BitVec.toNat_ofInt]
  rw [IntWalk.i64_in _ (by omega)]
  omega
set_option maxRecDepth 100000 in
theorem turn_any (w : World) (q : Int) : Calls Tryd.prog 12 #[.int .i64 q] w fun e w' => ∃ z, e = .returned z ∧ CRep z (turnP q).1 (turnP q).2 ∧ w' = w := by
  have h := bits_and3 q
  obtain ⟨r, hr⟩ : ∃ r, r = q % 4 := ⟨_, rfl⟩
  rw [← hr] at h
  have hr4 : r = 0 ∨ r = 1 ∨ r = 2 ∨ r = 3 := by omega
  have HT := Lib.hid hr
  clear hr
  rcases hr4 with rfl | rfl | rfl | rfl
  · go_enter Tryd.func12, Tryd.ntmps12
    go_wp2_with (fail)
    go_ret
    refine ⟨_, rfl, ⟨_, _, rfl, ?_⟩, rfl⟩
    rw [turnP, if_pos HT.out.symm]
    exact ⟨frep_one, frep_0⟩
  · go_enter Tryd.func12, Tryd.ntmps12
    go_wp2_with (fail)
    go_ret
    refine ⟨_, rfl, ⟨_, _, rfl, ?_⟩, rfl⟩
    rw [turnP, ← HT.out]
    exact ⟨frep_0, frep_one⟩
  · go_enter Tryd.func12, Tryd.ntmps12
    go_wp2_with (fail)
    go_ret
    refine ⟨_, rfl, ⟨_, _, rfl, ?_⟩, rfl⟩
    rw [turnP, ← HT.out]
    exact ⟨frep_mone, frep_0⟩
  · go_enter Tryd.func12, Tryd.ntmps12
    go_wp2_with (fail)
    go_ret
    refine ⟨_, rfl, ⟨_, _, rfl, ?_⟩, rfl⟩
    rw [turnP, ← HT.out]
    exact ⟨frep_0, frep_mone⟩
set_option maxRecDepth 100000 in
theorem parts_yes (w : World) (z : Value) (u v : Int) (h : WholeZ z u v) : Calls Tryd.prog 19 #[z] w fun e w' => e = .returned (.tuple #[.int .i64 u, .int .i64 v]) ∧ w' = w := by
  have HR := Lib.hid (right_yes w z u v h)
  obtain ⟨⟨p, q, rfl, h1, h2⟩, h3⟩ := h
  unfold InP at h3
  have hcu : ∀ w, (convert 22 3 (.float .f64 p)).run Tryd.prog w = .ok (.int .i64 u) w := fun w => run_conv_f64_int w (by rw [Tryd.underlying22]; rfl) Tryd.underlying3 h1 (by simp [IntKind.min, IntKind.signed, IntKind.bits]; omega) (by simp [IntKind.max, IntKind.signed, IntKind.bits]; omega)
  have hcv : ∀ w, (convert 22 3 (.float .f64 q)).run Tryd.prog w = .ok (.int .i64 v) w := fun w => run_conv_f64_int w (by rw [Tryd.underlying22]; rfl) Tryd.underlying3 h2 (by simp [IntKind.min, IntKind.signed, IntKind.bits]; omega) (by simp [IntKind.max, IntKind.signed, IntKind.bits]; omega)
  clear h1 h2 h3
  go_enter Tryd.func19, Tryd.ntmps19
  go_wp2_with (fail)
  refine HR.out.mono ?_
  rintro e w1 ⟨rfl, rfl⟩
  dsimp only
  go_wp2_with (fail)
  refine bodyPost_ret (results_tmp2 rfl _ _ _) rfl ?_
  exact ⟨rfl, rfl⟩
def NotZ (z : Value) : Prop := ∃ p q, z = .complex .f64 p q ∧ ¬ (WholeF p ∧ WholeF q)
theorem parts_no (w : World) (z : Value) (h : NotZ z) : Calls Tryd.prog 19 #[z] w (Below0 w (.tuple #[.int .i64 0, .int .i64 0])) := by
  obtain ⟨p, q, rfl, h⟩ := h
  have HR := Lib.hid (right_no w p q h)
  clear h
  go_enter Tryd.func19, Tryd.ntmps19
  go_wp2_with (fail)
  refine HR.out.mono ?_
  rintro e w1 ⟨rfl, hB⟩
  have HB := Lib.hid hB
  clear hB
  dsimp only
  go_wp2_with (fail)
  refine bodyPost_ret (results_tmp2 rfl _ _ _) rfl ?_
  exact ⟨rfl, HB.out⟩
theorem plain_any (w : World) (z : Value) (u v : Int) (h : CRep z u v) (hu : u.natAbs < 9223372036854775808) (hv : v.natAbs < 9223372036854775808) :
    Calls Tryd.prog 29 #[z] w fun e w' => e = .returned (.tuple #[ofV u v, .int .i64 (ofE u v)]) ∧ w' = w := by
  obtain ⟨p, q, rfl, h1, h2⟩ := h
  have hcu : ∀ w, (convert 22 3 (.float .f64 p)).run Tryd.prog w = .ok (.int .i64 u) w := fun w => run_conv_f64_int w (by rw [Tryd.underlying22]; rfl) Tryd.underlying3 h1 (by simp [IntKind.min, IntKind.signed, IntKind.bits]; omega) (by simp [IntKind.max, IntKind.signed, IntKind.bits]; omega)
  have hcv : ∀ w, (convert 22 3 (.float .f64 q)).run Tryd.prog w = .ok (.int .i64 v) w := fun w => run_conv_f64_int w (by rw [Tryd.underlying22]; rfl) Tryd.underlying3 h2 (by simp [IntKind.min, IntKind.signed, IntKind.bits]; omega) (by simp [IntKind.max, IntKind.signed, IntKind.bits]; omega)
  have HO := Lib.hid (of_any w u v)
  obtain ⟨V, hV⟩ : ∃ V, V = ofV u v := ⟨_, rfl⟩
  obtain ⟨E, hE⟩ : ∃ V, V = ofE u v := ⟨_, rfl⟩
  rw [← hV, ← hE] at HO ⊢
  clear h1 h2 hu hv hV hE
  go_enter Tryd.func29, Tryd.ntmps29
  go_wp2_with (fail)
  refine HO.out.mono ?_
  rintro e w1 ⟨rfl, rfl⟩
  dsimp only
  go_wp2_with (fail)
  refine bodyPost_ret (results_tmp2 rfl _ _ _) rfl ?_
  exact ⟨rfl, rfl⟩
/-- What a sum or a product answers. -/
def OpEnd (w : World) (a b : Int) (e : Ending) (w' : World) : Prop := e = .returned (.tuple #[ofV a b, .int .i64 (ofE a b)]) ∧ w' = w
set_option maxRecDepth 100000 in
theorem add_yes (w : World) (x y : Value) (u v a b : Int) (hx : WholeZ x u v) (hy : WholeZ y a b) : Calls Tryd.prog 13 #[x, y] w (OpEnd w (u + a) (v + b)) := by
  have H1 := Lib.hid (fun w => right_yes w x u v hx)
  have H2 := Lib.hid (fun w => right_yes w y a b hy)
  obtain ⟨⟨p, q, hxe, h1, h2⟩, h3⟩ := hx
  obtain ⟨⟨r, s, hye, k1, k2⟩, k3⟩ := hy
  unfold InP at h3 k3
  obtain ⟨t1, t2, f1, f2, hop0⟩ := run_cadd (P := Tryd.prog) (t := 28) h1 k1 h2 k2 (by omega) (by omega)
  have hop : ∀ w, (binOp .add 28 x y).run Tryd.prog w = .ok (.complex .f64 t1 t2) w := fun w => by rw [hxe, hye]; exact hop0 w
  have HP := Lib.hid (fun w => plain_any w (.complex .f64 t1 t2) (u + a) (v + b) ⟨_, _, rfl, f1, f2⟩ (by omega) (by omega))
  obtain ⟨Z, hZ⟩ : ∃ Z, Z = Value.complex .f64 t1 t2 := ⟨_, rfl⟩
  simp only [← hZ] at hop HP
  unfold OpEnd
  obtain ⟨V, hV⟩ : ∃ V, V = ofV (u + a) (v + b) := ⟨_, rfl⟩
  obtain ⟨E, hE⟩ : ∃ V, V = ofE (u + a) (v + b) := ⟨_, rfl⟩
  simp only [← hV, ← hE] at HP ⊢
  clear hxe hye h1 h2 h3 k1 k2 k3 f1 f2 hop0 hZ hV hE
  go_enter Tryd.func13, Tryd.ntmps13
  go_wp2_with (fail)
  refine (H1.out _).mono ?_
  rintro e w1 ⟨rfl, rfl⟩
  dsimp only
  go_wp2_with (fail)
  refine (H2.out _).mono ?_
  rintro e w1 ⟨rfl, rfl⟩
  dsimp only
  go_wp2_with (fail)
  refine (HP.out _).mono ?_
  rintro e w1 ⟨rfl, rfl⟩
  dsimp only
  go_wp2_with (fail)
  refine bodyPost_ret (results_tmp2 rfl _ _ _) rfl ?_
  exact ⟨rfl, rfl⟩
theorem of_out {a b c d : Int} (h : ¬ InP a b) (k : ¬ InP c d) : ofV a b = ofV c d ∧ ofE a b = ofE c d := by
  unfold ofV ofE
  rw [if_neg h, if_neg k, if_neg h, if_neg k]
  exact ⟨rfl, rfl⟩
/-- The product by floats, put into a whole one, is that of the whole numbers. -/
theorem mul_of (x y : Value) (u v a b : Int) (hx : WholeZ x u v) (hy : WholeZ y a b) : ∃ z c d, (∀ w, (binOp .mul 28 x y).run Tryd.prog w = .ok z w) ∧ CRep z c d ∧ c.natAbs < 9223372036854775808 ∧ d.natAbs < 9223372036854775808 ∧
    ofV c d = ofV (u * a - v * b) (u * b + v * a) ∧ ofE c d = ofE (u * a - v * b) (u * b + v * a) := by
  obtain ⟨⟨p, q, rfl, h1, h2⟩, h3⟩ := hx
  obtain ⟨⟨r, s, rfl, k1, k2⟩, k3⟩ := hy
  unfold InP at h3 k3
  have b1 := prod_bd (a := u) (b := a) (A := 1073741824) (B := 1073741824) (by omega) (by omega)
  have b2 := prod_bd (a := v) (b := b) (A := 1073741824) (B := 1073741824) (by omega) (by omega)
  have b3 := prod_bd (a := u) (b := b) (A := 1073741824) (B := 1073741824) (by omega) (by omega)
  have b4 := prod_bd (a := v) (b := a) (A := 1073741824) (B := 1073741824) (by omega) (by omega)
  by_cases hs : (u * a).natAbs < 4503599627370496 ∧ (v * b).natAbs < 4503599627370496 ∧ (u * b).natAbs < 4503599627370496 ∧ (v * a).natAbs < 4503599627370496
  · obtain ⟨t1, t2, f1, f2, hop⟩ := run_cmul (P := Tryd.prog) (t := 28) h1 k1 h2 k2 hs.1 hs.2.1 hs.2.2.1 hs.2.2.2
    exact ⟨_, _, _, hop, ⟨_, _, rfl, f1, f2⟩, by omega, by omega, rfl, rfl⟩
  · obtain ⟨t1, t2, c, d, f1, f2, n1, n2, hop⟩ := near_cmul (P := Tryd.prog) (t := 28) h1 k1 h2 k2 (by omega) (by omega) (by omega) (by omega)
    obtain ⟨o1, o2⟩ := big_term hs n1 n2
    obtain ⟨e1, e2⟩ := of_out (a := c) (b := d) (c := u * a - v * b) (d := u * b + v * a) (by unfold InP; omega) (by unfold InP; omega)
    exact ⟨_, c, d, hop, ⟨_, _, rfl, f1, f2⟩, by omega, by omega, e1, e2⟩
set_option maxRecDepth 100000 in
theorem times_yes (w : World) (x y : Value) (u v a b : Int) (hx : WholeZ x u v) (hy : WholeZ y a b) : Calls Tryd.prog 14 #[x, y] w (OpEnd w (u * a - v * b) (u * b + v * a)) := by
  have H1 := Lib.hid (fun w => right_yes w x u v hx)
  have H2 := Lib.hid (fun w => right_yes w y a b hy)
  obtain ⟨Z, c, d, hop, hr, hc, hd, hV, hE⟩ := mul_of x y u v a b hx hy
  have HP := Lib.hid (fun w => plain_any w Z c d hr hc hd)
  unfold OpEnd
  rw [← hV, ← hE]
  obtain ⟨V, hV⟩ : ∃ V, V = ofV c d := ⟨_, rfl⟩
  obtain ⟨E, hE⟩ : ∃ V, V = ofE c d := ⟨_, rfl⟩
  simp only [← hV, ← hE] at HP ⊢
  clear hx hy hr hc hd
  rename_i o1 o2
  clear hV hE o1 o2
  go_enter Tryd.func14, Tryd.ntmps14
  go_wp2_with (fail)
  refine (H1.out _).mono ?_
  rintro e w1 ⟨rfl, rfl⟩
  dsimp only
  go_wp2_with (fail)
  refine (H2.out _).mono ?_
  rintro e w1 ⟨rfl, rfl⟩
  dsimp only
  go_wp2_with (fail)
  refine (HP.out _).mono ?_
  rintro e w1 ⟨rfl, rfl⟩
  dsimp only
  go_wp2_with (fail)
  refine bodyPost_ret (results_tmp2 rfl _ _ _) rfl ?_
  exact ⟨rfl, rfl⟩
end Go.Proofs.YtoelfjhejfgkiaaDoor
