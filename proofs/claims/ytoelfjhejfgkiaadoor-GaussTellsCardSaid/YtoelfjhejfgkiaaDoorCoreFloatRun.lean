/-
  What the operations make of floats of 64 bits, and of complex numbers of 128, that stand for whole numbers.
-/
import Derived.Test.YtoelfjhejfgkiaaDoorCoreFloat
namespace Go.Proofs.YtoelfjhejfgkiaaDoor
open Go Go.RowKit Ieee

/-- The word of a whole number. -/
def fOf (n : Int) : Nat := FloatKind.f64.nearest n
theorem fOf_rep (n : Int) (h : n.natAbs < 9007199254740992) : FRep (fOf n) n := by
  refine write_val (d := .number (decide (n < 0)) n.natAbs 0) ⟨_, _, _, rfl, ?_⟩ h
  by_cases h0 : n < 0
  · simp [sZ, h0]; omega
  · simp [sZ, h0]; omega
section
variable {P : Program} {x y : Nat} {a b : Int} (w : World) (t : TypeId)
theorem frep_add (h : FRep x a) (k : FRep y b) (hb : (a + b).natAbs < 9007199254740992) : ∃ r, double.add x y = some r ∧ FRep r (a + b) := by
  obtain ⟨d, hd, hv⟩ := h.sum k
  exact ⟨_, by rw [Format.add, hd]; rfl, write_val hv hb⟩
theorem frep_sub (h : FRep x a) (k : FRep y b) (hb : (a - b).natAbs < 9007199254740992) : ∃ r, double.sub x y = some r ∧ FRep r (a - b) := by
  obtain ⟨d, hd, hv⟩ := Val.sum h (Val.opposite k)
  rw [← Int.sub_eq_add_neg] at hv
  exact ⟨_, by rw [Format.sub, hd]; rfl, write_val hv hb⟩
theorem frep_mul (h : FRep x a) (k : FRep y b) (hb : (a * b).natAbs < 9007199254740992) : ∃ r, double.mul x y = some r ∧ FRep r (a * b) := by
  obtain ⟨d, hd, hv⟩ := h.product k
  exact ⟨_, by rw [Format.mul, hd]; rfl, write_val hv hb⟩
theorem frep_order (h : FRep x a) (k : FRep y b) : double.order x y = some (compare a b) := Val.order h k

theorem run_fadd (h : FRep x a) (k : FRep y b) (hb : (a + b).natAbs < 9007199254740992) : ∃ r, FRep r (a + b) ∧ ∀ w, (binOp .add t (.float .f64 x) (.float .f64 y)).run P w = .ok (.float .f64 r) w := by
  obtain ⟨r, hr, hf⟩ := frep_add h k hb
  exact ⟨r, hf, fun w => run_float_arith w .add t .f64 x y r hr⟩
theorem run_fsub (h : FRep x a) (k : FRep y b) (hb : (a - b).natAbs < 9007199254740992) : ∃ r, FRep r (a - b) ∧ ∀ w, (binOp .sub t (.float .f64 x) (.float .f64 y)).run P w = .ok (.float .f64 r) w := by
  obtain ⟨r, hr, hf⟩ := frep_sub h k hb
  exact ⟨r, hf, fun w => run_float_arith w .sub t .f64 x y r hr⟩
theorem run_fmul (h : FRep x a) (k : FRep y b) (hb : (a * b).natAbs < 9007199254740992) : ∃ r, FRep r (a * b) ∧ ∀ w, (binOp .mul t (.float .f64 x) (.float .f64 y)).run P w = .ok (.float .f64 r) w := by
  obtain ⟨r, hr, hf⟩ := frep_mul h k hb
  exact ⟨r, hf, fun w => run_float_arith w .mul t .f64 x y r hr⟩

theorem cmp_eq (a b : Int) : (some (compare a b) == some Ordering.eq) = decide (a = b) := by
  simp only [compare, compareOfLessAndEq]
  by_cases h1 : a < b
  · rw [if_pos h1]; simp; omega
  · rw [if_neg h1]
    by_cases h2 : a = b
    · rw [if_pos h2]; simp [h2]
    · rw [if_neg h2]; simp [h2]
theorem cmp_lt (a b : Int) : (some (compare a b) == some Ordering.lt) = decide (a < b) := by
  simp only [compare, compareOfLessAndEq]
  by_cases h1 : a < b
  · rw [if_pos h1]; simp [h1]
  · rw [if_neg h1]
    by_cases h2 : a = b
    · rw [if_pos h2]; simp [h2]
    · rw [if_neg h2]; simp; omega
theorem cmp_gt (a b : Int) : (some (compare a b) == some Ordering.gt) = decide (b < a) := by
  simp only [compare, compareOfLessAndEq]
  by_cases h1 : a < b
  · rw [if_pos h1]; simp; omega
  · rw [if_neg h1]
    by_cases h2 : a = b
    · rw [if_pos h2]; simp [h2]
    · rw [if_neg h2]; simp; omega
theorem run_feql (h : FRep x a) (k : FRep y b) : (binOp .eql t (.float .f64 x) (.float .f64 y)).run P w = .ok (.bool (decide (a = b))) w := by
  show Result.ok (Value.bool (double.order x y == some .eq)) w = _
  rw [frep_order h k, cmp_eq]
theorem run_fneq (h : FRep x a) (k : FRep y b) : (binOp .neq t (.float .f64 x) (.float .f64 y)).run P w = .ok (.bool (decide (a ≠ b))) w := by
  show Result.ok (Value.bool (double.order x y != some .eq)) w = _
  rw [bne, frep_order h k, cmp_eq]
  simp
theorem run_flss (h : FRep x a) (k : FRep y b) : (binOp .lss t (.float .f64 x) (.float .f64 y)).run P w = .ok (.bool (decide (a < b))) w := by
  show Result.ok (Value.bool (double.order x y == some .lt)) w = _
  rw [frep_order h k, cmp_lt]
theorem run_fgtr (h : FRep x a) (k : FRep y b) : (binOp .gtr t (.float .f64 x) (.float .f64 y)).run P w = .ok (.bool (decide (b < a))) w := by
  show Result.ok (Value.bool (double.order x y == some .gt)) w = _
  rw [frep_order h k, cmp_gt]
theorem run_fleq (h : FRep x a) (k : FRep y b) : (binOp .leq t (.float .f64 x) (.float .f64 y)).run P w = .ok (.bool (decide (a ≤ b))) w := by
  show Result.ok (Value.bool (double.order x y == some .lt || double.order x y == some .eq)) w = _
  rw [frep_order h k, cmp_lt, cmp_eq]
  congr 2
  rw [Bool.eq_iff_iff]
  simp
  omega
theorem run_fgeq (h : FRep x a) (k : FRep y b) : (binOp .geq t (.float .f64 x) (.float .f64 y)).run P w = .ok (.bool (decide (b ≤ a))) w := by
  show Result.ok (Value.bool (double.order x y == some .gt || double.order x y == some .eq)) w = _
  rw [frep_order h k, cmp_gt, cmp_eq]
  congr 2
  rw [Bool.eq_iff_iff]
  simp
  omega

/-- Made whole, in whichever way, a whole number is itself. -/
theorem cut_whole (way : Toward) (neg : Bool) (n d : Nat) (hn : 0 < n) (h : 2 ^ d ∣ n) : way.cut neg n d = n / 2 ^ d := by
  have hd : d ≤ n.log2 := by
    have h1 : 2 ^ d ≤ n := Nat.le_of_dvd hn h
    exact (Nat.le_log2 (by omega)).2 h1
  have hm : min d (n.log2 + 2) = d := by omega
  have hr : n % 2 ^ d = 0 := Nat.mod_eq_zero_of_dvd h
  unfold Toward.cut
  simp only [hm, Nat.shiftLeft_eq, Nat.one_mul, hr]
  cases way <;> simp
theorem cut_nought (way : Toward) (neg : Bool) (d : Nat) : way.cut neg 0 d = 0 := by
  unfold Toward.cut
  have hp : 0 < 1 <<< min d ((0 : Nat).log2 + 2) := by rw [Nat.shiftLeft_eq, Nat.one_mul]; exact Nat.pow_pos (by decide)
  simp only [Nat.zero_div, Nat.zero_mod]
  cases way <;> simp
theorem Val.integral {d : Datum} {n : Int} (h : Val d n) (way : Toward) : ∃ s, d.integral way = .number s n.natAbs 0 ∧ sZ s n.natAbs = n := by
  obtain ⟨s, m, i, rfl, hv⟩ := h
  have ha : m * 2 ^ i.toNat = n.natAbs * 2 ^ (-i).toNat := by
    have := congrArg Int.natAbs hv
    rw [Int.natAbs_mul, Int.natAbs_mul, sZ_abs, Int.natAbs_pow, Int.natAbs_pow] at this
    exact this
  have hp : 0 < 2 ^ (-i).toNat := Nat.pow_pos (by decide)
  have hp2 : 0 < 2 ^ i.toNat := Nat.pow_pos (by decide)
  have hc : way.cut s (m <<< i.toNat) (-i).toNat = n.natAbs := by
    rw [Nat.shiftLeft_eq, ha]
    rcases Nat.eq_zero_or_pos n.natAbs with e | e
    · rw [e, Nat.zero_mul, cut_nought]
    · rw [cut_whole way s _ _ (Nat.mul_pos e hp) ⟨n.natAbs, Nat.mul_comm _ _⟩, Nat.mul_div_cancel _ hp]
  refine ⟨s, by rw [Datum.integral, hc], ?_⟩
  have hq1 : (0 : Int) < 2 ^ i.toNat := Int.pow_pos (by decide)
  have hq2 : (0 : Int) < 2 ^ (-i).toNat := Int.pow_pos (by decide)
  have hz : sZ s n.natAbs * 2 ^ (-i).toNat = n * 2 ^ (-i).toNat := by
    rw [← hv]
    have hcast : (m : Int) * 2 ^ i.toNat = (n.natAbs : Int) * 2 ^ (-i).toNat := by exact_mod_cast ha
    cases s
    · simp only [sZ, Bool.false_eq_true, if_false, hcast]
    · simp only [sZ, if_true, Int.neg_mul, hcast]
  exact Int.eq_of_mul_eq_mul_right (Int.ne_of_gt hq2) hz
theorem run_conv_f64_int {src dst : TypeId} {k : IntKind} (hs : (P.underlying src).isSome = true) (hd : P.underlying dst = some (.int k)) (h : FRep x a) (h1 : k.min ≤ a) (h2 : a ≤ k.max) :
    (convert src dst (.float .f64 x)).run P w = .ok (.int k a) w := by
  refine run_convert_float_int w src dst .f64 k x a hs hd ?_
  obtain ⟨s, hi, hz⟩ := Val.integral h .zero
  have ht : (FloatKind.f64.decode x).toInt .zero = some a := by
    show (double.read x).toInt .zero = some a
    rw [Datum.toInt, hi]
    simp only [signed_is]
    rw [hz, Int.pow_zero, Int.mul_one]
  unfold floatToIntVal
  rw [ht]
  simp only [h1, h2, and_self, if_true]
theorem run_conv_int_f64 {src dst : TypeId} {k : IntKind} (hs : P.underlying src = some (.int k)) (hd : P.underlying dst = some (.float .f64)) : (convert src dst (.int k a)).run P w = .ok (.float .f64 (fOf a)) w := by
  simp [convert, run_underlying hs, run_underlying hd, Conv.intToFloat, fOf]

/-! Complex numbers. -/
theorem run_ceql {x2 y2 : Nat} {a2 b2 : Int} (h : FRep x a) (k : FRep y b) (h2 : FRep x2 a2) (k2 : FRep y2 b2) :
    (binOp .eql t (.complex .f64 x x2) (.complex .f64 y y2)).run P w = .ok (.bool (decide (a = b ∧ a2 = b2))) w := by
  have e1 : (Op.Complex.cmp .eql .f64 x y).run P w = .ok (decide (a = b)) w := by
    show Result.ok (double.order x y == some .eq) w = _
    rw [frep_order h k, cmp_eq]
  have e2 : (Op.Complex.cmp .eql .f64 x2 y2).run P w = .ok (decide (a2 = b2)) w := by
    show Result.ok (double.order x2 y2 == some .eq) w = _
    rw [frep_order h2 k2, cmp_eq]
  show (Op.complexOp .eql .f64 x x2 y y2).run P w = _
  simp only [Op.complexOp, Sem.run_bind, e1, e2, Result.andThen_ok]
  simp
theorem run_cadd {x2 y2 : Nat} {a2 b2 : Int} (h : FRep x a) (k : FRep y b) (h2 : FRep x2 a2) (k2 : FRep y2 b2) (hb : (a + b).natAbs < 9007199254740992) (hb2 : (a2 + b2).natAbs < 9007199254740992) :
    ∃ r r2, FRep r (a + b) ∧ FRep r2 (a2 + b2) ∧ ∀ w, (binOp .add t (.complex .f64 x x2) (.complex .f64 y y2)).run P w = .ok (.complex .f64 r r2) w := by
  obtain ⟨r, hr, hf⟩ := frep_add h k hb
  obtain ⟨r2, hr2, hf2⟩ := frep_add h2 k2 hb2
  refine ⟨r, r2, hf, hf2, fun w => ?_⟩
  have e1 : (Op.Complex.arith .add .f64 x y).run P w = .ok r w := by simp [Op.Complex.arith, Op.floatArith, FloatKind.format, hr]
  have e2 : (Op.Complex.arith .add .f64 x2 y2).run P w = .ok r2 w := by simp [Op.Complex.arith, Op.floatArith, FloatKind.format, hr2]
  show (Op.complexOp .add .f64 x x2 y y2).run P w = _
  simp only [Op.complexOp, Sem.run_bind, e1, e2, Result.andThen_ok]
  simp
theorem run_cmul {x2 y2 : Nat} {a2 b2 : Int} (h : FRep x a) (k : FRep y b) (h2 : FRep x2 a2) (k2 : FRep y2 b2) (m1 : (a * b).natAbs < 4503599627370496) (m2 : (a2 * b2).natAbs < 4503599627370496) (m3 : (a * b2).natAbs < 4503599627370496)
    (m4 : (a2 * b).natAbs < 4503599627370496) :
    ∃ r r2, FRep r (a * b - a2 * b2) ∧ FRep r2 (a * b2 + a2 * b) ∧ ∀ w, (binOp .mul t (.complex .f64 x x2) (.complex .f64 y y2)).run P w = .ok (.complex .f64 r r2) w := by
  obtain ⟨p1, g1, f1⟩ := frep_mul h k (by omega)
  obtain ⟨p2, g2, f2⟩ := frep_mul h2 k2 (by omega)
  obtain ⟨p3, g3, f3⟩ := frep_mul h k2 (by omega)
  obtain ⟨p4, g4, f4⟩ := frep_mul h2 k (by omega)
  obtain ⟨r, hr, hf⟩ := frep_sub f1 f2 (by omega)
  obtain ⟨r2, hr2, hf2⟩ := frep_add f3 f4 (by omega)
  refine ⟨r, r2, hf, hf2, fun w => ?_⟩
  have em : ∀ {u v z : Nat}, double.mul u v = some z → (Op.Complex.mul u v).run P w = .ok z w := fun {u v z} hz => by simp [Op.Complex.mul, Op.Complex.arith, Op.floatArith, FloatKind.format, hz]
  have ea : (Op.Complex.add p3 p4).run P w = .ok r2 w := by simp [Op.Complex.add, Op.Complex.arith, Op.floatArith, FloatKind.format, hr2]
  have es : (Op.Complex.sub p1 p2).run P w = .ok r w := by simp [Op.Complex.sub, Op.Complex.arith, Op.floatArith, FloatKind.format, hr]
  show (Op.complexOp .mul .f64 x x2 y y2).run P w = _
  simp [Op.complexOp, Op.Complex.conv, Op.Complex.product, em g1, em g2, em g3, em g4, ea, es]
end
end Go.Proofs.YtoelfjhejfgkiaaDoor
