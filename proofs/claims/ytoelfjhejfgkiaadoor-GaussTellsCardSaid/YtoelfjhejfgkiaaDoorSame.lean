/-
  The contract of the law's 'same'.
-/
import Derived.Test.YtoelfjhejfgkiaaDoorFloor
import Derived.Laws.Cover3
namespace Go.Proofs.YtoelfjhejfgkiaaDoor
open Go Go.RowKit Ieee

theorem frep_0 : FRep 0 0 := ⟨false, 0, -1074, by kernel_rfl, by decide +kernel⟩
/-- A complex number whose parts are the whole numbers u and v. -/
def CRep (z : Value) (u v : Int) : Prop := ∃ p q, z = .complex .f64 p q ∧ FRep p u ∧ FRep q v
def sameB (u v e a b : Int) : Bool := if InP a b then decide (e = 0 ∧ u = a ∧ v = b) else decide ((u = 0 ∧ v = 0) ∧ e = 20)
theorem CRep.eql {z1 z2 : Value} {u v a b : Int} (h : CRep z1 u v) (k : CRep z2 a b) (t : TypeId) (w : World) : (binOp .eql t z1 z2).run Tryd.prog w = .ok (.bool (decide (u = a ∧ v = b))) w := by
  obtain ⟨p, q, rfl, h1, h2⟩ := h
  obtain ⟨p', q', rfl, k1, k2⟩ := k
  exact run_ceql w t h1 k1 h2 k2
theorem CRep.guard {z1 z2 : Value} {u v a b : Int} (h : CRep z1 u v) (k : CRep z2 a b) (op : BinOp) (t : TypeId) (o1 o2 : Operand) (w : World) : (eqGuard op t o1 o2 z1 z2).run Tryd.prog w = .ok () w := by
  obtain ⟨p, q, rfl, h1, h2⟩ := h
  obtain ⟨p', q', rfl, k1, k2⟩ := k
  cases op <;> rfl
theorem CRep.of (a b : Int) (h : InP a b) : CRep (.complex .f64 (fOf a) (fOf b)) a b := ⟨_, _, rfl, fOf_rep a (by unfold InP at h; omega), fOf_rep b (by unfold InP at h; omega)⟩
set_option maxRecDepth 100000 in
theorem same_any (w : World) (z : Value) (u v e a b : Int) (h : CRep z u v) :
    Calls Tryd.prog 20 #[z, .int .i64 e, .agg (pairV a b)] w (Below0 w (.bool (sameB u v e a b))) := by
  by_cases hin : InP a b
  · obtain ⟨r, hr⟩ : ∃ r, r = sameB u v e a b := ⟨_, rfl⟩
    rw [← hr]
    rw [sameB, if_pos hin] at hr
    have hc := CRep.of a b hin
    have hIn := fun w => grIn_any w a b
    rw [show inB a b = true from decide_eq_true hin] at hIn
    obtain ⟨fa, hfa⟩ : ∃ V, V = Value.float .f64 (fOf a) := ⟨_, rfl⟩
    obtain ⟨fb, hfb⟩ : ∃ V, V = Value.float .f64 (fOf b) := ⟨_, rfl⟩
    obtain ⟨z2, hz2⟩ : ∃ V, V = Value.complex .f64 (fOf a) (fOf b) := ⟨_, rfl⟩
    have hca : ∀ w, (convert 3 22 (.int .i64 a)).run Tryd.prog w = .ok fa w := fun w => by rw [hfa]; exact run_conv_int_f64 w Tryd.underlying3 Tryd.underlying22
    have hcb : ∀ w, (convert 3 22 (.int .i64 b)).run Tryd.prog w = .ok fb w := fun w => by rw [hfb]; exact run_conv_int_f64 w Tryd.underlying3 Tryd.underlying22
    have hcc : ∀ ts t w, (Builtin.complex_ ts t #[fa, fb]).run Tryd.prog w = .ok z2 w := fun ts t w => by rw [hfa, hfb, hz2]; exact run_complex w ts t .f64 _ _
    rw [← hz2] at hc
    have heq := CRep.eql h hc
    have hgd := CRep.guard h hc
    have HI := Lib.hid hIn
    clear hin hc hIn hfa hfb hz2 h
    unfold pairV
    by_cases he : e = 0
    · have e1 : (e == 0) = true := by rw [he]; rfl
      obtain ⟨d, hd⟩ : ∃ d, d = decide (u = a ∧ v = b) := ⟨_, rfl⟩
      rw [← hd] at heq
      obtain rfl : r = d := by rw [hr, hd]; simp [he]
      clear hr hd he
      go_enter Tryd.func20, Tryd.ntmps20
      go_wp2_with (fail)
      refine (HI.out _).mono ?_
      rintro e w3 ⟨rfl, rfl⟩
      dsimp only
      go_wp2_with (fail)
      go_ret
      exact ⟨rfl, (Below.refl _ w).alloc (Nat.le_refl _) _⟩
    · have e1 : (e == 0) = false := by simpa using he
      obtain rfl : r = false := by rw [hr]; exact decide_eq_false (fun h => he h.1)
      clear hr he
      go_enter Tryd.func20, Tryd.ntmps20
      go_wp2_with (fail)
      refine (HI.out _).mono ?_
      rintro e w3 ⟨rfl, rfl⟩
      dsimp only
      go_wp2_with (fail)
      go_ret
      exact ⟨rfl, (Below.refl _ w).alloc (Nat.le_refl _) _⟩
  · obtain ⟨r, hr⟩ : ∃ r, r = sameB u v e a b := ⟨_, rfl⟩
    rw [← hr]
    rw [sameB, if_neg hin] at hr
    have hIn := fun w => grIn_any w a b
    rw [show inB a b = false from decide_eq_false hin] at hIn
    have h0 : CRep (.complex .f64 0 0) 0 0 := ⟨_, _, rfl, frep_0, frep_0⟩
    have heq := CRep.eql h h0
    have hgd := CRep.guard h h0
    have HI := Lib.hid hIn
    clear hin hIn h h0
    unfold pairV
    by_cases hz : u = 0 ∧ v = 0
    · rw [decide_eq_true hz] at heq
      obtain ⟨d, hd⟩ : ∃ d, d = (e == 20) := ⟨_, rfl⟩
      have hd2 : (e == 20) = d := hd.symm
      obtain rfl : r = d := by rw [hr, hd, Bool.eq_iff_iff]; simp [hz]
      clear hr hd hz
      go_enter Tryd.func20, Tryd.ntmps20
      go_wp2_with (fail)
      refine (HI.out _).mono ?_
      rintro e w3 ⟨rfl, rfl⟩
      dsimp only
      go_wp2_with (fail)
      go_ret
      exact ⟨rfl, (Below.refl _ w).alloc (Nat.le_refl _) _⟩
    · rw [decide_eq_false hz] at heq
      obtain rfl : r = false := by rw [hr]; exact decide_eq_false (fun h => hz h.1)
      clear hr hz
      go_enter Tryd.func20, Tryd.ntmps20
      go_wp2_with (fail)
      refine (HI.out _).mono ?_
      rintro e w3 ⟨rfl, rfl⟩
      dsimp only
      go_wp2_with (fail)
      go_ret
      exact ⟨rfl, (Below.refl _ w).alloc (Nat.le_refl _) _⟩
end Go.Proofs.YtoelfjhejfgkiaaDoor
