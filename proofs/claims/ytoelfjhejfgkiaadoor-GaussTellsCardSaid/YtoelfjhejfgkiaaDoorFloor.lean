/-
  The contracts of math.Floor and of the law's 'whole' and 'same'.
-/
import Derived.Test.YtoelfjhejfgkiaaDoorRefGauss
import Derived.Laws.Externs
namespace Go.Proofs.YtoelfjhejfgkiaaDoor
open Go Go.RowKit Ieee

theorem archFloor_num (w : World) (x : Nat) (h : ∃ s m i, double.read x = .number s m i) : (callFunc 38 #[.float .f64 x]).run Tryd.prog w = .ok (.value (.float .f64 (floorW x))) w := by
  rw [run_callFunc_extern (P := Tryd.prog) (e := Extern.MathFloor.toIntegral "math.archFloor" .down) Tryd.func38 (by kernel_rfl) (by kernel_rfl) (by kernel_rfl) (by kernel_rfl)]
  obtain ⟨s, m, i, hd⟩ := h
  have e : (Extern.MathFloor.toIntegral "math.archFloor" .down #[.float .f64 x]).run Tryd.prog w = .ok (.float .f64 (floorW x)) w := by
    have hdec : FloatKind.f64.decode x = .number s m i := hd
    change Sem.run Tryd.prog (match FloatKind.f64.decode x with | .nan s t => _ | d => pure (Value.float .f64 (FloatKind.f64.encode (d.integral .down)))) w = _
    rw [hdec, floorW, hd]
    rfl
  rw [e]
  rfl
theorem floor_num (w : World) (x : Nat) (h : ∃ s m i, double.read x = .number s m i) : Calls Tryd.prog 27 #[.float .f64 x] w fun e w' => e = .returned (.float .f64 (floorW x)) ∧ w' = w := by
  have hc := fun w => archFloor_num w x h
  clear h
  go_enter Tryd.func27, Tryd.ntmps27
  go_wp2_with (fail)
  go_ret
  exact ⟨rfl, rfl⟩
theorem frep_lo : FRep 13965662444475908096 (-1073741824) := ⟨true, 4503599627370496, -22, by kernel_rfl, by decide +kernel⟩
theorem frep_hi : FRep 4742290407621132288 1073741824 := ⟨false, 4503599627370496, -22, by kernel_rfl, by decide +kernel⟩
def loB (z : Nat) : Bool := double.order z 13965662444475908096 == some .gt || double.order z 13965662444475908096 == some .eq
def hiB (z : Nat) : Bool := double.order z 4742290407621132288 == some .lt || double.order z 4742290407621132288 == some .eq
def flB (z : Nat) : Bool := double.order (floorW z) z == some .eq
theorem run_lo (t : TypeId) (z : Nat) (w : World) : (binOp .geq t (.float .f64 z) (.float .f64 13965662444475908096)).run Tryd.prog w = .ok (.bool (loB z)) w := rfl
theorem run_hi (t : TypeId) (z : Nat) (w : World) : (binOp .leq t (.float .f64 z) (.float .f64 4742290407621132288)).run Tryd.prog w = .ok (.bool (hiB z)) w := rfl
theorem run_fl (t : TypeId) (z : Nat) (w : World) : (binOp .neq t (.float .f64 (floorW z)) (.float .f64 z)).run Tryd.prog w = .ok (.bool (!flB z)) w := rfl
theorem wholeF_iff (z : Nat) : WholeF z ↔ loB z = true ∧ hiB z = true ∧ flB z = true := by
  constructor
  · rintro ⟨n, h1, h2, hn⟩
    have g0 : loB z = true := by
      have := run_fgeq (P := Tryd.prog) (t := 0) (w := default) hn frep_lo
      rw [run_lo] at this
      injection this with this
      injection this with this
      rw [this]
      exact decide_eq_true h1
    have g1 : hiB z = true := by
      have := run_fleq (P := Tryd.prog) (t := 0) (w := default) hn frep_hi
      rw [run_hi] at this
      injection this with this
      injection this with this
      rw [this]
      exact decide_eq_true h2
    refine ⟨g0, g1, ?_⟩
    obtain ⟨_, m, _, _, _, hiff, hun⟩ := floor_whole (M := 1073741824) (by decide) (by decide) frep_lo frep_hi g0 g1
    have := hun n hn
    subst this
    exact hiff.2 hn
  · rintro ⟨g0, g1, g2⟩
    obtain ⟨_, m, _, h1, h2, hiff, _⟩ := floor_whole (M := 1073741824) (by decide) (by decide) frep_lo frep_hi g0 g1
    exact ⟨m, h1, h2, hiff.1 g2⟩
theorem num_of (z : Nat) (g0 : loB z = true) (g1 : hiB z = true) : ∃ s m i, double.read z = .number s m i :=
  (floor_whole (M := 1073741824) (by decide) (by decide) frep_lo frep_hi g0 g1).1
def WhRel (x y : Nat) (w1 : World) (v : Value) (wr : World) : Prop := ∃ k : Nat, k ≤ 2 ∧ v = .int .i64 (k : Int) ∧ wr = w1 ∧ (0 < k → WholeF x) ∧ (1 < k → WholeF y)
set_option maxRecDepth 100000 in
theorem whole_any (w : World) (x y : Nat) (b : Bool) (hb : b = true ↔ WholeF x ∧ WholeF y) :
    Calls Tryd.prog 7 #[.agg #[.float .f64 x, .float .f64 y]] w (Below0 w (.bool b)) := by
  have HB := Lib.hid hb
  clear hb
  go_enter Tryd.func7, Tryd.ntmps7
  go_wp2_with (fail)
  obtain ⟨w1, hw1⟩ : ∃ W, W = w.alloc (.cells #[.float .f64 x, .float .f64 y] 23) := ⟨_, rfl⟩
  have HW : Hid (Below w.heap.size w w1) := by rw [hw1]; exact (Below.refl _ w).alloc (Nat.le_refl _) _
  rw [← hw1]
  clear hw1
  go_loopw [6] (WhRel x y w1) (fun v _ => 2 - (intOf v).toNat)
  case atStart => exact ⟨0, by omega, rfl, rfl, fun h => absurd h (by omega), fun h => absurd h (by omega)⟩
  case round =>
    obtain ⟨k, hk, rfl, rfl, h0, h1⟩ := hrel
    have HR := Lib.hid (And.intro h0 h1)
    clear h0 h1
    by_cases hlt : k < 2
    · have hlt' : (k : Int) < 2 := by omega
      obtain ⟨z, hz⟩ : ∃ z, z = if k = 0 then x else y := ⟨_, rfl⟩
      have hix : ∀ w, (Instr.index 23 (.agg #[.float .f64 x, .float .f64 y]) (.int .i64 (k : Int))).run Tryd.prog w = .ok (.float .f64 z) w := fun w => by
        refine run_index_arr 23 22 2 Tryd.underlying23 (fun w => Tryd.sizeOf22 w) (fun w => rfl) #[.float .f64 x, .float .f64 y] k hlt _ ?_ w
        have hk2 : k = 0 ∨ k = 1 := by omega
        rcases hk2 with rfl | rfl
        · rw [hz]; rfl
        · rw [hz]; rfl
      obtain ⟨V, hV⟩ : ∃ V, V = Value.float .f64 z := ⟨_, rfl⟩
      obtain ⟨V2, hV2⟩ : ∃ V, V = Value.float .f64 (floorW z) := ⟨_, rfl⟩
      have hlo : ∀ t w, (binOp .geq t V (.float .f64 13965662444475908096)).run Tryd.prog w = .ok (.bool (loB z)) w := fun t w => by rw [hV]; exact run_lo t z w
      have hhi : ∀ t w, (binOp .leq t V (.float .f64 4742290407621132288)).run Tryd.prog w = .ok (.bool (hiB z)) w := fun t w => by rw [hV]; exact run_hi t z w
      have hfl : ∀ t w, (binOp .neq t V2 V).run Tryd.prog w = .ok (.bool (!flB z)) w := fun t w => by rw [hV, hV2]; exact run_fl t z w
      have hgd : ∀ op t o1 o2 w, (eqGuard op t o1 o2 V2 V).run Tryd.prog w = .ok () w := fun op t o1 o2 w => by rw [hV, hV2]; cases op <;> rfl
      rw [← hV] at hix
      have HFL : Hid (∀ w, (∃ s m i, double.read z = .number s m i) → Calls Tryd.prog 27 #[V] w fun e w' => e = .returned V2 ∧ w' = w) := fun w h => by rw [hV, hV2]; exact floor_num w z h
      clear hV hV2
      have hiff := wholeF_iff z
      have hwz : ¬ WholeF z → b = false := fun hn => by
        cases hbb : b with
        | false => rfl
        | true =>
          have := HB.out.1 hbb
          have hk2 : k = 0 ∨ k = 1 := by omega
          exfalso
          apply hn
          rw [hz]
          rcases hk2 with rfl | rfl
          · exact this.1
          · exact this.2
      cases g0 : loB z with
      | false =>
        rw [g0] at hlo hiff
        obtain rfl : b = false := hwz (fun h => by have := (hiff.1 h).1; cases this)
        clear hwz hiff hz g0 hlt
        go_wp2_with (fail)
        go_ret
        exact ⟨rfl, HW.out⟩
      | true =>
        rw [g0] at hlo hiff
        cases g1 : hiB z with
        | false =>
          rw [g1] at hhi hiff
          obtain rfl : b = false := hwz (fun h => by have := (hiff.1 h).2.1; cases this)
          clear hwz hiff hz g0 g1 hlt
          go_wp2_with (fail)
          go_ret
          exact ⟨rfl, HW.out⟩
        | true =>
          have HF := Lib.hid (num_of z g0 g1)
          rw [g1] at hhi hiff
          cases g2 : flB z with
          | false =>
            rw [g2] at hfl hiff
            obtain rfl : b = false := hwz (fun h => by have := (hiff.1 h).2.2; cases this)
            clear hwz hiff hz g0 g1 g2 hlt
            go_wp2_with (fail)
            refine (HFL.out _ HF.out).mono ?_
            rintro e w3 ⟨rfl, rfl⟩
            dsimp only
            go_wp2_with (fail)
            go_ret
            exact ⟨rfl, HW.out⟩
          | true =>
            rw [g2] at hfl hiff
            have HZ : Hid (WhRel x y wr (.int .i64 ((k : Int) + 1)) wr) := by
              have hwz2 := hiff.2 ⟨rfl, rfl, rfl⟩
              refine ⟨k + 1, by omega, by go_num, rfl, fun _ => ?_, fun _ => ?_⟩
              · by_cases h0 : k = 0
                · rw [hz, if_pos h0] at hwz2
                  exact hwz2
                · exact HR.out.1 (by omega)
              · by_cases h0 : k = 0
                · omega
                · rw [hz, if_neg h0] at hwz2
                  exact hwz2
            have HL := Lib.hid hlt
            clear hwz hiff hz g0 g1 g2 hlt
            go_wp2_with (fail)
            refine (HFL.out _ HF.out).mono ?_
            rintro e w3 ⟨rfl, rfl⟩
            dsimp only
            go_wp2_with (fail)
            exact ⟨HZ.out, by have := HL.out; simp [intOf]; omega⟩
    · obtain rfl : b = true := HB.out.2 ⟨HR.out.1 (by omega), HR.out.2 (by omega)⟩
      have hlt' : ¬ (k : Int) < 2 := by omega
      clear hlt
      go_wp2_with (fail)
      go_ret
      exact ⟨rfl, HW.out⟩
end Go.Proofs.YtoelfjhejfgkiaaDoor
