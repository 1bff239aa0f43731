/-
  The contracts of math.Trunc, math.Abs, and of package gauss' own 'whole' and Right.
-/
import Derived.Test.YtoelfjhejfgkiaaDoorFloor
import Derived.Test.YtoelfjhejfgkiaaDoorSame
import Derived.Test.YtoelfjhejfgkiaaDoorCoreTrunc
import Derived.Laws.Externs
namespace Go.Proofs.YtoelfjhejfgkiaaDoor
open Go Go.RowKit Ieee

def NanW (x : Nat) : Prop := ∃ s t, double.read x = .nan s t
theorem archTrunc_any (w : World) (x : Nat) : ∃ y w', (callFunc 55 #[.float .f64 x]).run Tryd.prog w = .ok (.value (.float .f64 y)) w' ∧ (¬ NanW x → y = truncW x ∧ w' = w) ∧ Below w.heap.size w w' := by
  rw [run_callFunc_extern (P := Tryd.prog) (e := Extern.MathFloor.toIntegral "math.archTrunc" .zero) Tryd.func55 (by kernel_rfl) (by kernel_rfl) (by kernel_rfl) (by kernel_rfl)]
  cases hd : FloatKind.f64.decode x with
  | number s m i =>
    refine ⟨truncW x, w, ?_, fun _ => ⟨rfl, rfl⟩, Below.refl _ _⟩
    have e : (Extern.MathFloor.toIntegral "math.archTrunc" .zero #[.float .f64 x]).run Tryd.prog w = .ok (.float .f64 (truncW x)) w := by
      change Sem.run Tryd.prog (match FloatKind.f64.decode x with | .nan s t => _ | d => pure (Value.float .f64 (FloatKind.f64.encode (d.integral .zero)))) w = _
      rw [hd, truncW, show double.read x = .number s m i from hd]
      rfl
    rw [e]; rfl
  | infinity s =>
    refine ⟨truncW x, w, ?_, fun _ => ⟨rfl, rfl⟩, Below.refl _ _⟩
    have e : (Extern.MathFloor.toIntegral "math.archTrunc" .zero #[.float .f64 x]).run Tryd.prog w = .ok (.float .f64 (truncW x)) w := by
      change Sem.run Tryd.prog (match FloatKind.f64.decode x with | .nan s t => _ | d => pure (Value.float .f64 (FloatKind.f64.encode (d.integral .zero)))) w = _
      rw [hd, truncW, show double.read x = .infinity s from hd]
      rfl
    rw [e]; rfl
  | nan s t =>
    have hn : NanW x := ⟨s, t, hd⟩
    by_cases hq : FloatKind.f64.format.quiet t = t
    · refine ⟨x, w, ?_, fun h => absurd hn h, Below.refl _ _⟩
      have e : (Extern.MathFloor.toIntegral "math.archTrunc" .zero #[.float .f64 x]).run Tryd.prog w = .ok (.float .f64 x) w := by
        change Sem.run Tryd.prog (match FloatKind.f64.decode x with | .nan s t => _ | d => pure (Value.float .f64 (FloatKind.f64.encode (d.integral .zero)))) w = _
        rw [hd]
        dsimp only
        rw [if_pos hq]
        rfl
      rw [e]; rfl
    · have e : ∃ y w', (Extern.MathFloor.toIntegral "math.archTrunc" .zero #[.float .f64 x]).run Tryd.prog w = .ok (.float .f64 y) w' ∧ Below w.heap.size w w' := by
        change ∃ y w', Sem.run Tryd.prog (match FloatKind.f64.decode x with | .nan s t => _ | d => pure (Value.float .f64 (FloatKind.f64.encode (d.integral .zero)))) w = _ ∧ _
        rw [hd]
        dsimp only
        rw [if_neg hq]
        simp only [Sem.run_bind, run_choose_drew]
        split
        · exact ⟨_, w, rfl, Below.refl _ _⟩
        · exact ⟨_, w.drew, rfl, (Below.refl _ _).drew⟩
      obtain ⟨y, w', e, hB⟩ := e
      exact ⟨y, w', by rw [e]; rfl, fun h => absurd hn h, hB⟩
set_option maxRecDepth 100000 in
theorem trunc_any (w : World) (x : Nat) : Calls Tryd.prog 40 #[.float .f64 x] w fun e w' => ∃ y, e = .returned (.float .f64 y) ∧ (¬ NanW x → y = truncW x ∧ w' = w) ∧ Below w.heap.size w w' := by
  obtain ⟨y, w1, hc, hy, hB⟩ := archTrunc_any w x
  have HY := Lib.hid (And.intro hy hB)
  clear hy hB
  obtain ⟨V, hV⟩ : ∃ V, V = Value.float .f64 y := ⟨_, rfl⟩
  rw [← hV] at hc
  have HV := Lib.hid hV
  clear hV
  go_enter Tryd.func40, Tryd.ntmps40
  go_wp2_with (fail)
  go_ret
  exact ⟨y, by rw [HV.out]; rfl, HY.out.1, HY.out.2⟩
theorem fbits_run (w : World) (x : Nat) : (callFunc 58 #[.float .f64 x]).run Tryd.prog w = .ok (.value (.int .u64 (x : Int))) w := by
  rw [run_callFunc_extern (P := Tryd.prog) (e := Extern.MathFloatBits.float64bits) Tryd.func58 (by kernel_rfl) (by kernel_rfl) (by kernel_rfl) (by kernel_rfl)]
  rfl
theorem ffrom_run (w : World) (x : Nat) : (callFunc 57 #[.int .u64 (x : Int)]).run Tryd.prog w = .ok (.value (.float .f64 x)) w := by
  rw [run_callFunc_extern (P := Tryd.prog) (e := Extern.MathFloatBits.float64frombits) Tryd.func57 (by kernel_rfl) (by kernel_rfl) (by kernel_rfl) (by kernel_rfl)]
  rfl
set_option maxRecDepth 100000 in
theorem abs_any (w : World) (x : Nat) : Calls Tryd.prog 41 #[.float .f64 x] w fun e w' => e = .returned (.float .f64 (absW x)) ∧ w' = w := by
  have h1 := fun w => fbits_run w x
  have h3 := fun w => ffrom_run w (absW x)
  have h2 : bits .andNot .u64 (x : Int) 9223372036854775808 = ((absW x : Nat) : Int) := bits_abs x
  obtain ⟨y, hy⟩ : ∃ y, y = absW x := ⟨_, rfl⟩
  rw [← hy] at h2 h3 ⊢
  clear hy
  go_enter Tryd.func41, Tryd.ntmps41
  go_wp2_with (fail)
  go_ret
  exact ⟨rfl, rfl⟩
def absB (x : Nat) : Bool := double.order (absW x) 4742290407621132288 == some .lt || double.order (absW x) 4742290407621132288 == some .eq
def eqB (x y : Nat) : Bool := double.order x y == some .eq
theorem run_absB (t : TypeId) (x : Nat) (w : World) : (binOp .leq t (.float .f64 (absW x)) (.float .f64 4742290407621132288)).run Tryd.prog w = .ok (.bool (absB x)) w := rfl
theorem run_eqB (t : TypeId) (x y : Nat) (w : World) : (binOp .eql t (.float .f64 x) (.float .f64 y)).run Tryd.prog w = .ok (.bool (eqB x y)) w := rfl
theorem wholeT_iff (x : Nat) : WholeF x ↔ eqB x (truncW x) = true ∧ absB x = true := by
  constructor
  · rintro ⟨n, h1, h2, hn⟩
    have g1 : absB x = true := by
      have := run_fleq (P := Tryd.prog) (t := 0) (w := default) (frep_abs hn) frep_hi
      rw [run_absB] at this
      injection this with this
      injection this with this
      rw [this]
      exact decide_eq_true (by omega)
    obtain ⟨_, m, _, _, _, hiff, hun⟩ := trunc_whole (M := 1073741824) (by decide) frep_hi g1
    have := hun n hn
    subst this
    exact ⟨hiff.2 hn, g1⟩
  · rintro ⟨g0, g1⟩
    obtain ⟨_, m, _, h1, h2, hiff, _⟩ := trunc_whole (M := 1073741824) (by decide) frep_hi g1
    exact ⟨m, h1, h2, hiff.1 g0⟩
theorem nan_eqB {x : Nat} (h : NanW x) (y : Nat) : eqB x y = false := by
  obtain ⟨s, t, h⟩ := h
  rw [eqB, Format.order, h]
  rfl
theorem whole_notNan {x : Nat} (h : WholeF x) : ¬ NanW x := by
  rintro ⟨s, t, hn⟩
  obtain ⟨n, _, _, s', m, i, hr, _⟩ := h
  rw [hn] at hr
  cases hr
set_option maxRecDepth 100000 in
theorem gwhole_yes (w : World) (x : Nat) (h : WholeF x) : Calls Tryd.prog 28 #[.float .f64 x] w fun e w' => e = .returned (.bool true) ∧ w' = w := by
  obtain ⟨g0, g1⟩ := (wholeT_iff x).1 h
  have HN := Lib.hid (whole_notNan h)
  have HT := Lib.hid (trunc_any w x)
  have HA := Lib.hid (abs_any w x)
  have e0 := fun t w => run_eqB t x (truncW x) w
  have e1 := fun t w => run_absB t x w
  rw [g0] at e0
  rw [g1] at e1
  obtain ⟨V, hV⟩ : ∃ V, V = Value.float .f64 x := ⟨_, rfl⟩
  obtain ⟨VT, hVT⟩ : ∃ V, V = Value.float .f64 (truncW x) := ⟨_, rfl⟩
  obtain ⟨VA, hVA⟩ : ∃ V, V = Value.float .f64 (absW x) := ⟨_, rfl⟩
  have hgd : ∀ op t o1 o2 w, (eqGuard op t o1 o2 V VT).run Tryd.prog w = .ok () w := fun op t o1 o2 w => by rw [hV, hVT]; cases op <;> rfl
  rw [← hV] at HT HA e0 ⊢
  rw [← hVT] at e0
  rw [← hVA] at e1 HA
  have HV := Lib.hid hVT
  clear hV hVT hVA h g0 g1
  go_enter Tryd.func28, Tryd.ntmps28
  go_wp2_with (fail)
  refine HT.out.mono ?_
  rintro e w1 ⟨y, rfl, hy, _⟩
  obtain ⟨rfl, rfl⟩ := hy HN.out
  rw [← HV.out]
  clear hy
  dsimp only
  go_wp2_with (fail)
  refine HA.out.mono ?_
  rintro e w1 ⟨rfl, rfl⟩
  dsimp only
  go_wp2_with (fail)
  go_ret
  exact ⟨rfl, rfl⟩
set_option maxRecDepth 100000 in
theorem gwhole_no (w : World) (x : Nat) (h : ¬ WholeF x) : Calls Tryd.prog 28 #[.float .f64 x] w (Below0 w (.bool false)) := by
  have HT := Lib.hid (trunc_any w x)
  have HA := Lib.hid (fun w => abs_any w x)
  have e0 := fun y t w => run_eqB t x y w
  have e1 := fun t w => run_absB t x w
  have HE : Hid (∀ y, ((¬ NanW x → y = truncW x) → (eqB x y = false ∨ absB x = false))) := by
    refine Lib.hid (fun y hy => ?_)
    by_cases hn : NanW x
    · exact .inl (nan_eqB hn y)
    · rw [hy hn]
      cases ha : eqB x (truncW x) with
      | false => exact .inl rfl
      | true =>
        cases hb : absB x with
        | false => exact .inr rfl
        | true => exact absurd ((wholeT_iff x).2 ⟨ha, hb⟩) h
  obtain ⟨V, hV⟩ : ∃ V, V = Value.float .f64 x := ⟨_, rfl⟩
  obtain ⟨VA, hVA⟩ : ∃ V, V = Value.float .f64 (absW x) := ⟨_, rfl⟩
  have hgd : ∀ y op t o1 o2 w, (eqGuard op t o1 o2 V (.float .f64 y)).run Tryd.prog w = .ok () w := fun y op t o1 o2 w => by rw [hV]; cases op <;> rfl
  rw [← hV] at HT e0 ⊢
  rw [← hVA] at e1
  simp only [← hV, ← hVA] at HA
  clear hV hVA h
  go_enter Tryd.func28, Tryd.ntmps28
  go_wp2_with (fail)
  refine HT.out.mono ?_
  rintro e w1 ⟨y, rfl, hy, hB⟩
  have HB := Lib.hid hB
  have hE := HE.out y (fun h => (hy h).1)
  replace e0 := e0 y
  replace hgd := hgd y
  obtain ⟨VY, hVY⟩ : ∃ V, V = Value.float .f64 y := ⟨_, rfl⟩
  rw [← hVY] at e0 hgd ⊢
  clear hy hB hVY
  cases h0 : eqB x y with
  | false =>
    rw [h0] at e0
    clear h0 hE
    dsimp only
    go_wp2_with (fail)
    go_ret
    exact ⟨rfl, HB.out⟩
  | true =>
    have h1 : absB x = false := by
      rcases hE with h | h
      · rw [h0] at h; cases h
      · exact h
    rw [h0] at e0
    rw [h1] at e1
    clear h0 hE h1
    dsimp only
    go_wp2_with (fail)
    refine (HA.out _).mono ?_
    rintro e w2 ⟨rfl, rfl⟩
    dsimp only
    go_wp2_with (fail)
    go_ret
    exact ⟨rfl, HB.out⟩
/-- A whole one, by its parts. -/
def WholeZ (z : Value) (u v : Int) : Prop := CRep z u v ∧ InP u v
theorem WholeZ.parts {z : Value} {u v : Int} (h : WholeZ z u v) : ∃ p q, z = .complex .f64 p q ∧ WholeF p ∧ WholeF q := by
  obtain ⟨⟨p, q, rfl, h1, h2⟩, h3⟩ := h
  unfold InP at h3
  exact ⟨p, q, rfl, ⟨u, by omega, by omega, h1⟩, ⟨v, by omega, by omega, h2⟩⟩
theorem WholeZ.of_whole {p q : Nat} (h : WholeF p) (k : WholeF q) : ∃ u v, WholeZ (.complex .f64 p q) u v := by
  obtain ⟨u, h1, h2, h3⟩ := h
  obtain ⟨v, k1, k2, k3⟩ := k
  exact ⟨u, v, ⟨p, q, rfl, h3, k3⟩, by unfold InP; omega⟩
theorem right_yes (w : World) (z : Value) (u v : Int) (h : WholeZ z u v) : Calls Tryd.prog 8 #[z] w fun e w' => e = .returned (.bool true) ∧ w' = w := by
  obtain ⟨p, q, rfl, h1, h2⟩ := h.parts
  have H1 := Lib.hid (gwhole_yes w p h1)
  have H2 := Lib.hid (gwhole_yes w q h2)
  clear h h1 h2
  go_enter Tryd.func8, Tryd.ntmps8
  go_wp2_with (fail)
  refine H1.out.mono ?_
  rintro e w1 ⟨rfl, rfl⟩
  dsimp only
  go_wp2_with (fail)
  refine H2.out.mono ?_
  rintro e w1 ⟨rfl, rfl⟩
  dsimp only
  go_wp2_with (fail)
  go_ret
  exact ⟨rfl, rfl⟩
theorem right_no (w : World) (p q : Nat) (h : ¬ (WholeF p ∧ WholeF q)) : Calls Tryd.prog 8 #[.complex .f64 p q] w (Below0 w (.bool false)) := by
  by_cases h1 : WholeF p
  · have h2 : ¬ WholeF q := fun k => h ⟨h1, k⟩
    have H1 := Lib.hid (gwhole_yes w p h1)
    have H2 := Lib.hid (gwhole_no w q h2)
    clear h h1 h2
    go_enter Tryd.func8, Tryd.ntmps8
    go_wp2_with (fail)
    refine H1.out.mono ?_
    rintro e w1 ⟨rfl, rfl⟩
    dsimp only
    go_wp2_with (fail)
    refine H2.out.mono ?_
    rintro e w1 ⟨rfl, hB⟩
    have HB := Lib.hid hB
    clear hB
    dsimp only
    go_wp2_with (fail)
    go_ret
    exact ⟨rfl, HB.out⟩
  · have H1 := Lib.hid (gwhole_no w p h1)
    clear h h1
    go_enter Tryd.func8, Tryd.ntmps8
    go_wp2_with (fail)
    refine H1.out.mono ?_
    rintro e w1 ⟨rfl, hB⟩
    have HB := Lib.hid hB
    clear hB
    dsimp only
    go_wp2_with (fail)
    go_ret
    exact ⟨rfl, HB.out⟩
end Go.Proofs.YtoelfjhejfgkiaaDoor
