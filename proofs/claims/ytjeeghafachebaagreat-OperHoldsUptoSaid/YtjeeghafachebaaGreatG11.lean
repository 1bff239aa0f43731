/-
  Part 11 of 53 of what the proof leans on.
-/
import Derived.Test.YtjeeghafachebaaGreatG9
import Derived.Test.YtjeeghafachebaaGreatG10
import Derived.Laws.Externs
import Derived.Test.YtjeeghafachebaaGreatG7
import Derived.Laws.Cover3
namespace Go.Proofs.YtjeeghafachebaaGreat
open Go Go.RowKit Ieee
def NanW (x : Nat) : Prop := ∃ s t, double.read x = .nan s t
theorem archTrunc_any (w : World) (x : Nat) : ∃ y w', (callFunc 136 #[.float .f64 x]).run Tryz.prog w = .ok (.value (.float .f64 y)) w' ∧ (¬ NanW x → y = truncW x ∧ w' = w) ∧ Below w.heap.size w w' := by
  rw [run_callFunc_extern (P := Tryz.prog) (e := Extern.MathFloor.toIntegral "math.archTrunc" .zero) Tryz.func136 (by kernel_rfl) (by kernel_rfl) (by kernel_rfl) (by kernel_rfl)]
  cases hd : FloatKind.f64.decode x with
  | number s m i =>
    refine ⟨truncW x, w, ?_, fun _ => ⟨rfl, rfl⟩, Below.refl _ _⟩
    have e : (Extern.MathFloor.toIntegral "math.archTrunc" .zero #[.float .f64 x]).run Tryz.prog w = .ok (.float .f64 (truncW x)) w := by
      change Sem.run Tryz.prog (match FloatKind.f64.decode x with | .nan s t => _ | d => pure (Value.float .f64 (FloatKind.f64.encode (d.integral .zero)))) w = _
      rw [hd, truncW, show double.read x = .number s m i from hd]; rfl
    rw [e]; rfl
  | infinity s =>
    refine ⟨truncW x, w, ?_, fun _ => ⟨rfl, rfl⟩, Below.refl _ _⟩
    have e : (Extern.MathFloor.toIntegral "math.archTrunc" .zero #[.float .f64 x]).run Tryz.prog w = .ok (.float .f64 (truncW x)) w := by
      change Sem.run Tryz.prog (match FloatKind.f64.decode x with | .nan s t => _ | d => pure (Value.float .f64 (FloatKind.f64.encode (d.integral .zero)))) w = _
      rw [hd, truncW, show double.read x = .infinity s from hd]; rfl
    rw [e]; rfl
  | nan s t =>
    have hn : NanW x := ⟨s, t, hd⟩
    by_cases hq : FloatKind.f64.format.quiet t = t
    · refine ⟨x, w, ?_, fun h => absurd hn h, Below.refl _ _⟩
      have e : (Extern.MathFloor.toIntegral "math.archTrunc" .zero #[.float .f64 x]).run Tryz.prog w = .ok (.float .f64 x) w := by
        change Sem.run Tryz.prog (match FloatKind.f64.decode x with | .nan s t => _ | d => pure (Value.float .f64 (FloatKind.f64.encode (d.integral .zero)))) w = _
        rw [hd]; dsimp only; rw [if_pos hq]; rfl
      rw [e]; rfl
    · have e : ∃ y w', (Extern.MathFloor.toIntegral "math.archTrunc" .zero #[.float .f64 x]).run Tryz.prog w = .ok (.float .f64 y) w' ∧ Below w.heap.size w w' := by
        change ∃ y w', Sem.run Tryz.prog (match FloatKind.f64.decode x with | .nan s t => _ | d => pure (Value.float .f64 (FloatKind.f64.encode (d.integral .zero)))) w = _ ∧ _
        rw [hd]; dsimp only; rw [if_neg hq]; simp only [Sem.run_bind, run_choose_drew]
        split
        · exact ⟨_, w, rfl, Below.refl _ _⟩
        · exact ⟨_, w.drew, rfl, (Below.refl _ _).drew⟩
      obtain ⟨y, w', e, hB⟩ := e
      exact ⟨y, w', by rw [e]; rfl, fun h => absurd hn h, hB⟩
set_option maxRecDepth 100000 in
theorem trunc_any (w : World) (x : Nat) : Calls Tryz.prog 117 #[.float .f64 x] w fun e w' => ∃ y, e = .returned (.float .f64 y) ∧ (¬ NanW x → y = truncW x ∧ w' = w) ∧ Below w.heap.size w w' := by
  obtain ⟨y, w1, hc, hy, hB⟩ := archTrunc_any w x; have HY := Lib.hid (And.intro hy hB); clear hy hB; obtain ⟨V, hV⟩ : ∃ V, V = Value.float .f64 y := ⟨_, rfl⟩; rw [← hV] at hc; have HV := Lib.hid hV; clear hV
  go_enter Tryz.func117, Tryz.ntmps117
  go_wp2_with (fail); go_ret
  exact ⟨y, by rw [HV.out]; rfl, HY.out.1, HY.out.2⟩
theorem fbits_run (w : World) (x : Nat) : (callFunc 139 #[.float .f64 x]).run Tryz.prog w = .ok (.value (.int .u64 (x : Int))) w := by
  rw [run_callFunc_extern (P := Tryz.prog) (e := Extern.MathFloatBits.float64bits) Tryz.func139 (by kernel_rfl) (by kernel_rfl) (by kernel_rfl) (by kernel_rfl)]
  rfl
theorem ffrom_run (w : World) (x : Nat) : (callFunc 138 #[.int .u64 (x : Int)]).run Tryz.prog w = .ok (.value (.float .f64 x)) w := by
  rw [run_callFunc_extern (P := Tryz.prog) (e := Extern.MathFloatBits.float64frombits) Tryz.func138 (by kernel_rfl) (by kernel_rfl) (by kernel_rfl) (by kernel_rfl)]
  rfl
set_option maxRecDepth 100000 in
theorem abs_any (w : World) (x : Nat) : Calls Tryz.prog 118 #[.float .f64 x] w fun e w' => e = .returned (.float .f64 (absW x)) ∧ w' = w := by
  have h1 := fun w => fbits_run w x; have h3 := fun w => ffrom_run w (absW x); have h2 : bits .andNot .u64 (x : Int) 9223372036854775808 = ((absW x : Nat) : Int) := bits_abs x; obtain ⟨y, hy⟩ : ∃ y, y = absW x := ⟨_, rfl⟩; rw [← hy] at h2 h3 ⊢; clear hy
  go_enter Tryz.func118, Tryz.ntmps118
  go_wp2_with (fail); go_ret; exact ⟨rfl, rfl⟩
def absB (x : Nat) : Bool := double.order (absW x) 4742290407621132288 == some .lt || double.order (absW x) 4742290407621132288 == some .eq
def eqB (x y : Nat) : Bool := double.order x y == some .eq
theorem run_absB (t : TypeId) (x : Nat) (w : World) : (binOp .leq t (.float .f64 (absW x)) (.float .f64 4742290407621132288)).run Tryz.prog w = .ok (.bool (absB x)) w := rfl
theorem run_eqB (t : TypeId) (x y : Nat) (w : World) : (binOp .eql t (.float .f64 x) (.float .f64 y)).run Tryz.prog w = .ok (.bool (eqB x y)) w := rfl
theorem wholeT_iff (x : Nat) : WholeF x ↔ eqB x (truncW x) = true ∧ absB x = true := by
  constructor
  · rintro ⟨n, h1, h2, hn⟩
    have g1 : absB x = true := by
      have := run_fleq (P := Tryz.prog) (t := 0) (w := default) (frep_abs hn) frep_hi; rw [run_absB] at this
      injection this with this
      injection this with this
      rw [this]
      exact decide_eq_true (by omega)
    obtain ⟨_, m, _, _, _, hiff, hun⟩ := trunc_whole (M := 1073741824) (by decide) frep_hi g1
    have := hun n hn; subst this; exact ⟨hiff.2 hn, g1⟩
  · rintro ⟨g0, g1⟩
    obtain ⟨_, m, _, h1, h2, hiff, _⟩ := trunc_whole (M := 1073741824) (by decide) frep_hi g1
    exact ⟨m, h1, h2, hiff.1 g0⟩
theorem whole_notNan {x : Nat} (h : WholeF x) : ¬ NanW x := by
  rintro ⟨s, t, hn⟩; obtain ⟨n, _, _, s', m, i, hr, _⟩ := h; rw [hn] at hr
  cases hr
set_option maxRecDepth 100000 in
theorem gwhole_yes (w : World) (x : Nat) (h : WholeF x) : Calls Tryz.prog 92 #[.float .f64 x] w fun e w' => e = .returned (.bool true) ∧ w' = w := by
  obtain ⟨g0, g1⟩ := (wholeT_iff x).1 h; have HN := Lib.hid (whole_notNan h); have HT := Lib.hid (trunc_any w x); have HA := Lib.hid (abs_any w x); have e0 := fun t w => run_eqB t x (truncW x) w; have e1 := fun t w => run_absB t x w; rw [g0] at e0; rw [g1] at e1; obtain ⟨V, hV⟩ : ∃ V, V = Value.float .f64 x := ⟨_, rfl⟩; obtain ⟨VT, hVT⟩ : ∃ V, V = Value.float .f64 (truncW x) := ⟨_, rfl⟩; obtain ⟨VA, hVA⟩ : ∃ V, V = Value.float .f64 (absW x) := ⟨_, rfl⟩
  have hgd : ∀ op t o1 o2 w, (eqGuard op t o1 o2 V VT).run Tryz.prog w = .ok () w := fun op t o1 o2 w => by rw [hV, hVT]; cases op <;> rfl
  rw [← hV] at HT HA e0 ⊢; rw [← hVT] at e0; rw [← hVA] at e1 HA; have HV := Lib.hid hVT; clear hV hVT hVA h g0 g1
  go_enter Tryz.func92, Tryz.ntmps92
  go_wp2_with (fail); refine HT.out.mono ?_; rintro e w1 ⟨y, rfl, hy, _⟩; obtain ⟨rfl, rfl⟩ := hy HN.out; rw [← HV.out]; clear hy; dsimp only; go_wp2_with (fail); refine HA.out.mono ?_; rintro e w1 ⟨rfl, rfl⟩; dsimp only; go_wp2_with (fail); go_ret; exact ⟨rfl, rfl⟩
def WholeZ (z : Value) (u v : Int) : Prop := CRep z u v ∧ InP u v
theorem WholeZ.parts {z : Value} {u v : Int} (h : WholeZ z u v) : ∃ p q, z = .complex .f64 p q ∧ WholeF p ∧ WholeF q := by
  obtain ⟨⟨p, q, rfl, h1, h2⟩, h3⟩ := h; unfold InP at h3
  exact ⟨p, q, rfl, ⟨u, by omega, by omega, h1⟩, ⟨v, by omega, by omega, h2⟩⟩
theorem right_yes (w : World) (z : Value) (u v : Int) (h : WholeZ z u v) : Calls Tryz.prog 60 #[z] w fun e w' => e = .returned (.bool true) ∧ w' = w := by
  obtain ⟨p, q, rfl, h1, h2⟩ := h.parts; have H1 := Lib.hid (gwhole_yes w p h1); have H2 := Lib.hid (gwhole_yes w q h2); clear h h1 h2
  go_enter Tryz.func60, Tryz.ntmps60
  go_wp2_with (fail); refine H1.out.mono ?_; rintro e w1 ⟨rfl, rfl⟩; dsimp only; go_wp2_with (fail); refine H2.out.mono ?_; rintro e w1 ⟨rfl, rfl⟩; dsimp only; go_wp2_with (fail); go_ret; exact ⟨rfl, rfl⟩
end Go.Proofs.YtjeeghafachebaaGreat
namespace Go.Proofs.YtjeeghafachebaaGreat
open Go Go.RowKit Ieee
def zeroZ : Value := .complex .f64 0 0
def numZ (a b : Int) : Value := .complex .f64 (fOf a) (fOf b)
def ofV (a b : Int) : Value := if InP a b then numZ a b else zeroZ
def ofE (a b : Int) : Int := if InP a b then 0 else 20
theorem numZ_whole {a b : Int} (h : InP a b) : WholeZ (numZ a b) a b := ⟨CRep.of a b h, h⟩
theorem zeroZ_rep : CRep zeroZ 0 0 := ⟨_, _, rfl, frep_0, frep_0⟩
theorem zeroZ_whole : WholeZ zeroZ 0 0 := ⟨zeroZ_rep, by unfold InP; omega⟩
set_option maxRecDepth 100000 in
theorem of_any (w : World) (a b : Int) : Calls Tryz.prog 162 #[.int .i64 a, .int .i64 b] w fun e w' => e = .returned (.tuple #[ofV a b, .int .i64 (ofE a b)]) ∧ w' = w := by
  by_cases hin : InP a b
  · rw [ofV, ofE, if_pos hin, if_pos hin, numZ]; obtain ⟨fa, hfa⟩ : ∃ V, V = Value.float .f64 (fOf a) := ⟨_, rfl⟩; obtain ⟨fb, hfb⟩ : ∃ V, V = Value.float .f64 (fOf b) := ⟨_, rfl⟩; obtain ⟨z2, hz2⟩ : ∃ V, V = Value.complex .f64 (fOf a) (fOf b) := ⟨_, rfl⟩
    have hca : ∀ w, (convert 3 91 (.int .i64 a)).run Tryz.prog w = .ok fa w := fun w => by rw [hfa]; exact run_conv_int_f64 w Tryz.underlying3 Tryz.underlying91
    have hcb : ∀ w, (convert 3 91 (.int .i64 b)).run Tryz.prog w = .ok fb w := fun w => by rw [hfb]; exact run_conv_int_f64 w Tryz.underlying3 Tryz.underlying91
    have hcc : ∀ ts t w, (Builtin.complex_ ts t #[fa, fb]).run Tryz.prog w = .ok z2 w := fun ts t w => by rw [hfa, hfb, hz2]; exact run_complex w ts t .f64 _ _
    rw [← hz2]; unfold InP at hin; obtain ⟨h1, h2, h3, h4⟩ := hin
    have g1 : ¬ a < -1073741824 := by omega
    have g2 : ¬ (1073741824 : Int) < a := by omega
    have g3 : ¬ b < -1073741824 := by omega
    have g4 : ¬ (1073741824 : Int) < b := by omega
    clear hfa hfb hz2 h1 h2 h3 h4
    go_enter Tryz.func162, Tryz.ntmps162
    go_wp2_with (fail); refine bodyPost_ret (results_tmp2 rfl _ _ _) rfl ?_; exact ⟨rfl, rfl⟩
  · rw [ofV, ofE, if_neg hin, if_neg hin, zeroZ]
    have hcase : a < -1073741824 ∨ (¬ a < -1073741824 ∧ (1073741824 : Int) < a) ∨ (¬ a < -1073741824 ∧ ¬ (1073741824 : Int) < a ∧ b < -1073741824) ∨ (¬ a < -1073741824 ∧ ¬ (1073741824 : Int) < a ∧ ¬ b < -1073741824 ∧ (1073741824 : Int) < b) := by
      unfold InP at hin; omega
    clear hin
    rcases hcase with g1 | ⟨g1, g2⟩ | ⟨g1, g2, g3⟩ | ⟨g1, g2, g3, g4⟩
    all_goals
      go_enter Tryz.func162, Tryz.ntmps162
      go_wp2_with (fail); refine bodyPost_ret (results_tmp2 rfl _ _ _) rfl ?_; exact ⟨rfl, rfl⟩
theorem frep_one : FRep 4607182418800017408 1 := ⟨false, 4503599627370496, -52, by kernel_rfl, by decide +kernel⟩
theorem frep_mone : FRep 13830554455654793216 (-1) := ⟨true, 4503599627370496, -52, by kernel_rfl, by decide +kernel⟩
theorem bits_and3 (q : Int) : bits .and .i64 q 3 = q % 4 := by
  have e1 : BitVec.ofInt 64 3 = BitVec.ofNat 64 (2 ^ 2 - 1) := rfl
  show IntKind.i64.wrap ((BitVec.ofInt 64 q &&& BitVec.ofInt 64 3).toNat : Int) = _
  rw [e1, BitVec.toNat_and, BitVec.toNat_ofNat, show (2 ^ 2 - 1) % 2 ^ 64 = 2 ^ 2 - 1 by decide, Nat.and_two_pow_sub_one_eq_mod, BitVec.toNat_ofInt]
  rw [IntWalk.i64_in _ (by omega)]
  omega
set_option maxRecDepth 100000 in
theorem turn_any (w : World) (q : Int) : Calls Tryz.prog 145 #[.int .i64 q] w fun e w' => ∃ z, e = .returned z ∧ CRep z (turnP q).1 (turnP q).2 ∧ w' = w := by
  have h := bits_and3 q; obtain ⟨r, hr⟩ : ∃ r, r = q % 4 := ⟨_, rfl⟩; rw [← hr] at h
  have hr4 : r = 0 ∨ r = 1 ∨ r = 2 ∨ r = 3 := by omega
  have HT := Lib.hid hr; clear hr
  rcases hr4 with rfl | rfl | rfl | rfl
  · go_enter Tryz.func145, Tryz.ntmps145
    go_wp2_with (fail); go_ret; refine ⟨_, rfl, ⟨_, _, rfl, ?_⟩, rfl⟩; rw [turnP, if_pos HT.out.symm]; exact ⟨frep_one, frep_0⟩
  · go_enter Tryz.func145, Tryz.ntmps145
    go_wp2_with (fail); go_ret; refine ⟨_, rfl, ⟨_, _, rfl, ?_⟩, rfl⟩; rw [turnP, ← HT.out]; exact ⟨frep_0, frep_one⟩
  · go_enter Tryz.func145, Tryz.ntmps145
    go_wp2_with (fail); go_ret; refine ⟨_, rfl, ⟨_, _, rfl, ?_⟩, rfl⟩; rw [turnP, ← HT.out]; exact ⟨frep_mone, frep_0⟩
  · go_enter Tryz.func145, Tryz.ntmps145
    go_wp2_with (fail); go_ret; refine ⟨_, rfl, ⟨_, _, rfl, ?_⟩, rfl⟩; rw [turnP, ← HT.out]; exact ⟨frep_0, frep_mone⟩
set_option maxRecDepth 100000 in
theorem parts_yes (w : World) (z : Value) (u v : Int) (h : WholeZ z u v) : Calls Tryz.prog 35 #[z] w fun e w' => e = .returned (.tuple #[.int .i64 u, .int .i64 v]) ∧ w' = w := by
  have HR := Lib.hid (right_yes w z u v h); obtain ⟨⟨p, q, rfl, h1, h2⟩, h3⟩ := h; unfold InP at h3
  have hcu : ∀ w, (convert 91 3 (.float .f64 p)).run Tryz.prog w = .ok (.int .i64 u) w := fun w => run_conv_f64_int w (by rw [Tryz.underlying91]; rfl) Tryz.underlying3 h1 (by simp [IntKind.min, IntKind.signed, IntKind.bits]; omega) (by simp [IntKind.max, IntKind.signed, IntKind.bits]; omega)
  have hcv : ∀ w, (convert 91 3 (.float .f64 q)).run Tryz.prog w = .ok (.int .i64 v) w := fun w => run_conv_f64_int w (by rw [Tryz.underlying91]; rfl) Tryz.underlying3 h2 (by simp [IntKind.min, IntKind.signed, IntKind.bits]; omega) (by simp [IntKind.max, IntKind.signed, IntKind.bits]; omega)
  clear h1 h2 h3
  go_enter Tryz.func35, Tryz.ntmps35
  go_wp2_with (fail); refine HR.out.mono ?_; rintro e w1 ⟨rfl, rfl⟩; dsimp only; go_wp2_with (fail); refine bodyPost_ret (results_tmp2 rfl _ _ _) rfl ?_; exact ⟨rfl, rfl⟩
theorem plain_any (w : World) (z : Value) (u v : Int) (h : CRep z u v) (hu : u.natAbs < 9223372036854775808) (hv : v.natAbs < 9223372036854775808) :
    Calls Tryz.prog 157 #[z] w fun e w' => e = .returned (.tuple #[ofV u v, .int .i64 (ofE u v)]) ∧ w' = w := by
  obtain ⟨p, q, rfl, h1, h2⟩ := h
  have hcu : ∀ w, (convert 91 3 (.float .f64 p)).run Tryz.prog w = .ok (.int .i64 u) w := fun w => run_conv_f64_int w (by rw [Tryz.underlying91]; rfl) Tryz.underlying3 h1 (by simp [IntKind.min, IntKind.signed, IntKind.bits]; omega) (by simp [IntKind.max, IntKind.signed, IntKind.bits]; omega)
  have hcv : ∀ w, (convert 91 3 (.float .f64 q)).run Tryz.prog w = .ok (.int .i64 v) w := fun w => run_conv_f64_int w (by rw [Tryz.underlying91]; rfl) Tryz.underlying3 h2 (by simp [IntKind.min, IntKind.signed, IntKind.bits]; omega) (by simp [IntKind.max, IntKind.signed, IntKind.bits]; omega)
  have HO := Lib.hid (of_any w u v); obtain ⟨V, hV⟩ : ∃ V, V = ofV u v := ⟨_, rfl⟩; obtain ⟨E, hE⟩ : ∃ V, V = ofE u v := ⟨_, rfl⟩; rw [← hV, ← hE] at HO ⊢; clear h1 h2 hu hv hV hE
  go_enter Tryz.func157, Tryz.ntmps157
  go_wp2_with (fail); refine HO.out.mono ?_; rintro e w1 ⟨rfl, rfl⟩; dsimp only; go_wp2_with (fail); refine bodyPost_ret (results_tmp2 rfl _ _ _) rfl ?_; exact ⟨rfl, rfl⟩
def OpEnd (w : World) (a b : Int) (e : Ending) (w' : World) : Prop := e = .returned (.tuple #[ofV a b, .int .i64 (ofE a b)]) ∧ w' = w
set_option maxRecDepth 100000 in
theorem add_yes (w : World) (x y : Value) (u v a b : Int) (hx : WholeZ x u v) (hy : WholeZ y a b) : Calls Tryz.prog 144 #[x, y] w (OpEnd w (u + a) (v + b)) := by
  have H1 := Lib.hid (fun w => right_yes w x u v hx); have H2 := Lib.hid (fun w => right_yes w y a b hy); obtain ⟨⟨p, q, hxe, h1, h2⟩, h3⟩ := hx; obtain ⟨⟨r, s, hye, k1, k2⟩, k3⟩ := hy; unfold InP at h3 k3
  obtain ⟨t1, t2, f1, f2, hop0⟩ := run_cadd (P := Tryz.prog) (t := 51) h1 k1 h2 k2 (by omega) (by omega)
  have hop : ∀ w, (binOp .add 51 x y).run Tryz.prog w = .ok (.complex .f64 t1 t2) w := fun w => by rw [hxe, hye]; exact hop0 w
  have HP := Lib.hid (fun w => plain_any w (.complex .f64 t1 t2) (u + a) (v + b) ⟨_, _, rfl, f1, f2⟩ (by omega) (by omega))
  obtain ⟨Z, hZ⟩ : ∃ Z, Z = Value.complex .f64 t1 t2 := ⟨_, rfl⟩; simp only [← hZ] at hop HP; unfold OpEnd; obtain ⟨V, hV⟩ : ∃ V, V = ofV (u + a) (v + b) := ⟨_, rfl⟩; obtain ⟨E, hE⟩ : ∃ V, V = ofE (u + a) (v + b) := ⟨_, rfl⟩; simp only [← hV, ← hE] at HP ⊢; clear hxe hye h1 h2 h3 k1 k2 k3 f1 f2 hop0 hZ hV hE
  go_enter Tryz.func144, Tryz.ntmps144
  go_wp2_with (fail); refine (H1.out _).mono ?_; rintro e w1 ⟨rfl, rfl⟩; dsimp only; go_wp2_with (fail); refine (H2.out _).mono ?_; rintro e w1 ⟨rfl, rfl⟩; dsimp only; go_wp2_with (fail); refine (HP.out _).mono ?_; rintro e w1 ⟨rfl, rfl⟩; dsimp only; go_wp2_with (fail); refine bodyPost_ret (results_tmp2 rfl _ _ _) rfl ?_; exact ⟨rfl, rfl⟩
end Go.Proofs.YtjeeghafachebaaGreat
