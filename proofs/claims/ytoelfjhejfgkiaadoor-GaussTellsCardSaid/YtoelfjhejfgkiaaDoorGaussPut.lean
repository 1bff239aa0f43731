/-
  The contracts of package gauss' Side, Put, Get, Text.
-/
import Derived.Test.YtoelfjhejfgkiaaDoorGaussMore
namespace Go.Proofs.YtoelfjhejfgkiaaDoor
open Go Go.RowKit Ieee

theorem side_yes (w : World) (z : Value) (u v : Int) (h : WholeZ z u v) : Calls Tryd.prog 16 #[z] w (Below0 w (.int .i64 (sideP u v))) :=
  side_walk w z u v _ h.2 ((parts_yes w z u v h).mono (by rintro e w' ⟨rfl, rfl⟩; exact ⟨rfl, Below.refl _ _⟩)) fun _ hB => ⟨rfl, hB⟩
theorem side_no (w : World) (z : Value) (h : NotZ z) : Calls Tryd.prog 16 #[z] w (Below0 w (.int .i64 (-1))) :=
  side_walk w z 0 0 _ (by unfold InP; omega) (parts_no w z h) fun _ hB => ⟨rfl, hB⟩
set_option maxRecDepth 100000 in
theorem put_yes (w : World) (X : Nat → Prop) (b : Nat) (l : List (BitVec 8)) (z : Value) (u v : Int) (h : WholeZ z u v) (hP : PenAt X w b l) (hX : ∀ k, X k → k < w.heap.size) (hl : l.length ≤ 1073740000) :
    Calls Tryd.prog 22 #[.pointer (some ⟨b, 0, none⟩), z] w (PenEnd X b w ((l ++ signedL u) ++ signedL v) (.bool true)) := by
  have HR := Lib.hid (right_yes w z u v h)
  have HP := Lib.hid (parts_yes w z u v h)
  obtain ⟨_, h3⟩ := h
  unfold InP at h3
  have HS := Lib.hid (psigned_any w X b u l (by omega) (by omega) hP hX (by omega))
  have HT : Hid (∀ w1, PenAt X w1 b (l ++ signedL u) → PKept X b w w1 → Calls Tryd.prog 31 #[.pointer (some ⟨b, 0, none⟩), .int .i64 v] w1 (PenEnd X b w1 ((l ++ signedL u) ++ signedL v) (.tuple #[]))) := by
    refine Lib.hid (fun w1 h1 h2 => psigned_any w1 X b v _ (by omega) (by omega) h1 (fun k hk => Nat.lt_of_lt_of_le (hX k hk) h2.size) ?_)
    have : (signedL u).length ≤ 10 := wordL_length _
    rw [List.length_append]
    omega
  clear hP hX hl h3
  go_enter Tryd.func22, Tryd.ntmps22
  go_wp2_with (fail)
  refine HR.out.mono ?_
  rintro e w1 ⟨rfl, rfl⟩
  dsimp only
  go_wp2_with (fail)
  refine HP.out.mono ?_
  rintro e w1 ⟨rfl, rfl⟩
  dsimp only
  go_wp2_with (fail)
  refine HS.out.mono ?_
  rintro e w1 ⟨rfl, h1, h2⟩
  have H1 := Lib.hid (And.intro h1 h2)
  clear h1 h2
  dsimp only
  go_wp2_with (fail)
  refine (HT.out w1 H1.out.1 H1.out.2).mono ?_
  rintro e w2 ⟨rfl, h1, h2⟩
  have H2 := Lib.hid (And.intro h1 h2)
  clear h1 h2
  dsimp only
  go_wp2_with (fail)
  go_ret
  exact ⟨rfl, H2.out.1, H1.out.2.trans H2.out.2⟩
set_option maxRecDepth 100000 in
theorem get_yes (w : World) (base b : Nat) (t t1 t2 : TapeL) (u v : Int) (h : RdAt base w b t) (h1 : t.signed = (u, t1)) (h2 : t1.signed = (v, t2)) (he : t2.e = 0) (hin : InP u v) :
    Calls Tryd.prog 24 #[.pointer (some ⟨b, 0, none⟩)] w (RdEnd base w b t2 (numZ u v)) := by
  have HS : Hid (Calls Tryd.prog 34 #[.pointer (some ⟨b, 0, none⟩)] w (RdEnd base w b t1 (.int .i64 u))) := by
    have := rsigned_any w base b t h
    rw [h1] at this
    exact Lib.hid this
  have HT : Hid (∀ w1, RdAt base w1 b t1 → Calls Tryd.prog 34 #[.pointer (some ⟨b, 0, none⟩)] w1 (RdEnd base w1 b t2 (.int .i64 v))) := by
    refine Lib.hid (fun w1 hr => ?_)
    have := rsigned_any w1 base b t1 hr
    rw [h2] at this
    exact this
  have HO : Hid (∀ w, Calls Tryd.prog 9 #[.int .i64 u, .int .i64 v] w fun e w' => e = .returned (.tuple #[numZ u v, .int .i64 0]) ∧ w' = w) := by
    refine Lib.hid (fun w => ?_)
    have := of_any w u v
    rw [ofV, ofE, if_pos hin, if_pos hin] at this
    exact this
  have HE : Hid (∀ w1, RdAt base w1 b t2 → Calls Tryd.prog 36 #[.pointer (some ⟨b, 0, none⟩)] w1 fun e w' => e = .returned (.int .i64 0) ∧ w' = w1) := by
    refine Lib.hid (fun w1 hr => ?_)
    have := rerr_any w1 base b t2 hr
    rw [he] at this
    exact this
  obtain ⟨Z, hZ⟩ : ∃ Z, Z = numZ u v := ⟨_, rfl⟩
  rw [← hZ] at HO ⊢
  clear h h1 h2 he hin hZ
  go_enter Tryd.func24, Tryd.ntmps24
  go_wp2_with (fail)
  refine HS.out.mono ?_
  rintro e w1 ⟨rfl, h1, h2⟩
  have H1 := Lib.hid (And.intro h1 h2)
  clear h1 h2
  dsimp only
  go_wp2_with (fail)
  refine (HT.out w1 H1.out.1).mono ?_
  rintro e w2 ⟨rfl, h1, h2⟩
  have H2 := Lib.hid (And.intro h1 h2)
  clear h1 h2
  dsimp only
  go_wp2_with (fail)
  refine (HO.out w2).mono ?_
  rintro e w3 ⟨rfl, rfl⟩
  dsimp only
  go_wp2_with (fail)
  refine (HE.out _ H2.out.1).mono ?_
  rintro e w4 ⟨rfl, rfl⟩
  dsimp only
  go_wp2_with (fail)
  go_ret
  exact ⟨rfl, H2.out.1, grown_trans H1.out.2 H2.out.2⟩
theorem text_no (w : World) (z : Value) (h : NotZ z) : Calls Tryd.prog 17 #[z] w (Below0 w (Sv [])) := by
  obtain ⟨p, q, rfl, h⟩ := h
  have HR := Lib.hid (right_no w p q h)
  clear h
  go_enter Tryd.func17, Tryd.ntmps17
  go_wp2_with (fail)
  refine HR.out.mono ?_
  rintro e w1 ⟨rfl, hB⟩
  have HB := Lib.hid hB
  clear hB
  dsimp only
  go_wp2_with (fail)
  go_ret
  exact ⟨rfl, HB.out⟩
theorem itoa_abs (v : Int) : Lib.itoa (v.natAbs : Int) = Lib.decDigits v.natAbs := Lib.itoa_nonneg _
set_option maxRecDepth 100000 in
theorem text_yes (w : World) (z : Value) (u v : Int) (h : WholeZ z u v) (hT : PowTab w) : Calls Tryd.prog 17 #[z] w (Below0 w (Sv (bvL (textB u v)))) := by
  have HR := Lib.hid (right_yes w z u v h)
  have HP := Lib.hid (parts_yes w z u v h)
  obtain ⟨_, h3⟩ := h
  unfold InP at h3
  have hlu := itoa_len u (by omega)
  have hlv : (Lib.decDigits v.natAbs).length ≤ 10 := digits_len 9 _ (by omega)
  have HI := Lib.hid (itoa_any w u (by omega) (by omega) hT)
  have HJ : Hid (∀ w1, Below w.heap.size w w1 → Calls Tryd.prog 30 #[.int .i64 (v.natAbs : Int)] w1 (Below0 w1 (Sv (bvL (Lib.decDigits v.natAbs))))) := by
    refine Lib.hid (fun w1 hB => ?_)
    have := itoa_any w1 (v.natAbs : Int) (by omega) (by omega) (hT.below hB)
    rw [itoaL_bv, itoa_abs] at this
    exact this
  rw [itoaL_bv] at HI
  obtain ⟨S1, hS1⟩ : ∃ S, S = Sv (bvL (Lib.itoa u)) := ⟨_, rfl⟩
  obtain ⟨S2, hS2⟩ : ∃ S, S = Sv (bvL (Lib.itoa u ++ [signB v])) := ⟨_, rfl⟩
  obtain ⟨S3, hS3⟩ : ∃ S, S = Sv (bvL (Lib.decDigits v.natAbs)) := ⟨_, rfl⟩
  obtain ⟨S4, hS4⟩ : ∃ S, S = Sv (bvL ((Lib.itoa u ++ [signB v]) ++ Lib.decDigits v.natAbs)) := ⟨_, rfl⟩
  obtain ⟨S5, hS5⟩ : ∃ S, S = Sv (bvL (textB u v)) := ⟨_, rfl⟩
  have a1 : ∀ w, (binOp .add 9 S1 (.string ⟨#[signB v]⟩)).run Tryd.prog w = .ok S2 w := fun w => by
    rw [hS1, hS2, show (Value.string ⟨#[signB v]⟩) = Sv (bvL [signB v]) from Sv_bv [signB v], bvL_append]
    exact run_add_Sv w _ _ (by rw [bvL_length, bvL_length]; simp; omega)
  have a2 : ∀ w, (binOp .add 9 S2 S3).run Tryd.prog w = .ok S4 w := fun w => by
    rw [hS2, hS3, hS4, bvL_append (Lib.itoa u ++ [signB v])]
    exact run_add_Sv w _ _ (by rw [bvL_length, bvL_length]; simp; omega)
  have a3 : ∀ w, (binOp .add 9 S4 (.string ⟨#[105]⟩)).run Tryd.prog w = .ok S5 w := fun w => by
    have e : textB u v = ((Lib.itoa u ++ [signB v]) ++ Lib.decDigits v.natAbs) ++ [105] := by simp [textB]
    rw [hS4, hS5, show (Value.string ⟨#[105]⟩) = Sv (bvL [105]) from Sv_bv [105], e, bvL_append ((Lib.itoa u ++ [signB v]) ++ Lib.decDigits v.natAbs)]
    exact run_add_Sv w _ _ (by rw [bvL_length, bvL_length]; simp; omega)
  rw [← hS1] at HI
  rw [← hS3] at HJ
  rw [← hS5]
  obtain ⟨y, hy⟩ : ∃ y : Int, y = (v.natAbs : Int) := ⟨_, rfl⟩
  rw [← hy] at HJ
  have hcase : (v < 0 ∧ IntKind.i64.wrap (-v) = y ∧ signB v = 45) ∨ (¬ v < 0 ∧ v = y ∧ signB v = 43) := by
    by_cases hv : v < 0
    · exact .inl ⟨hv, by rw [IntWalk.i64_in _ (by omega)]; omega, if_pos hv⟩
    · exact .inr ⟨hv, by omega, if_neg hv⟩
  clear h3 hlu hlv hT hS1 hS2 hS3 hS4 hS5 hy
  rcases hcase with ⟨c1, c2, c3⟩ | ⟨c1, c2, c3⟩
  · rw [c3] at a1
    clear c3
    go_enter Tryd.func17, Tryd.ntmps17
    go_wp2_with (fail)
    refine HR.out.mono ?_
    rintro e w1 ⟨rfl, rfl⟩
    dsimp only
    go_wp2_with (fail)
    refine HP.out.mono ?_
    rintro e w1 ⟨rfl, rfl⟩
    dsimp only
    go_wp2_with (fail)
    refine HI.out.mono ?_
    rintro e w1 ⟨rfl, hB⟩
    have HB := Lib.hid hB
    clear hB
    dsimp only
    go_wp2_with (fail)
    refine (HJ.out _ HB.out).mono ?_
    rintro e w2 ⟨rfl, hB⟩
    have HB2 := Lib.hid hB
    clear hB
    dsimp only
    go_wp2_with (fail)
    go_ret
    exact ⟨rfl, HB.out.trans (HB2.out.mono HB.out.size)⟩
  · rw [c3] at a1
    rw [← c2] at HJ
    clear c3 c2
    go_enter Tryd.func17, Tryd.ntmps17
    go_wp2_with (fail)
    refine HR.out.mono ?_
    rintro e w1 ⟨rfl, rfl⟩
    dsimp only
    go_wp2_with (fail)
    refine HP.out.mono ?_
    rintro e w1 ⟨rfl, rfl⟩
    dsimp only
    go_wp2_with (fail)
    refine HI.out.mono ?_
    rintro e w1 ⟨rfl, hB⟩
    have HB := Lib.hid hB
    clear hB
    dsimp only
    go_wp2_with (fail)
    refine (HJ.out _ HB.out).mono ?_
    rintro e w2 ⟨rfl, hB⟩
    have HB2 := Lib.hid hB
    clear hB
    dsimp only
    go_wp2_with (fail)
    go_ret
    exact ⟨rfl, HB.out.trans (HB2.out.mono HB.out.size)⟩
end Go.Proofs.YtoelfjhejfgkiaaDoor
