/-
  The contract of package gauss' Parse at a text of layer 4.
-/
import Derived.Test.YtoelfjhejfgkiaaDoorGaussLast
import Derived.Lib.AtoiErrMem
namespace Go.Proofs.YtoelfjhejfgkiaaDoor
open Go Go.RowKit

theorem run_mid_Sv (w : World) (m : List (BitVec 8)) (k n : Nat) (hk : k ≤ n) (h : n ≤ m.length) : (Instr.slice 9 (Sv m) (some (.int .i64 (k : Int))) (some (.int .i64 (n : Int))) none).run Tryd.prog w = .ok (Sv ((m.take n).drop k)) w := by
  have hs := strOf_size m
  have e : (strOf m).extract k n = strOf ((m.take n).drop k) := by rw [strOf_extract, List.drop_take]
  simp [Sv, Instr.slice, run_underlying Tryd.underlying9, Instr.sliceBounds, run_sliceBound, hs, h, hk, e]
theorem atoi_any (w : World) (l : List UInt8) (n : Int) (hl : l.length ≤ 18) (h : Lib.atoi l = some n) : Calls Tryd.prog 33 #[Sv (bvL l)] w (Below0 w (.tuple #[.int .i64 n, .nilIface])) := by
  rw [← Sv_bv]
  refine (Tryd.strconv_Atoi ⟨l.toArray⟩ n hl h w).mono ?_
  rintro e w' ⟨rfl, t, rfl⟩
  exact ⟨rfl, Lib.bytesWorld_below w _ t⟩
set_option maxRecDepth 100000 in
theorem parse_text (w : World) (u v : Int) (hin : InP u v) (hT : PowTab w) : Calls Tryd.prog 23 #[Sv (bvL (textB u v))] w (Below0 w (.tuple #[numZ u v, .bool true])) := by
  have HL := Lib.hid (last_text w u v hin)
  have hI : -1073741824 ≤ u ∧ u ≤ 1073741824 ∧ -1073741824 ≤ v ∧ v ≤ 1073741824 := hin
  have h1 := itoa_len u (by omega)
  have h2 := digits_pos v.natAbs
  have h3 := digits_len 9 v.natAbs (by omega)
  have h4 := text_len u v
  have HA := Lib.hid (fun w => atoi_any w (Lib.itoa u) u (by omega) (atoi_itoa u))
  have HB := Lib.hid (fun w => atoi_any w (signB v :: Lib.decDigits v.natAbs) v (by simp; omega) (atoi_sign v))
  have HO : Hid (∀ w, Calls Tryd.prog 9 #[.int .i64 u, .int .i64 v] w fun e w' => e = .returned (.tuple #[numZ u v, .int .i64 0]) ∧ w' = w) := by
    refine Lib.hid (fun w => ?_)
    have := of_any w u v
    rw [ofV, ofE, if_pos hin, if_pos hin] at this
    exact this
  have HX : Hid (∀ w1, Below w.heap.size w w1 → Calls Tryd.prog 17 #[numZ u v] w1 (Below0 w1 (Sv (bvL (textB u v))))) := Lib.hid (fun w1 hB => text_yes w1 _ u v (numZ_whole hin) (hT.below hB))
  obtain ⟨k, hk⟩ : ∃ k, k = (Lib.itoa u).length := ⟨_, rfl⟩
  obtain ⟨L, hL⟩ : ∃ L, L = (textB u v).length := ⟨_, rfl⟩
  obtain ⟨V, hV⟩ : ∃ V, V = Sv (bvL (textB u v)) := ⟨_, rfl⟩
  obtain ⟨V1, hV1⟩ : ∃ V, V = Sv (bvL (Lib.itoa u)) := ⟨_, rfl⟩
  obtain ⟨V2, hV2⟩ : ∃ V, V = Sv (bvL (signB v :: Lib.decDigits v.natAbs)) := ⟨_, rfl⟩
  obtain ⟨Z, hZ⟩ : ∃ Z, Z = numZ u v := ⟨_, rfl⟩
  obtain ⟨K, hK⟩ : ∃ K : Int, K = (k : Int) := ⟨_, rfl⟩
  obtain ⟨N, hN⟩ : ∃ N : Int, N = (L : Int) := ⟨_, rfl⟩
  obtain ⟨M, hM⟩ : ∃ M : Int, M = ((L - 1 : Nat) : Int) := ⟨_, rfl⟩
  have hlen : ∀ ty w, (Builtin.len_ #[9] ty #[V]).run Tryd.prog w = .ok (.int .i64 N) w := fun ty w => by rw [hV, run_len_Sv, bvL_length, hN, hL]
  have s1 : ∀ w, (Instr.slice 9 V none (some (.int .i64 K)) none).run Tryd.prog w = .ok V1 w := fun w => by rw [hV, hK, run_take_Sv w _ k (by rw [bvL_length]; omega), bvL_take, hk, text_first, hV1]
  have s2 : ∀ w, (Instr.slice 9 V (some (.int .i64 K)) (some (.int .i64 M)) none).run Tryd.prog w = .ok V2 w := fun w => by rw [hV, hK, hM, run_mid_Sv w _ k (L - 1) (by omega) (by rw [bvL_length]; omega), bvL_take, bvL_drop, hk, hL, text_second, hV2]
  have hne : ∀ w, (binOp .neq 9 V V).run Tryd.prog w = .ok (.bool false) w := fun w => by rw [hV, run_neq_Sv]; simp
  have hgd : ∀ op t o1 o2 w, (eqGuard op t o1 o2 V V).run Tryd.prog w = .ok () w := fun op t o1 o2 w => by rw [hV]; exact run_eqGuard_Sv w op t o1 o2 _ _
  have d1 : ¬ K < 0 := by omega
  have d2 : N - 1 = M := by omega
  have d3 : wrap64 M = M := by unfold wrap64; omega
  rw [← hk, ← hK, ← hV] at HL
  rw [← hV1] at HA
  rw [← hV2] at HB
  rw [← hZ, ← hV] at HX
  rw [← hZ] at HO
  rw [← hV, ← hZ]
  clear hin hT hI h1 h2 h3 h4 hk hL hV hV1 hV2 hZ hK hN hM
  go_enter Tryd.func23, Tryd.ntmps23
  go_wp2_with (fail)
  refine HL.out.mono ?_
  rintro e w1 ⟨rfl, hB⟩
  have B1 := Lib.hid hB
  clear hB
  dsimp only
  go_wp2_with (fail)
  refine (HA.out _).mono ?_
  rintro e w2 ⟨rfl, hB⟩
  have B2 := Lib.hid hB
  clear hB
  dsimp only
  go_wp2_with (fail)
  refine (HB.out _).mono ?_
  rintro e w3 ⟨rfl, hB⟩
  have B3 : Hid (Below w.heap.size w w3) := Lib.hid ((B1.out.trans (B2.out.mono B1.out.size)).trans (hB.mono (Nat.le_trans B1.out.size B2.out.size)))
  clear hB
  dsimp only
  go_wp2_with (fail)
  refine (HO.out _).mono ?_
  rintro e w4 ⟨rfl, hw4⟩
  subst w4
  dsimp only
  go_wp2_with (fail)
  refine (HX.out _ B3.out).mono ?_
  rintro e w4 ⟨rfl, hB⟩
  have B4 := Lib.hid hB
  clear hB
  dsimp only
  go_wp2_with (fail)
  refine bodyPost_ret (results_tmp2 rfl _ _ _) rfl ?_
  exact ⟨rfl, B3.out.trans (B4.out.mono B3.out.size)⟩
end Go.Proofs.YtoelfjhejfgkiaaDoor
