/-
  Part 35 of 42 of what the proof leans on.
-/
import Derived.Test.YtdmnhgbdeifpbaaDoorO33
import Derived.Test.YtdmnhgbdeifpbaaDoorO34
import Derived.Test.YtdmnhgbdeifpbaaDoorO2
import Derived.Test.YtdmnhgbdeifpbaaDoorO13
import Derived.Test.YtdmnhgbdeifpbaaDoorO15
import Derived.Test.YtdmnhgbdeifpbaaDoorO17
import Derived.Laws.IdiomStrings
namespace Go.Proofs.YtdmnhgbdeifpbaaDoor
open Go.RowKit
set_option maxRecDepth 100000 in
set_option maxHeartbeats 8000000 in
theorem mixed_any (w : World) (m : List (BitVec 8)) (hm : m.length ≤ 100000) (gk ck gs cs : Nat) (hk : Row8 w gk 64 kAt) (hs : Row8 w gs 8 firstSt.at) :
    Calls Tryd.prog 76 #[Sv m, .slice (some ⟨gk, 0, none⟩) 64 ck, .slice (some ⟨gs, 0, none⟩) 8 cs] w (Below0 w (.agg (ShaA m))) := by
  obtain ⟨Z, hZ⟩ : ∃ Z : Array Value, Z = Array.replicate 32 (.int .u8 0) := ⟨_, rfl⟩
  have hz2 : ∀ w, (zeroValue 23).run Tryd.prog w = .ok (.agg Z) w := by rw [hZ]; exact (zero_of_info (n := 32) (by kernel_rfl)).1
  obtain ⟨n, hn⟩ : ∃ n, n = m.length := ⟨_, rfl⟩; rw [← hn] at hm
  have len0 : ∀ w ty, (Builtin.len_ #[9] ty #[Sv m]).run Tryd.prog w = .ok (.int .i64 (n : Int)) w := fun w ty => by rw [run_len_Sv w ty m, hn]
  have add0 : ∀ w, (binOp .add 9 (Sv m) (.string ⟨#[128]⟩)).run Tryd.prog w = .ok (Sv (m ++ [0x80])) w := fun w => run_add_S80 w m (by omega)
  have w0 : IntKind.u64.wrap (n : Int) = n := u64_in (by omega)
  have w1 : (n : Int) * 8 = ((8 * n : Nat) : Int) := by omega
  have w2 : IntKind.u64.wrap ((8 * n : Nat) : Int) = ((8 * n : Nat) : Int) := u64_in (by omega)
  have HM := Lib.hid (And.intro hk (And.intro hs (And.intro hn hZ))); clear hk hs hn hZ
  go_enter Tryd.func76, Tryd.ntmps76
  go_wp2_with (fail); obtain ⟨W0, hW0⟩ : ∃ W0, W0 = w.alloc (.cells Z 23) := ⟨_, rfl⟩; rw [← hW0]
  have hB0 : Below w.heap.size w W0 := by rw [hW0]; exact (Below.refl _ w).alloc (Nat.le_refl _) _
  have hR0 : W0.heap[w.heap.size]? = some (.cells Z 23 (0, 0)) := by rw [hW0]; exact heap_alloc_new w _
  have HW := Lib.hid (And.intro hB0 hR0); clear hB0 hR0 hW0 w0 w1 w2 len0 add0
  go_loopw [8] (fun v wr => MixA n m v W0 wr) (fun v _ => n + 65 - szOf v)
  case atStart => exact ⟨0, (gap_le n).2, rfl, rfl⟩
  case round =>
    obtain ⟨z, hz, rfl, rfl⟩ := hrel; obtain ⟨M1, hM1⟩ : ∃ M1, M1 = m ++ 0x80 :: List.replicate z 0 := ⟨_, rfl⟩; obtain ⟨l, hl⟩ : ∃ l, l = n + 1 + z := ⟨_, rfl⟩
    have hlM : M1.length = l := by rw [hM1, hl, HM.out.2.2.1]; simp; omega
    have hgap := gap_le n
    have lenM : ∀ w ty, (Builtin.len_ #[9] ty #[Sv M1]).run Tryd.prog w = .ok (.int .i64 (l : Int)) w := fun w ty => by rw [run_len_Sv w ty M1, hlM]
    have addM : ∀ w, (binOp .add 9 (Sv M1) (.string ⟨#[0]⟩)).run Tryd.prog w = .ok (Sv (M1 ++ [0])) w := fun w => run_add_S0 w M1 (by omega)
    obtain ⟨r, hr⟩ : ∃ r, r = l % 64 := ⟨_, rfl⟩
    have r1 : (l : Int) % 64 = (r : Int) := by omega
    have r2 : Int.tmod (l : Int) 64 = (r : Int) := by rw [Int.tmod_eq_emod_of_nonneg (by omega), r1]
    rw [← hM1]; have HA := Lib.hid (And.intro hz (And.intro hM1 (And.intro hl (And.intro hr (And.intro hgap hlM)))))
    have hg2 : r = 56 ↔ z + 1 = gap n := by unfold gap at *; omega
    clear hz hM1 hl hr hlM hgap
    by_cases h56 : r = 56
    · subst h56; have HG := Lib.hid (hg2.mp rfl); clear hg2; go_wp2_with (fail)
      go_loopw [7, 9, 10] (MixB w Z n) (fun _ _ i _ => 8 - (intOf i).toNat)
      case atStart => exact ⟨0, by omega, rfl, by rw [Nat.pow_zero, Nat.div_one]; go_num, rfl, HW.out.1, HW.out.2⟩
      case round =>
        obtain ⟨t, ht, rfl, rfl, rfl, hB, hZ0⟩ := hrel; obtain ⟨X, hX⟩ : ∃ X, X = 8 * n / 256 ^ t := ⟨_, rfl⟩
        have hXl : X ≤ 8 * n := by rw [hX]; exact Nat.div_le_self _ _
        have hXs : 8 * n / 256 ^ (t + 1) = X / 256 := by rw [hX, Nat.pow_succ, Nat.div_div_eq_div_mul]
        rw [← hX]
        by_cases hlt : t < 8
        · obtain ⟨b, hb⟩ : ∃ b, b = X % 256 := ⟨_, rfl⟩; obtain ⟨X', hX'⟩ : ∃ X', X' = X / 256 := ⟨_, rfl⟩
          have e1 : (X : Int) % 256 = (b : Int) := by omega
          have e2 : (X : Int) / 256 = (X' : Int) := by omega
          have e3 : IntKind.u64.wrap (X' : Int) = X' := u64_in (by omega)
          obtain ⟨y, hy⟩ : ∃ y, y = BitVec.ofNat 8 b := ⟨_, rfl⟩
          have cv : ∀ w, (convert 95 5 (.int .u64 (b : Int))).run Tryd.prog w = .ok (B y) w := fun w => by rw [hy]; exact run_conv_u64_B w b (by omega)
          have hyl : lenTail n (t + 1) = y :: lenTail n t := by rw [lenTail_succ n t hlt, lenByte_is n t hlt, ← hX, ← hb, hy]
          have ll : (lenTail n t).length ≤ 8 := by simp [lenTail]
          have add1 : ∀ w, (binOp .add 9 (Sv [y]) (Sv (lenTail n t))).run Tryd.prog w = .ok (Sv (lenTail n (t + 1))) w := fun w => by rw [hyl]; exact run_add_Sv w [y] _ (by simp only [List.length_singleton]; omega)
          have lt8 : (t : Int) < 8 := by omega
          have HL := Lib.hid (And.intro hB (And.intro hZ0 (And.intro hXs hX'))); clear hB hZ0 hX hXl hXs hb hX' hy hyl ll hlt
          go_upto_region 9 with (fail)
          refine wp_region_lit ?_
          iterate 9 go_step
          refine run_slice1_B rfl (.tmp 48) rfl y rfl ?_
          have hcv := run_conv_one (wr.alloc (.cells #[B y] 5)) wr.heap.size 1 y (by go_simp)
          obtain ⟨W1, hW1⟩ : ∃ W1, W1 = wr.alloc (.cells #[B y] 5) := ⟨_, rfl⟩
          have HL2 : Hid (Below w.heap.size w W1 ∧ W1.heap[w.heap.size]? = some (.cells Z 23 (0, 0))) := by
            rw [hW1]
            exact ⟨HL.out.1.alloc HL.out.1.size _, by rw [Below.heap_alloc _ _ _ (Array.getElem?_eq_some_iff.mp HL.out.2.1).1]; exact HL.out.2.1⟩
          rw [← hW1] at hcv ⊢; clear hW1; go_wp2_with (fail)
          refine ⟨⟨t + 1, by omega, rfl, ?_, rfl, HL2.out.1, HL2.out.2⟩, by simp [intOf]; omega⟩
          rw [HL.out.2.2.1, ← HL.out.2.2.2]
        · obtain rfl : t = 8 := by omega
          have hlb : lenTail n 8 = (List.range 8).map (lenByte n) := rfl; have hll : (lenTail n 8).length = 8 := rfl; obtain ⟨Mp, hMp⟩ : ∃ Mp, Mp = m ++ pad n := ⟨_, rfl⟩
          have hMe : M1 ++ lenTail n 8 = Mp := by
            rw [hlb, HA.out.2.1, hMp, pad, show gap n - 1 = z by have := HG.out; omega, List.append_assoc]
            rfl
          have addp : ∀ w, (binOp .add 9 (Sv M1) (Sv (lenTail n 8))).run Tryd.prog w = .ok (Sv Mp) w := fun w => by
            rw [← hMe]
            exact run_add_Sv w M1 _ (by have h1 := HA.out.2.2.2.2.2; have h2 := HA.out.2.2.1; have h3 := HG.out; have h4 := HA.out.2.2.2.2.1; omega)
          have hMl : Mp.length = l + 8 := by rw [← hMe, List.length_append, HA.out.2.2.2.2.2, hll]
          have hl64 : (l + 8) % 64 = 0 := by have := HA.out.2.2.2.1; omega
          have HL := Lib.hid (And.intro hB (And.intro hZ0 (And.intro hMp (And.intro hMl hl64)))); clear hB hZ0 hX hXl hXs hMp hMe hMl hl64 hlb hll hlt HG HA
          go_upto_region 12 with (fail)
          refine wp_region_lit ?_
          iterate 6 go_step
          obtain ⟨hB, hZ0, hMp, hMl, hl64⟩ := HL.out; have hw0 : w.heap.size < wr.heap.size := (Array.getElem?_eq_some_iff.mp hZ0).1
          refine wpList_copy8 rfl (.tmp 58) (.tmp 59) rfl wr.heap.size rfl (heap_alloc_new wr _) gs cs rfl firstSt (HM.out.2.1.below (hB.alloc hB.size _) (HM.out.2.1.lt (by omega))) ?_
          intro hg hc W1 k1 k2; have hg0 := (k1.lt (k := hg) rfl).1; have hB1 : Below w.heap.size w W1 := (hB.alloc hB.size _).trans (k2.mono (Nat.le_of_lt hw0))
          have hZ1 : W1.heap[w.heap.size]? = some (.cells Z 23 (0, 0)) := by
            rw [k2.block _ hw0, Below.heap_alloc _ _ _ hw0]; exact hZ0
          obtain ⟨cnt, hcnt⟩ : ∃ cnt, l + 8 = 64 * cnt := ⟨(l + 8) / 64, by omega⟩
          have hlb : l + 8 ≤ 100200 := by
            rw [← hMl, hMp, List.length_append, pad_length, ← HM.out.2.2.1]; have := gap_le n; omega
          have lenp : ∀ w ty, (Builtin.len_ #[9] ty #[Sv Mp]).run Tryd.prog w = .ok (.int .i64 ((64 * cnt : Nat) : Int)) w := fun w ty => by rw [run_len_Sv w ty Mp, hMl, hcnt]
          have HL2 := Lib.hid (And.intro k1 (And.intro hB1 hZ1)); have HMp := Lib.hid (And.intro hMp (And.intro hMl (And.intro hcnt (And.intro hw0 (And.intro hg0 hlb))))); obtain ⟨g0, hg00⟩ : ∃ g0, g0 = wr.heap.size := ⟨_, rfl⟩; rw [← hg00] at HL2 HMp
          have hlb2 : 64 * cnt ≤ 100200 := by omega
          clear hB hZ0 hMp hMl hl64 hcnt hw0 k1 k2 hg0 hB1 hZ1 hlb hg00 HL HW; obtain ⟨N, hN⟩ : ∃ N, N = 64 * cnt := ⟨_, rfl⟩; rw [← hN] at lenp hlb2; have HN := Lib.hid hN; clear hN; go_wp2_with (fail)
          go_loopw [12] (MixC w Z g0 hg hc Mp cnt) (fun a _ => N - (intOf a).toNat)
          case atStart => exact ⟨0, 0, by omega, rfl, rfl, HL2.out.1, HL2.out.2.1, HL2.out.2.2⟩
          case round =>
            obtain ⟨j, A, hj, hA, rfl, hown, hB, hZ0⟩ := hrel
            by_cases hjc : j < cnt
            · have hAN : A + 64 ≤ N := by have := HN.out; omega
              obtain ⟨f, hf⟩ : ∃ f : Nat → BitVec 8, f = fun k => gl Mp (64 * j + k) := ⟨_, rfl⟩; obtain ⟨st, hst⟩ : ∃ st, st = chain (gl Mp) j := ⟨_, rfl⟩
              have hst1 : chain (gl Mp) (j + 1) = compress f st := by rw [chain, hf, hst]
              have hfA : ∀ k < 64, ∀ w, (Instr.index 9 (Sv Mp) (.int .i64 ((A + k : Nat) : Int))).run Tryd.prog w = .ok (B (f k)) w := fun k hk w => by
                rw [run_index_Sv w Mp (A + k) (by rw [HMp.out.2.1, HMp.out.2.2.1]; omega), hf, hA]
              have ltN : (A : Int) < (N : Int) := by omega
              have wA : IntKind.i64.wrap ((A : Int) + 64) = (A : Int) + 64 := IntWalk.i64_in _ (by omega)
              rw [← hst] at hown; obtain ⟨wc, rfl⟩ : ∃ x, x = wr := ⟨wr, rfl⟩; have HR := Lib.hid (And.intro hown (And.intro hB (And.intro hZ0 (And.intro hst1 (And.intro hfA hA))))); clear hown hB hZ0 hst1 hfA hA hst hf; go_wp2_with (fail)
              go_loopw [13, 14] (MixD wc f) (fun _ t _ => 64 - (intOf t).toNat)
              case atStart => exact ⟨0, by omega, rfl, Own.nil _ _ _, Below.refl _ _⟩
              case round =>
                as_aux_lemma =>
                  obtain ⟨t, ht, rfl, hown2, hBl⟩ := hrel
                  by_cases hlt : t < 64
                  · by_cases h16 : t < 16
                    · have HS := Lib.hid (And.intro hown2 (And.intro hBl hlt)); have cv : ∀ w (x : BitVec 8), (convert 5 105 (B x)).run Tryd.prog w = .ok (W (x.setWidth 32)) w := fun w x => run_conv_B_W w _ _ x Tryd.underlying5 Tryd.underlying105; have m256 : ∀ w (x : BitVec 32), (binOp .mul 105 (W x) (.int .u32 256)).run Tryd.prog w = .ok (W (x * 256)) w := fun w x => run_mul256_W w _ x; clear hown2 hBl; go_wp2_with (fail)
                      go_loopw [15, 16] (MixE wr f t) (fun _ j _ => 4 - (intOf j).toNat)
                      case atStart => exact ⟨0, by omega, rfl, rfl, rfl⟩
                      case round =>
                        obtain ⟨k, hk, rfl, rfl, rfl⟩ := hrel
                        by_cases hlk : k < 4
                        · have ix : ∀ w, (Instr.index 9 (Sv Mp) (.int .i64 ((A : Int) + 4 * (t : Int) + (k : Int)))).run Tryd.prog w = .ok (B (f (4 * t + k))) w := fun w => by
                            have := HR.out.2.2.2.2.1 (4 * t + k) (by omega) w
                            rw [show ((A : Int) + 4 * (t : Int) + (k : Int)) = ((A + (4 * t + k) : Nat) : Int) by omega]
                            exact this
                          go_wp2_with (fail)
                          exact ⟨⟨k + 1, by omega, rfl, rfl, rfl⟩, by simp [intOf]; omega⟩
                        · obtain rfl : k = 4 := by omega
                          go_upto_region 26 with (fail)
                          refine wp_region_lit ?_
                          iterate 6 go_step
                          obtain ⟨x, hx⟩ : ∃ x, x = vj f t 4 := ⟨_, rfl⟩; rw [← hx]; refine wpList_slice1_W rfl (.tmp 90) rfl x rfl ?_
                          refine wpList_push Tryd.underlying112 info34 rfl rfl (.tmp 89) (.tmp 91) rfl wc.heap.size _ (SL f t) rfl (HS.out.1.alloc _) (W x) wr.heap.size rfl (by go_simp) rfl (by rw [SL_len]; omega) (by have := HS.out.2.1.size; simp; omega) (by omega) ?_
                          intro v' w' g1 g2 g3; have hB1 := (HS.out.2.1.alloc HS.out.2.1.size (.cells #[W x] 105)); have hB' := hB1.trans (below_grown (HS.out.1.alloc _) g2 hB1.size); rw [hx, vj_4 f t h16, ← SL_succ] at g1; have HT := Lib.hid (And.intro g1 hB'); clear g1 g2 g3 hB1 hB'; go_wp2_with (fail)
                          exact ⟨⟨t + 1, by omega, rfl, HT.out.1, HT.out.2⟩, by simp [intOf]; omega⟩
                    · obtain ⟨gw, cw, rfl, hgw1, hgw2, hcell⟩ := SL_form hown2 (by omega)
                      obtain ⟨a2, e2⟩ : ∃ a2 : Nat, (t : Int) - 2 = a2 := ⟨t - 2, by omega⟩
                      obtain ⟨a7, e7⟩ : ∃ a7 : Nat, (t : Int) - 7 = a7 := ⟨t - 7, by omega⟩
                      obtain ⟨a15, e15⟩ : ∃ a15 : Nat, (t : Int) - 15 = a15 := ⟨t - 15, by omega⟩
                      obtain ⟨a16, e16⟩ : ∃ a16 : Nat, (t : Int) - 16 = a16 := ⟨t - 16, by omega⟩
                      have g2 := hcell a2 (by omega)
                      have g7 := hcell a7 (by omega)
                      have g15 := hcell a15 (by omega)
                      have g16 := hcell a16 (by omega)
                      have i0 : (0 : Int) ≤ (t : Int) ∧ (t : Int) < 64 := by omega
                      have i2 : (0 : Int) ≤ (a2 : Int) ∧ (a2 : Int) < (t : Int) := by omega
                      have i7 : (0 : Int) ≤ (a7 : Int) ∧ (a7 : Int) < (t : Int) := by omega
                      have i15 : (0 : Int) ≤ (a15 : Int) ∧ (a15 : Int) < (t : Int) := by omega
                      have i16 : (0 : Int) ≤ (a16 : Int) ∧ (a16 : Int) < (t : Int) := by omega
                      have w2 : IntKind.i64.wrap (a2 : Int) = a2 := IntWalk.i64_in _ (by omega)
                      have w7 : IntKind.i64.wrap (a7 : Int) = a7 := IntWalk.i64_in _ (by omega)
                      have w15 : IntKind.i64.wrap (a15 : Int) = a15 := IntWalk.i64_in _ (by omega)
                      have w16 : IntKind.i64.wrap (a16 : Int) = a16 := IntWalk.i64_in _ (by omega)
                      obtain ⟨x2, hx2⟩ : ∃ x, x = sched f a2 := ⟨_, rfl⟩; obtain ⟨x7, hx7⟩ : ∃ x, x = sched f a7 := ⟨_, rfl⟩; obtain ⟨x15, hx15⟩ : ∃ x, x = sched f a15 := ⟨_, rfl⟩; obtain ⟨x16, hx16⟩ : ∃ x, x = sched f a16 := ⟨_, rfl⟩
                      have HE : Hid (sched f t = sp x2 17 19 10 + x7 + sp x15 7 18 3 + x16) := by
                        show sched f t = _
                        rw [hx2, hx7, hx15, hx16, sched_hi f t (by omega), show a2 = t - 2 by omega, show a7 = t - 7 by omega, show a15 = t - 15 by omega, show a16 = t - 16 by omega]
                      rw [← hx2] at g2; rw [← hx7] at g7; rw [← hx15] at g15; rw [← hx16] at g16; have HS := Lib.hid (And.intro hown2 (And.intro hBl (And.intro hlt (And.intro hgw1 hgw2)))); clear hown2 hBl hcell hx2 hx7 hx15 hx16 hgw1 hgw2; go_wp2_with (fail)
                      go_quiet (fail)
                      go_wp2_with (fail)
                      refine wp_region_taken_tail 29 (by kernel_rfl) (by kernel_rfl) (fun _ _ _ _ h => h) _ (Or.inl ⟨by rfl, fun _ => rfl⟩) ?_
                      simp only [List.take_succ_cons, List.take_zero, List.drop_succ_cons, List.drop_zero]
                      repeat (quiet_step (fail))
                      refine wpQuiet_step (fun K hK => ?_)
                      go_simp
                      apply Exists.intro
                      refine ⟨fun _ => ?_, hK _ ?_⟩
                      · exact quiet_of2 (rr17 _ _)
                      clear hK K
                      repeat (quiet_step (fail))
                      refine wpQuiet_step (fun K hK => ?_)
                      go_simp
                      apply Exists.intro
                      refine ⟨fun _ => ?_, hK _ ?_⟩
                      · exact quiet_of2 (rr19 _ _)
                      clear hK K
                      repeat (quiet_step (fail))
                      refine wpQuiet_step (fun K hK => ?_)
                      go_simp
                      apply Exists.intro
                      refine ⟨fun _ => ?_, hK _ ?_⟩
                      · exact quiet_of2 (rr7 _ _)
                      clear hK K
                      repeat (quiet_step (fail))
                      refine wpQuiet_step (fun K hK => ?_)
                      go_simp
                      apply Exists.intro
                      refine ⟨fun _ => ?_, hK _ ?_⟩
                      · exact quiet_of2 (rr18 _ _)
                      clear hK K
                      repeat (quiet_step (fail))
                      refine wpQuiet_nil ?_; intro _ hw'; obtain ⟨nq2, hw''⟩ := hw'; subst hw''; have hB0 : Below wr.heap.size wr ((wr.drewN nq).drewN nq2) := below_draws (below_draws (Below.refl _ wr) nq) nq2; have hown3 := HS.out.1.far hB0; have hB3 := HS.out.2.1.trans (hB0.mono HS.out.2.1.size); obtain ⟨x, hx⟩ : ∃ x, x = sp x2 17 19 10 + x7 + sp x15 7 18 3 + x16 := ⟨_, rfl⟩
                      refine wpList_slice1_W rfl (.tmp 132) rfl x (by rw [hx]; rfl) ?_
                      refine wpList_push Tryd.underlying112 info34 rfl rfl (.tmp 103) (.tmp 133) rfl wc.heap.size _ (SL f t) (by rfl) (hown3.alloc _) (W x) _ (by rfl) (by rw [cell_of_row _ _ 0 _ _ _ (heap_alloc_new _ _)]; rfl) rfl (by rw [SL_len]; omega) (Nat.le_trans hB3.size (by simp)) (by omega) ?_
                      intro v' w' k1 k2 k3; have hB1 := (hB3.alloc hB3.size (.cells #[W x] 105)); have hB' := hB1.trans (below_grown (hown3.alloc _) k2 hB1.size); rw [hx, ← HE.out, ← SL_succ] at k1; have HT := Lib.hid (And.intro k1 hB'); clear k1 k2 k3 hB1 hB' hB0 hown3 hB3 hx; go_wp2_with (fail)
                      exact ⟨⟨t + 1, by omega, rfl, HT.out.1, HT.out.2⟩, by simp [intOf]; omega⟩
                  · obtain rfl : t = 64 := by omega
                    obtain ⟨gw, cw, rfl, hgw1, hgw2, hcell⟩ := SL_form hown2 (by omega)
                    obtain ⟨wf, rfl⟩ : ∃ x, x = wr := ⟨wr, rfl⟩; have HS := Lib.hid (And.intro hcell (And.intro hBl (And.intro hgw1 hgw2))); clear hcell hBl hgw1 hgw2 hown2 hlt ht
                    go_upto_region 29 with (fail)
                    refine wp_region_lit ?_
                    iterate 6 go_step
                    obtain ⟨hcell, hBl, hgw1, hgw2⟩ := HS.out; have hown0 : Own wf g0 105 (.slice (some ⟨hg, 0, none⟩) 8 hc) (ws8 st) := HR.out.1.far hBl; have hhg := hown0.lt (k := hg) rfl; refine wpList_copy8 rfl (.tmp 135) (.tmp 136) rfl wf.heap.size rfl (heap_alloc_new wf _) hg hc rfl st (Own.row8 (hown0.alloc _)) ?_; intro gv cv W2 k1 k2; have hgv := (k1.lt (k := gv) rfl).1; have hrow := k1.row8; have hB2 : Below wf.heap.size wf W2 := ((Below.refl _ wf).alloc (Nat.le_refl _) _).trans k2; have HF := Lib.hid (And.intro hgv (And.intro hrow hB2)); clear hcell hBl hgw1 hgw2 hown0 hhg hgv hrow hB2 k1 k2; go_wp2_with (fail)
                    go_loopw [19, 20] (MixF wf f st) (fun _ t _ => 64 - (intOf t).toNat)
                    case atStart => exact ⟨0, gv, cv, by omega, rfl, rfl, HF.out.1, HF.out.2.1, HF.out.2.2⟩
                    case round =>
                      as_aux_lemma =>
                        clear HF; obtain ⟨t, gv, cv, ht, rfl, rfl, hgv, hrow, hBf⟩ := hrel
                        by_cases hlt : t < 64
                        · have hgk := HM.out.1.lt (by omega)
                          have hfs := HS.out.2.1.size; have hcs := HR.out.2.1.size
                          have ck : wr.cell? ⟨gk, t, none⟩ = some (W (kAt t)) := by
                            rw [hBf.cell (p := ⟨gk, t, none⟩) (by show gk < wf.heap.size; omega), HS.out.2.1.cell (p := ⟨gk, t, none⟩) (by show gk < wc.heap.size; omega), HR.out.2.1.cell (p := ⟨gk, t, none⟩) hgk]
                            exact HM.out.1 t hlt
                          have cw : wr.cell? ⟨gw, t, none⟩ = some (W (sched f t)) := by
                            rw [hBf.cell (p := ⟨gw, t, none⟩) HS.out.2.2.2]; exact HS.out.1 t hlt
                          obtain ⟨s, hs⟩ : ∃ s, s = rnds f st t := ⟨_, rfl⟩; obtain ⟨kt, hkt⟩ : ∃ x, x = kAt t := ⟨_, rfl⟩; obtain ⟨x, hx⟩ : ∃ x, x = sched f t := ⟨_, rfl⟩
                          have hnext : rnds f st (t + 1) = rstep s kt x := by rw [rnds, hs, hkt, hx]
                          rw [← hs] at hrow; rw [← hkt] at ck; rw [← hx] at cw
                          have c0 : wr.cell? ⟨gv, 0, none⟩ = some (W s.a) := hrow 0 (by omega)
                          have c1 : wr.cell? ⟨gv, 1, none⟩ = some (W s.b) := hrow 1 (by omega)
                          have c2 : wr.cell? ⟨gv, 2, none⟩ = some (W s.c) := hrow 2 (by omega)
                          have c3 : wr.cell? ⟨gv, 3, none⟩ = some (W s.d) := hrow 3 (by omega)
                          have c4 : wr.cell? ⟨gv, 4, none⟩ = some (W s.e) := hrow 4 (by omega)
                          have c5 : wr.cell? ⟨gv, 5, none⟩ = some (W s.f) := hrow 5 (by omega)
                          have c6 : wr.cell? ⟨gv, 6, none⟩ = some (W s.g) := hrow 6 (by omega)
                          have c7 : wr.cell? ⟨gv, 7, none⟩ = some (W s.h) := hrow 7 (by omega)
                          have i0 : (0 : Int) ≤ (t : Int) ∧ (t : Int) < 64 := by omega
                          have inv : ∀ w (x : BitVec 32), (binOp .sub 105 (.int .u32 4294967295) (W x)).run Tryd.prog w = .ok (W (~~~x)) w := fun w x => run_inv_W w _ x; have HT := Lib.hid (And.intro hgv (And.intro hBf hnext)); clear hgk hfs hcs hs hkt hx hnext hrow hgv hBf; go_wp2_with (fail)
                          refine wp_region_quiet_lit (by kernel_rfl) (by kernel_rfl) ?_
                          repeat (quiet_step (fail))
                          refine wpQuiet_step (fun K hK => ?_)
                          go_simp
                          apply Exists.intro
                          refine ⟨fun _ => ?_, hK _ ?_⟩
                          · exact quiet_of1 (rr6 _ _)
                          clear hK K
                          repeat (quiet_step (fail))
                          refine wpQuiet_step (fun K hK => ?_)
                          go_simp
                          apply Exists.intro
                          refine ⟨fun _ => ?_, hK _ ?_⟩
                          · exact quiet_of1 (rr11 _ _)
                          clear hK K
                          repeat (quiet_step (fail))
                          refine wpQuiet_step (fun K hK => ?_)
                          go_simp
                          apply Exists.intro
                          refine ⟨fun _ => ?_, hK _ ?_⟩
                          · exact quiet_of1 (rr25 _ _)
                          clear hK K
                          repeat (quiet_step (fail))
                          refine wpQuiet_nil ?_; intro _ hw'; obtain ⟨n1, hw''⟩ := hw'; subst hw''; go_wp2_with (fail)
                          refine wp_region_quiet_lit (by kernel_rfl) (by kernel_rfl) ?_
                          repeat (quiet_step (fail))
                          refine wpQuiet_step (fun K hK => ?_)
                          go_simp
                          apply Exists.intro
                          refine ⟨fun _ => ?_, hK _ ?_⟩
                          · exact quiet_of2 (rr2 _ _)
                          clear hK K
                          repeat (quiet_step (fail))
                          refine wpQuiet_step (fun K hK => ?_)
                          go_simp
                          apply Exists.intro
                          refine ⟨fun _ => ?_, hK _ ?_⟩
                          · exact quiet_of2 (rr13 _ _)
                          clear hK K
                          repeat (quiet_step (fail))
                          refine wpQuiet_step (fun K hK => ?_)
                          go_simp
                          apply Exists.intro
                          refine ⟨fun _ => ?_, hK _ ?_⟩
                          · exact quiet_of2 (rr22 _ _)
                          clear hK K
                          repeat (quiet_step (fail))
                          refine wpQuiet_nil ?_; intro _ hw'; obtain ⟨n2, hw''⟩ := hw'; subst hw''; go_wp2_with (fail)
                          go_quiet (fail)
                          go_wp2_with (fail)
                          go_quiet (fail)
                          go_wp2_with (fail)
                          refine wp_region_quiet_tail 26 (by kernel_rfl) (by kernel_rfl) ?_
                          simp only [List.take_succ_cons, List.take_zero, List.drop_succ_cons, List.drop_zero]
                          repeat (quiet_step (fail))
                          refine wpQuiet_nil ?_; intro wz hw'; obtain ⟨n3, hw''⟩ := hw'
                          have hBz : Below wf.heap.size wf wz := by rw [hw'']; exact below_draws (below_draws (below_draws (below_draws (below_draws HT.out.2.1 _) _) _) _) _
                          have HZ := Lib.hid hBz; clear hw'' hBz ck cw c0 c1 c2 c3 c4 c5 c6 c7
                          refine wpList_slice8_W rfl (.tmp 229) (.tmp 232) (.tmp 235) (.tmp 238) (.tmp 243) (.tmp 246) (.tmp 249) (.tmp 252) rfl (rstep s kt x) (by rfl) (by rfl) (by rfl) (by rfl) (by rfl) (by rfl) (by rfl) (by rfl) ?_
                          have hnew : Row8 (wz.alloc (.cells #[W (rstep s kt x).a, W (rstep s kt x).b, W (rstep s kt x).c, W (rstep s kt x).d, W (rstep s kt x).e, W (rstep s kt x).f, W (rstep s kt x).g, W (rstep s kt x).h] 105)) wz.heap.size 8 (rstep s kt x).at := fun i hi => row8_new wz _ _ i hi; have hBn : Below wf.heap.size wf (wz.alloc (.cells #[W (rstep s kt x).a, W (rstep s kt x).b, W (rstep s kt x).c, W (rstep s kt x).d, W (rstep s kt x).e, W (rstep s kt x).f, W (rstep s kt x).g, W (rstep s kt x).h] 105)) := HZ.out.alloc HZ.out.size _; have hzs := HZ.out.size; obtain ⟨wy, hwy⟩ : ∃ wy, wy = wz.alloc (.cells #[W (rstep s kt x).a, W (rstep s kt x).b, W (rstep s kt x).c, W (rstep s kt x).d, W (rstep s kt x).e, W (rstep s kt x).f, W (rstep s kt x).g, W (rstep s kt x).h] 105) := ⟨_, rfl⟩; rw [← hwy] at hnew hBn ⊢; have HY := Lib.hid (And.intro hnew (And.intro hBn hzs)); clear hwy hnew hBn hzs; go_wp2_with (fail)
                          exact ⟨⟨t + 1, _, _, by omega, rfl, rfl, HY.out.2.2, by rw [HT.out.2.2]; exact HY.out.1, HY.out.2.1⟩, by simp [intOf]; omega⟩
                        · obtain rfl : t = 64 := by omega
                          have hown0 : Own wr g0 105 (.slice (some ⟨hg, 0, none⟩) 8 hc) (ws8 st) := (HR.out.1.far HS.out.2.1).far hBf; have hB1 : Below w.heap.size w wr := (HR.out.2.1.trans (HS.out.2.1.mono HR.out.2.1.size)).trans (hBf.mono (Nat.le_trans HR.out.2.1.size HS.out.2.1.size))
                          have hZ1 : wr.heap[w.heap.size]? = some (.cells Z 23 (0, 0)) := by
                            have h0 := (Array.getElem?_eq_some_iff.mp HR.out.2.2.1).1
                            rw [hBf.block _ (by have := HS.out.2.1.size; omega), HS.out.2.1.block _ h0]
                            exact HR.out.2.2.1
                          have hgl := (HR.out.1.lt (k := hg) rfl).2
                          have hne : hg < gv := by have := HS.out.2.1.size; omega
                          obtain ⟨r, hr⟩ : ∃ r, r = rnds f st 64 := ⟨_, rfl⟩; rw [← hr] at hrow; have hw0 := HMp.out.2.2.2.1; have HT := Lib.hid (And.intro hown0 (And.intro hrow (And.intro hB1 (And.intro hZ1 (And.intro hne hr))))); clear hown0 hB1 hZ1 hgl hne hr hrow hgv hBf hw0 ht hlt; go_wp2_with (fail); obtain ⟨wg, rfl⟩ : ∃ x, x = wr := ⟨wr, rfl⟩
                          try rw [show ((64 : Nat) : Int) = 64 from rfl]
                          go_loopw [256] (MixG wg w Z g0 hg hc gv st r) (fun i _ => 8 - (intOf i).toNat)
                          case atStart => exact ⟨0, by omega, rfl, by rw [GL_zero]; exact HT.out.1, HT.out.2.1, HT.out.2.2.1, HT.out.2.2.2.1, Nat.le_refl _⟩
                          case round =>
                            obtain ⟨i, hi, rfl, hown0, hrow, hB1, hZ1, hgs⟩ := hrel
                            by_cases hli : i < 8
                            · have ch : wr.cell? ⟨hg, i, none⟩ = some (W (st.at i)) := by
                                rw [Own.cellAt (xs := GL st r i) hown0 i (by rw [GL_len]; exact hli), GL_at st r i i hli, if_neg (by omega)]
                              have cv2 : wr.cell? ⟨gv, i, none⟩ = some (W (r.at i)) := hrow i hli; have hfr : wr.frozen? ⟨hg, i, none⟩ = false := World.ownsRow.frozenAt (xs := GL st r i) hown0 i
                              have i0 : (0 : Int) ≤ (i : Int) ∧ (i : Int) < 8 := by omega
                              have HU := Lib.hid (And.intro hown0 (And.intro hrow (And.intro hB1 (And.intro hZ1 hgs)))); clear hown0 hrow hB1 hZ1 hgs; go_wp2_with (fail)
                              refine wp_region_quiet_tail 10 (by kernel_rfl) (by kernel_rfl) ?_
                              simp only [List.take_succ_cons, List.take_zero, List.drop_succ_cons, List.drop_zero]
                              repeat (quiet_step (fail))
                              refine wpQuiet_nil ?_; intro wz hw'; obtain ⟨n3, hw''⟩ := hw'
                              have hch : wz.cell? ⟨hg, i, none⟩ = some (W (st.at i)) := by rw [hw'']; exact ch
                              have hfz : wz.frozen? ⟨hg, i, none⟩ = false := by rw [hw'']; exact hfr
                              have hD : Below wr.heap.size wr wz := by rw [hw'']; exact below_draws (Below.refl _ _) _
                              clear hw'' ch cv2 hfr
                              refine wpList_store1 rfl _ _ _ rfl ⟨hg, i, none⟩ (W (st.at i + r.at i)) (W (st.at i)) (by rfl) (by rfl) rfl rfl Tryd.sizeOf105 hch hfz ?_
                              obtain ⟨hown0, hrow, hB1, hZ1, hgs⟩ := HU.out; have k1 := own_set8 (hown0.far hD) i (W (st.at i + r.at i)); rw [GL_succ st r i hli] at k1; have hg0 := HMp.out.2.2.2.2.1; have hw0 := HMp.out.2.2.2.1
                              have k3 : Below w.heap.size w (wz.setCell ⟨hg, i, none⟩ (W (st.at i + r.at i))) := (hB1.trans (hD.mono hB1.size)).setCell (by show w.heap.size ≤ hg; omega) _
                              have k4 : (wz.setCell ⟨hg, i, none⟩ (W (st.at i + r.at i))).heap[w.heap.size]? = some (.cells Z 23 (0, 0)) := by
                                rw [Below.heap_setCell _ _ _ _ (by show w.heap.size ≠ hg; omega), hD.block _ (Array.getElem?_eq_some_iff.mp hZ1).1]
                                exact hZ1
                              have k2 : Row8 (wz.setCell ⟨hg, i, none⟩ (W (st.at i + r.at i))) gv 8 r.at := fun j hj => by
                                have e : (wz.setCell ⟨hg, i, none⟩ (W (st.at i + r.at i))).heap[gv]? = wr.heap[gv]? := by
                                  rw [Below.heap_setCell _ _ _ _ (by show gv ≠ hg; have := HT.out.2.2.2.2.1; omega), hD.block _ (hrow.lt (by omega))]
                                rw [World.cell?_of_block e]; exact hrow j hj
                              have k5 : wg.heap.size ≤ (wz.setCell ⟨hg, i, none⟩ (W (st.at i + r.at i))).heap.size := by
                                rw [show (wz.setCell ⟨hg, i, none⟩ (W (st.at i + r.at i))).heap.size = wz.heap.size by simp [World.setCell]]
                                exact Nat.le_trans hgs hD.size
                              obtain ⟨wy, hwy⟩ : ∃ wy, wy = wz.setCell ⟨hg, i, none⟩ (W (st.at i + r.at i)) := ⟨_, rfl⟩; rw [← hwy] at k1 k2 k3 k4 k5 ⊢; have HY := Lib.hid (And.intro k1 (And.intro k2 (And.intro k3 (And.intro k4 k5)))); clear hwy k1 k2 k3 k4 k5 hown0 hrow hB1 hZ1 hgs hg0 hw0 hch hfz hD HU; go_wp2_with (fail)
                              exact ⟨⟨i + 1, by omega, by go_num, HY.out⟩, by simp [intOf]; omega⟩
                            · obtain rfl : i = 8 := by omega
                              have HU := Lib.hid (And.intro hown0 (And.intro hrow (And.intro hB1 (And.intro hZ1 hgs)))); clear hown0 hrow hB1 hZ1 hgs; go_wp2_with (fail); obtain ⟨hown0, hrow, hB1, hZ1, hgs⟩ := HU.out; rw [GL_all, HT.out.2.2.2.2.2] at hown0
                              refine ⟨⟨j + 1, A + 64, by omega, by have := HR.out.2.2.2.2.2; omega, by go_num, ?_, hB1, hZ1⟩, ?_⟩
                              · rw [HR.out.2.2.2.1]; exact hown0
                              · simp [intOf]; omega
            · as_aux_lemma =>
                obtain rfl : j = cnt := by omega
                have hAN : A = N := by have := HN.out; omega
                have hMm : chain (gl Mp) j = shaSt m := by
                  have hl : (m ++ pad m.length).length / 64 = j := by
                    have h1 := HMp.out.2.1; have h2 := HMp.out.2.2.1; rw [HMp.out.1, HM.out.2.2.1] at h1; omega
                  rw [shaSt, hl, HMp.out.1, HM.out.2.2.1]
                obtain ⟨st, hst⟩ : ∃ st, st = shaSt m := ⟨_, rfl⟩; rw [hMm, ← hst] at hown; have hrow0 : Row8 wr hg 8 st.at := Own.row8 hown
                have ltN : ¬ (A : Int) < (N : Int) := by omega
                obtain ⟨wc, rfl⟩ : ∃ x, x = wr := ⟨wr, rfl⟩; have HS := Lib.hid (And.intro hrow0 (And.intro hB (And.intro hZ0 hst))); clear hAN hMm hst hown hrow0 hB hZ0 hA hj hjc; go_wp2_with (fail); obtain ⟨W0, hW0⟩ : ∃ W0, W0 = wc.alloc (.cells Z 23) := ⟨_, rfl⟩; rw [← hW0]
                have hB0 : Below wc.heap.size wc W0 := by rw [hW0]; exact (Below.refl _ wc).alloc (Nat.le_refl _) _
                have hR0 : W0.heap[wc.heap.size]? = some (.cells Z 23 (0, 0)) := by rw [hW0]; exact heap_alloc_new wc _
                have HW := Lib.hid (And.intro hB0 hR0); clear hB0 hR0 hW0
                go_loopw [272] (MixH wc st) (fun i _ => 8 - (intOf i).toNat)
                case atStart => exact ⟨0, Z, by omega, rfl, by rw [HM.out.2.2.2]; simp, fun k hk => by omega, HW.out.2, HW.out.1⟩
                case round =>
                  obtain ⟨i, C, hi, rfl, hC1, hC2, hC3, hBw⟩ := hrel
                  by_cases hli : i < 8
                  · have ch : wr.cell? ⟨hg, i, none⟩ = some (W (st.at i)) := by
                      rw [hBw.cell (p := ⟨hg, i, none⟩) (HS.out.1.lt (by omega))]
                      exact HS.out.1 i hli
                    have i0 : (0 : Int) ≤ (i : Int) ∧ (i : Int) < 8 := by omega
                    have HC := Lib.hid (And.intro hC1 (And.intro hC2 (And.intro hC3 hBw))); clear hC1 hC2 hC3 hBw; go_wp2_with (fail)
                    go_loopw [29] (MixI wc st i) (fun j _ => 4 - (intOf j).toNat)
                    case atStart => exact ⟨0, C, by omega, rfl, HC.out.1, HC.out.2.1, HC.out.2.2.1, HC.out.2.2.2⟩
                    case round =>
                      clear HC; obtain ⟨k, C, hk, rfl, hC1, hC2, hC3, hBw⟩ := hrel
                      by_cases hlk : k < 4
                      · obtain ⟨p, hp⟩ : ∃ p : Nat, p = 4 * i + k := ⟨_, rfl⟩
                        have ep : 4 * (i : Int) + (k : Int) = (p : Int) := by omega
                        have ip : (0 : Int) ≤ (p : Int) ∧ (p : Int) < 32 := by omega
                        have s1 : ∀ w, (binOp .shr 105 (W (st.at i)) (.int .i64 (24 - 8 * (k : Int)))).run Tryd.prog w = .ok (W (st.at i >>> (24 - 8 * k))) w := fun w => by
                          rw [show (24 - 8 * (k : Int)) = ((24 - 8 * k : Nat) : Int) by omega]
                          exact run_shr_W _ _ _ w .i64 _ (by omega)
                        have cv : ∀ w (x : BitVec 32), (convert 105 5 (W x)).run Tryd.prog w = .ok (B (x.setWidth 8)) w := fun w x => run_conv_W_B w _ _ x Tryd.underlying105 Tryd.underlying5
                        obtain ⟨d, hd⟩ : ∃ d, wr.cell? ⟨wc.heap.size, p, none⟩ = some d := ⟨C[p]'(by omega), by rw [cell_of_row _ _ p C _ _ hC3]; exact Array.getElem?_eq_getElem (by omega)⟩
                        have hfz : wr.frozen? ⟨wc.heap.size, p, none⟩ = false := frozen_of_row _ _ p C _ hC3
                        have hby : byteAt st p = (st.at i >>> (24 - 8 * k)).setWidth 8 := by rw [hp]; exact byteAt_is st i k hlk
                        have HC := Lib.hid (And.intro hC1 (And.intro hC2 (And.intro hC3 (And.intro hBw (And.intro hp hby))))); have HD := Lib.hid (And.intro hd hfz); clear hC1 hC2 hC3 hBw hp hby hd hfz
                        go_upto_region 50 with (fail)
                        refine wp_region_lit ?_
                        iterate 33 go_step
                        refine wpList_store1 rfl _ _ _ rfl ⟨wc.heap.size, p, none⟩ (B ((st.at i >>> (24 - 8 * k)).setWidth 8)) d (by rfl) (by rfl) rfl rfl Tryd.sizeOf5 HD.out.1 HD.out.2 ?_
                        obtain ⟨hC1, hC2, hC3, hBw, hp, hby⟩ := HC.out
                        have hst := byte_step hC1 (s := st) (k := p) (fun j hj => hC2 j (by omega)) (by omega) _ hby.symm
                        have k1 : (wr.setCell ⟨wc.heap.size, p, none⟩ (B ((st.at i >>> (24 - 8 * k)).setWidth 8))).heap[wc.heap.size]? = some (.cells (C.setIfInBounds p (B ((st.at i >>> (24 - 8 * k)).setWidth 8))) 23 (0, 0)) := by
                          rw [setCell_eq_setRow _ _ _ _ _ _ _ hC3]; exact setRow_heap _ _ C _ _ _ hC3
                        have k2 : Below wc.heap.size wc (wr.setCell ⟨wc.heap.size, p, none⟩ (B ((st.at i >>> (24 - 8 * k)).setWidth 8))) := hBw.setCell (Nat.le_refl _) _; obtain ⟨wy, hwy⟩ : ∃ wy, wy = wr.setCell ⟨wc.heap.size, p, none⟩ (B ((st.at i >>> (24 - 8 * k)).setWidth 8)) := ⟨_, rfl⟩; rw [← hwy] at k1 k2 ⊢; have HY := Lib.hid (And.intro hst (And.intro k1 (And.intro k2 hp))); clear hwy k1 k2 hC1 hC2 hC3 hBw hp hby hst; go_wp2_with (fail)
                        exact ⟨⟨k + 1, _, by omega, rfl, HY.out.1.1, fun j hj => HY.out.1.2 j (by have := HY.out.2.2.2; omega), HY.out.2.1, HY.out.2.2.1⟩, by simp [intOf]; omega⟩
                      · obtain rfl : k = 4 := by omega
                        have HC := Lib.hid (And.intro hC1 (And.intro hC2 (And.intro hC3 hBw))); clear hC1 hC2 hC3 hBw; go_wp2_with (fail)
                        exact ⟨⟨i + 1, C, by omega, by go_num, HC.out.1, fun k hk => HC.out.2.1 k (by omega), HC.out.2.2.1, HC.out.2.2.2⟩, by simp [intOf]; omega⟩
                  · obtain rfl : i = 8 := by omega
                    obtain rfl : C = Spell st := Spell_all st C hC1 hC2
                    have hiS : (Tryd.prog.info? 23).map (·.size) = some (Spell st).size := by rw [show (Spell st).size = 32 by simp [Spell]]; kernel_rfl
                    have hw0 := (Array.getElem?_eq_some_iff.mp HS.out.2.2.1).1; have hfirst : wr.heap[w.heap.size]? = some (.cells Z 23 (0, 0)) := (hBw.block _ hw0).trans HS.out.2.2.1; have HI := Lib.hid (And.intro hiS (And.intro hC3 (And.intro hfirst (And.intro hBw hw0)))); clear hiS hw0 hfirst hC1 hC2 hC3 hBw
                    go_upto_region 52 with (fail)
                    refine wp_region_lit ?_
                    refine wpList_load_row rfl _ _ rfl wc.heap.size (by rfl) 23 (Spell st) (0, 0) _ HI.out.2.1 Tryd.underlying23 rfl HI.out.1 ?_
                    refine wpList_store_row rfl _ _ _ rfl w.heap.size (Spell st) (by rfl) (by rfl) 23 Z HI.out.2.2.1 HI.out.1 (by rw [HM.out.2.2.2]; simp [Spell]) (Spell_one st) ?_
                    go_wp2_with (fail); obtain ⟨hiS, hC3, hfirst, hBw, hw0⟩ := HI.out; have hset : (wr.setRow w.heap.size (Spell st)).heap[w.heap.size]? = some (.cells (Spell st) 23 (0, 0)) := setRow_heap _ _ Z _ _ _ hfirst
                    refine bodyPost_ret (v := .agg (Spell st)) (results_cell_row rfl _ _ w.heap.size 23 (Spell st) (0, 0) _ rfl hset Tryd.underlying23 rfl hiS) rfl ⟨by rw [HS.out.2.2.2]; rfl, ?_⟩
                    exact ((HS.out.2.1.trans (hBw.mono HS.out.2.1.size)).trans ⟨rfl, rfl, rfl, by simp, fun k hk => setRow_other _ _ _ _ (by omega)⟩)
    · have h57 : ¬ (r : Int) = 56 := by omega
      have HG := Lib.hid (And.intro hg2 h56); clear hg2 h56; go_wp2_with (fail); refine ⟨⟨z + 1, ?_, ?_, rfl⟩, ?_⟩
      · have h1 := HA.out.1; have h2 := HG.out.1; have h3 := HG.out.2; omega
      · rw [HA.out.2.1, List.append_assoc, List.replicate_succ']; rfl
      · rw [szOf_Sv, szOf_Sv, List.length_append, HA.out.2.2.2.2.2]; have h1 := HA.out.1; have h2 := HA.out.2.2.2.2.1; have h3 := HA.out.2.2.1; simp only [List.length_singleton]; omega
end Go.Proofs.YtdmnhgbdeifpbaaDoor
namespace Go.Proofs.YtdmnhgbdeifpbaaDoor
open Go.RowKit
theorem kL_at (i : Nat) (h : i < 64) : (kL 64)[i]? = some (W (kAt i)) := by
  have hl : kTable.length = 64 := rfl
  rw [kL_all, List.getElem?_map, List.getElem?_eq_getElem (by rw [hl]; exact h)]
  simp [kAt, List.getD_eq_getElem?_getD, List.getElem?_eq_getElem (show i < kTable.length by rw [hl]; exact h)]
def RefTabs (w : World) (k s : Value) : Prop := ∃ gk ck gs cs, k = .slice (some ⟨gk, 0, none⟩) 64 ck ∧ s = .slice (some ⟨gs, 0, none⟩) 8 cs ∧ Row8 w gk 64 kAt ∧ Row8 w gs 8 firstSt.at
theorem refTabs_of {w : World} {base : Nat} {k s : Value} (h1 : Own w base 105 k (kL 64)) (h2 : Own w base 105 s (sL 64)) : RefTabs w k s := by
  have l1 : (kL 64).length = 64 := kL_len (by omega)
  have l2 : (sL 64).length = 8 := by rw [sL_all]; rfl
  obtain ⟨gk, ck, rfl, _, _⟩ := h1.form1 (by rw [l1]; omega)
  obtain ⟨gs, cs, rfl, _, _⟩ := h2.form1 (by rw [l2]; omega)
  refine ⟨gk, ck, gs, cs, by rw [l1], by rw [l2], fun i hi => ?_, fun i hi => ?_⟩
  · rw [h1.cellAt i (by rw [l1]; exact hi), kL_at i hi]
  · rw [h2.cellAt i (by rw [l2]; exact hi), sL_all]
    exact ws8_at firstSt i hi
theorem refMixed_any (w : World) (m : List (BitVec 8)) (hm : m.length ≤ 100000) (k s : Value) (h : RefTabs w k s) :
    Calls Tryd.prog 76 #[Sv m, k, s] w (Below0 w (.agg (ShaA m))) := by
  obtain ⟨gk, ck, gs, cs, rfl, rfl, h1, h2⟩ := h; exact mixed_any w m hm gk ck gs cs h1 h2
set_option maxRecDepth 100000 in
set_option maxHeartbeats 1000000 in
theorem refSum_any (w : World) (m : List (BitVec 8)) (hm : m.length ≤ 100000) :
    Calls Tryd.prog 51 #[Sv m] w (Below0 w (.agg (ShaA m))) := by
  obtain ⟨Z, hZ⟩ : ∃ Z : Array Value, Z = Array.replicate 32 (.int .u8 0) := ⟨_, rfl⟩
  have hz2 : ∀ w, (zeroValue 23).run Tryd.prog w = .ok (.agg Z) w := by rw [hZ]; exact (zero_of_info (n := 32) (by kernel_rfl)).1
  have HZ := Lib.hid hZ; clear hZ
  go_enter Tryd.func51, Tryd.ntmps51
  go_wp2_with (fail); refine (table_any _).mono ?_; rintro e w1 ⟨k, s, rfl, hk, hs, hB⟩; have hR := refTabs_of hk hs
  have hr1 : w1.heap[w.heap.size]? = some (.cells Z 23 (0, 0)) := by rw [hB.block _ (by simp)]; exact heap_alloc_new w _
  have hB1 : Below w.heap.size w w1 := ((Below.refl _ w).alloc (Nat.le_refl _) (.cells Z 23)).trans (hB.mono (by simp))
  have HR := Lib.hid (And.intro hR (And.intro hr1 hB1)); clear hk hs hB hR hr1 hB1; dsimp only; go_wp2_with (fail); refine (refMixed_any w1 m hm k s HR.out.1).mono ?_; rintro e w2 ⟨rfl, hB2⟩
  have hr2 : w2.heap[w.heap.size]? = some (.cells Z 23 (0, 0)) := by rw [hB2.block _ (Array.getElem?_eq_some_iff.1 HR.out.2.1).1]; exact HR.out.2.1
  have hB3 : Below w.heap.size w w2 := HR.out.2.2.trans (hB2.mono HR.out.2.2.size)
  have hi : (Tryd.prog.info? 23).map (·.size) = some (ShaA m).size := by rw [show (ShaA m).size = 32 by simp [ShaA, Spell]]; kernel_rfl
  have HW := Lib.hid (And.intro hr2 (And.intro hB3 hi)); clear hr2 hB3 hi hB2; dsimp only; go_step
  refine wpList_store_row rfl _ _ _ rfl w.heap.size (ShaA m) rfl rfl 23 Z HW.out.1 HW.out.2.2 (by rw [HZ.out]; simp [ShaA, Spell]) (Spell_one _) ?_
  go_wp2_with (fail); obtain ⟨hr2, hB3, hi⟩ := HW.out; refine bodyPost_ret (v := .agg (ShaA m)) (results_cell_row rfl _ _ w.heap.size 23 (ShaA m) (0, 0) _ rfl (setRow_heap _ _ Z _ _ _ hr2) Tryd.underlying23 rfl hi) rfl ⟨rfl, ?_⟩
  exact hB3.trans ⟨rfl, rfl, rfl, by simp, fun k hk => setRow_other _ _ _ _ (by omega)⟩
end Go.Proofs.YtdmnhgbdeifpbaaDoor
namespace Go.Proofs.YtdmnhgbdeifpbaaDoor
open Go.RowKit
set_option maxRecDepth 100000 in
theorem rhtext_any (w : World) (m : List (BitVec 8)) : Calls Tryd.prog 61 #[.agg (ShaA m)] w (Below0 w (Sv (shaL m))) := by
  obtain ⟨z, hz⟩ : ∃ z, z = ShaA m := ⟨_, rfl⟩; rw [← hz]
  have hzz : z = ((shaL m).map B).toArray := by rw [hz, ShaA_is]
  have hcv : (convert 26 9 (.slice (some ⟨w.heap.size, 0, none⟩) 32 32)).run Tryd.prog (w.alloc (.cells z 23)) = .ok (Sv (shaL m)) (w.alloc (.cells z 23)) := by
    have h := heap_alloc_new w (.cells z 23); rw [hzz] at h ⊢; have := run_conv_str _ _ 32 _ (src_row h)
    rwa [shaL_length] at this
  clear hz hzz
  go_enter Tryd.func61, Tryd.ntmps61
  go_wp2_with (fail); go_ret; exact ⟨rfl, (Below.refl _ w).alloc (Nat.le_refl _) _⟩
def RKeyEnd (w : World) (Z : Array Value) (s : List (BitVec 8)) (s0 : Value) (wx : World) : Prop :=
  s0 = Sv s ∧ Below w.heap.size w wx ∧ wx.heap[w.heap.size]? = some (.cells Z 23 (0, 0))
def PadRel (w1 : World) (s : List (BitVec 8)) (s0 : Value) (wr : World) : Prop := ∃ t : Nat, s0 = Sv (s ++ List.replicate t 0) ∧ s.length + t ≤ 64 ∧ wr = w1
def PadsRel (wd : World) (k : List (BitVec 8)) (i o n : Value) (wr : World) : Prop :=
  ∃ t : Nat, t ≤ 64 ∧ n = .int .i64 (t : Int) ∧ i = Sv (xorL 0x36 (k.take t)) ∧ o = Sv (xorL 0x5c (k.take t)) ∧ Below wd.heap.size wd wr
theorem xorL_step (x : BitVec 8) (k : List (BitVec 8)) (t : Nat) (h : t < k.length) : xorL x (k.take (t + 1)) = xorL x (k.take t) ++ [gl k t ^^^ x] := by
  rw [List.take_succ_eq_append_getElem h, xorL, xorL, List.map_append]; simp [gl, h]
set_option maxRecDepth 100000 in
set_option maxHeartbeats 2000000 in
theorem rtag_any (w : World) (key m : List (BitVec 8)) (hk : key.length ≤ 100000) (hm : m.length ≤ 90000) :
    Calls Tryd.prog 29 #[Sv key, Sv m] w (Below0 w (.agg (ShaA (macL key m)))) := by
  obtain ⟨Z, hZ⟩ : ∃ Z : Array Value, Z = Array.replicate 32 (.int .u8 0) := ⟨_, rfl⟩
  have hz2 : ∀ w, (zeroValue 23).run Tryd.prog w = .ok (.agg Z) w := by rw [hZ]; exact zero32.1
  have HZ := Lib.hid hZ; obtain ⟨w0, hw0⟩ : ∃ w0, w0 = w.alloc (.cells Z 23) := ⟨_, rfl⟩
  have hB0 : Below w.heap.size w w0 := by rw [hw0]; exact (Below.refl _ w).alloc (Nat.le_refl _) _
  have hr0 : w0.heap[w.heap.size]? = some (.cells Z 23 (0, 0)) := by rw [hw0]; exact heap_alloc_new w _
  have H0 := Lib.hid (And.intro hB0 (And.intro hr0 (And.intro hk hm))); have lk : ∀ w ty, (Builtin.len_ #[9] ty #[Sv key]).run Tryd.prog w = .ok (.int .i64 (key.length : Int)) w := fun w ty => run_len_Sv w ty key; obtain ⟨L, hL⟩ : ∃ L, L = key.length := ⟨_, rfl⟩; rw [← hL] at lk; have HL := Lib.hid hL; clear hZ hB0 hr0 hk hm hL
  go_enter Tryd.func29, Tryd.ntmps29
  go_upto_if 11 with (fail)
  rw [← hw0]; clear hw0 hz2
  go_cut [0] from 11 to 14 (fun s0 wx => RKeyEnd w Z (shortL key) s0 wx)
  case first =>
    by_cases hlong : 64 < L
    · have hl : (64 : Int) < (L : Int) := by omega
      have HB := Lib.hid hlong; clear hlong; go_wp2_with (fail); refine (refSum_any w0 key H0.out.2.2.1).mono ?_; rintro e w1 ⟨rfl, hB1⟩; have H1 := Lib.hid hB1; clear hB1; dsimp only; go_wp2_with (fail); refine (rhtext_any w1 key).mono ?_; rintro e w2 ⟨rfl, hB2⟩; have H2 := Lib.hid (H1.out.trans (hB2.mono H1.out.size)); clear hB2; dsimp only; go_wp2_with (fail)
      go_meet
      have hl2 : 64 < key.length := by rw [← HL.out]; exact HB.out
      exact ⟨by rw [shortL_long hl2], H0.out.1.trans (H2.out.mono H0.out.1.size), (H2.out.block _ (Array.getElem?_eq_some_iff.1 H0.out.2.1).1).trans H0.out.2.1⟩
    · have hl : ¬ (64 : Int) < (L : Int) := by omega
      go_wp2_with (fail)
      go_meet
      have hl2 : key.length ≤ 64 := by rw [← HL.out]; omega
      exact ⟨by rw [shortL_short hl2], H0.out.1, H0.out.2.1⟩
  case rest =>
    obtain ⟨rfl, hB, hr⟩ := hcut; obtain ⟨s, hs⟩ : ∃ s, s = shortL key := ⟨_, rfl⟩; rw [← hs]
    have hs64 : s.length ≤ 64 := by rw [hs]; exact shortL_length key
    have HC := Lib.hid (And.intro hB (And.intro hr (And.intro hs64 hs))); clear hB hr hs64 hs lk; go_wp2_with (fail)
    go_loopw [0] (PadRel wc s) (fun v _ => 64 - lenS v)
    case atStart => exact ⟨0, by simp, HC.out.2.2.1, rfl⟩
    case round =>
      obtain ⟨t, rfl, ht, rfl⟩ := hrel; obtain ⟨u, hu⟩ : ∃ u, u = s ++ List.replicate t 0 := ⟨_, rfl⟩; rw [← hu]
      have hul : u.length = s.length + t := by rw [hu]; simp
      have lu : ∀ w ty, (Builtin.len_ #[9] ty #[Sv u]).run Tryd.prog w = .ok (.int .i64 ((s.length + t : Nat) : Int)) w := fun w ty => by rw [run_len_Sv w ty u, hul]
      obtain ⟨U, hU⟩ : ∃ U, U = s.length + t := ⟨_, rfl⟩; rw [← hU] at lu; have HU := Lib.hid (And.intro hu (And.intro hul (And.intro hU ht))); clear hu hul hU ht
      by_cases hlt : U < 64
      · have h1 : (U : Int) < 64 := by omega
        have ha : ∀ w, (binOp .add 9 (Sv u) (.string ⟨#[0]⟩)).run Tryd.prog w = .ok (Sv (u ++ [0])) w := fun w => run_add_S0 w u (by have := HU.out; omega)
        go_wp2_with (fail); obtain ⟨hu, hul, hU, ht⟩ := HU.out
        refine ⟨⟨t + 1, ?_, by omega, rfl⟩, ?_⟩
        · show Sv (u ++ [0]) = _
          rw [hu, List.append_assoc, ← List.replicate_succ']
        · show 64 - lenS (Sv (u ++ [0])) < 64 - lenS (Sv u)
          rw [lenS_Sv, lenS_Sv, List.length_append, List.length_singleton]; omega
      · have h1 : ¬ (U : Int) < 64 := by omega
        have hu64 : u.length = 64 := by have := HU.out; omega
        have huk : u = keyL key := by
          obtain ⟨hu, hul, hU, ht⟩ := HU.out
          rw [hu, keyL, ← HC.out.2.2.2, show t = 64 - s.length by omega]
        obtain ⟨wk, rfl⟩ : ∃ x, x = wr := ⟨wr, rfl⟩; obtain ⟨c, wd, hcv, hBd, hcells⟩ := conv_bytes wk u; rw [hu64] at hcv hcells; have HD := Lib.hid (And.intro huk (And.intro hu64 (And.intro hBd hcells))); clear huk hu64 hBd hcells; go_wp2_with (fail); have hnil : (Value.string ⟨#[]⟩) = Sv [] := rfl; rw [hnil]; clear hnil hcv lu h1
        go_loopw [5, 6, 23] (PadsRel wd u) (fun _ _ k _ => 64 - (intOf k).toNat)
        case atStart => exact ⟨0, by omega, rfl, rfl, rfl, Below.refl _ _⟩
        case round =>
          obtain ⟨t2, ht2, rfl, rfl, rfl, hBr⟩ := hrel
          by_cases hlt2 : t2 < 64
          · have i0 : (0 : Int) ≤ (t2 : Int) ∧ (t2 : Int) < 64 := by omega
            obtain ⟨X, hX⟩ : ∃ X, X = gl u t2 := ⟨_, rfl⟩
            have hc1 : wr.cell? ⟨wk.heap.size, t2, none⟩ = some (B X) := by
              have h1 := HD.out.2.2.2 t2 hlt2; rw [hX, ← h1]; exact hBr.cell (p := ⟨wk.heap.size, t2, none⟩) (block_lt_of_cell h1)
            obtain ⟨y1, hy1⟩ : ∃ y, y = X ^^^ 0x36 := ⟨_, rfl⟩; obtain ⟨y2, hy2⟩ : ∃ y, y = X ^^^ 0x5c := ⟨_, rfl⟩
            have hx1 : ∀ w, (binOp .xor 5 (B X) (.int .u8 54)).run Tryd.prog w = .ok (B y1) w := fun w => by rw [hy1]; exact run_xor_B Tryd.prog 5 X 0x36 w
            have hx2 : ∀ w, (binOp .xor 5 (B X) (.int .u8 92)).run Tryd.prog w = .ok (B y2) w := fun w => by rw [hy2]; exact run_xor_B Tryd.prog 5 X 0x5c w
            obtain ⟨I, hI⟩ : ∃ I, I = xorL 0x36 (u.take t2) := ⟨_, rfl⟩; obtain ⟨O, hO⟩ : ∃ O, O = xorL 0x5c (u.take t2) := ⟨_, rfl⟩
            have hI2 : I ++ [y1] = xorL 0x36 (u.take (t2 + 1)) := by rw [xorL_step _ _ _ (by rw [HD.out.2.1]; exact hlt2), hI, hy1, hX]
            have hO2 : O ++ [y2] = xorL 0x5c (u.take (t2 + 1)) := by rw [xorL_step _ _ _ (by rw [HD.out.2.1]; exact hlt2), hO, hy2, hX]
            have hIl : I.length ≤ 64 := by rw [hI, xorL_length, List.length_take]; omega
            have hOl : O.length ≤ 64 := by rw [hO, xorL_length, List.length_take]; omega
            rw [← hI, ← hO]
            have ha1 : ∀ w, (binOp .add 9 (Sv I) (Sv [y1])).run Tryd.prog w = .ok (Sv (I ++ [y1])) w := fun w => run_add_Sv w I [y1] (by simp only [List.length_singleton]; omega)
            have ha2 : ∀ w, (binOp .add 9 (Sv O) (Sv [y2])).run Tryd.prog w = .ok (Sv (O ++ [y2])) w := fun w => run_add_Sv w O [y2] (by simp only [List.length_singleton]; omega)
            have HI := Lib.hid (And.intro hI2 (And.intro hO2 hBr)); clear hX hy1 hy2 hI hO hI2 hO2 hIl hOl hBr
            go_upto_region 9 with (fail)
            clear hc1; refine wp_region_lit ?_
            iterate 9 go_step
            refine run_slice1_B rfl (.tmp 29) rfl y1 rfl ?_
            have hcv := run_conv_one (wr.alloc (.cells #[B y1] 5)) wr.heap.size 1 y1 (by go_simp)
            obtain ⟨W1, hW1⟩ : ∃ W1, W1 = wr.alloc (.cells #[B y1] 5) := ⟨_, rfl⟩
            have HW1 : Hid (Below wd.heap.size wd W1) := by rw [hW1]; exact HI.out.2.2.alloc HI.out.2.2.size _
            rw [← hW1] at hcv ⊢; clear hW1
            go_upto_region 10 with (fail)
            clear hcv; refine wp_region_lit ?_
            iterate 9 go_step
            refine run_slice1_B rfl (.tmp 35) rfl y2 rfl ?_
            have hcv := run_conv_one (W1.alloc (.cells #[B y2] 5)) W1.heap.size 1 y2 (by go_simp)
            obtain ⟨W2, hW2⟩ : ∃ W2, W2 = W1.alloc (.cells #[B y2] 5) := ⟨_, rfl⟩
            have HW2 : Hid (Below wd.heap.size wd W2) := by rw [hW2]; exact HW1.out.alloc HW1.out.size _
            rw [← hW2] at hcv ⊢; clear hW2; go_wp2_with (fail)
            exact ⟨⟨t2 + 1, by omega, by go_num, by rw [HI.out.1], by rw [HI.out.2.1], HW2.out⟩, by simp [intOf]; omega⟩
          · obtain rfl : t2 = 64 := by omega
            rw [show ((64 : Nat) : Int) = 64 from rfl]
            have hut : u.take 64 = keyL key := by rw [List.take_of_length_le (by rw [HD.out.2.1]; omega)]; exact HD.out.1
            rw [hut]; obtain ⟨I, hI⟩ : ∃ I, I = xorL 0x36 (keyL key) := ⟨_, rfl⟩; obtain ⟨O, hO⟩ : ∃ O, O = xorL 0x5c (keyL key) := ⟨_, rfl⟩; rw [← hI, ← hO]
            have hIl : I.length = 64 := by rw [hI, xorL_length, keyL_length]
            have hOl : O.length = 64 := by rw [hO, xorL_length, keyL_length]
            obtain ⟨im, him⟩ : ∃ im, im = I ++ m := ⟨_, rfl⟩; have hml := H0.out.2.2.2
            have ha1 : ∀ w, (binOp .add 9 (Sv I) (Sv m)).run Tryd.prog w = .ok (Sv im) w := fun w => by rw [him]; exact run_add_Sv w I m (by omega)
            obtain ⟨x, hx⟩ : ∃ x, x = shaL im := ⟨_, rfl⟩
            have hxl : x.length = 32 := by rw [hx, shaL_length]
            obtain ⟨ox, hox⟩ : ∃ ox, ox = O ++ x := ⟨_, rfl⟩
            have ha2 : ∀ w, (binOp .add 9 (Sv O) (Sv x)).run Tryd.prog w = .ok (Sv ox) w := fun w => by rw [hox]; exact run_add_Sv w O x (by omega)
            have hmac : ox = macL key m := by rw [hox, hx, him, hI, hO]; rfl
            have hB0 : Below w.heap.size w wr := (HC.out.1.trans (HD.out.2.2.1.mono HC.out.1.size)).trans (hBr.mono (Nat.le_trans HC.out.1.size HD.out.2.2.1.size))
            have hr0 : wr.heap[w.heap.size]? = some (.cells Z 23 (0, 0)) := by
              have h1 := (HD.out.2.2.1.block _ (Array.getElem?_eq_some_iff.1 HC.out.2.1).1).trans HC.out.2.1; exact (hBr.block _ (Array.getElem?_eq_some_iff.1 h1).1).trans h1
            have HS1 := Lib.hid (refSum_any wr im (by rw [him, List.length_append]; omega))
            have HT1 : Hid (∀ w, Calls Tryd.prog 61 #[.agg (ShaA im)] w (Below0 w (Sv x))) := fun w => by rw [hx]; exact rhtext_any w im
            have HS2 : Hid (∀ w, Calls Tryd.prog 51 #[Sv ox] w (Below0 w (.agg (ShaA (macL key m))))) := fun w => by rw [← hmac]; exact refSum_any w ox (by rw [hox, List.length_append]; omega)
            have HB := Lib.hid (And.intro hB0 hr0); clear hI hO hIl hOl him hml hx hxl hox hmac hB0 hr0 hBr hut hlt2 ht2; go_wp2_with (fail); refine HS1.out.mono ?_; rintro e w2 ⟨rfl, hB2⟩; have H2 := Lib.hid hB2; clear hB2; dsimp only; go_wp2_with (fail); refine (HT1.out w2).mono ?_; rintro e w3 ⟨rfl, hB3⟩; have H3 := Lib.hid (H2.out.trans (hB3.mono H2.out.size)); clear hB3; dsimp only; go_wp2_with (fail); refine (HS2.out w3).mono ?_; rintro e w4 ⟨rfl, hB4⟩; have H4 := Lib.hid (H3.out.trans (hB4.mono H3.out.size)); clear hB4; obtain ⟨z, hz⟩ : ∃ z, z = ShaA (macL key m) := ⟨_, rfl⟩; rw [← hz]
            have hzs : z.size = 32 := by rw [hz, ShaA_size]
            have hi : (Tryd.prog.info? 23).map (·.size) = some z.size := by rw [hzs]; exact zero32.2
            have hz1 : z.all (·.oneCell') = true := by rw [hz]; exact Spell_one _
            have hr5 := (H4.out.block _ (Array.getElem?_eq_some_iff.1 HB.out.2).1).trans HB.out.2; have H5 := Lib.hid (And.intro hzs (And.intro hi (And.intro hz1 hr5))); have HZ5 := Lib.hid hz; clear hzs hi hz1 hr5 hz; dsimp only; go_step
            refine wpList_store_row rfl _ _ _ rfl w.heap.size z rfl rfl 23 Z H5.out.2.2.2 H5.out.2.1 (by rw [HZ.out, H5.out.1]; simp) H5.out.2.2.1 ?_
            go_wp2_with (fail); obtain ⟨hzs, hi, hz1, hr5⟩ := H5.out
            refine bodyPost_ret (v := .agg z) (results_cell_row rfl _ _ w.heap.size 23 z (0, 0) _ rfl (setRow_heap _ _ Z _ _ _ hr5) Tryd.underlying23 rfl hi) rfl ⟨by rw [HZ5.out], ?_⟩
            exact (HB.out.1.trans (H4.out.mono HB.out.1.size)).trans ⟨rfl, rfl, rfl, by simp, fun k hk => setRow_other _ _ _ _ (by omega)⟩
end Go.Proofs.YtdmnhgbdeifpbaaDoor
