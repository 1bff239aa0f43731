/-
  MeterPlays: whatever most and whatever acts it is called with, both meters answer the same, and it returns true.
-/
import Derived.Test.YtggecfecodoigaaMeterFirst
import Derived.Test.YtggecfecodoigaaMeterPair
import Derived.Test.YtggecfecodoigaaRefStNew
import Derived.Deep.CutBlock
namespace Go.Proofs.Ytggecfecodoigaa
open Go Go.RowKit

/-- A slice of numbers that came in. -/
def IntsIn (w : World) (a : Option Addr) (l : List Int) : Prop :=
  l.length = 0 ∨ ∃ ab off, a = some ⟨ab, off, none⟩ ∧ ∀ j < l.length, w.cell? ⟨ab, off + j, none⟩ = some (.int .i64 (l.getD j 0))
set_option maxRecDepth 100000 in
set_option maxHeartbeats 2000000 in
theorem meter_no (w : World) (m : Int) (hm : m < 0 ∨ 1099511627776 < m) (lv : Value) : Calls Try.prog 5 #[.int .i64 m, lv] w (fun e w' => e = .returned (.bool true) ∧ Below w.heap.size w w') := by
  have HM := Lib.hid hm
  clear hm
  go_enter Try.func5, Try.ntmps5
  go_wp2_with (fail)
  refine (mfirst_any _).mono ?_
  rintro e w1 ⟨rfl, hB1⟩
  dsimp only
  have H1 := Lib.hid hB1
  clear hB1
  go_wp2_with (fail)
  refine (snew_any w1 1 (by omega) (by omega)).mono ?_
  rintro e w2 ⟨f0, rfl, hA0, hB0⟩
  dsimp only
  have H2 := Lib.hid (H1.out.trans (hB0.mono H1.out.size))
  clear hA0 hB0
  go_wp2_with (fail)
  refine (mnew_no _ f0.b m HM.out).mono ?_
  rintro e w3 ⟨rfl, rfl⟩
  dsimp only
  go_upto_region 5 with (fail)
  by_cases h1 : m < 0
  · go_wp2_with (fail)
    refine (mraise_nil _).mono ?_
    rintro e w4 ⟨rfl, rfl⟩
    dsimp only
    go_wp2_with (fail)
    refine (mvalue_nil _).mono ?_
    rintro e w5 ⟨rfl, rfl⟩
    dsimp only
    go_wp2_with (fail)
    refine (mmost_nil _).mono ?_
    rintro e w6 ⟨rfl, rfl⟩
    dsimp only
    go_wp2_with (fail)
    refine (mfull_nil _).mono ?_
    rintro e w7 ⟨rfl, k, rfl⟩
    dsimp only
    go_wp2_with (fail)
    go_ret
    exact ⟨rfl, H2.out.trans ((below_draws (Below.refl _ _) k).mono H2.out.size)⟩
  · have h2 : 1099511627776 < m := HM.out.resolve_left h1
    go_wp2_with (fail)
    refine (mraise_nil _).mono ?_
    rintro e w4 ⟨rfl, rfl⟩
    dsimp only
    go_wp2_with (fail)
    refine (mvalue_nil _).mono ?_
    rintro e w5 ⟨rfl, rfl⟩
    dsimp only
    go_wp2_with (fail)
    refine (mmost_nil _).mono ?_
    rintro e w6 ⟨rfl, rfl⟩
    dsimp only
    go_wp2_with (fail)
    refine (mfull_nil _).mono ?_
    rintro e w7 ⟨rfl, k, rfl⟩
    dsimp only
    go_wp2_with (fail)
    go_ret
    exact ⟨rfl, H2.out.trans ((below_draws (Below.refl _ _) k).mono H2.out.size)⟩
def fourth (k : Int) : Int := (IntKind.u64.wrap k).tmod 4
theorem fourth_four (k : Int) : fourth k = 0 ∨ fourth k = 1 ∨ fourth k = 2 ∨ fourth k = 3 := by
  have h0 : 0 ≤ IntKind.u64.wrap k := by
    rw [IntKind.wrap_u64]
    omega
  unfold fourth
  rw [Int.tmod_eq_emod_of_nonneg h0]
  omega
theorem tmod5 (a : Int) : -5 < a.tmod 5 ∧ a.tmod 5 < 5 := by
  rw [Int.tmod_eq_emod]
  split <;> omega
theorem RAt.lower' {w : World} {base base' : Nat} {rf : RfF} {s : StS} (h : RAt w base rf s) (hb : base' ≤ base) : RAt w base' rf s :=
  ⟨h.ok, h.obj, own_low h.last hb, own_low h.waits hb, own_low h.count hb, Nat.le_trans hb h.low⟩
set_option maxRecDepth 100000 in
set_option maxHeartbeats 2000000 in
theorem meter_law (w : World) (m : Int) (la : Option Addr) (lc : Nat) (l : List Int) (hl : IntsIn w la l) (hol : l.length ≤ 9223372036854775807) (hr : ∀ x ∈ l, -9223372036854775808 ≤ x ∧ x ≤ 9223372036854775807) :
    Calls Try.prog 5 #[.int .i64 m, .slice la l.length lc] w (fun e w' => e = .returned (.bool true) ∧ Below w.heap.size w w') := by
  by_cases hm : m < 0 ∨ 1099511627776 < m
  · exact meter_no w m hm _
  have q1 : ¬ m < 0 := fun h => hm (.inl h)
  have q2 : ¬ 1099511627776 < m := fun h => hm (.inr h)
  have HI := Lib.hid (And.intro hl (And.intro hol (And.intro hr (And.intro q1 q2))))
  obtain ⟨N, hN⟩ : ∃ N, N = l.length := ⟨_, rfl⟩
  rw [← hN]
  have hN9 : N ≤ 9223372036854775807 := by omega
  have HN := Lib.hid hN
  clear hm hl hol hr hN
  go_enter Try.func5, Try.ntmps5
  go_wp2_with (fail)
  refine (mfirst_any _).mono ?_
  rintro e w1 ⟨rfl, hB1⟩
  dsimp only
  have H1 := Lib.hid hB1
  clear hB1
  go_wp2_with (fail)
  refine (snew_any w1 1 (by omega) (by omega)).mono ?_
  rintro e w2 ⟨f0, rfl, hA0, hB0⟩
  obtain ⟨pb, hpb⟩ : ∃ b, b = f0.b := ⟨_, rfl⟩
  rw [← hpb]
  have H2 := Lib.hid (And.intro hA0 (And.intro hB0 hpb))
  clear hA0 hB0 hpb
  dsimp only
  go_wp2_with (fail)
  refine (mnew_any w2 pb m (by have := HI.out.2.2.2.1; omega) (by have := HI.out.2.2.2.2; omega)).mono ?_
  rintro e w3 ⟨mb, rfl, hM3, hmb, hB3⟩
  have H3 := Lib.hid (And.intro (H2.out.1.far hB3) (And.intro hM3 (And.intro hmb (And.intro (H2.out.2.1.trans (hB3.mono H2.out.2.1.size)) hB3))))
  clear hM3 hmb hB3
  dsimp only
  go_wp2_with (fail)
  refine (rnew_any w3 1 (by omega) (by omega)).mono ?_
  rintro e w4 ⟨rf0, rfl, hR0, hB4⟩
  obtain ⟨rb, hrb⟩ : ∃ b, b = rf0.b := ⟨_, rfl⟩
  rw [← hrb]
  have H4 := Lib.hid (And.intro hR0 (And.intro hB4 hrb))
  clear hR0 hB4 hrb
  dsimp only
  go_upto_region 8 with (fail)
  obtain ⟨w5, hw5⟩ : ∃ W, W = w4.alloc (.cells #[.pointer (some ⟨rb, 0, none⟩), .int .i64 0, .int .i64 m] 64) := ⟨_, rfl⟩
  obtain ⟨xb, hxb⟩ : ∃ b, b = w4.heap.size := ⟨_, rfl⟩
  have hB5 : Below w4.heap.size w4 w5 := by rw [hw5]; exact (Below.refl _ w4).alloc (Nat.le_refl _) _
  have hX5 : RMet w5 xb rb 0 m := by unfold RMet; rw [hw5, hxb, heap_alloc_new]
  rw [← hw5, ← hxb]
  have h0 : MM w1 w1.heap.size pb rb mb xb m w5 0 f0 rf0 (StS.new 1) := by
    obtain ⟨hA0, hB0, hpb⟩ := H2.out
    obtain ⟨hA3, hM3, hmb, hB13, hB3⟩ := H3.out
    obtain ⟨hR0, hB4, hrb⟩ := H4.out
    have hs1 := hB0.size
    have hs3 := hB3.size
    have hs4 := hB4.size
    have hs5 := hB5.size
    have hl := hM3.lt
    have hmm := HI.out.2.2.2
    have hBo : Both w4 w1.heap.size f0 rf0 (StS.new 1) := ⟨hA3.far hB4, hR0.lower' (by omega), fun k h1 h2 => by
      have := hA3.lt h1
      have := hR0.ge h2
      omega⟩
    exact ⟨hpb.symm, hrb.symm, hBo.far hB5, rfl, (hB5.block mb (by omega)).trans ((hB4.block mb hl).trans hM3), hX5, ⟨by omega, by omega⟩, ⟨by omega, by omega, by omega⟩, (hB13.trans (hB4.mono (by omega))).trans (hB5.mono (by omega)), by omega⟩
  have H5 := Lib.hid h0
  clear hw5 hxb hB5 hX5 h0 q1 q2
  go_wp2_with (fail)
  go_loopw [62] (fun u wr => ∃ (i : Nat) (n : Int), i ≤ N ∧ i ≤ 60 ∧ u = .int .i64 (i : Int) ∧ MI w1 w1.heap.size pb rb mb xb m wr n) (fun u _ => N - (intOf u).toNat)
  case atStart => exact ⟨0, 0, Nat.zero_le _, Nat.zero_le _, rfl, _, _, _, H5.out⟩
  case round =>
    obtain ⟨i, n, hi, hi6, rfl, f, rf, s, hX⟩ := hrel
    have HX := Lib.hid hX
    clear hX
    have hBw : Below w.heap.size w wr := H1.out.trans (HX.out.below.mono H1.out.size)
    have HBw := Lib.hid hBw
    by_cases hlt : i < N
    · have hi0 : (0 : Int) ≤ (i : Int) ∧ (i : Int) < N := by omega
      obtain ⟨ab, off, rfl, hq⟩ : ∃ ab off, la = some ⟨ab, off, none⟩ ∧ w.cell? ⟨ab, off + i, none⟩ = some (.int .i64 (l.getD i 0)) := by
        rcases HI.out.1 with h | ⟨ab, off, h1, h2⟩
        · have := HN.out; omega
        · exact ⟨ab, off, h1, h2 i (by rw [← HN.out]; exact hlt)⟩
      have hc : wr.cell? ⟨ab, off + i, none⟩ = some (.int .i64 (l.getD i 0)) := (hBw.cell (p := ⟨ab, off + i, none⟩) (block_lt_of_cell hq)).trans hq
      have hxr : -9223372036854775808 ≤ l.getD i 0 ∧ l.getD i 0 ≤ 9223372036854775807 := HI.out.2.2.1 _ (by
        rw [List.getD_eq_getElem?_getD, List.getElem?_eq_getElem (by rw [← HN.out]; exact hlt)]
        exact List.getElem_mem _)
      obtain ⟨x, hx⟩ : ∃ x, x = l.getD i 0 := ⟨_, rfl⟩
      rw [← hx] at hc hxr
      have HXR := Lib.hid hxr
      clear hq hx hxr hBw
      by_cases h60 : i = 60
      · subst h60
        go_wp2_with (fail)
        go_ret
        exact ⟨rfl, HBw.out⟩
      · have h60' : ¬ (60 : Int) ≤ (i : Int) := by omega
        go_wp2_with (fail)
        refine (mvalue_any HX.out.met).mono ?_
        rintro e w9 ⟨rfl, rfl⟩
        dsimp only
        go_upto_block 2 with (fail)
        obtain ⟨r, hr⟩ : ∃ r, r = (IntKind.u64.wrap x).tmod 4 := ⟨_, rfl⟩
        rw [← hr]
        have hr4 : r = 0 ∨ r = 1 ∨ r = 2 ∨ r = 3 := by rw [hr]; exact fourth_four x
        clear hr
        go_cut [] from 74 to 104 (fun wx => ∃ n1 : Int, n ≤ n1 ∧ n1 ≤ n + 1 ∧ MI w1 w1.heap.size pb rb mb xb m wx n1)
        case first =>
          rcases hr4 with h | h | h | h
          · subst h
            obtain ⟨v, n1, Half, h1, h2, hp, hq⟩ := HX.out.raise
            have HR := Lib.hid (And.intro h1 (And.intro h2 (And.intro hp hq)))
            clear h1 h2 hp hq
            go_wp2_with (fail)
            refine HR.out.2.2.1.mono ?_
            rintro e w10 ⟨rfl, hH⟩
            dsimp only
            go_wp2_with (fail)
            refine (HR.out.2.2.2 _ hH).mono ?_
            rintro e w11 ⟨rfl, hI⟩
            have HE := Lib.hid hI
            clear hH hI
            dsimp only
            go_wp2_with (fail)
            go_meet
            case rel => exact ⟨n1, HR.out.1, HR.out.2.1, HE.out⟩
          · subst h
            obtain ⟨v, n1, Half, h1, h2, hp, hq⟩ := HX.out.raise
            have HR := Lib.hid (And.intro h1 (And.intro h2 (And.intro hp hq)))
            clear h1 h2 hp hq
            go_wp2_with (fail)
            refine HR.out.2.2.1.mono ?_
            rintro e w10 ⟨rfl, hH⟩
            dsimp only
            go_wp2_with (fail)
            refine (HR.out.2.2.2 _ hH).mono ?_
            rintro e w11 ⟨rfl, hI⟩
            have HE := Lib.hid hI
            clear hH hI
            dsimp only
            go_wp2_with (fail)
            go_meet
            case rel => exact ⟨n1, HR.out.1, HR.out.2.1, HE.out⟩
          · subst h
            go_wp2_with (fail)
            have hc5 := tmod5 (wrap64 (x.tdiv 4))
            obtain ⟨c5, hc⟩ : ∃ c, c = (wrap64 (x.tdiv 4)).tmod 5 := ⟨_, rfl⟩
            rw [← hc] at hc5 ⊢
            have hcr : -9223372036854775808 ≤ c5 ∧ c5 ≤ 9223372036854775807 := by omega
            have hlm := slimit_any HX.out.both.prog hcr
            rw [HX.out.pbe] at hlm
            have HC := Lib.hid (And.intro hcr hc)
            clear hcr hc5
            refine hlm.mono ?_
            clear hlm
            rintro e w10 ⟨rfl, hS⟩
            obtain ⟨c0, c1, f1, hI⟩ := HX.out.limit HC.out.1 hS
            have HE := Lib.hid hI
            clear hI hS
            dsimp only
            rw [hc]
            clear hc
            go_wp2_with (fail)
            all_goals go_meet
            all_goals
              have h2 := HC.out.2
              have h1 := HE.out
              refine ⟨n, Int.le_refl _, by omega, ?_⟩
              first
                | (rw [show clip c5 = -1 from by (unfold clip; split <;> omega)] at h1; exact h1)
                | (rw [show clip c5 = (wrap64 (x.tdiv 4)).tmod 5 from by (unfold clip; split <;> omega)] at h1; exact h1)
          · subst h
            obtain ⟨hp, hq⟩ := HX.out.crash x x
            have HR := Lib.hid (And.intro hp hq)
            clear hp hq
            go_wp2_with (fail)
            refine HR.out.1.mono ?_
            rintro e w10 ⟨rfl, hS⟩
            obtain ⟨c0, hq⟩ := HR.out.2 _ hS
            have HQ := Lib.hid hq
            clear hS hq
            dsimp only
            go_wp2_with (fail)
            refine HQ.out.mono ?_
            rintro e w11 ⟨rfl, hI⟩
            have HE := Lib.hid hI
            clear hI
            dsimp only
            go_wp2_with (fail)
            go_meet
            case rel => exact ⟨n, Int.le_refl _, by omega, HE.out⟩
        case rest =>
          obtain ⟨n1, hn1, hn2, f1, rf1, s1, hX1⟩ := hcut
          have c1 := hX1.rmet.cell1
          have hval := fun k => mvalue_any (show MetAt (World.drewN _ k) mb pb n1 m from hX1.met)
          have hmost := fun k => mmost_any (show MetAt (World.drewN _ k) mb pb n1 m from hX1.met)
          obtain ⟨b, hb⟩ : ∃ b, decide (n1 = m) = b := ⟨_, rfl⟩
          have hb2 : (n1 == m) = b := by rw [← hb]; rfl
          have hfull := fun k => mfull_any (show MetAt (World.drewN _ k) mb pb n1 m from hX1.met)
          rw [hb] at hfull
          have hbb : (b != b) = false := by simp
          have hr := HX.out.range
          have g1 : ¬ n1 < n := by omega
          have g2 : ¬ n + 1 < n1 := by omega
          have g3 : IntKind.i64.wrap (n + 1) = n + 1 := IntWalk.i64_in _ (by omega)
          have HX1 := Lib.hid (And.intro hX1 (And.intro hval (And.intro hmost hfull)))
          clear hX1 hval hmost hfull hb hn1 hn2 hr
          go_wp2_with (fail)
          go_quiet (first
            | (go_at_call 28; exact Calls.quiet_of_same (HX1.out.2.1 _))
            | (go_at_call 29; exact Calls.quiet_of_same (HX1.out.2.2.1 _))
            | (go_at_call 30; exact Calls.quiet_of (HX1.out.2.2.2 _)))
          go_wp2_with (fail)
          exact ⟨⟨i + 1, n1, by omega, by omega, by go_num, _, _, _, HX1.out.1.far (below_draws (Below.refl _ _) _)⟩, by simp [intOf]; omega⟩
    · obtain rfl : i = N := by omega
      go_wp2_with (fail)
      go_ret
      exact ⟨rfl, HBw.out⟩
end Go.Proofs.Ytggecfecodoigaa
