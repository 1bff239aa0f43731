/-
  The contract of the reference's Joins (layer 9); windows one by one in a list.
  The contract of the reference's Settled (layer 9).
  Slices of windows: cut, empty, laid in place.
  The contracts of package sess's meet, Joins, apart and whole.
  Cells of windows in a row of their own, laid one by one; two windows of a list joined into one.
-/
import Derived.Test.YtbfioekbahcicaaSessPure
import Derived.Test.YtbfioekbahcicaaRefWCmp
import Derived.Test.YtbfioekbahcicaaRefWSame
import Derived.Test.YtbfioekbahcicaaSkip
import Derived.Test.YtbfioekbahcicaaWinsCmp
import Derived.Test.YtbfioekbahcicaaWinsRight
namespace Go.Proofs.Ytbfioekbahcicaa
open Go Go.RowKit

/-- Two windows boxed, one behind the other. -/
theorem two_boxes (w : World) (x y : WindowL) :
    Below w.heap.size w ((w.alloc (.cells x.cells 24)).alloc (.cells y.cells 24)) ∧
    ∀ w', Below ((w.alloc (.cells x.cells 24)).alloc (.cells y.cells 24)).heap.size ((w.alloc (.cells x.cells 24)).alloc (.cells y.cells 24)) w' →
      D3 w' w.heap.size x.key x.lo x.hi ∧ D3 w' (w.heap.size + 1) y.key y.lo y.hi := by
  have hs := heap_alloc_size w (.cells x.cells 24)
  have h1 : RowW (w.alloc (.cells x.cells 24)) w.heap.size x := heap_alloc_new w _
  have h2 := heap_alloc_new (w.alloc (.cells x.cells 24)) (.cells y.cells 24)
  rw [hs] at h2
  have b1 : Below w.heap.size w (w.alloc (.cells x.cells 24)) := (Below.refl _ w).alloc (Nat.le_refl _) _
  have b2 : Below (w.alloc (.cells x.cells 24)).heap.size (w.alloc (.cells x.cells 24)) ((w.alloc (.cells x.cells 24)).alloc (.cells y.cells 24)) := (Below.refl _ _).alloc (Nat.le_refl _) _
  exact ⟨b1.trans (b2.mono b1.size), fun w' h => ⟨((h1.below b2).below h).d3, (RowW.below (x := y) h2 h).d3⟩⟩
set_option maxRecDepth 100000 in
theorem rsJoins_any (w : World) (x y : WindowL) (hx : x.key.length ≤ 1000000) (hy : y.key.length ≤ 1000000) :
    Calls Try.prog 9 #[.agg x.cells, .agg y.cells] w (Below0 w (.bool (joinsB x y))) := by
  obtain ⟨r, hr⟩ : ∃ r, r = joinsB x y := ⟨_, rfl⟩
  rw [← hr]
  obtain ⟨w1, hw1⟩ : ∃ W, W = (w.alloc (.cells x.cells 24)).alloc (.cells y.cells 24) := ⟨_, rfl⟩
  obtain ⟨xb, hxb⟩ : ∃ b, b = w.heap.size := ⟨_, rfl⟩
  obtain ⟨yb, hyb⟩ : ∃ b, b = w.heap.size + 1 := ⟨_, rfl⟩
  have H1 : Hid (Below w.heap.size w w1) := by rw [hw1]; exact Lib.hid (two_boxes w x y).1
  have HD : Hid (∀ w', Below w1.heap.size w1 w' → D3 w' xb x.key x.lo x.hi ∧ D3 w' yb y.key y.lo y.hi) := by
    rw [hw1, hxb, hyb]
    exact Lib.hid (two_boxes w x y).2
  obtain ⟨ra, hra⟩ : ∃ r, r = x.rightB := ⟨_, rfl⟩
  obtain ⟨rb, hrb⟩ : ∃ r, r = y.rightB := ⟨_, rfl⟩
  have HRa : Hid (∀ w', Calls Try.prog 13 #[.agg x.cells] w' (Below0 w' (.bool ra))) := by
    rw [hra]
    exact Lib.hid (fun w' => rwRight_any w' x hx)
  have HRb : Hid (∀ w', Calls Try.prog 13 #[.agg y.cells] w' (Below0 w' (.bool rb))) := by
    rw [hrb]
    exact Lib.hid (fun w' => rwRight_any w' y hy)
  unfold joinsB at hr
  rw [← hra, ← hrb] at hr
  clear hra hrb hx hy
  obtain ⟨xk, xl, xh⟩ := x
  obtain ⟨yk, yl, yh⟩ := y
  unfold WindowL.cells at hw1 HRa HRb ⊢
  simp only at HD hr
  have hsz : (w.alloc (.cells #[Sv xk, .int .i64 xl, .int .i64 xh] 24)).heap.size = w.heap.size + 1 := heap_alloc_size w _
  obtain ⟨⟨c0, c1, c2⟩, d0, d1, d2⟩ := HD.out w1 (Below.refl _ _)
  obtain ⟨ke, hke⟩ : ∃ b, b = decide (xk = yk) := ⟨_, rfl⟩
  have hkeq : ∀ w, (binOp .eql 9 (Sv xk) (Sv yk)).run Try.prog w = .ok (.bool ke) w := fun w => by rw [hke]; exact run_eql_Sv w xk yk
  have Hr := Lib.hid (And.intro hr hke)
  clear hr hke
  cases ra with
  | false =>
    obtain rfl : r = false := by rw [Hr.out.1]; rfl
    go_enter Try.func9, Try.ntmps9
    go_upto_region 1 with (fail)
    rw [← hw1, ← hyb, ← hxb]
    clear hw1 hxb hyb
    go_wp2_with (fail)
    refine (HRa.out w1).mono ?_
    rintro e w3 ⟨rfl, hB⟩
    have HB := Lib.hid (H1.out.trans (hB.mono H1.out.size))
    clear hB c0 c1 c2 d0 d1 d2
    dsimp only
    go_wp2_with (fail)
    go_ret
    exact ⟨rfl, HB.out⟩
  | true =>
  cases rb with
  | false =>
    obtain rfl : r = false := by rw [Hr.out.1]; rfl
    go_enter Try.func9, Try.ntmps9
    go_upto_region 1 with (fail)
    rw [← hw1, ← hyb, ← hxb]
    clear hw1 hxb hyb
    go_wp2_with (fail)
    refine (HRa.out w1).mono ?_
    rintro e w3 ⟨rfl, hB⟩
    have HB := Lib.hid hB
    clear hB c0 c1 c2 d0 d1 d2
    obtain ⟨⟨c0, c1, c2⟩, d0, d1, d2⟩ := HD.out w3 HB.out
    dsimp only
    go_wp2_with (fail)
    refine (HRb.out w3).mono ?_
    rintro e w4 ⟨rfl, hB⟩
    have HB4 := Lib.hid (H1.out.trans ((HB.out.trans (hB.mono HB.out.size)).mono H1.out.size))
    clear hB c0 c1 c2 d0 d1 d2
    dsimp only
    go_wp2_with (fail)
    go_ret
    exact ⟨rfl, HB4.out⟩
  | true =>
    go_enter Try.func9, Try.ntmps9
    go_upto_region 1 with (fail)
    rw [← hw1, ← hyb, ← hxb]
    clear hw1 hxb hyb
    go_wp2_with (fail)
    refine (HRa.out w1).mono ?_
    rintro e w3 ⟨rfl, hB⟩
    have HB := Lib.hid hB
    clear hB c0 c1 c2 d0 d1 d2
    obtain ⟨⟨c0, c1, c2⟩, d0, d1, d2⟩ := HD.out w3 HB.out
    dsimp only
    go_wp2_with (fail)
    refine (HRb.out w3).mono ?_
    rintro e w4 ⟨rfl, hB⟩
    have HB3 := Lib.hid (HB.out.trans (hB.mono HB.out.size))
    have HB4 := Lib.hid (H1.out.trans (HB3.out.mono H1.out.size))
    clear hB c0 c1 c2 d0 d1 d2
    obtain ⟨⟨c0, c1, c2⟩, d0, d1, d2⟩ := HD.out w4 HB3.out
    dsimp only
    cases ke with
    | false =>
      obtain rfl : r = false := by
        rw [Hr.out.1, Bool.true_and, Bool.true_and]
        refine decide_eq_false fun h => ?_
        have := of_decide_eq_false Hr.out.2.symm
        exact this h.1
      go_wp2_with (fail)
      go_ret
      exact ⟨rfl, HB4.out⟩
    | true =>
      have hk : xk = yk := of_decide_eq_true Hr.out.2.symm
      have hr' : r = decide (xl ≤ yh ∧ yl ≤ xh) := by
        rw [Hr.out.1, Bool.true_and, Bool.true_and]
        exact decide_eq_decide.2 ⟨fun h => h.2, fun h => ⟨hk, h⟩⟩
      clear hk
      by_cases h1 : xl ≤ yh
      · have e1 : decide (yh < xl) = false := decide_eq_false (by omega)
        by_cases h2 : yl ≤ xh
        · have e2 : decide (xh < yl) = false := decide_eq_false (by omega)
          obtain rfl : r = true := by rw [hr']; exact decide_eq_true ⟨h1, h2⟩
          clear hr' h1 h2
          go_wp2_with (fail)
          go_ret
          exact ⟨rfl, HB4.out⟩
        · have e2 : xh < yl := by omega
          obtain rfl : r = false := by rw [hr']; exact decide_eq_false (fun h => h2 h.2)
          clear hr' h1 h2
          go_wp2_with (fail)
          go_ret
          exact ⟨rfl, HB4.out⟩
      · have e1 : yh < xl := by omega
        obtain rfl : r = false := by rw [hr']; exact decide_eq_false (fun h => h1 h.1)
        clear hr' h1
        go_wp2_with (fail)
        go_ret
        exact ⟨rfl, HB4.out⟩
end Go.Proofs.Ytbfioekbahcicaa
namespace Go.Proofs.Ytbfioekbahcicaa
open Go Go.RowKit

def atW (l : List WindowL) (i : Nat) : WindowL := l.getD i zeroW
theorem atW_some {l : List WindowL} {i : Nat} {x : WindowL} (h : l[i]? = some x) : atW l i = x := by
  rw [atW, List.getD_eq_getElem?_getD, h, Option.getD_some]
/-- Two places of a list that don't fit. -/
def badW (l : List WindowL) (i k : Nat) : Bool := !decide (k = i) && (joinsB (atW l i) (atW l k) || (decide (k < i) != decide (placeW (atW l k) (atW l i) < 0)))
theorem settled_iff (l : List WindowL) : Settled l ↔ ∀ i < l.length, (atW l i).rightB = true ∧ ∀ k < l.length, badW l i k = false := by
  have hat : ∀ i (h : i < l.length), atW l i = l[i] := fun i h => atW_some (List.getElem?_eq_getElem h)
  constructor
  · intro h i hi
    refine ⟨by rw [hat i hi]; exact h.1 _ (List.getElem_mem _), fun k hk => ?_⟩
    have hp := List.pairwise_iff_getElem.1 h.2
    unfold badW
    rw [hat i hi, hat k hk]
    rcases Nat.lt_trichotomy k i with hki | rfl | hki
    · obtain ⟨p1, p2⟩ := hp k i hk hi hki
      rw [decide_eq_false (by omega), joinsB_symm, p2, decide_eq_true hki, decide_eq_true ((placeW_neg _ _).2 p1)]
      rfl
    · simp
    · obtain ⟨p1, p2⟩ := hp i k hi hk hki
      have : ¬ placeW l[k] l[i] < 0 := fun h' => p1.asymm ((placeW_neg _ _).1 h')
      rw [decide_eq_false (by omega), p2, decide_eq_false (show ¬ k < i by omega), decide_eq_false this]
      rfl
  · intro h
    refine ⟨fun x hx => ?_, List.pairwise_iff_getElem.2 fun i j hi hj hij => ?_⟩
    · obtain ⟨i, hi, rfl⟩ := List.getElem_of_mem hx
      have := (h i hi).1
      rwa [hat i hi] at this
    · have hb := (h j hj).2 i hi
      unfold badW at hb
      rw [hat i hi, hat j hj, decide_eq_false (by omega), decide_eq_true hij, Bool.not_false, Bool.true_and, Bool.or_eq_false_iff] at hb
      obtain ⟨b1, b2⟩ := hb
      rw [joinsB_symm]
      refine ⟨(placeW_neg _ _).1 ?_, b1⟩
      by_cases h' : placeW l[i] l[j] < 0
      · exact h'
      · rw [decide_eq_false h'] at b2
        cases b2
theorem settled_no {l : List WindowL} {i k : Nat} (hi : i < l.length) (hk : k < l.length) (h : badW l i k = true) : decide (Settled l) = false := by
  refine decide_eq_false fun hs => ?_
  have := ((settled_iff l).1 hs i hi).2 k hk
  rw [h] at this
  cases this
theorem settled_wrong {l : List WindowL} {i : Nat} (hi : i < l.length) (h : (atW l i).rightB = false) : decide (Settled l) = false := by
  refine decide_eq_false fun hs => ?_
  have := ((settled_iff l).1 hs i hi).1
  rw [h] at this
  cases this
def St1 (w : World) (l : List WindowL) (v : Value) (wr : World) : Prop := ∃ i : Nat, i ≤ l.length ∧ v = .int .i64 (i : Int) ∧ (∀ j < i, (atW l j).rightB = true ∧ ∀ k < l.length, badW l j k = false) ∧ Below w.heap.size w wr
def St2 (w : World) (l : List WindowL) (i : Nat) (v : Value) (wr : World) : Prop := ∃ k : Nat, k ≤ l.length ∧ v = .int .i64 (k : Int) ∧ (∀ j < k, badW l i j = false) ∧ Below w.heap.size w wr
set_option maxRecDepth 100000 in
set_option maxHeartbeats 1000000 in
theorem rsSettled_any (w : World) (sa : Option Addr) (sc : Nat) (l : List WindowL) (hA : WinsAt w sa l) (hk : ∀ x ∈ l, x.key.length ≤ 1000000) (hn : l.length ≤ 1000000) :
    Calls Try.prog 10 #[.slice sa l.length sc] w (Below0 w (.bool (decide (Settled l)))) := by
  obtain ⟨n, hN⟩ : ∃ n, n = l.length := ⟨_, rfl⟩
  obtain ⟨P, hP⟩ : ∃ P, P = Below0 w (.bool (decide (Settled l))) := ⟨_, rfl⟩
  rw [← hP, ← hN]
  have HN : Hid (n = l.length ∧ n ≤ 1000000) := Lib.hid ⟨hN, by omega⟩
  have hn6 : n ≤ 1000000 := by omega
  have HA := Lib.hid hA
  have HK : Hid (∀ (i : Nat) (x : WindowL), l[i]? = some x → x.key.length ≤ 1000000) := Lib.hid (fun i x h => hk x (List.mem_of_getElem? h))
  have HNo : Hid (∀ wz, decide (Settled l) = false → Below w.heap.size w wz → P (.returned (.bool false)) wz) := Lib.hid (fun wz h hB => by rw [hP, h]; exact ⟨rfl, hB⟩)
  have HYes : Hid (∀ wz, (∀ j < n, (atW l j).rightB = true ∧ ∀ k < n, badW l j k = false) → Below w.heap.size w wz → P (.returned (.bool true)) wz) := Lib.hid (fun wz h hB => by
    rw [hP, decide_eq_true ((settled_iff l).2 (by rw [hN] at h; exact h))]
    exact ⟨rfl, hB⟩)
  clear hN hA hk hn hP
  go_enter Try.func10, Try.ntmps10
  go_wp2_with (fail)
  go_loopw [9] (St1 w l) (fun v _ => n - (intOf v).toNat)
  case atStart => exact ⟨0, Nat.zero_le _, rfl, fun j h => absurd h (Nat.not_lt_zero _), Below.refl _ _⟩
  case round =>
    obtain ⟨i, hi, rfl, hok, hB⟩ := hrel
    rw [← HN.out.1] at hi hok
    have HO := Lib.hid (And.intro hok hB)
    clear hok hB
    by_cases hlt : i < n
    · have hi0 : (0 : Int) ≤ (i : Int) ∧ (i : Int) < (n : Int) := by omega
      obtain ⟨x, pa, oa, hx, hsa, c0, c1, c2⟩ := (HA.out.below HO.out.2).get (t := i) (by rw [← HN.out.1]; exact hlt)
      subst hsa
      have HXl := Lib.hid (And.intro (HK.out i x hx) (And.intro (atW_some hx) (And.intro hlt hi)))
      obtain ⟨xk, xl, xh⟩ := x
      simp only at c0 c1 c2
      clear hx hi hlt
      go_upto_region 3 with (fail)
      refine wp_region_lit ?_
      iterate 15 go_step
      refine wpList_store_row rfl _ _ _ rfl wr.heap.size (WindowL.mk xk xl xh).cells rfl rfl 24 zeroW.cells (heap_alloc_new wr _) window_size rfl (window_one _) ?_
      obtain ⟨wx, hwx⟩ : ∃ W, W = (wr.alloc (Obj.cells #[.string ⟨#[]⟩, .int .i64 0, .int .i64 0] 24)).setRow wr.heap.size (WindowL.mk xk xl xh).cells := ⟨_, rfl⟩
      obtain ⟨xb, hxb⟩ : ∃ b, b = wr.heap.size := ⟨_, rfl⟩
      have Hwx : Hid (RowW wx xb (WindowL.mk xk xl xh) ∧ Below wr.heap.size wr wx) := by
        obtain ⟨k1, k2⟩ := stored_window wr (WindowL.mk xk xl xh)
        rw [hwx, hxb]
        exact Lib.hid ⟨k1, k2⟩
      rw [← hwx, ← hxb]
      clear hwx hxb
      clear c0 c1 c2
      obtain ⟨r, hr⟩ : ∃ r, r = (WindowL.mk xk xl xh).rightB := ⟨_, rfl⟩
      have HR : Hid (∀ w', Calls Try.prog 13 #[.agg #[Sv xk, .int .i64 xl, .int .i64 xh]] w' (Below0 w' (.bool r))) := by
        rw [hr]
        exact Lib.hid (fun w' => rwRight_any w' ⟨xk, xl, xh⟩ HXl.out.1)
      have Hr := Lib.hid hr
      have HBx : Hid (Below w.heap.size w wx) := Lib.hid (HO.out.2.trans (Hwx.out.2.mono HO.out.2.size))
      clear hr
      obtain ⟨d0, d1, d2⟩ := Hwx.out.1.d3
      simp only at d0 d1 d2
      cases r with
      | false =>
        go_wp2_with (fail)
        refine (HR.out wx).mono ?_
        rintro e w2 ⟨rfl, hB⟩
        have HB := Lib.hid (HBx.out.trans (hB.mono HBx.out.size))
        clear hB d0 d1 d2
        dsimp only
        go_wp2_with (fail)
        exact HNo.out _ (settled_wrong (i := i) (by rw [← HN.out.1]; exact HXl.out.2.2.1) (by rw [HXl.out.2.1]; exact Hr.out.symm)) HB.out
      | true =>
        go_wp2_with (fail)
        refine (HR.out wx).mono ?_
        rintro e w2 ⟨rfl, hB⟩
        have HB2 : Hid (Below w.heap.size w w2 ∧ RowW w2 xb ⟨xk, xl, xh⟩) := Lib.hid ⟨HBx.out.trans (hB.mono HBx.out.size), Hwx.out.1.below hB⟩
        clear hB d0 d1 d2
        dsimp only
        go_wp2_with (fail)
        go_loopw [19] (St2 w2 l i) (fun v _ => n - (intOf v).toNat)
        case atStart => exact ⟨0, Nat.zero_le _, rfl, fun j h => absurd h (Nat.not_lt_zero _), Below.refl _ _⟩
        case round =>
          obtain ⟨k, hk, rfl, hok, hB⟩ := hrel
          rw [← HN.out.1] at hk
          have HO2 := Lib.hid (And.intro hok hB)
          clear hok hB
          by_cases hlt : k < n
          · have hk0 : (0 : Int) ≤ (k : Int) ∧ (k : Int) < (n : Int) := by omega
            obtain ⟨y, pb, ob, hy, hsa, c0, c1, c2⟩ := (HA.out.below (HB2.out.1.trans (HO2.out.2.mono HB2.out.1.size))).get (t := k) (by rw [← HN.out.1]; exact hlt)
            obtain ⟨rfl, rfl⟩ : pb = pa ∧ ob = oa := by
              simp only [Option.some.injEq, Addr.mk.injEq, and_true] at hsa
              exact ⟨hsa.1.symm, hsa.2.symm⟩
            have HYl := Lib.hid (And.intro (HK.out k y hy) (And.intro (atW_some hy) (And.intro hlt hk)))
            obtain ⟨yk, yl, yh⟩ := y
            simp only at c0 c1 c2
            clear hy hk hlt hsa
            go_upto_region 8 with (fail)
            refine wp_region_lit ?_
            iterate 15 go_step
            refine wpList_store_row rfl _ _ _ rfl wr.heap.size (WindowL.mk yk yl yh).cells rfl rfl 24 zeroW.cells (heap_alloc_new wr _) window_size rfl (window_one _) ?_
            obtain ⟨wy, hwy⟩ : ∃ W, W = (wr.alloc (Obj.cells #[.string ⟨#[]⟩, .int .i64 0, .int .i64 0] 24)).setRow wr.heap.size (WindowL.mk yk yl yh).cells := ⟨_, rfl⟩
            obtain ⟨yb, hyb⟩ : ∃ b, b = wr.heap.size := ⟨_, rfl⟩
            have Hwy : Hid (RowW wy yb (WindowL.mk yk yl yh) ∧ Below wr.heap.size wr wy) := by
              obtain ⟨k1, k2⟩ := stored_window wr (WindowL.mk yk yl yh)
              rw [hwy, hyb]
              exact Lib.hid ⟨k1, k2⟩
            rw [← hwy, ← hyb]
            clear hwy hyb
            clear c0 c1 c2
            have HBy : Hid (Below w2.heap.size w2 wy) := Lib.hid (HO2.out.2.trans (Hwy.out.2.mono HO2.out.2.size))
            have HD : Hid (∀ w', Below wy.heap.size wy w' → D3 w' xb xk xl xh ∧ D3 w' yb yk yl yh) := Lib.hid (fun w' h => ⟨((HB2.out.2.below HBy.out).below h).d3, (Hwy.out.1.below h).d3⟩)
            have HZ : Hid (∀ w', Below wy.heap.size wy w' → Below w.heap.size w w') := Lib.hid (fun w' h => HB2.out.1.trans ((HBy.out.trans (h.mono HBy.out.size)).mono HB2.out.1.size))
            have HNx : Hid (∀ w', Below wy.heap.size wy w' → badW l i k = false → St2 w2 l i (.int .i64 ((k : Int) + 1)) w') := by
              refine Lib.hid (fun w' h hb => ⟨k + 1, ?_, rfl, fun j hj => ?_, HBy.out.trans (h.mono HBy.out.size)⟩)
              · have := HN.out.1
                have := HYl.out.2.2.1
                omega
              · by_cases e : j = k
                · rw [e]
                  exact hb
                · exact HO2.out.1 j (by omega)
            have HBd : Hid (∀ wz, badW l i k = true → Below w.heap.size w wz → P (.returned (.bool false)) wz) := Lib.hid (fun wz h hB => HNo.out wz (settled_no (by rw [← HN.out.1]; exact HXl.out.2.2.1) (by rw [← HN.out.1]; exact HYl.out.2.2.1) h) hB)
            have hbd : badW l i k = (!decide (k = i) && (joinsB ⟨xk, xl, xh⟩ ⟨yk, yl, yh⟩ || (decide (k < i) != decide (placeW ⟨yk, yl, yh⟩ ⟨xk, xl, xh⟩ < 0)))) := by
              rw [badW, HXl.out.2.1, HYl.out.2.1]
            have hkn : (k : Int) < (n : Int) ∧ (n : Int) ≤ 1000000 := by
              have := HN.out.2
              omega
            by_cases hki : k = i
            · have e1 : ((k : Int) != (i : Int)) = false := by rw [hki]; simp
              have e2 : ((k : Int) == (i : Int)) = true := by rw [hki]; simp
              have HG : Hid (badW l i k = false) := by
                rw [hbd, decide_eq_true hki]
                exact Lib.hid rfl
              clear hbd hki
              go_wp2_with (fail)
              go_roundw
              case rel => exact HNx.out _ (Below.refl _ _) HG.out
              case measure => simp [intOf]; omega
            · have e1 : ((k : Int) != (i : Int)) = true := by simpa using fun h : (k : Int) = (i : Int) => hki (by omega)
              have e2 : ((k : Int) == (i : Int)) = false := by simpa using fun h : (k : Int) = (i : Int) => hki (by omega)
              obtain ⟨jb, hjb⟩ : ∃ b, b = joinsB ⟨xk, xl, xh⟩ ⟨yk, yl, yh⟩ := ⟨_, rfl⟩
              have HJ : Hid (∀ w', Calls Try.prog 9 #[.agg #[Sv xk, .int .i64 xl, .int .i64 xh], .agg #[Sv yk, .int .i64 yl, .int .i64 yh]] w' (Below0 w' (.bool jb))) := by
                rw [hjb]
                exact Lib.hid (fun w' => rsJoins_any w' ⟨xk, xl, xh⟩ ⟨yk, yl, yh⟩ HXl.out.1 HYl.out.1)
              obtain ⟨p, hp⟩ : ∃ p, p = placeW ⟨yk, yl, yh⟩ ⟨xk, xl, xh⟩ := ⟨_, rfl⟩
              have HPl : Hid (∀ w', Calls Try.prog 21 #[.agg #[Sv yk, .int .i64 yl, .int .i64 yh], .agg #[Sv xk, .int .i64 xl, .int .i64 xh]] w' (Below0 w' (.int .i64 p))) := by
                rw [hp]
                exact Lib.hid (fun w' => rwPlace_any w' ⟨yk, yl, yh⟩ ⟨xk, xl, xh⟩)
              rw [← hjb, ← hp, decide_eq_false hki, Bool.not_false, Bool.true_and] at hbd
              have Hbd := Lib.hid hbd
              clear hjb hp hbd hki
              obtain ⟨⟨c0, c1, c2⟩, d0, d1, d2⟩ := HD.out wy (Below.refl _ _)
              cases jb with
              | true =>
                go_wp2_with (fail)
                refine (HJ.out wy).mono ?_
                rintro e w4 ⟨rfl, hB⟩
                have H4 := Lib.hid (HZ.out w4 hB)
                clear hB c0 c1 c2 d0 d1 d2
                dsimp only
                go_wp2_with (fail)
                exact HBd.out _ Hbd.out H4.out
              | false =>
                rw [Bool.false_or] at Hbd
                go_wp2_with (fail)
                refine (HJ.out wy).mono ?_
                rintro e w4 ⟨rfl, hB⟩
                have H4 := Lib.hid hB
                clear hB c0 c1 c2 d0 d1 d2
                obtain ⟨⟨c0, c1, c2⟩, d0, d1, d2⟩ := HD.out w4 H4.out
                dsimp only
                by_cases h1 : k < i
                · have f1 : (k : Int) < (i : Int) := by omega
                  rw [decide_eq_true h1] at Hbd
                  clear h1
                  by_cases h2 : p < 0
                  · rw [decide_eq_true h2] at Hbd
                    go_wp2_with (fail)
                    refine (HPl.out w4).mono ?_
                    rintro e w5 ⟨rfl, hB⟩
                    have H5 := Lib.hid (H4.out.trans (hB.mono H4.out.size))
                    clear hB c0 c1 c2 d0 d1 d2
                    dsimp only
                    go_wp2_with (fail)
                    go_roundw
                    case rel => exact HNx.out _ H5.out Hbd.out
                    case measure => simp [intOf]; omega
                  · have f2 : decide (p < 0) = false := decide_eq_false h2
                    rw [f2] at Hbd
                    go_wp2_with (fail)
                    refine (HPl.out w4).mono ?_
                    rintro e w5 ⟨rfl, hB⟩
                    have H5 := Lib.hid (H4.out.trans (hB.mono H4.out.size))
                    clear hB c0 c1 c2 d0 d1 d2
                    dsimp only
                    go_wp2_with (fail)
                    exact HBd.out _ Hbd.out (HZ.out _ H5.out)
                · have f1 : decide ((k : Int) < (i : Int)) = false := decide_eq_false (by omega)
                  have f0 : decide (k < i) = false := decide_eq_false h1
                  have f3 : ¬ (k : Int) < (i : Int) := by omega
                  rw [decide_eq_false h1] at Hbd
                  clear h1
                  by_cases h2 : p < 0
                  · rw [decide_eq_true h2] at Hbd
                    go_wp2_with (fail)
                    refine (HPl.out w4).mono ?_
                    rintro e w5 ⟨rfl, hB⟩
                    have H5 := Lib.hid (H4.out.trans (hB.mono H4.out.size))
                    clear hB c0 c1 c2 d0 d1 d2
                    dsimp only
                    go_wp2_with (fail)
                    exact HBd.out _ Hbd.out (HZ.out _ H5.out)
                  · have f2 : decide (p < 0) = false := decide_eq_false h2
                    rw [f2] at Hbd
                    go_wp2_with (fail)
                    refine (HPl.out w4).mono ?_
                    rintro e w5 ⟨rfl, hB⟩
                    have H5 := Lib.hid (H4.out.trans (hB.mono H4.out.size))
                    clear hB c0 c1 c2 d0 d1 d2
                    dsimp only
                    go_wp2_with (fail)
                    go_roundw
                    case rel => exact HNx.out _ H5.out Hbd.out
                    case measure => simp [intOf]; omega
          · obtain rfl : k = n := by omega
            have HR2 : Hid (St1 w l (.int .i64 ((i : Int) + 1)) wr) := by
              refine Lib.hid ⟨i + 1, ?_, rfl, fun j hj => ?_, HB2.out.1.trans (HO2.out.2.mono HB2.out.1.size)⟩
              · have := HN.out.1
                have := HXl.out.2.2.1
                omega
              · by_cases e : j = i
                · rw [e]
                  exact ⟨by rw [HXl.out.2.1]; exact Hr.out.symm, fun q hq => HO2.out.1 q (by have := HN.out.1; omega)⟩
                · have h9 := HO.out.1 j (by omega)
                  rw [HN.out.1] at h9
                  exact h9
            have hkn : (i : Int) < (k : Int) ∧ (k : Int) ≤ 1000000 := by
              have := HN.out.2
              omega
            clear hlt hk
            go_wp2_with (fail)
            go_roundw
            case rel => exact HR2.out
            case measure => simp [intOf]; omega
    · obtain rfl : i = n := by omega
      have HZ : Hid (P (.returned (.bool true)) wr) := HYes.out _ HO.out.1 HO.out.2
      clear hlt hi
      go_wp2_with (fail)
      exact HZ.out
end Go.Proofs.Ytbfioekbahcicaa
namespace Go.Proofs.Ytbfioekbahcicaa
open Go Go.RowKit

theorem WinsAt.take {w : World} {a : Option Addr} {l : List WindowL} (h : WinsAt w a l) (i : Nat) : WinsAt w a (l.take i) := by
  rcases h with h | ⟨b, o, h, h'⟩
  · left
    rw [h, List.take_nil]
  · right
    refine ⟨b, o, h, fun j x hx => h' j x ?_⟩
    rw [List.getElem?_take] at hx
    split at hx
    · exact hx
    · cases hx
theorem WinsAt.cut {w : World} {b o : Nat} {l : List WindowL} (h : WinsAt w (some ⟨b, o, none⟩) l) (i : Nat) : WinsAt w (some ⟨b, o + i * 3, none⟩) (l.drop i) := by
  rcases h with h | ⟨b', o', h, h'⟩
  · left
    rw [h, List.drop_nil]
  · right
    cases h
    refine ⟨b, o + i * 3, rfl, fun j x hx k v hv => ?_⟩
    rw [List.getElem?_drop] at hx
    have := h' (i + j) x hx k v hv
    rwa [show o + (i + j) * 3 + k = o + i * 3 + j * 3 + k by omega] at this
theorem addr_add0 (p : Addr) : p.add 0 = p := rfl
/-- 'l[:i]'. -/
theorem run_sliceW_h (w : World) (a : Option Addr) (n c i : Nat) (h : i ≤ c) :
    (Instr.slice 22 (.slice a n c) none (some (.int .i64 (i : Int))) none).run Try.prog w = .ok (.slice a i c) w := by
  have hz : ∀ w, (sizeOf 24).run Try.prog w = .ok 3 w := Try.sizeOf24
  cases a <;> simp [Instr.slice, run_underlying Try.underlying22, Instr.sliceBounds, run_sliceBound, hz, h, addr_add0]
/-- 'l[i:]'. -/
theorem run_sliceW_l (w0 : World) (a : Option Addr) (l : List WindowL) (c i : Nat) (hA : WinsAt w0 a l) (h : i ≤ l.length) (hc : l.length ≤ c) :
    ∃ a', (∀ w, (Instr.slice 22 (.slice a l.length c) (some (.int .i64 (i : Int))) none none).run Try.prog w = .ok (.slice a' (l.length - i) (c - i)) w) ∧ WinsAt w0 a' (l.drop i) := by
  have hz : ∀ w, (sizeOf 24).run Try.prog w = .ok 3 w := Try.sizeOf24
  cases a with
  | none =>
    have hl : l = [] := by
      rcases hA with h | ⟨_, _, h, _⟩
      · exact h
      · cases h
    subst hl
    obtain rfl : i = 0 := by simpa using h
    exact ⟨none, fun w => by simp [Instr.slice, run_underlying Try.underlying22, Instr.sliceBounds, run_sliceBound, hz], .inl rfl⟩
  | some p =>
    obtain ⟨b, o, s⟩ := p
    by_cases e : c = i
    · refine ⟨some ⟨b, o, s⟩, fun w => ?_, .inl (List.drop_eq_nil_of_le (by omega))⟩
      subst e
      simp [Instr.slice, run_underlying Try.underlying22, Instr.sliceBounds, run_sliceBound, hz, h]
    · by_cases hn : l.length = 0
      · have hl : l = [] := List.eq_nil_of_length_eq_zero hn
        subst hl
        obtain rfl : i = 0 := by simpa using h
        exact ⟨some ⟨b, o, s⟩, fun w => by simp [Instr.slice, run_underlying Try.underlying22, Instr.sliceBounds, run_sliceBound, hz, addr_add0], .inl rfl⟩
      · obtain rfl : s = none := by
          rcases hA with h | ⟨_, _, h, _⟩
          · rw [h] at hn
            exact absurd rfl hn
          · cases h
            rfl
        refine ⟨some ⟨b, o + i * 3, none⟩, fun w => ?_, hA.cut i⟩
        simp [Instr.slice, run_underlying Try.underlying22, Instr.sliceBounds, run_sliceBound, hz, h, addr_add, e]
theorem OwnW.mono {w : World} {base base' : Nat} {v : Value} {l : List WindowL} (h : OwnW w base v l) (hb : base' ≤ base) : OwnW w base' v l := by
  refine ⟨h.1, ?_⟩
  rcases h.2 with h | ⟨g, c, cur, h1, h2, r⟩
  · exact .inl h
  · exact .inr ⟨g, c, cur, h1, Nat.le_trans hb h2, r⟩
theorem OwnW.new0 (w : World) (base : Nat) (hb : base ≤ w.heap.size) : OwnW (w.alloc (.cells #[] 24)) base (.slice (some ⟨w.heap.size, 0, none⟩) 0 0) [] :=
  ⟨rfl, .inr ⟨w.heap.size, 0, #[], rfl, hb, heap_alloc_new w _, Nat.le_refl _, by decide, rfl, rfl⟩⟩
/-- A call's answer: windows in a row of its own. -/
def WinsNew (w : World) (l : List WindowL) (e : Ending) (w' : World) : Prop := ∃ v, e = .returned v ∧ OwnW w' w.heap.size v l ∧ Below w.heap.size w w'
theorem WinsNew.some {w : World} {l : List WindowL} {e : Ending} {w' : World} (h : WinsNew w l e w') : WinsEnd w l e w' := by
  obtain ⟨v, rfl, h, hB⟩ := h
  obtain ⟨a, c, rfl, hc, hW⟩ := h.form
  exact ⟨a, c, rfl, hc, hW, hB⟩
theorem RowW.grown {w w' : World} {b : Nat} {x : WindowL} {row : Option Nat} (h : RowW w b x) (hg : w.grownBy w' row) (hne : some b ≠ row) : RowW w' b x := (hg.block b h.lt hne).trans h
theorem RowW.setLo {w : World} {b : Nat} {k : List (BitVec 8)} {lo hi : Int} (h : RowW w b ⟨k, lo, hi⟩) (z : Int) : RowW (w.setCell ⟨b, 1, none⟩ (.int .i64 z)) b ⟨k, z, hi⟩ := by
  unfold RowW at *
  rw [setCell_eq_setRow w b 1 _ _ (0, 0) _ h]
  exact setRow_heap w b _ _ _ _ h
theorem RowW.setHi {w : World} {b : Nat} {k : List (BitVec 8)} {lo hi : Int} (h : RowW w b ⟨k, lo, hi⟩) (z : Int) : RowW (w.setCell ⟨b, 2, none⟩ (.int .i64 z)) b ⟨k, lo, z⟩ := by
  unfold RowW at *
  rw [setCell_eq_setRow w b 2 _ _ (0, 0) _ h]
  exact setRow_heap w b _ _ _ _ h
theorem RowW.reset {w : World} {b : Nat} {x : WindowL} (h : RowW w b x) (y : WindowL) : RowW (w.setRow b y.cells) b y := setRow_heap w b _ _ _ _ h
theorem grown_setRow (w : World) (b : Nat) (c : Array Value) : w.grownBy (w.setRow b c) (some b) := ⟨rfl, rfl, rfl, by simp [World.setRow], fun k _ hne => setRow_other _ _ _ _ (fun e => hne (by rw [e]))⟩
/-- Numbers in a row of their own. -/
def natsV (l : List Nat) : List Value := l.map fun (n : Nat) => Value.int .i64 (n : Int)
def OwnN (w : World) (base : Nat) (v : Value) (l : List Nat) : Prop := Own w base 3 v (natsV l)
theorem infoI : (Try.prog.info? 3).map (fun i => (i.zero, i.size, i.bytes)) = some (some (.int .i64 0), 1, 8) := by kernel_rfl
theorem rows_apart {w : World} {B B' : Nat} {v g : Value} {l : List WindowL} {n : List Nat} (h : OwnW w B v l) (h' : OwnN w B' g n) : g.ownBlock = none ∨ g.ownBlock ≠ v.ownBlock := by
  rcases h.2 with ⟨h1, _⟩ | ⟨a, c, cur, h1, _, h2, _⟩ <;> rcases h'.2 with ⟨k1, _⟩ | ⟨b, d, cur', k1, _, k2, _⟩
  · exact .inl (by rw [k1]; rfl)
  · right
    rw [h1, k1]
    simp [Value.ownBlock]
  · exact .inl (by rw [k1]; rfl)
  · right
    rw [h1, k1]
    intro e
    simp only [Value.ownBlock, Option.some.injEq] at e
    rw [e, h2] at k2
    simp only [Option.some.injEq, Obj.cells.injEq] at k2
    exact absurd k2.2.1 (by decide)
theorem rows_apart' {w : World} {B B' : Nat} {v g : Value} {l : List WindowL} {n : List Nat} (h : OwnW w B v l) (h' : OwnN w B' g n) : v.ownBlock = none ∨ v.ownBlock ≠ g.ownBlock := by
  cases hv : v.ownBlock with
  | none => exact .inl rfl
  | some k =>
    right
    rcases rows_apart h h' with e | e
    · rw [e]
      simp
    · rw [← hv]
      exact fun x => e x.symm
theorem owns_ne {base : Nat} {w : World} {v : Value} (hl : ∀ k, v.ownBlock = some k → base ≤ k ∧ k < w.heap.size) {b : Nat} (hb : b < base) : some b ≠ v.ownBlock := fun e => by
  have := hl b e.symm
  omega
/-- What Take's loop keeps: three rows, the list, the places. -/
def TInv (w : World) (B b1 b2 b3 : Nat) (x y : WindowL) (v : Value) (out : List WindowL) (g : Value) (gv : List Nat) (wr : World) : Prop :=
  (w.heap.size ≤ b1 ∧ b1 < b2 ∧ b2 < b3 ∧ b3 < B ∧ B ≤ wr.heap.size) ∧ Below w.heap.size w wr ∧ RowW wr b1 x ∧ RowW wr b2 zeroW ∧ RowW wr b3 y ∧ OwnW wr B v out ∧ OwnN wr B g gv
theorem TInv.below {w : World} {B b1 b2 b3 : Nat} {x y : WindowL} {v : Value} {out : List WindowL} {g : Value} {gv : List Nat} {wr wz : World} (h : TInv w B b1 b2 b3 x y v out g gv wr) (hB : Below wr.heap.size wr wz) : TInv w B b1 b2 b3 x y v out g gv wz := by
  obtain ⟨⟨a1, a2, a3, a4, a5⟩, h1, h2, h3, h4, h5, h6⟩ := h
  exact ⟨⟨a1, a2, a3, a4, Nat.le_trans a5 hB.size⟩, h1.trans (hB.mono h1.size), h2.below hB, h3.below hB, h4.below hB, h5.far hB, h6.far hB⟩
theorem TInv.pushW {w : World} {B b1 b2 b3 : Nat} {x y : WindowL} {v v' : Value} {out out' : List WindowL} {g : Value} {gv : List Nat} {wr wz : World} (h : TInv w B b1 b2 b3 x y v out g gv wr) (ho : OwnW wz B v' out') (hg : wr.grownBy wz v.ownBlock) : TInv w B b1 b2 b3 x y v' out' g gv wz := by
  obtain ⟨⟨a1, a2, a3, a4, a5⟩, h1, h2, h3, h4, h5, h6⟩ := h
  have hl : ∀ k, v.ownBlock = some k → B ≤ k ∧ k < wr.heap.size := fun k hk => h5.lt hk
  have hBl := h5.below hg a5
  exact ⟨⟨a1, a2, a3, a4, Nat.le_trans a5 hg.size⟩, h1.trans (hBl.mono (by omega)), h2.grown hg (owns_ne hl (by omega)), h3.grown hg (owns_ne hl (by omega)), h4.grown hg (owns_ne hl (by omega)), ho, h6.kept hg (rows_apart h5 h6)⟩
theorem TInv.pushN {w : World} {B b1 b2 b3 : Nat} {x y : WindowL} {v : Value} {out : List WindowL} {g g' : Value} {gv gv' : List Nat} {wr wz : World} (h : TInv w B b1 b2 b3 x y v out g gv wr) (ho : OwnN wz B g' gv') (hg : wr.grownBy wz g.ownBlock) : TInv w B b1 b2 b3 x y v out g' gv' wz := by
  obtain ⟨⟨a1, a2, a3, a4, a5⟩, h1, h2, h3, h4, h5, h6⟩ := h
  have hl : ∀ k, g.ownBlock = some k → B ≤ k ∧ k < wr.heap.size := fun k hk => Own.lt h6 hk
  have hBl : Below B wr wz := ⟨hg.os, hg.tape, hg.output, hg.size, fun k hk => hg.block k (by omega) (owns_ne hl hk)⟩
  exact ⟨⟨a1, a2, a3, a4, Nat.le_trans a5 hg.size⟩, h1.trans (hBl.mono (by omega)), h2.grown hg (owns_ne hl (by omega)), h3.grown hg (owns_ne hl (by omega)), h4.grown hg (owns_ne hl (by omega)), h5.kept hg (rows_apart' h5 h6), ho⟩
theorem TInv.set {w : World} {B b1 b2 b3 : Nat} {x y y' : WindowL} {v : Value} {out : List WindowL} {g : Value} {gv : List Nat} {wr wz : World} (h : TInv w B b1 b2 b3 x y v out g gv wr) (ho : RowW wz b3 y') (hg : wr.grownBy wz (some b3)) : TInv w B b1 b2 b3 x y' v out g gv wz := by
  obtain ⟨⟨a1, a2, a3, a4, a5⟩, h1, h2, h3, h4, h5, h6⟩ := h
  have n5 : v.ownBlock ≠ some b3 := fun e => by have := h5.lt e; omega
  have n6 : g.ownBlock ≠ some b3 := fun e => by have := Own.lt h6 e; omega
  have hBl : Below w.heap.size wr wz := ⟨hg.os, hg.tape, hg.output, hg.size, fun k hk => hg.block k (by omega) (by simp; omega)⟩
  exact ⟨⟨a1, a2, a3, a4, Nat.le_trans a5 hg.size⟩, h1.trans hBl, h2.grown hg (by simp; omega), h3.grown hg (by simp; omega), ho, h5.kept hg (.inr n5), h6.kept hg (.inr n6)⟩
/-- Each operation leaves the value that the list names; four leave what is said of them, stage by stage. -/
def V4 (Vs : List Value) (i1 : Nat) (A1 : Nat → World → Value → Prop) (i2 : Nat) (A2 : Nat → World → Value → Prop) (i3 : Nat) (A3 : Nat → World → Value → Prop) (i4 : Nat) (A4 : Nat → World → Value → Prop) (i k : Nat) (w : World) (v : Value) : Prop :=
  cond (Nat.beq i i1) (A1 k w v) (cond (Nat.beq i i2) (A2 k w v) (cond (Nat.beq i i3) (A3 k w v) (cond (Nat.beq i i4) (A4 k w v) (v = Vs.getD i undef))))
theorem V4_le {Vs : List Value} {i1 i2 i3 i4 : Nat} {A1 A2 A3 A4 : Nat → World → Value → Prop} (le : World → World → Prop) (h1 : ∀ k w w' v, le w w' → A1 k w v → A1 k w' v) (h2 : ∀ k w w' v, le w w' → A2 k w v → A2 k w' v)
    (h3 : ∀ k w w' v, le w w' → A3 k w v → A3 k w' v) (h4 : ∀ k w w' v, le w w' → A4 k w v → A4 k w' v) : ∀ i k w w' v, le w w' → V4 Vs i1 A1 i2 A2 i3 A3 i4 A4 i k w v → V4 Vs i1 A1 i2 A2 i3 A3 i4 A4 i k w' v := by
  intro i k w w' v hl
  unfold V4
  cases Nat.beq i i1
  · cases Nat.beq i i2
    · cases Nat.beq i i3
      · cases Nat.beq i i4
        · exact id
        · exact h4 _ _ _ _ hl
      · exact h3 _ _ _ _ hl
    · exact h2 _ _ _ _ hl
  · exact h1 _ _ _ _ hl
theorem V4_keep {Vs : List Value} {i1 i2 i3 i4 : Nat} {A1 A2 A3 A4 : Nat → World → Value → Prop} {i k k' : Nat} {w w' : World} (h1 : i = i1 ∨ ∀ u, A1 k w u → A1 k' w' u) (h2 : i = i2 ∨ ∀ u, A2 k w u → A2 k' w' u)
    (h3 : i = i3 ∨ ∀ u, A3 k w u → A3 k' w' u) (h4 : i = i4 ∨ ∀ u, A4 k w u → A4 k' w' u) : ∀ j u, j ≠ i → V4 Vs i1 A1 i2 A2 i3 A3 i4 A4 j k w u → V4 Vs i1 A1 i2 A2 i3 A3 i4 A4 j k' w' u := by
  intro j u hj
  have key : ∀ (q : Nat) (A : Nat → World → Value → Prop), (i = q ∨ ∀ u, A k w u → A k' w' u) → Nat.beq j q = true → A k w u → A k' w' u := fun q A h hb ha => by
    rcases h with h | h
    · exact absurd ((Nat.eq_of_beq_eq_true hb).trans h.symm) hj
    · exact h u ha
  unfold V4
  cases e1 : Nat.beq j i1
  · cases e2 : Nat.beq j i2
    · cases e3 : Nat.beq j i3
      · cases e4 : Nat.beq j i4
        · exact id
        · exact key i4 A4 h4 e4
      · exact key i3 A3 h3 e3
    · exact key i2 A2 h2 e2
  · exact key i1 A1 h1 e1
theorem RowW.fro {w : World} {b : Nat} {x : WindowL} (h : RowW w b x) (i : Nat) : w.frozen? ⟨b, i, none⟩ = false := by
  unfold RowW at h
  simp [World.frozen?, h]
theorem wp_slice1_W {o : Oper} {a : Act} {w : World} {K : Act → World → Prop} {Q : Exit → Act → World → Prop} (y : Operand) (ho : o.op = .buildSlice 22 1 #[(0, y)]) (x : WindowL) (hy : a.eval y = .agg x.cells)
    (h : K (a.put o.dst (.slice (some ⟨w.heap.size, 0, none⟩) 1 1)) (w.alloc (.cells x.cells 24))) : o.wp Try.prog a w K Q := by
  have hF : Instr.fill (fun i => some (i * 3, 3)) ((Array.range (1 * 3)).map ((Value.agg #[.string ⟨#[]⟩, .int .i64 0, .int .i64 0]).cells[· % (Value.agg #[.string ⟨#[]⟩, .int .i64 0, .int .i64 0]).cells.size]!)) [(0, .agg x.cells)] = some x.cells := by kernel_rfl
  obtain ⟨i, hi, hz0, hz1, hz2⟩ := info_parts window_parts
  refine wp_buildSlice 22 24 1 _ ho x.cells i _ Try.underlying22 hi hz0 (by rw [hz1]; decide) (by rw [hz1]; decide) ?_ h
  rw [hz1]
  simp only [List.map_toArray, List.map_cons, List.map_nil, hy]
  exact hF
/-- A new slice of one window. -/
theorem WinsAt.one {w : World} {g : Nat} {y : WindowL} (h : ∀ j z, y.cells[j]? = some z → w.cell? ⟨g, j, none⟩ = some z) : WinsAt w (some ⟨g, 0, none⟩) [y] := by
  refine .inr ⟨g, 0, rfl, fun i x hx j v hv => ?_⟩
  cases i with
  | zero =>
    simp only [List.getElem?_cons_zero, Option.some.injEq] at hx
    subst hx
    rw [show 0 + 0 * 3 + j = j by omega]
    exact h j v hv
  | succ i => simp at hx
/-- An append of windows, as one operation. -/
theorem wp_appendW {o : Oper} {a : Act} {w : World} {K : Act → World → Prop} {Q : Exit → Act → World → Prop} (s x : Operand)
    (ho : o.op = .call { callee := .builtin .append, args := #[s, x], argTypes := #[22, 22] }) (base : Nat) (v : Value) (l1 l2 : List WindowL) (hs : a.eval s = v) (hown : OwnW w base v l1)
    (sa : Option Addr) (c n : Nat) (hn : n = l2.length) (hx : a.eval x = .slice sa n c) (hm : WinsAt w sa l2) (hl : l1.length + l2.length ≤ 1000000) (hb : base ≤ w.heap.size)
    (h : ∀ v' w', OwnW w' base v' (l1 ++ l2) → w.grownBy w' v.ownBlock → (v'.ownBlock = v.ownBlock ∨ v'.ownBlock = some w.heap.size) → K (a.put o.dst v') w') : o.wp Try.prog a w K Q := by
  subst hn
  obtain ⟨v', w', hr, h2, h3, h4⟩ := append_ownW w base v l1 l2 hown sa c hm hl hb o.type
  unfold Oper.wp execOp
  simp only [ho, resolve, invoke, builtin, Sem.run_bind, Sem.run_pure, Result.andThen_ok, List.map_toArray, List.map_cons, List.map_nil, hs, hx, hr]
  exact h v' w' h2 h3 h4
theorem wp_storeW {o : Oper} {a : Act} {w : World} {K : Act → World → Prop} {Q : Exit → Act → World → Prop} (x y : Operand) (ho : o.op = .store 24 x y) (g : Nat) (u old : WindowL)
    (hx : a.eval x = .pointer (some ⟨g, 0, none⟩)) (hy : a.eval y = .agg u.cells) (hg : RowW w g old) (h : K (a.put o.dst undef) (w.setRow g u.cells)) : o.wp Try.prog a w K Q :=
  wp_store_row _ x y ho g u.cells hx hy _ old.cells hg window_size rfl (window_one u) h
theorem results_tmp_cell_tmp {P : Program} {fn : Func} {s p u : Tmp} {ty : TypeId} (h : fn.results = #[.tmp s, .cell p ty, .tmp u]) (tmps : Array Value) (w : World) (g : Nat) (t : TypeId) (cs : Array Value) (fr : Nat × Nat) (d : TypeDesc)
    (hp : tmps.getD p undef = .pointer (some ⟨g, 0, none⟩)) (hg : w.heap[g]? = some (.cells cs t fr))
    (hu : P.underlying ty = some d) (hd : (match d with | .struct _ | .array _ _ => true | _ => false) = true) (hi : (P.info? ty).map (·.size) = some cs.size) :
    (results fn tmps).run P w = .ok (.tuple #[tmps.getD s undef, .agg cs, tmps.getD u undef]) w := by
  have hp' : tmps[p]?.getD undef = .pointer (some ⟨g, 0, none⟩) := by simpa using hp
  simp [results, h, hp', asAddr, run_loadVar_row w g t ty cs fr d hg hu hd hi]
end Go.Proofs.Ytbfioekbahcicaa
namespace Go.Proofs.Ytbfioekbahcicaa
open Go Go.RowKit

/-- Do two right ones join? -/
def meetB (a b : WindowL) : Bool := decide (a.key = b.key ∧ a.lo ≤ b.hi ∧ b.lo ≤ a.hi)
theorem joinsB_meet (a b : WindowL) : joinsB a b = (a.rightB && b.rightB && meetB a b) := rfl
def apartB (a b : WindowL) : Bool := decide (placeW a b < 0) && !meetB a b
def wholeW (a b : WindowL) : WindowL := ⟨a.key, min a.lo b.lo, max a.hi b.hi⟩
set_option maxRecDepth 100000 in
theorem smeet_any (w : World) (x y : WindowL) :
    Calls Try.prog 20 #[.agg x.cells, .agg y.cells] w (Below0 w (.bool (meetB x y))) := by
  obtain ⟨r, hr⟩ : ∃ r, r = meetB x y := ⟨_, rfl⟩
  rw [← hr]
  obtain ⟨w1, hw1⟩ : ∃ W, W = (w.alloc (.cells x.cells 24)).alloc (.cells y.cells 24) := ⟨_, rfl⟩
  obtain ⟨xb, hxb⟩ : ∃ b, b = w.heap.size := ⟨_, rfl⟩
  obtain ⟨yb, hyb⟩ : ∃ b, b = w.heap.size + 1 := ⟨_, rfl⟩
  have H1 : Hid (Below w.heap.size w w1) := by rw [hw1]; exact Lib.hid (two_boxes w x y).1
  have HD : Hid (∀ w', Below w1.heap.size w1 w' → D3 w' xb x.key x.lo x.hi ∧ D3 w' yb y.key y.lo y.hi) := by
    rw [hw1, hxb, hyb]
    exact Lib.hid (two_boxes w x y).2
  unfold meetB at hr
  obtain ⟨xk, xl, xh⟩ := x
  obtain ⟨yk, yl, yh⟩ := y
  unfold WindowL.cells at hw1 ⊢
  simp only at HD hr
  have hsz : (w.alloc (.cells #[Sv xk, .int .i64 xl, .int .i64 xh] 24)).heap.size = w.heap.size + 1 := heap_alloc_size w _
  obtain ⟨⟨c0, c1, c2⟩, d0, d1, d2⟩ := HD.out w1 (Below.refl _ _)
  obtain ⟨ke, hke⟩ : ∃ b, b = decide (xk = yk) := ⟨_, rfl⟩
  have hkeq : ∀ w, (binOp .eql 9 (Sv xk) (Sv yk)).run Try.prog w = .ok (.bool ke) w := fun w => by rw [hke]; exact run_eql_Sv w xk yk
  have Hr := Lib.hid (And.intro hr hke)
  clear hr hke
  cases ke with
  | false =>
    obtain rfl : r = false := by
      rw [Hr.out.1]
      refine decide_eq_false fun h => ?_
      have := of_decide_eq_false Hr.out.2.symm
      exact this h.1
    go_enter Try.func20, Try.ntmps20
    go_upto_region 1 with (fail)
    rw [← hw1, ← hyb, ← hxb]
    clear hw1 hxb hyb
    go_wp2_with (fail)
    go_ret
    exact ⟨rfl, H1.out⟩
  | true =>
    have hk : xk = yk := of_decide_eq_true Hr.out.2.symm
    have hr' : r = decide (xl ≤ yh ∧ yl ≤ xh) := by
      rw [Hr.out.1]
      exact decide_eq_decide.2 ⟨fun h => h.2, fun h => ⟨hk, h⟩⟩
    clear hk
    by_cases h1 : xl ≤ yh
    · by_cases h2 : yl ≤ xh
      · obtain rfl : r = true := by rw [hr']; exact decide_eq_true ⟨h1, h2⟩
        clear hr'
        go_enter Try.func20, Try.ntmps20
        go_upto_region 1 with (fail)
        rw [← hw1, ← hyb, ← hxb]
        clear hw1 hxb hyb
        go_wp2_with (fail)
        go_ret
        exact ⟨rfl, H1.out⟩
      · have e2 : decide (yl ≤ xh) = false := decide_eq_false h2
        obtain rfl : r = false := by rw [hr']; exact decide_eq_false (fun h => h2 h.2)
        clear hr' h2
        go_enter Try.func20, Try.ntmps20
        go_upto_region 1 with (fail)
        rw [← hw1, ← hyb, ← hxb]
        clear hw1 hxb hyb
        go_wp2_with (fail)
        go_ret
        exact ⟨rfl, H1.out⟩
    · have e1 : decide (xl ≤ yh) = false := decide_eq_false h1
      obtain rfl : r = false := by rw [hr']; exact decide_eq_false (fun h => h1 h.1)
      clear hr' h1
      go_enter Try.func20, Try.ntmps20
      go_upto_region 1 with (fail)
      rw [← hw1, ← hyb, ← hxb]
      clear hw1 hxb hyb
      go_wp2_with (fail)
      go_ret
      exact ⟨rfl, H1.out⟩
set_option maxRecDepth 100000 in
theorem sJoins_any (w : World) (x y : WindowL) (hx : x.key.length ≤ 1000000) (hy : y.key.length ≤ 1000000) :
    Calls Try.prog 8 #[.agg x.cells, .agg y.cells] w (Below0 w (.bool (joinsB x y))) := by
  obtain ⟨r, hr⟩ : ∃ r, r = joinsB x y := ⟨_, rfl⟩
  rw [← hr]
  obtain ⟨w1, hw1⟩ : ∃ W, W = (w.alloc (.cells x.cells 24)).alloc (.cells y.cells 24) := ⟨_, rfl⟩
  obtain ⟨xb, hxb⟩ : ∃ b, b = w.heap.size := ⟨_, rfl⟩
  obtain ⟨yb, hyb⟩ : ∃ b, b = w.heap.size + 1 := ⟨_, rfl⟩
  have H1 : Hid (Below w.heap.size w w1) := by rw [hw1]; exact Lib.hid (two_boxes w x y).1
  have HD : Hid (∀ w', Below w1.heap.size w1 w' → D3 w' xb x.key x.lo x.hi ∧ D3 w' yb y.key y.lo y.hi) := by
    rw [hw1, hxb, hyb]
    exact Lib.hid (two_boxes w x y).2
  obtain ⟨ra, hra⟩ : ∃ r, r = x.rightB := ⟨_, rfl⟩
  obtain ⟨rb, hrb⟩ : ∃ r, r = y.rightB := ⟨_, rfl⟩
  obtain ⟨m, hm⟩ : ∃ r, r = meetB x y := ⟨_, rfl⟩
  have HRa : Hid (∀ w', Calls Try.prog 19 #[.agg x.cells] w' (Below0 w' (.bool ra))) := by
    rw [hra]
    exact Lib.hid (fun w' => wright_any w' x hx)
  have HRb : Hid (∀ w', Calls Try.prog 19 #[.agg y.cells] w' (Below0 w' (.bool rb))) := by
    rw [hrb]
    exact Lib.hid (fun w' => wright_any w' y hy)
  have HM : Hid (∀ w', Calls Try.prog 20 #[.agg x.cells, .agg y.cells] w' (Below0 w' (.bool m))) := by
    rw [hm]
    exact Lib.hid (fun w' => smeet_any w' x y)
  rw [joinsB_meet, ← hra, ← hrb, ← hm] at hr
  clear hra hrb hx hy hm
  obtain ⟨xk, xl, xh⟩ := x
  obtain ⟨yk, yl, yh⟩ := y
  unfold WindowL.cells at hw1 HRa HRb HM ⊢
  simp only at HD
  have hsz : (w.alloc (.cells #[Sv xk, .int .i64 xl, .int .i64 xh] 24)).heap.size = w.heap.size + 1 := heap_alloc_size w _
  obtain ⟨⟨c0, c1, c2⟩, d0, d1, d2⟩ := HD.out w1 (Below.refl _ _)
  cases ra with
  | false =>
    obtain rfl : r = false := hr
    go_enter Try.func8, Try.ntmps8
    go_upto_region 1 with (fail)
    rw [← hw1, ← hyb, ← hxb]
    clear hw1 hxb hyb
    go_wp2_with (fail)
    refine (HRa.out w1).mono ?_
    rintro e w3 ⟨rfl, hB⟩
    have HB := Lib.hid (H1.out.trans (hB.mono H1.out.size))
    clear hB c0 c1 c2 d0 d1 d2
    dsimp only
    go_wp2_with (fail)
    go_ret
    exact ⟨rfl, HB.out⟩
  | true =>
  cases rb with
  | false =>
    obtain rfl : r = false := hr
    go_enter Try.func8, Try.ntmps8
    go_upto_region 1 with (fail)
    rw [← hw1, ← hyb, ← hxb]
    clear hw1 hxb hyb
    go_wp2_with (fail)
    refine (HRa.out w1).mono ?_
    rintro e w3 ⟨rfl, hB⟩
    have HB := Lib.hid hB
    clear hB c0 c1 c2 d0 d1 d2
    obtain ⟨⟨c0, c1, c2⟩, d0, d1, d2⟩ := HD.out w3 HB.out
    dsimp only
    go_wp2_with (fail)
    refine (HRb.out w3).mono ?_
    rintro e w4 ⟨rfl, hB⟩
    have HB4 := Lib.hid (H1.out.trans ((HB.out.trans (hB.mono HB.out.size)).mono H1.out.size))
    clear hB c0 c1 c2 d0 d1 d2
    dsimp only
    go_wp2_with (fail)
    go_ret
    exact ⟨rfl, HB4.out⟩
  | true =>
    obtain rfl : r = m := by rw [hr]; rfl
    clear hr
    go_enter Try.func8, Try.ntmps8
    go_upto_region 1 with (fail)
    rw [← hw1, ← hyb, ← hxb]
    clear hw1 hxb hyb
    go_wp2_with (fail)
    refine (HRa.out w1).mono ?_
    rintro e w3 ⟨rfl, hB⟩
    have HB := Lib.hid hB
    clear hB c0 c1 c2 d0 d1 d2
    obtain ⟨⟨c0, c1, c2⟩, d0, d1, d2⟩ := HD.out w3 HB.out
    dsimp only
    go_wp2_with (fail)
    refine (HRb.out w3).mono ?_
    rintro e w4 ⟨rfl, hB⟩
    have HB3 := Lib.hid (HB.out.trans (hB.mono HB.out.size))
    clear hB c0 c1 c2 d0 d1 d2
    obtain ⟨⟨c0, c1, c2⟩, d0, d1, d2⟩ := HD.out w4 HB3.out
    dsimp only
    go_wp2_with (fail)
    refine (HM.out w4).mono ?_
    rintro e w5 ⟨rfl, hB⟩
    have HB5 := Lib.hid (H1.out.trans ((HB3.out.trans (hB.mono HB3.out.size)).mono H1.out.size))
    clear hB c0 c1 c2 d0 d1 d2
    dsimp only
    go_wp2_with (fail)
    go_ret
    exact ⟨rfl, HB5.out⟩
set_option maxRecDepth 100000 in
theorem sapart_any (w : World) (x y : WindowL) :
    Calls Try.prog 26 #[.agg x.cells, .agg y.cells] w (Below0 w (.bool (apartB x y))) := by
  obtain ⟨r, hr⟩ : ∃ r, r = apartB x y := ⟨_, rfl⟩
  rw [← hr]
  obtain ⟨w1, hw1⟩ : ∃ W, W = (w.alloc (.cells x.cells 24)).alloc (.cells y.cells 24) := ⟨_, rfl⟩
  obtain ⟨xb, hxb⟩ : ∃ b, b = w.heap.size := ⟨_, rfl⟩
  obtain ⟨yb, hyb⟩ : ∃ b, b = w.heap.size + 1 := ⟨_, rfl⟩
  have H1 : Hid (Below w.heap.size w w1) := by rw [hw1]; exact Lib.hid (two_boxes w x y).1
  have HD : Hid (∀ w', Below w1.heap.size w1 w' → D3 w' xb x.key x.lo x.hi ∧ D3 w' yb y.key y.lo y.hi) := by
    rw [hw1, hxb, hyb]
    exact Lib.hid (two_boxes w x y).2
  obtain ⟨p, hp⟩ : ∃ r, r = placeW x y := ⟨_, rfl⟩
  obtain ⟨m, hm⟩ : ∃ r, r = meetB x y := ⟨_, rfl⟩
  have HP : Hid (∀ w', Calls Try.prog 24 #[.agg x.cells, .agg y.cells] w' (Below0 w' (.int .i64 p))) := by
    rw [hp]
    exact Lib.hid (fun w' => wplace_any w' x y)
  have HM : Hid (∀ w', Calls Try.prog 20 #[.agg x.cells, .agg y.cells] w' (Below0 w' (.bool m))) := by
    rw [hm]
    exact Lib.hid (fun w' => smeet_any w' x y)
  unfold apartB at hr
  rw [← hp, ← hm] at hr
  clear hp hm
  obtain ⟨xk, xl, xh⟩ := x
  obtain ⟨yk, yl, yh⟩ := y
  unfold WindowL.cells at hw1 HP HM ⊢
  simp only at HD
  have hsz : (w.alloc (.cells #[Sv xk, .int .i64 xl, .int .i64 xh] 24)).heap.size = w.heap.size + 1 := heap_alloc_size w _
  obtain ⟨⟨c0, c1, c2⟩, d0, d1, d2⟩ := HD.out w1 (Below.refl _ _)
  by_cases h : p < 0
  · obtain rfl : r = !m := by rw [hr, decide_eq_true h]; rfl
    clear hr
    go_enter Try.func26, Try.ntmps26
    go_upto_region 1 with (fail)
    rw [← hw1, ← hyb, ← hxb]
    clear hw1 hxb hyb
    go_wp2_with (fail)
    refine (HP.out w1).mono ?_
    rintro e w3 ⟨rfl, hB⟩
    have HB := Lib.hid hB
    clear hB c0 c1 c2 d0 d1 d2
    obtain ⟨⟨c0, c1, c2⟩, d0, d1, d2⟩ := HD.out w3 HB.out
    dsimp only
    go_wp2_with (fail)
    refine (HM.out w3).mono ?_
    rintro e w4 ⟨rfl, hB⟩
    have HB4 := Lib.hid (H1.out.trans ((HB.out.trans (hB.mono HB.out.size)).mono H1.out.size))
    clear hB c0 c1 c2 d0 d1 d2
    dsimp only
    go_wp2_with (fail)
    go_ret
    exact ⟨rfl, HB4.out⟩
  · have h' : decide (p < 0) = false := decide_eq_false h
    obtain rfl : r = false := by rw [hr, h']; rfl
    clear hr h
    go_enter Try.func26, Try.ntmps26
    go_upto_region 1 with (fail)
    rw [← hw1, ← hyb, ← hxb]
    clear hw1 hxb hyb
    go_wp2_with (fail)
    refine (HP.out w1).mono ?_
    rintro e w3 ⟨rfl, hB⟩
    have HB := Lib.hid (H1.out.trans (hB.mono H1.out.size))
    clear hB c0 c1 c2 d0 d1 d2
    dsimp only
    go_wp2_with (fail)
    go_ret
    exact ⟨rfl, HB.out⟩
theorem wholeW_lo (a b : WindowL) : (wholeW a b).lo = if b.lo < a.lo then b.lo else a.lo := by
  simp only [wholeW]
  split <;> omega
theorem wholeW_hi (a b : WindowL) : (wholeW a b).hi = if a.hi < b.hi then b.hi else a.hi := by
  simp only [wholeW]
  split <;> omega
set_option maxRecDepth 100000 in
theorem swhole_any (w : World) (x y : WindowL) :
    Calls Try.prog 22 #[.agg x.cells, .agg y.cells] w (Below0 w (.agg (wholeW x y).cells)) := by
  obtain ⟨r, hr⟩ : ∃ r, r = wholeW x y := ⟨_, rfl⟩
  have h1 : r.lo = if y.lo < x.lo then y.lo else x.lo := by rw [hr, wholeW_lo]
  have h2 : r.hi = if x.hi < y.hi then y.hi else x.hi := by rw [hr, wholeW_hi]
  have h0 : r.key = x.key := by rw [hr]; rfl
  rw [← hr]
  clear hr
  obtain ⟨w1, hw1⟩ : ∃ W, W = (w.alloc (.cells x.cells 24)).alloc (.cells y.cells 24) := ⟨_, rfl⟩
  obtain ⟨xb, hxb⟩ : ∃ b, b = w.heap.size := ⟨_, rfl⟩
  obtain ⟨yb, hyb⟩ : ∃ b, b = w.heap.size + 1 := ⟨_, rfl⟩
  have H1 : Hid (Below w.heap.size w w1) := by rw [hw1]; exact Lib.hid (two_boxes w x y).1
  have HD : Hid (∀ w', Below w1.heap.size w1 w' → D3 w' xb x.key x.lo x.hi ∧ D3 w' yb y.key y.lo y.hi) := by
    rw [hw1, hxb, hyb]
    exact Lib.hid (two_boxes w x y).2
  obtain ⟨w2, hw2⟩ : ∃ W, W = w1.alloc (.cells #[.string ⟨#[]⟩, .int .i64 0, .int .i64 0] 24) := ⟨_, rfl⟩
  obtain ⟨rb, hrb⟩ : ∃ b, b = w.heap.size + 1 + 1 := ⟨_, rfl⟩
  have hs1 : w1.heap.size = w.heap.size + 1 + 1 := by rw [hw1, heap_alloc_size, heap_alloc_size]
  have H2 : Hid (RowW w2 rb zeroW ∧ Below w1.heap.size w1 w2 ∧ w.heap.size ≤ rb ∧ w1.heap.size ≤ rb) := by
    rw [hw2, hrb, ← hs1]
    exact Lib.hid ⟨heap_alloc_new w1 _, (Below.refl _ w1).alloc (Nat.le_refl _) _, by omega, Nat.le_refl _⟩
  obtain ⟨xk, xl, xh⟩ := x
  obtain ⟨yk, yl, yh⟩ := y
  obtain ⟨rk, rl, rh⟩ := r
  simp only at HD h0 h1 h2
  subst h0
  have Hr := Lib.hid (And.intro h1 h2)
  have HS : Hid (RowW (w2.setRow rb (WindowL.mk rk rl rh).cells) rb ⟨rk, rl, rh⟩ ∧ Below w.heap.size w (w2.setRow rb (WindowL.mk rk rl rh).cells)) := by
    obtain ⟨k1, k2, k3, k4⟩ := H2.out
    have hz : Below w.heap.size w2 (w2.setRow rb (WindowL.mk rk rl rh).cells) := ⟨rfl, rfl, rfl, by simp [World.setRow], fun k hk => setRow_other _ _ _ _ (by omega)⟩
    exact Lib.hid ⟨setRow_heap _ _ _ _ _ _ k1, (H1.out.trans (k2.mono H1.out.size)).trans hz⟩
  unfold WindowL.cells at hw1 ⊢
  have hsz : (w.alloc (.cells #[Sv rk, .int .i64 xl, .int .i64 xh] 24)).heap.size = w.heap.size + 1 := heap_alloc_size w _
  obtain ⟨⟨c0, c1, c2⟩, d0, d1, d2⟩ := HD.out w2 H2.out.2.1
  clear h1 h2
  have hs1' : ((w.alloc (.cells #[Sv rk, .int .i64 xl, .int .i64 xh] 24)).alloc (.cells #[Sv yk, .int .i64 yl, .int .i64 yh] 24)).heap.size = w.heap.size + 1 + 1 := by rw [← hw1]; exact hs1
  clear hs1
  go_enter Try.func22, Try.ntmps22
  go_upto_region 1 with (fail)
  rw [← hw1, ← hw2, ← hrb, ← hyb, ← hxb]
  clear hw1 hw2 hrb hxb hyb
  refine wp_region_lit ?_
  iterate 36 go_step
  rw [← Hr.out.1, ← Hr.out.2]
  refine wpList_build_on (by kernel_rfl) 24 _ rfl (WindowL.mk rk rl rh).cells (by simp only [List.map_toArray, List.map_cons, List.map_nil]; exact built_window rk rl rh) ?_
  refine wpList_store_row rfl _ _ _ rfl rb (WindowL.mk rk rl rh).cells rfl rfl 24 zeroW.cells H2.out.1 window_size rfl (window_one _) ?_
  obtain ⟨w3, hw3⟩ : ∃ W, W = w2.setRow rb (WindowL.mk rk rl rh).cells := ⟨_, rfl⟩
  rw [← hw3] at HS ⊢
  clear hw3 c0 c1 c2 d0 d1 d2
  go_wp2_with (fail)
  exact bodyPost_ret (v := .agg #[Sv rk, .int .i64 rl, .int .i64 rh]) (results_cell_row (p := 4) (ty := 24) rfl _ _ rb 24 #[Sv rk, .int .i64 rl, .int .i64 rh] (0, 0) _ rfl HS.out.1 Try.underlying24 rfl window_size) rfl ⟨rfl, HS.out.2⟩
end Go.Proofs.Ytbfioekbahcicaa
namespace Go.Proofs.Ytbfioekbahcicaa
open Go Go.RowKit

theorem cellsLW_cons (x : WindowL) (l : List WindowL) : cellsLW (x :: l) = Sv x.key :: .int .i64 x.lo :: .int .i64 x.hi :: cellsLW l := rfl
theorem cellsLW_setLo : ∀ (l : List WindowL) (i : Nat) (x : WindowL) (z : Int), l[i]? = some x → (cellsLW l).set (i * 3 + 1) (.int .i64 z) = cellsLW (l.set i ⟨x.key, z, x.hi⟩)
  | [], _, _, _, h => by simp at h
  | y :: l, 0, x, z, h => by
    simp only [List.getElem?_cons_zero, Option.some.injEq] at h
    subst h
    rfl
  | y :: l, i + 1, x, z, h => by
    rw [show (i + 1) * 3 + 1 = i * 3 + 1 + 1 + 1 + 1 by omega, cellsLW_cons, List.set_cons_succ, List.set_cons_succ, List.set_cons_succ, cellsLW_setLo l i x z (by simpa using h), List.set_cons_succ]
    rfl
theorem cellsLW_setHi : ∀ (l : List WindowL) (i : Nat) (x : WindowL) (z : Int), l[i]? = some x → (cellsLW l).set (i * 3 + 2) (.int .i64 z) = cellsLW (l.set i ⟨x.key, x.lo, z⟩)
  | [], _, _, _, h => by simp at h
  | y :: l, 0, x, z, h => by
    simp only [List.getElem?_cons_zero, Option.some.injEq] at h
    subst h
    rfl
  | y :: l, i + 1, x, z, h => by
    rw [show (i + 1) * 3 + 2 = i * 3 + 2 + 1 + 1 + 1 by omega, cellsLW_cons, List.set_cons_succ, List.set_cons_succ, List.set_cons_succ, cellsLW_setHi l i x z (by simpa using h), List.set_cons_succ]
    rfl
theorem cellsLW_put : ∀ (l : List WindowL) (i : Nat) (x : WindowL), i < l.length → (cellsLW l).take (i * 3) ++ x.cells.toList ++ (cellsLW l).drop (i * 3 + 3) = cellsLW (l.set i x)
  | [], _, _, h => by simp at h
  | y :: l, 0, x, _ => by
    rw [cellsLW_cons]
    rfl
  | y :: l, i + 1, x, h => by
    have ih := cellsLW_put l i x (by simpa using h)
    rw [cellsLW_cons, show (i + 1) * 3 = i * 3 + 1 + 1 + 1 by omega, List.set_cons_succ, cellsLW_cons, ← ih]
    simp [List.append_assoc]
theorem OwnW.setLo {w : World} {base g c n : Nat} {l : List WindowL} (h : OwnW w base (.slice (some ⟨g, 0, none⟩) n c) l) (hn : n = l.length) {i : Nat} {x : WindowL} (hx : l[i]? = some x) (z : Int) :
    OwnW (w.setCell ⟨g, i * 3 + 1, none⟩ (.int .i64 z)) base (.slice (some ⟨g, 0, none⟩) n c) (l.set i ⟨x.key, z, x.hi⟩) := by
  subst hn
  unfold OwnW
  rw [List.length_set, ← cellsLW_setLo l i x z hx]
  exact (World.ownsRow.stored h _ _).1
theorem OwnW.setHi {w : World} {base g c n : Nat} {l : List WindowL} (h : OwnW w base (.slice (some ⟨g, 0, none⟩) n c) l) (hn : n = l.length) {i : Nat} {x : WindowL} (hx : l[i]? = some x) (z : Int) :
    OwnW (w.setCell ⟨g, i * 3 + 2, none⟩ (.int .i64 z)) base (.slice (some ⟨g, 0, none⟩) n c) (l.set i ⟨x.key, x.lo, z⟩) := by
  subst hn
  unfold OwnW
  rw [List.length_set, ← cellsLW_setHi l i x z hx]
  exact (World.ownsRow.stored h _ _).1
theorem OwnW.fro {w : World} {base g c n : Nat} {l : List WindowL} (h : OwnW w base (.slice (some ⟨g, 0, none⟩) n c) l) (hn : n = l.length) (j : Nat) : w.frozen? ⟨g, j, none⟩ = false := by
  subst hn
  exact World.ownsRow.frozenAt h j
theorem OwnW.block {w : World} {base g c n : Nat} {l : List WindowL} (h : OwnW w base (.slice (some ⟨g, 0, none⟩) n c) l) : base ≤ g ∧ g < w.heap.size := h.lt rfl
/-- A window stored into a row of its own. -/
theorem wp_putW {o : Oper} {a : Act} {w : World} {K : Act → World → Prop} {Q : Exit → Act → World → Prop} (x y : Operand) (ho : o.op = .store 24 x y) {base g c n i : Nat} {l : List WindowL} (u : WindowL)
    (hown : OwnW w base (.slice (some ⟨g, 0, none⟩) n c) l) (hn : n = l.length) (hi : i < n) (hx : a.eval x = .pointer (some ⟨g, i * 3, none⟩)) (hy : a.eval y = .agg u.cells)
    (h : ∀ w', OwnW w' base (.slice (some ⟨g, 0, none⟩) n c) (l.set i u) → w.grownBy w' (some g) → K (a.put o.dst undef) w') : o.wp Try.prog a w K Q := by
  subst hn
  rcases hown.2 with ⟨h', _⟩ | ⟨g', cap', cur, h', hb, hg, hnc, hcm, hcs, htake⟩
  · simp at h'
  · simp only [Value.slice.injEq, Option.some.injEq, Addr.mk.injEq, and_true, true_and] at h'
    obtain ⟨rfl, rfl⟩ := h'
    have hfit : i * 3 + u.cells.toList.length ≤ cur.size := by
      have : u.cells.toList.length = 3 := rfl
      omega
    have hst := run_storeCells_at Try.prog g (i * 3) 24 u.cells.toList 0 cur w hg (by simpa using hfit) (fun v hv => Array.all_eq_true'.1 (window_one u) v (by simpa using hv))
    have hrun : (storeVar 24 ⟨g, i * 3, none⟩ (.agg u.cells)).run Try.prog w = .ok () (w.setRow g (cur.toList.take (i * 3) ++ u.cells.toList ++ cur.toList.drop (i * 3 + u.cells.toList.length)).toArray) := by
      have hs : ∀ w, (sizeOf 24).run Try.prog w = .ok 3 w := Try.sizeOf24
      have h3 : u.cells.size = 3 := rfl
      simpa [storeVar, hs, Value.cells, h3] using hst
    unfold Oper.wp execOp
    simp only [ho, hx, hy, Instr.storeAt, Instr.sureAddr, Sem.run_bind, Sem.run_pure, Result.andThen_ok, hrun]
    refine h _ ⟨?_, .inr ⟨g, c, _, by rw [List.length_set], hb, setRow_heap w g _ _ _ _ hg, by rw [List.length_set]; exact hnc, hcm, ?_, ?_⟩⟩ (grown_setRow _ _ _)
    · rw [cellsLW_length]
    · have h3 : u.cells.size = 3 := rfl
      simp only [List.size_toArray, List.length_append, List.length_take, List.length_drop, Array.length_toList]
      omega
    · have h3 : u.cells.toList.length = 3 := rfl
      have hL : (cellsLW l).length = l.length * 3 := cellsLW_length l
      rw [List.length_set, ← cellsLW_put l i u hi, h3, List.take_append]
      have e1 : (cur.toList.take (i * 3) ++ u.cells.toList).length = i * 3 + 3 := by
        rw [List.length_append, List.length_take, h3, Array.length_toList]
        omega
      rw [e1, List.take_of_length_le (by omega), ← htake, List.take_take, Nat.min_eq_left (by omega), List.drop_take]
/-- One cell stored, as one operation. -/
theorem wp_store1 {P : Program} {o : Oper} {a : Act} {w : World} {K : Act → World → Prop} {Q : Exit → Act → World → Prop} {ty : TypeId} (x y : Operand) (ho : o.op = .store ty x y)
    (A : Addr) (v u : Value) (hx : a.eval x = .pointer (some A)) (hy : a.eval y = v) (hv : v.cells = #[v]) (h1 : v.oneCell' = true) (hs : ∀ w, (sizeOf ty).run P w = .ok 1 w)
    (hc : w.cell? A = some u) (hf : w.frozen? A = false) (h : K (a.put o.dst undef) (w.setCell A v)) : o.wp P a w K Q := by
  unfold Oper.wp execOp
  simp only [ho, hx, hy, Sem.run_bind, Sem.run_pure, Result.andThen_ok, run_storeAt_one hv h1 hs hc hf]
  exact h
/-- Two of a list made one, in the first one's place. -/
def joinAt (out : List WindowL) (i k : Nat) (h : WindowL) : List WindowL := (out.set i h).take k ++ (out.set i h).drop (k + 1)
theorem split_two {out : List WindowL} {i k : Nat} (hik : i < k) (hk : k < out.length) : ∃ A B C, out = A ++ atW out i :: (B ++ atW out k :: C) ∧ A.length = i ∧ A.length + 1 + B.length = k := by
  have hat : ∀ i (h : i < out.length), atW out i = out[i] := fun i h => atW_some (List.getElem?_eq_getElem h)
  refine ⟨out.take i, (out.drop (i + 1)).take (k - i - 1), out.drop (k + 1), ?_, by rw [List.length_take]; omega, by rw [List.length_take, List.length_take, List.length_drop]; omega⟩
  have h1 : out.drop i = atW out i :: out.drop (i + 1) := by rw [hat i (by omega)]; exact List.drop_eq_getElem_cons (by omega)
  have h2 : out.drop k = atW out k :: out.drop (k + 1) := by rw [hat k hk]; exact List.drop_eq_getElem_cons hk
  have h3 : out.drop k = (out.drop (i + 1)).drop (k - i - 1) := by rw [List.drop_drop]; congr 1; omega
  rw [← h2, h3, List.take_append_drop, ← h1, List.take_append_drop]
theorem joinAt_split {A B C : List WindowL} {x y h : WindowL} {i k : Nat} (hi : A.length = i) (hk : A.length + 1 + B.length = k) : joinAt (A ++ x :: (B ++ y :: C)) i k h = A ++ h :: (B ++ C) := by
  have e : (A ++ x :: (B ++ y :: C)).set i h = (A ++ h :: B) ++ y :: C := by
    rw [← hi, List.set_append_right _ _ (Nat.le_refl _), Nat.sub_self, List.set_cons_zero, List.append_assoc]
    rfl
  have hl : (A ++ h :: B).length = k := by simp; omega
  rw [joinAt, e, List.take_left' hl, ← List.drop_drop, List.drop_left' hl]
  simp
theorem joinAt_spec {out : List WindowL} {i k : Nat} (hik : i < k) (hk : k < out.length) (hr : ∀ x ∈ out, x.rightB = true) (hj : joinsB (atW out i) (atW out k) = true) :
    let h := wholeW (atW out i) (atW out k)
    (∀ x ∈ joinAt out i k h, x.rightB = true) ∧ (∀ q p, Cov (joinAt out i k h) q p ↔ Cov out q p) ∧ (joinAt out i k h).length + 1 = out.length := by
  intro h
  obtain ⟨A, B, C, e, e1, e2⟩ := split_two hik hk
  obtain ⟨x, hx⟩ : ∃ x, x = atW out i := ⟨_, rfl⟩
  obtain ⟨y, hy⟩ : ∃ y, y = atW out k := ⟨_, rfl⟩
  have hh : h = wholeW x y := by rw [hx, hy]
  rw [← hx, ← hy] at e hj
  clear_value h
  obtain ⟨j1, j2, j3, j4, j5⟩ := (joinsB_iff _ _).1 hj
  have rx := rightW_cases j1
  have ry := rightW_cases j2
  rw [e] at hr ⊢
  rw [joinAt_split e1 e2]
  have hhr : h.rightB = true := by
    rw [hh, WindowL.rightB, show (wholeW x y).key = x.key from rfl, rx.1, Bool.true_and, decide_eq_true_eq]
    simp only [wholeW]
    omega
  refine ⟨fun z hz => ?_, fun q p => ?_, by simp; omega⟩
  · simp only [List.mem_append, List.mem_cons] at hz
    rcases hz with hz | rfl | hz | hz
    · exact hr z (by simp [hz])
    · exact hhr
    · exact hr z (by simp [hz])
    · exact hr z (by simp [hz])
  · have hc : ∀ (a : WindowL) (l : List WindowL), Cov (a :: l) q p ↔ (a.key = q ∧ 2 * a.lo ≤ p ∧ p ≤ 2 * a.hi) ∨ Cov l q p := fun a l => by
      rw [show a :: l = [a] ++ l from rfl, Cov_append, Cov_one]
    rw [Cov_append, hc, Cov_append, Cov_append, hc, Cov_append, hc]
    have key : (h.key = q ∧ 2 * h.lo ≤ p ∧ p ≤ 2 * h.hi) ↔ (x.key = q ∧ 2 * x.lo ≤ p ∧ p ≤ 2 * x.hi) ∨ (y.key = q ∧ 2 * y.lo ≤ p ∧ p ≤ 2 * y.hi) := by
      rw [hh, ← j3]
      simp only [wholeW]
      constructor
      · rintro ⟨k1, k2, k3⟩
        by_cases c1 : 2 * x.lo ≤ p
        · by_cases c2 : p ≤ 2 * x.hi
          · exact .inl ⟨k1, c1, c2⟩
          · exact .inr ⟨k1, by omega, by omega⟩
        · exact .inr ⟨k1, by omega, by omega⟩
      · rintro (⟨k1, k2, k3⟩ | ⟨k1, k2, k3⟩)
        · exact ⟨k1, by omega, by omega⟩
        · exact ⟨k1, by omega, by omega⟩
    rw [key]
    constructor
    · rintro (h | (h | h) | h | h)
      · exact .inl h
      · exact .inr (.inl h)
      · exact .inr (.inr (.inr (.inl h)))
      · exact .inr (.inr (.inl h))
      · exact .inr (.inr (.inr (.inr h)))
    · rintro (h | h | h | h | h)
      · exact .inl h
      · exact .inr (.inl (.inl h))
      · exact .inr (.inr (.inl h))
      · exact .inr (.inl (.inr h))
      · exact .inr (.inr (.inr h))
end Go.Proofs.Ytbfioekbahcicaa
