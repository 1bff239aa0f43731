/-
  Part 29 of 53 of what the proof leans on.
-/
import Derived.Test.YtjeeghafachebaaGreatG22
import Derived.Shelf.SlicesE.Equal
namespace Go.Proofs.YtjeeghafachebaaGreat
open Go Go.RowKit
theorem allEq_int : ∀ (l m : List Int), Lib.allEq (fun x y => x == y) l m = decide (l = m)
  | [], [] => rfl
  | [], _ :: _ => by simp [Lib.allEq]
  | _ :: _, [] => by simp [Lib.allEq]
  | x :: l, y :: m => by
    rw [Lib.allEq, allEq_int l m]
    by_cases h1 : x = y <;> by_cases h2 : l = m <;> simp [h1, h2]
theorem equalI_any (w : World) (t1 t2 : Value) (l m : List Int) (h1 : IntsAt w t1 l) (h2 : IntsAt w t2 m) (hl : l.length ≤ 1000000) (hm : m.length ≤ 1000000) :
    Calls Tryz.prog 44 #[t1, t2] w (Below0 w (.bool (decide (l = m)))) := by
  obtain ⟨a1, c1, rfl, _, h1⟩ := h1; obtain ⟨a2, c2, rfl, _, h2⟩ := h2
  by_cases hn : l.length = m.length
  · by_cases hz : l.length = 0
    · have e1 : l = [] := List.length_eq_zero_iff.1 hz; have e2 : m = [] := List.length_eq_zero_iff.1 (hn ▸ hz); subst e1; subst e2; clear h1 h2 hl hm hn hz; simp only [List.length_nil]
      go_enter Tryz.func44, Tryz.ntmps44
      go_wp2_with (fail)
      go_loopg [13] 0 (fun _ s13 wr => s13 = .int .i64 0 ∧ wr = w)
      case atStart => exact ⟨rfl, rfl⟩
      case round =>
        obtain ⟨rfl, hw⟩ := hrel; subst hw; go_wp2_with (fail); go_ret; exact ⟨rfl, Below.refl _ _⟩
    · rcases h1 with ⟨_, rfl⟩ | ⟨b1, o1, rfl, _, h1⟩
      · exact absurd rfl hz
      rcases h2 with ⟨_, rfl⟩ | ⟨b2, o2, rfl, _, h2⟩
      · exact absurd hn hz
      refine (AnyE.slices_Equal Tryz.equalI (Value.int .i64) _ (NeqAt.int _ _ .i64) b1 o1 l.length c1 b2 o2 m.length c2 l m w (Nat.le_refl _) (Nat.le_refl _) (by omega) (by omega) (fun j hj => h1 j _ ?_) (fun j hj => h2 j _ ?_)).mono ?_
      · rw [List.getElem?_eq_getElem hj, getElem!_pos l j hj]
      · rw [List.getElem?_eq_getElem hj, getElem!_pos m j hj]
      · rintro e w' ⟨rfl, k, hk⟩
        refine ⟨?_, by rw [hk]; exact below_draws (Below.refl _ _) k⟩
        rw [List.take_length, List.take_length, allEq_int]
  · have hd : decide (l = m) = false := decide_eq_false fun e => hn (by rw [e])
    rw [hd]; clear hd h1 h2; obtain ⟨p, hp⟩ : ∃ p, p = l.length := ⟨_, rfl⟩; obtain ⟨q, hq⟩ : ∃ q, q = m.length := ⟨_, rfl⟩; rw [← hp] at hl hn ⊢; rw [← hq] at hm hn ⊢; clear hp hq
    have hne : ¬ (p : Int) = (q : Int) := by omega
    go_enter Tryz.func44, Tryz.ntmps44
    go_wp2_with (fail); go_ret; exact ⟨rfl, Below.refl _ _⟩
def sameA (x y : AggL) : Bool := decide (x.n = y.n ∧ x.a = y.a ∧ x.top = y.top ∧ x.u = y.u ∧ x.v = y.v)
theorem sameA_iff (x y : AggL) : sameA x y = true ↔ x = y := by
  obtain ⟨n1, a1, l1, u1, v1⟩ := x; obtain ⟨n2, a2, l2, u2, v2⟩ := y; simp [sameA]
theorem box_aa (w : World) (n1 a1 : Int) (tv1 z1 : Value) (n2 a2 : Int) (tv2 z2 : Value) : RowA ((w.alloc (.cells (aggC n1 a1 tv1 z1) 53)).alloc (.cells (aggC n2 a2 tv2 z2) 53)) w.heap.size n1 a1 tv1 z1 ∧ RowA ((w.alloc (.cells (aggC n1 a1 tv1 z1) 53)).alloc (.cells (aggC n2 a2 tv2 z2) 53)) (w.heap.size + 1) n2 a2 tv2 z2 ∧ Below w.heap.size w ((w.alloc (.cells (aggC n1 a1 tv1 z1) 53)).alloc (.cells (aggC n2 a2 tv2 z2) 53)) := by
  have k1 := (Below.refl _ w).alloc (Nat.le_refl _) (.cells (aggC n1 a1 tv1 z1) 53); have k2 := (Below.refl _ (w.alloc (.cells (aggC n1 a1 tv1 z1) 53))).alloc (Nat.le_refl _) (.cells (aggC n2 a2 tv2 z2) 53); have hs : (w.alloc (.cells (aggC n1 a1 tv1 z1) 53)).heap.size = w.heap.size + 1 := heap_alloc_size w _; refine ⟨RowA.below (heap_alloc_new w _) k2, ?_, k1.trans (k2.mono k1.size)⟩; rw [← hs]; exact heap_alloc_new _ _
set_option maxRecDepth 100000 in
set_option maxHeartbeats 2000000 in
theorem asame_any (w : World) (x y : AggL) (tv1 z1 tv2 z2 : Value) (h1 : IntsAt w tv1 x.top) (h2 : IntsAt w tv2 y.top) (k1 : WholeZ z1 x.u x.v) (k2 : WholeZ z2 y.u y.v) (hn1 : x.top.length ≤ 1000000) (hn2 : y.top.length ≤ 1000000) :
    Calls Tryz.prog 45 #[.agg (aggC x.n x.a tv1 z1), .agg (aggC y.n y.a tv2 z2)] w (Below0 w (.bool (sameA x y))) := by
  obtain ⟨r, hr⟩ : ∃ r, r = sameA x y := ⟨_, rfl⟩; rw [← hr]; have HR := Lib.hid hr; clear hr; obtain ⟨rt, hrt⟩ : ∃ r, r = decide (x.top = y.top) := ⟨_, rfl⟩; obtain ⟨rz, hrz⟩ : ∃ r, r = decide (x.u = y.u ∧ x.v = y.v) := ⟨_, rfl⟩
  have HC : Hid (∀ w', Below w.heap.size w w' → Calls Tryz.prog 44 #[tv1, tv2] w' (Below0 w' (.bool rt))) := by
    rw [hrt]; exact Lib.hid (fun w' hB => equalI_any w' tv1 tv2 x.top y.top (h1.below hB) (h2.below hB) hn1 hn2)
  have heq := CRep.eql k1.1 k2.1; have hgd := CRep.guard k1.1 k2.1; rw [← hrz] at heq
  have HRr : Hid (r = (decide (x.n = y.n) && (decide (x.a = y.a) && (rt && rz)))) := by
    rw [HR.out, hrt, hrz, sameA]; refine Lib.hid ?_; simp
  clear HR hrt hrz h1 h2 k1 k2 hn1 hn2; obtain ⟨n1, a1, l1, u1, v1⟩ := x; obtain ⟨n2, a2, l2, u2, v2⟩ := y; simp only at HRr ⊢; obtain ⟨w1, hw1⟩ : ∃ W, W = (w.alloc (.cells (aggC n1 a1 tv1 z1) 53)).alloc (.cells (aggC n2 a2 tv2 z2) 53) := ⟨_, rfl⟩; obtain ⟨b1, hb1⟩ : ∃ b, b = w.heap.size := ⟨_, rfl⟩; obtain ⟨b2, hb2⟩ : ∃ b, b = w.heap.size + 1 := ⟨_, rfl⟩; have hs1 : (w.alloc (.cells (aggC n1 a1 tv1 z1) 53)).heap.size = w.heap.size + 1 := heap_alloc_size w _
  have H1 : Hid (RowA w1 b1 n1 a1 tv1 z1 ∧ RowA w1 b2 n2 a2 tv2 z2 ∧ Below w.heap.size w w1) := by
    rw [hw1, hb1, hb2]; exact Lib.hid (box_aa w n1 a1 tv1 z1 n2 a2 tv2 z2)
  obtain ⟨f0, f1, f2, f3⟩ := H1.out.1.d4; obtain ⟨g0, g1, g2, g3⟩ := H1.out.2.1.d4; unfold aggC at hw1 hs1 ⊢
  go_enter Tryz.func45, Tryz.ntmps45
  go_upto_region 1 with (fail)
  rw [← hw1, ← hb2, ← hb1]; clear hw1 hb1 hb2 hs1
  by_cases hn : n1 = n2
  · subst hn
    by_cases ha : a1 = a2
    · subst ha
      cases rt with
      | false =>
        obtain rfl : r = false := by rw [HRr.out]; simp
        go_wp2_with (fail); refine (HC.out w1 H1.out.2.2).mono ?_; rintro e w2 ⟨rfl, hB⟩; have HB : Hid (Below w.heap.size w w2) := Lib.hid (H1.out.2.2.trans (hB.mono H1.out.2.2.size)); clear hB; dsimp only; go_wp2_with (fail); go_ret; exact ⟨rfl, HB.out⟩
      | true =>
        obtain rfl : r = rz := by rw [HRr.out]; simp
        go_wp2_with (fail); refine (HC.out w1 H1.out.2.2).mono ?_; rintro e w2 ⟨rfl, hB⟩; have HB : Hid (Below w.heap.size w w2) := Lib.hid (H1.out.2.2.trans (hB.mono H1.out.2.2.size)); obtain ⟨f0, f1, f2, f3⟩ := (H1.out.1.below hB).d4; obtain ⟨g0, g1, g2, g3⟩ := (H1.out.2.1.below hB).d4; clear hB; dsimp only; go_wp2_with (fail); go_ret; exact ⟨rfl, HB.out⟩
    · obtain rfl : r = false := by rw [HRr.out]; simp [ha]
      have e1 : (a1 == a2) = false := by simpa using ha
      go_wp2_with (fail); go_ret; exact ⟨rfl, H1.out.2.2⟩
  · obtain rfl : r = false := by rw [HRr.out]; simp [hn]
    have e1 : (n1 == n2) = false := by simpa using hn
    go_wp2_with (fail); go_ret; exact ⟨rfl, H1.out.2.2⟩
end Go.Proofs.YtjeeghafachebaaGreat
