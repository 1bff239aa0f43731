/-
  Part 50 of 53 of what the proof leans on.
-/
import Derived.Test.YtjeeghafachebaaGreatG29
namespace Go.Proofs.YtjeeghafachebaaGreat
open Go Go.RowKit
def EqRel (w : World) (l m : List Int) (s : Value) (wr : World) : Prop := ∃ k : Nat, k ≤ l.length ∧ s = .int .i64 (k : Int) ∧ (∀ j, j < k → l[j]? = m[j]?) ∧ Below w.heap.size w wr
theorem eqRel_all {l m : List Int} (hn : l.length = m.length) (h : ∀ j, j < l.length → l[j]? = m[j]?) : l = m := by
  refine List.ext_getElem? fun j => ?_
  by_cases hj : j < l.length
  · exact h j hj
  · rw [List.getElem?_eq_none (by omega), List.getElem?_eq_none (by omega)]
set_option maxRecDepth 100000 in
theorem rsameInts_any (w : World) (t1 t2 : Value) (l m : List Int) (h1 : IntsAt w t1 l) (h2 : IntsAt w t2 m) (hl : l.length ≤ 1000000) :
    Calls Tryz.prog 18 #[t1, t2] w (Below0 w (.bool (decide (l = m)))) := by
  have HT1 := Lib.hid h1; have HT2 := Lib.hid h2; obtain ⟨a1, c1, rfl, _, _⟩ := h1; obtain ⟨a2, c2, rfl, _, _⟩ := h2; obtain ⟨P, hP⟩ : ∃ P : Ending → World → Prop, P = Below0 w (.bool (decide (l = m))) := ⟨_, rfl⟩; rw [← hP]
  by_cases hn : l.length = m.length
  · rw [← hn] at HT2 ⊢
    have HY : Hid (∀ wr, (∀ j, j < l.length → l[j]? = m[j]?) → Below w.heap.size w wr → P (.returned (.bool true)) wr) := Lib.hid (fun wr h hB => by
      rw [hP, decide_eq_true (eqRel_all hn h)]
      exact ⟨rfl, hB⟩)
    have HN : Hid (∀ (wr : World) (k : Nat), l[k]? ≠ m[k]? → Below w.heap.size w wr → P (.returned (.bool false)) wr) := Lib.hid (fun wr k h hB => by
      rw [hP, decide_eq_false (fun e => h (by rw [e]))]
      exact ⟨rfl, hB⟩)
    have Hn := Lib.hid hn; clear hP hn
    have mixed : Tryz.prog.follows .mixedOrders = true := by kernel_rfl
    obtain ⟨p, hp⟩ : ∃ p, p = l.length := ⟨_, rfl⟩; rw [← hp] at hl HT1 HT2 HY ⊢; have Hp := Lib.hid hp; clear hp
    go_enter Tryz.func18, Tryz.ntmps18
    go_wp2_with (fail)
    go_loopw [13] (EqRel w l m) (fun v _ => p - (intOf v).toNat)
    case atStart => exact ⟨0, Nat.zero_le _, rfl, fun j h => absurd h (Nat.not_lt_zero _), Below.refl _ _⟩
    case round =>
      obtain ⟨k, hk, rfl, hA, hB⟩ := hrel; rw [← Hp.out] at hk; have HA := Lib.hid (And.intro hA hB); clear hA hB
      by_cases hlt : k < p
      · have hk0 : (0 : Int) ≤ (k : Int) ∧ (k : Int) < (p : Int) := by omega
        obtain ⟨x, pb, po, c', hx, hsa, c0⟩ := (HT1.out.below HA.out.2).get (t := k) (by rw [← Hp.out]; exact hlt)
        obtain rfl : a1 = some ⟨pb, po, none⟩ := by injection hsa
        obtain ⟨y, qb, qo, c'', hy, hsb, e0⟩ := (HT2.out.below HA.out.2).get (t := k) (by rw [← Hn.out, ← Hp.out]; exact hlt)
        obtain rfl : a2 = some ⟨qb, qo, none⟩ := by injection hsb
        have HXl := Lib.hid (And.intro hx (And.intro hy hlt)); clear hx hy hsa hsb hlt hk
        by_cases hxy : x = y
        · subst hxy
          have HR : Hid (EqRel w l m (.int .i64 ((k : Int) + 1)) wr.drew) := Lib.hid ⟨k + 1, by have := HXl.out.2.2; have := Hp.out; omega, by simp, fun j hj => by
            by_cases e : j = k
            · subst e; exact HXl.out.1.trans HXl.out.2.1.symm
            · exact HA.out.1 j (by omega), HA.out.2.drew⟩
          go_wp2_with (fail)
          go_region_o
          go_wp2_with (fail); go_roundw
          case rel => exact HR.out
          case measure => have := HXl.out.2.2; simp [intOf]; omega
        · have HZ := Lib.hid (HN.out wr.drew k (by rw [HXl.out.1, HXl.out.2.1]; exact fun e => hxy (by injection e)) HA.out.2.drew)
          go_wp2_with (fail)
          go_region_o
          go_wp2_with (fail); exact HZ.out
      · obtain rfl : k = p := by omega
        have HZ := Lib.hid (HY.out wr HA.out.1 HA.out.2); go_wp2_with (fail); exact HZ.out
  · have hd : decide (l = m) = false := decide_eq_false fun e => hn (by rw [e])
    rw [hd] at hP
    have HZ : Hid (P (.returned (.bool false)) w) := Lib.hid (by rw [hP]; exact ⟨rfl, Below.refl _ _⟩)
    clear hd HT1 HT2 hP; obtain ⟨p, hp⟩ : ∃ p, p = l.length := ⟨_, rfl⟩; obtain ⟨q, hq⟩ : ∃ q, q = m.length := ⟨_, rfl⟩; rw [← hp] at hl hn ⊢; rw [← hq] at hn ⊢; clear hp hq
    have hne : ¬ (p : Int) = (q : Int) := by omega
    go_enter Tryz.func18, Tryz.ntmps18
    go_wp2_with (fail); exact HZ.out
end Go.Proofs.YtjeeghafachebaaGreat
