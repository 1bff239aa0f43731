/-
  The contract of the reference's primes.
-/
import Derived.Test.YtmdacfbhfacniaaDoorRefOwn
namespace Go.Proofs.YtmdacfbhfacniaaDoor
open Go.RowKit

def PrRel (w : World) (out p : Value) (wr : World) : Prop :=
  ∃ n : Nat, n ≤ 310 ∧ p = .int .u64 ((n + 2 : Nat) : Int) ∧ Own wr w.heap.size 61 out ((primesTo n).map Q) ∧ Below w.heap.size w wr
def PrIn (wr0 : World) (P : Nat) (L : List Nat) (pr i : Value) (wr : World) : Prop :=
  ∃ t : Nat, t ≤ L.length ∧ pr = .bool ((L.take t).all (fun q => P % q != 0)) ∧ i = .int .i64 (t : Int) ∧ wr = wr0
theorem bne_cast (m : Nat) : ((m : Int) != 0) = (m != 0) := by
  rw [Bool.eq_iff_iff]
  simp
theorem all_take_succ (L : List Nat) (f : Nat → Bool) (t : Nat) (h : t < L.length) : (L.take (t + 1)).all f = ((L.take t).all f && f (L.getD t 0)) := by
  rw [List.take_add_one, List.all_append]
  simp [List.getElem?_eq_getElem h]

def PrimesEnd (w : World) (e : Ending) (w' : World) : Prop := ∃ v, e = .returned v ∧ Own w' w.heap.size 61 v ((primesTo 310).map Q) ∧ Below w.heap.size w w'

set_option maxRecDepth 100000 in
set_option maxHeartbeats 1000000 in
theorem primes_any (w : World) : Calls Tryd.prog 28 #[.int .i64 64] w (PrimesEnd w) := by
  go_enter Tryd.func28, Tryd.ntmps28
  go_wp2_with (fail)
  go_loopw [3, 4] (PrRel w) (fun _ p _ => 312 - (intOf p).toNat)
  case atStart => exact ⟨0, by omega, rfl, Own.nil _ _ _, Below.refl _ _⟩
  case round =>
    obtain ⟨n, hn, rfl, hown, hB⟩ := hrel
    obtain ⟨L, hL⟩ : ∃ L, L = primesTo n := ⟨_, rfl⟩
    obtain ⟨P, hP⟩ : ∃ P, P = n + 2 := ⟨_, rfl⟩
    obtain ⟨a, c, rfl⟩ := hown.form
    have hll : ((primesTo n).map Q).length = L.length := by rw [hL]; simp
    have hn64 : L.length ≤ 64 := by
      rw [hL]
      have := primes_mono n (310 - n)
      rw [show n + (310 - n) = 310 by omega, primes_310] at this
      exact this
    rw [hll, ← hL] at hown
    rw [hll, ← hP]
    have hPw : IntKind.u64.wrap ((P : Int) + 1) = ((P + 1 : Nat) : Int) := by rw [show (P : Int) + 1 = ((P + 1 : Nat) : Int) by omega]; exact u64_in (by omega)
    have hP311 : n < 310 → P ≤ 311 := by omega
    by_cases hlt : n < 310
    · have hl64 : (L.length : Int) < 64 := by have := primes_short hlt; rw [← hL] at this; omega
      have hP311 := hP311 hlt
      have HR := Lib.hid (And.intro hown (And.intro hB (And.intro hL (And.intro hP (And.intro hn hll)))))
      clear hown hB hL hP hll
      go_wp2_with (fail)
      go_loopw [5, 16] (PrIn wr P L) (fun _ i _ => L.length - (intOf i).toNat)
      case atStart => exact ⟨0, by omega, rfl, rfl, rfl⟩
      case round =>
        obtain ⟨t, ht, rfl, rfl, rfl⟩ := hrel
        have hs := all_take_succ L (fun q => P % q != 0) t
        obtain ⟨pr, hpr⟩ : ∃ pr, pr = (L.take t).all (fun q => P % q != 0) := ⟨_, rfl⟩
        rw [← hpr] at hs ⊢
        by_cases hti : t < L.length
        · obtain ⟨g, c', hv, -, -⟩ := HR.out.1.form1 (by simpa using (by omega : 0 < L.length))
          have hag : a = some ⟨g, 0, none⟩ := by
            rw [Value.slice.injEq] at hv
            exact hv.1
          subst hag
          have hlq : (L.map Q).length = L.length := by simp
          have hq2 := primes_mem n (L.getD t 0) (by rw [← HR.out.2.2.1]; simp [List.getD_eq_getElem?_getD, List.getElem?_eq_getElem hti])
          have k1 : wr.cell? ⟨g, t, none⟩ = some (.int .u64 ((L.getD t 0 : Nat) : Int)) := by
            have := HR.out.1
            rw [show L.length = (L.map Q).length by simp] at this
            rw [this.cellAt t (by simpa using hti)]
            simp [Q, List.getElem?_eq_getElem hti, List.getD_eq_getElem?_getD]
          have hs := hs hti
          obtain ⟨q, hq⟩ : ∃ q, q = L.getD t 0 := ⟨_, rfl⟩
          rw [← hq] at hs hq2 k1
          obtain ⟨m, hm⟩ : ∃ m, m = P % q := ⟨_, rfl⟩
          have m1 : (P : Int) % (q : Int) = (m : Int) := by rw [hm]; omega
          have q0 : ((q : Int) == 0) = false := by simp; omega
          have q1 : ¬ (q : Int) = 0 := by omega
          have HS := Lib.hid (And.intro hs (And.intro hm hq))
          clear hs hm hpr hv hq
          cases pr with
          | false =>
            go_wp2_with (fail)
            refine ⟨⟨t + 1, by omega, ?_, rfl, rfl⟩, by simp [intOf]; omega⟩
            rw [HS.out.1]
            rfl
          | true =>
            go_wp2_with (fail)
            refine ⟨⟨t + 1, by omega, ?_, rfl, rfl⟩, by simp [intOf]; omega⟩
            have e := bne_cast m
            rw [HS.out.1, ← HS.out.2.1, e]
            rfl
        · obtain rfl : t = L.length := by omega
          rw [List.take_length] at hpr
          have hw0 : wr.drewN 0 = wr := rfl
          cases pr with
          | false =>
            have hpn : primesTo (n + 1) = primesTo n := by
              rw [primesTo, ← HR.out.2.2.1, ← HR.out.2.2.2.1, if_neg (by rw [← hpr]; simp)]
            have HS := Lib.hid hpn
            clear hpn hpr hs
            go_wp2_with (fail)
            refine ⟨⟨n + 1, by omega, ?_, ?_, HR.out.2.1⟩, ?_⟩
            rotate_left 2
            · show 312 - ((P : Int) + 1).toNat < 312 - (P : Int).toNat
              omega
            · rw [HR.out.2.2.2.1]
              go_num
            · rw [HS.out, ← HR.out.2.2.1]
              have := HR.out.1
              exact this
          | true =>
            have hpn : primesTo (n + 1) = L ++ [P] := by
              rw [primesTo, ← HR.out.2.2.1, ← HR.out.2.2.2.1, if_pos (by rw [← hpr])]
            have HS := Lib.hid hpn
            clear hpn hpr hs
            go_upto_region 12 with (fail)
            refine wp_region_lit ?_
            iterate 9 go_step
            refine wpList_push Tryd.underlying59 info53 rfl rfl (.tmp 29) (.tmp 31) rfl w.heap.size _ (L.map Q) rfl (HR.out.1.alloc _) (Q P) wr.heap.size rfl (by go_simp; rfl) rfl (by simp; omega) (by have := HR.out.2.1.size; simp; omega) (by omega) ?_
            intro v' w' k1 k2 k3
            have HK := Lib.hid (And.intro k1 k2)
            clear k1 k2 k3
            go_wp2_with (fail)
            refine ⟨⟨n + 1, by omega, ?_, ?_, ?_⟩, ?_⟩
            rotate_left 3
            · show 312 - ((P : Int) + 1).toNat < 312 - (P : Int).toNat
              omega
            · rw [HR.out.2.2.2.1]
              go_num
            · rw [HS.out, List.map_append]
              exact HK.out.1
            · have h1 := (HR.out.2.1.alloc HR.out.2.1.size (.cells #[Value.int .u64 (P : Int)] 61))
              exact h1.trans (below_grown (HR.out.1.alloc _) HK.out.2 h1.size)
    · obtain rfl : n = 310 := by omega
      have hlen : L.length = 64 := by rw [hL]; exact primes_310
      have e64 : (L.length : Int) = 64 := by omega
      have HR := Lib.hid (And.intro hown (And.intro hB hL))
      clear hown hB hL hlen hll
      go_wp2_with (fail)
      go_ret
      obtain ⟨hown, hB, hL⟩ := HR.out
      refine ⟨_, rfl, ?_, hB⟩
      rw [← hL]
      exact hown
end Go.Proofs.YtmdacfbhfacniaaDoor
