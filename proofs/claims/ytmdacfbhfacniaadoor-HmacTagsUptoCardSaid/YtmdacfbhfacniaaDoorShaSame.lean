/-
  The contract of Same.
-/
import Derived.Test.YtmdacfbhfacniaaDoorShaSum
namespace Go.Proofs.YtmdacfbhfacniaaDoor
open Go.RowKit

/-- The n bytes from place a on are those of m. -/
def SrcP (w : World) (a : Option Addr) (n : Nat) (m : List (BitVec 8)) : Prop :=
  n = 0 ∨ ∃ ab off, a = some ⟨ab, off, none⟩ ∧ ∀ i < n, w.cell? ⟨ab, off + i, none⟩ = some (B (gl m i))
theorem SrcP.below {w w' : World} {a : Option Addr} {n : Nat} {m : List (BitVec 8)} (h : SrcP w a n m) (hB : Below w.heap.size w w') : SrcP w' a n m := by
  rcases h with h | ⟨ab, off, ha, hc⟩
  · exact .inl h
  · exact .inr ⟨ab, off, ha, fun i hi => (hB.cell (p := ⟨ab, off + i, none⟩) (block_lt_of_cell (hc i hi))).trans (hc i hi)⟩
theorem SrcP.src {w : World} {a : Option Addr} {n : Nat} {m : List (BitVec 8)} (h : SrcP w a n m) {b : Nat} (hb : w.heap.size ≤ b) : Src w b a n m 0 := by
  rcases h with h | ⟨ab, off, ha, hc⟩
  · exact .inl h
  · by_cases hn : n = 0
    · exact .inl hn
    · refine .inr ⟨ab, off, ha, ?_, fun i hi => by rw [Nat.zero_add]; exact hc i hi⟩
      have := block_lt_of_cell (hc 0 (by omega))
      intro e
      subst e
      exact absurd this (by simp; omega)

theorem list_eq_gl {m1 m2 : List (BitVec 8)} (h : m1.length = m2.length) : m1 = m2 ↔ ∀ i < m1.length, gl m1 i = gl m2 i := by
  refine ⟨fun e i _ => by rw [e], fun hh => List.ext_getElem h fun i h1 h2 => ?_⟩
  have := hh i h1
  simpa [gl, h1, h2] using this

def SameRel (w : World) (m1 m2 : List (BitVec 8)) (d k : Value) (wr : World) : Prop :=
  ∃ (t n : Nat) (x : BitVec 8), t ≤ m1.length ∧ k = .int .i64 t ∧ d = B x ∧ wr = w.drewN n ∧ (x = 0 ↔ ∀ i < t, gl m1 i = gl m2 i)
def SameEnd (w : World) (m1 m2 : List (BitVec 8)) (e : Ending) (w' : World) : Prop := e = .returned (.bool (decide (m1 = m2))) ∧ ∃ n, w' = w.drewN n

theorem or_zero {x y : BitVec 8} : x ||| y = 0 ↔ x = 0 ∧ y = 0 := BitVec.or_eq_zero_iff

set_option maxRecDepth 100000 in
set_option maxHeartbeats 1000000 in
theorem same_any (w : World) (a1 a2 : Option Addr) (m1 m2 : List (BitVec 8)) (c1 c2 : Nat) (h1 : SrcP w a1 m1.length m1) (h2 : SrcP w a2 m2.length m2)
    (hl1 : m1.length ≤ 9223372036854775807) (_hl2 : m2.length ≤ 9223372036854775807) :
    Calls Tryd.prog 15 #[.slice a1 m1.length c1, .slice a2 m2.length c2] w (SameEnd w m1 m2) := by
  by_cases hl : m1.length = m2.length
  · have HL := Lib.hid hl
    have e0 : ((m1.length : Int) != (m2.length : Int)) = false := by rw [hl]; simp
    obtain ⟨L1, hL1⟩ : ∃ L, L = m1.length := ⟨_, rfl⟩
    obtain ⟨L2, hL2⟩ : ∃ L, L = m2.length := ⟨_, rfl⟩
    rw [← hL1] at h1 hl1 e0 ⊢
    rw [← hL2] at h2 e0 ⊢
    have HX := Lib.hid (And.intro hL1 hL2)
    have HS := Lib.hid (And.intro h1 h2)
    clear hl hL1 hL2 h1 h2
    go_enter Tryd.func15, Tryd.ntmps15
    go_wp2_with (fail)
    go_loopw [5, 14] (SameRel w m1 m2) (fun _ k _ => L1 - (intOf k).toNat)
    case atStart => exact ⟨0, 0, 0, by omega, rfl, rfl, rfl, by simp⟩
    case round =>
      obtain ⟨t, n, x, ht, rfl, rfl, rfl, hx⟩ := hrel
      rw [← HX.out.1] at ht
      have HR := Lib.hid hx
      clear hx
      by_cases hlt : t < L1
      · obtain ⟨s1, s2⟩ := HS.out
        rcases s1 with s1 | ⟨b1, o1, rfl, s1⟩
        · omega
        rcases s2 with s2 | ⟨b2, o2, rfl, s2⟩
        · have := HL.out; have := HX.out; omega
        have k1 := s1 t hlt
        have hlt2 : t < L2 := by have := HL.out; have := HX.out; omega
        have k2 := s2 t hlt2
        have i1 : (0 : Int) ≤ (t : Int) ∧ (t : Int) < (L1 : Int) := by omega
        have i2 : (0 : Int) ≤ (t : Int) ∧ (t : Int) < (L2 : Int) := by omega
        clear s1 s2
        go_wp2_with (fail)
        go_quiet (fail)
        go_wp2_with (fail)
        refine ⟨⟨t + 1, n + nq, x ||| (gl m1 t ^^^ gl m2 t), by rw [← HX.out.1]; omega, by go_num, rfl, rfl, ?_⟩, by simp [intOf]; omega⟩
        rw [or_zero, HR.out]
        refine ⟨fun h i hi => ?_, fun h => ⟨fun i hi => h i (by omega), ?_⟩⟩
        · by_cases e : i = t
          · subst e
            exact BitVec.xor_eq_zero_iff.1 h.2
          · exact h.1 i (by omega)
        · exact BitVec.xor_eq_zero_iff.2 (h t (by omega))
      · obtain rfl : t = L1 := by omega
        have hgd : ∀ (o1 o2 : Operand) w, (eqGuard .eql 5 o1 o2 (B x) (.int .u8 0)).run Tryd.prog w = .ok () w := fun _ _ _ => rfl
        go_wp2_with (fail)
        go_ret
        refine ⟨?_, n, rfl⟩
        have e : (x = 0#8) ↔ m1 = m2 := by
          have h := HR.out
          rw [list_eq_gl HL.out, ← HX.out.1]
          exact h
        show Ending.returned (.bool (decide (x = 0#8))) = .returned (.bool (decide (m1 = m2)))
        congr 2
        exact decide_eq_decide.2 e
  · have e0 : ((m1.length : Int) != (m2.length : Int)) = true := by simp; omega
    have hd : decide (m1 = m2) = false := by
      have : m1 ≠ m2 := fun e => hl (by rw [e])
      simpa using this
    unfold SameEnd
    rw [hd]
    clear hl h1 h2 hd
    go_enter Tryd.func15, Tryd.ntmps15
    go_wp2_with (fail)
    go_ret
    exact ⟨rfl, 0, rfl⟩
end Go.Proofs.YtmdacfbhfacniaaDoor
