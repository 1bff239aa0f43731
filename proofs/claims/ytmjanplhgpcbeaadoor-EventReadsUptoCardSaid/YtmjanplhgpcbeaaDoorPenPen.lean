/-
  The contracts of a pen's methods: Number, Signed, Text, Fixed, Bytes; of a nil one's.
-/
import Derived.Test.YtmjanplhgpcbeaaDoorPenWord
import Derived.Test.YtmjanplhgpcbeaaDoorPenClone
namespace Go.Proofs.YtmjanplhgpcbeaaDoor
open Go Go.RowKit

theorem pnumber_nil (w : World) (n : Int) : Calls Tryd.prog 33 #[.pointer none, .int .i64 n] w fun e w' => e = .returned (.bool false) ∧ w' = w := by
  go_enter Tryd.func33, Tryd.ntmps33
  go_wp2_with (fail)
  go_ret
  exact ⟨rfl, rfl⟩
theorem pnumber_neg (w : World) (p : Addr) (n : Int) (h : n < 0) : Calls Tryd.prog 33 #[.pointer (some p), .int .i64 n] w fun e w' => e = .returned (.bool false) ∧ w' = w := by
  go_enter Tryd.func33, Tryd.ntmps33
  go_wp2_with (fail)
  go_ret
  exact ⟨rfl, rfl⟩
theorem pnumber_any (w : World) (X : Nat → Prop) (b n : Nat) (l : List (BitVec 8)) (h : n < 9223372036854775808) (hP : PenAt X w b l) (hX : ∀ k, X k → k < w.heap.size) (hl : l.length ≤ 1073741000) :
    Calls Tryd.prog 33 #[.pointer (some ⟨b, 0, none⟩), .int .i64 (n : Int)] w (PenEnd X b w (l ++ wordL n) (.bool true)) := by
  have hcv := fun w => run_conv_i64_u64n w n h
  have HS := Lib.hid (pword_any w X b l n (by omega) hP hX hl)
  have h1 : ¬ (n : Int) < 0 := by omega
  clear h hP hX hl
  go_enter Tryd.func33, Tryd.ntmps33
  go_wp2_with (fail)
  refine HS.out.mono ?_
  rintro e w1 ⟨rfl, h1, h2⟩
  have HF := Lib.hid (And.intro h1 h2)
  clear h1 h2
  dsimp only
  go_wp2_with (fail)
  go_ret
  exact ⟨rfl, HF.out⟩
theorem psigned_nil (w : World) (n : Int) : Calls Tryd.prog 35 #[.pointer none, .int .i64 n] w fun e w' => e = .returned (.tuple #[]) ∧ w' = w := by
  go_enter Tryd.func35, Tryd.ntmps35
  go_wp2_with (fail)
  exact bodyPost_ret (v := .tuple #[]) (results_none rfl _ _ _) rfl ⟨rfl, rfl⟩
theorem run_conv_i64_u64z (w : World) (n : Int) (h1 : -9223372036854775808 ≤ n) (h2 : n < 9223372036854775808) : (convert 3 77 (.int .i64 n)).run Tryd.prog w = .ok (.int .u64 (if 0 ≤ n then n else n + 18446744073709551616)) w := by
  simp [convert, Conv.intToInt, run_underlying Tryd.underlying3, run_underlying Tryd.underlying77, IntKind.wrap, IntKind.bits, IntKind.signed]
  split <;> omega
theorem wrap_u64 (x : Int) : IntKind.u64.wrap x = x % 18446744073709551616 := by
  simp [IntKind.wrap, IntKind.bits, IntKind.signed]
theorem not64 (x : Nat) (h : x < 18446744073709551616) : (BitVec.ofInt 64 18446744073709551615 ^^^ BitVec.ofInt 64 (x : Int)).toNat = 18446744073709551615 - x := by
  have e : BitVec.ofInt 64 (x : Int) = BitVec.ofNat 64 x := by
    apply BitVec.eq_of_toNat_eq
    simp
  have e2 : BitVec.ofInt 64 18446744073709551615 = BitVec.allOnes 64 := by decide +kernel
  rw [e, e2, BitVec.allOnes_xor, BitVec.toNat_not]
  simp
  omega
theorem bits_not64 (x : Nat) (h : x < 18446744073709551616) : bits .xor .u64 IntKind.u64.max (x : Int) = ((18446744073709551615 - x : Nat) : Int) := by
  show IntKind.u64.wrap ((BitVec.ofInt 64 18446744073709551615 ^^^ BitVec.ofInt 64 (x : Int)).toNat : Int) = _
  rw [not64 x h, wrapU64 _ (by omega)]
theorem psigned_any (w : World) (X : Nat → Prop) (b : Nat) (n : Int) (l : List (BitVec 8)) (h1 : -9223372036854775808 ≤ n) (h2 : n < 9223372036854775808) (hP : PenAt X w b l) (hX : ∀ k, X k → k < w.heap.size) (hl : l.length ≤ 1073741000) :
    Calls Tryd.prog 35 #[.pointer (some ⟨b, 0, none⟩), .int .i64 n] w (PenEnd X b w (l ++ signedL n) (.tuple #[])) := by
  have HS := Lib.hid (pword_any w X b l (zig n) (zig_lt n h1 h2) hP hX hl)
  have HG : Hid (signedL n = wordL (zig n)) := Lib.hid rfl
  obtain ⟨z, hz⟩ : ∃ z, z = zig n := ⟨_, rfl⟩
  have hzl := zig_lt n h1 h2
  rw [← hz] at HS HG hzl
  have hcv := fun w => run_conv_i64_u64z w n h1 h2
  clear hP hX hl
  by_cases hn : 0 ≤ n
  · have hm : (z : Int) = 2 * n := by rw [hz, zig, if_pos hn]; omega
    have hsh : IntKind.u64.wrap (n * 2) = (z : Int) := by rw [wrap_u64]; omega
    simp only [if_pos hn] at hcv
    have h1' : ¬ n < 0 := by omega
    clear hz hm h1 h2 hn hzl
    go_enter Tryd.func35, Tryd.ntmps35
    go_wp2_with (fail)
    refine HS.out.mono ?_
    rintro e w1 ⟨rfl, k1, k2⟩
    have HF := Lib.hid (And.intro k1 k2)
    clear k1 k2
    dsimp only
    go_wp2_with (fail)
    go_end0
    exact ⟨rfl, by rw [HG.out]; exact HF.out⟩
  · obtain ⟨y, hy⟩ : ∃ y : Nat, (y : Int) = n + 18446744073709551616 := ⟨(n + 18446744073709551616).toNat, by omega⟩
    obtain ⟨q, hq⟩ : ∃ q, q = 18446744073709551615 - z := ⟨_, rfl⟩
    have hm : z = (-(n + 1)).toNat * 2 + 1 := by rw [hz, zig, if_neg hn]; omega
    simp only [if_neg hn] at hcv
    rw [← hy] at hcv
    have hsh : IntKind.u64.wrap ((y : Int) * 2) = (q : Int) := by rw [wrap_u64]; omega
    have hnt := bits_not64 q (by omega)
    rw [show 18446744073709551615 - q = z by omega] at hnt
    have h1' : n < 0 := by omega
    clear hz hm h1 h2 hn hzl hq hy
    go_enter Tryd.func35, Tryd.ntmps35
    go_wp2_with (fail)
    refine HS.out.mono ?_
    rintro e w1 ⟨rfl, k1, k2⟩
    have HF := Lib.hid (And.intro k1 k2)
    clear k1 k2
    dsimp only
    go_wp2_with (fail)
    go_end0
    exact ⟨rfl, by rw [HG.out]; exact HF.out⟩
theorem pfixed_nil (w : World) (v : Value) : Calls Tryd.prog 56 #[.pointer none, v] w fun e w' => e = .returned (.tuple #[]) ∧ w' = w := by
  go_enter Tryd.func56, Tryd.ntmps56
  go_wp2_with (fail)
  exact bodyPost_ret (v := .tuple #[]) (results_none rfl _ _ _) rfl ⟨rfl, rfl⟩
set_option maxRecDepth 100000 in
theorem pfixed_any (w : World) (X : Nat → Prop) (b n c : Nat) (a : Option Addr) (l m : List (BitVec 8)) (hn : n = m.length) (hm : SrcP w a m.length m) (hP : PenAt X w b l) (hX : ∀ k, X k → k < w.heap.size) (hl : l.length + m.length ≤ 1073741824) :
    Calls Tryd.prog 56 #[.pointer (some ⟨b, 0, none⟩), .slice a n c] w (PenEnd X b w (l ++ m) (.tuple #[])) := by
  obtain ⟨v, hb, ho, hx0⟩ := hP
  have d0 : w.cell? ⟨b, 0, none⟩ = some v := by rw [cell_of_row _ _ _ _ _ _ hb]; rfl
  have HF := Lib.hid (And.intro hn (And.intro hm (And.intro hb (And.intro ho (And.intro (And.intro hX hx0) hl)))))
  clear hn hm hb ho hX hx0 hl
  go_enter Tryd.func56, Tryd.ntmps56
  go_upto_region 1 with (fail)
  refine wp_region_lit ?_
  iterate 18 go_step
  obtain ⟨hn, hm, hb, ho, ⟨hX, hx0⟩, hl⟩ := HF.out
  have hbl := (Array.getElem?_eq_some_iff.1 hb).1
  refine wpList_append_own2 rfl (.tmp 10) (.tmp 11) rfl 0 v (l.map B) rfl ho a c m n hn rfl hm (by simpa using hl) (Nat.zero_le _) ?_
  intro v' w1 ho1 hg hv'
  obtain ⟨hG, hG2⟩ := PenAt.grown hb ho hx0 ho1 hg hv' hX
  have hb1 : w1.heap[b]? = some (.cells #[v] 31 (0, 0)) := (hg.block b hbl (fun e => own_ne ho hb (by decide) e.symm)).trans hb
  have d1 : w1.cell? ⟨b, 0, none⟩ = some v := by rw [cell_of_row _ _ _ _ _ _ hb1]; rfl
  have f1 : w1.frozen? ⟨b, 0, none⟩ = false := frozen_of_row w1 b 0 _ _ hb1
  obtain ⟨ra, rc, hv1⟩ := ho1.form
  obtain ⟨rn, hrn⟩ : ∃ rn, rn = ((l.map B) ++ m.map B).length := ⟨_, rfl⟩
  rw [← hrn] at hv1
  subst hv1
  have HG := Lib.hid (And.intro hG hG2)
  clear hrn hG hG2 ho1 hg hv' hb1 hn hm hb ho hX hx0 hl d0 hbl
  dsimp only
  go_wp2_with (fail)
  go_end0
  exact ⟨rfl, HG.out.1, HG.out.2⟩
theorem ptext_nil (w : World) (a : Option Addr) (n c : Nat) : Calls Tryd.prog 34 #[.pointer none, .slice a n c] w fun e w' => e = .returned (.bool false) ∧ w' = w := by
  by_cases h : 4096 < n
  · have h1 : (4096 : Int) < (n : Int) := by omega
    clear h
    go_enter Tryd.func34, Tryd.ntmps34
    go_wp2_with (fail)
    go_ret
    exact ⟨rfl, rfl⟩
  · have h1 : ¬ (4096 : Int) < (n : Int) := by omega
    clear h
    go_enter Tryd.func34, Tryd.ntmps34
    go_wp2_with (fail)
    refine (pnumber_nil w n).mono ?_
    rintro e w1 ⟨rfl, rfl⟩
    dsimp only
    go_wp2_with (fail)
    go_ret
    exact ⟨rfl, rfl⟩
theorem ptext_long (w : World) (p : Addr) (a : Option Addr) (n c : Nat) (h : 4096 < n) : Calls Tryd.prog 34 #[.pointer (some p), .slice a n c] w fun e w' => e = .returned (.bool false) ∧ w' = w := by
  have h1 : (4096 : Int) < (n : Int) := by omega
  clear h
  go_enter Tryd.func34, Tryd.ntmps34
  go_wp2_with (fail)
  go_ret
  exact ⟨rfl, rfl⟩
/-- The bytes m, which lie where a pen's methods don't write. -/
def SrcK (X : Nat → Prop) (b : Nat) (w : World) (a : Option Addr) (m : List (BitVec 8)) : Prop :=
  m.length = 0 ∨ ∃ ab off, a = some ⟨ab, off, none⟩ ∧ X ab ∧ ab ≠ b ∧ ∀ i < m.length, w.cell? ⟨ab, off + i, none⟩ = some (B (gl m i))
theorem SrcK.srcP {X : Nat → Prop} {b : Nat} {w : World} {a : Option Addr} {m : List (BitVec 8)} (h : SrcK X b w a m) : SrcP w a m.length m := by
  rcases h with h | ⟨ab, off, h1, _, _, h3⟩
  · exact .inl h
  · exact .inr ⟨ab, off, h1, h3⟩
theorem cell_of_heap {w w' : World} {p : Addr} {v : Value} (h : w.cell? p = some v) (he : w'.heap[p.block]? = w.heap[p.block]?) : w'.cell? p = some v := by
  simp only [World.cell?] at h ⊢
  rw [he]
  exact h
theorem SrcK.kept {X : Nat → Prop} {b : Nat} {w w' : World} {a : Option Addr} {m : List (BitVec 8)} (h : SrcK X b w a m) (hK : PKept X b w w') : SrcK X b w' a m := by
  rcases h with h | ⟨ab, off, h1, h2, h3, h4⟩
  · exact .inl h
  · refine .inr ⟨ab, off, h1, h2, h3, fun i hi => cell_of_heap (h4 i hi) (hK.2.2.2.2.1 ab h2 h3 ?_)⟩
    exact block_lt_of_cell (h4 i hi)
theorem ptext_any (w : World) (X : Nat → Prop) (b n c : Nat) (a : Option Addr) (l m : List (BitVec 8)) (hn : n = m.length) (hm : SrcK X b w a m) (h4 : n ≤ 4096) (hP : PenAt X w b l) (hX : ∀ k, X k → k < w.heap.size) (hl : l.length ≤ 1073731000) :
    Calls Tryd.prog 34 #[.pointer (some ⟨b, 0, none⟩), .slice a n c] w (PenEnd X b w (l ++ textL m) (.bool true)) := by
  have h1 : ¬ (4096 : Int) < (n : Int) := by omega
  have HS := Lib.hid (pnumber_any w X b n l (by omega) hP hX (by omega))
  have HF := Lib.hid (And.intro hn (And.intro hm (And.intro hX (And.intro hl h4))))
  clear hn hm h4 hP hX hl
  go_enter Tryd.func34, Tryd.ntmps34
  go_wp2_with (fail)
  refine HS.out.mono ?_
  rintro e w1 ⟨rfl, k1, k2⟩
  obtain ⟨hn, hm, hX, hl, h4⟩ := HF.out
  have hw : (wordL n).length ≤ 10 := wordL_length n
  have HX := Lib.hid (pfixed_any w1 X b n c a (l ++ wordL n) m hn (hm.kept k2).srcP k1 (fun k hk => Nat.lt_of_lt_of_le (hX k hk) k2.size) (by rw [List.length_append]; omega))
  have HY : Hid (l ++ textL m = l ++ wordL n ++ m) := by
    show _ = _
    rw [textL, hn, List.append_assoc]
  have HK := Lib.hid k2
  clear hn hm hX hl h4 hw k1 k2
  dsimp only
  go_wp2_with (fail)
  refine HX.out.mono ?_
  rintro e w2 ⟨rfl, k3, k4⟩
  have HZ := Lib.hid (And.intro k3 (HK.out.trans k4))
  clear k3 k4
  dsimp only
  go_wp2_with (fail)
  go_ret
  exact ⟨rfl, by rw [HY.out]; exact HZ.out⟩
theorem pbytes_nil (w : World) : Calls Tryd.prog 15 #[.pointer none] w fun e w' => e = .returned (.slice none 0 0) ∧ w' = w := by
  go_enter Tryd.func15, Tryd.ntmps15
  go_wp2_with (fail)
  go_ret
  exact ⟨rfl, rfl⟩
theorem pbytes_any (w : World) (X : Nat → Prop) (b : Nat) (l : List (BitVec 8)) (hP : PenAt X w b l) (hl : l.length ≤ 1073741824) :
    Calls Tryd.prog 15 #[.pointer (some ⟨b, 0, none⟩)] w (BytesEnd w l) := by
  obtain ⟨v, hb, ho, hx0⟩ := hP
  obtain ⟨a, c, rfl, h1, h2, hac, h3⟩ := own_src ho
  have d0 : w.cell? ⟨b, 0, none⟩ = some (.slice a l.length c) := by rw [cell_of_row _ _ _ _ _ _ hb]; rfl
  have HS := Lib.hid (bclone_any w a c l.length l rfl h3.srcP hac hl)
  obtain ⟨n, hn⟩ : ∃ n, n = l.length := ⟨_, rfl⟩
  rw [← hn] at d0 HS
  clear hb ho h1 h2 h3 hac hl hn
  go_enter Tryd.func15, Tryd.ntmps15
  go_wp2_with (fail)
  refine HS.out.mono ?_
  rintro e w1 ⟨a', c', rfl, k⟩
  have HK := Lib.hid k
  clear k
  dsimp only
  go_wp2_with (fail)
  go_ret
  exact ⟨a', c', rfl, HK.out⟩
end Go.Proofs.YtmjanplhgpcbeaaDoor
