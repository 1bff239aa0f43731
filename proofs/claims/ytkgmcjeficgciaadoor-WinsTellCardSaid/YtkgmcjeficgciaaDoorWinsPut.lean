/-
  The contract of package wins's Put.
-/
import Derived.Test.YtkgmcjeficgciaaDoorWinsRight
import Derived.Test.YtkgmcjeficgciaaDoorPenPen
namespace Go.Proofs.YtkgmcjeficgciaaDoor
open Go Go.RowKit

theorem wput_nil (w : World) (x : WindowL) (_ : x.key.length ≤ 1000000) : Calls Tryd.prog 29 #[.pointer none, .agg x.cells] w (Below0 w (.bool false)) := by
  obtain ⟨key, lo, hi⟩ := x
  unfold WindowL.cells
  go_enter Tryd.func29, Tryd.ntmps29
  go_wp2_with (fail)
  go_ret
  exact ⟨rfl, (Below.refl _ w).alloc (Nat.le_refl _) _⟩
set_option maxRecDepth 100000 in
theorem wput_no (w : World) (b : Nat) (x : WindowL) (hr : x.rightB = false) (hl : x.key.length ≤ 1000000) : Calls Tryd.prog 29 #[.pointer (some ⟨b, 0, none⟩), .agg x.cells] w (Below0 w (.bool false)) := by
  obtain ⟨w1, hw1⟩ : ∃ W, W = w.alloc (.cells x.cells 31) := ⟨_, rfl⟩
  have HB : Hid (Below w.heap.size w w1) := by rw [hw1]; exact (Below.refl _ w).alloc (Nat.le_refl _) _
  have HR := Lib.hid (wright_any w1 x hl)
  rw [hr] at HR
  clear hr hl
  rw [hw1] at HB HR
  clear hw1 w1
  obtain ⟨key, lo, hi⟩ := x
  unfold WindowL.cells at HB HR ⊢
  go_enter Tryd.func29, Tryd.ntmps29
  go_wp2_with (fail)
  refine HR.out.mono ?_
  rintro e w3 ⟨rfl, hB3⟩
  have HZ : Hid (Below w.heap.size w w3) := HB.out.trans (hB3.mono HB.out.size)
  clear hB3
  dsimp only
  go_wp2_with (fail)
  go_ret
  exact ⟨rfl, HZ.out⟩
set_option maxRecDepth 100000 in
set_option maxHeartbeats 2000000 in
theorem wput_yes (w : World) (X : Nat → Prop) (b : Nat) (l : List (BitVec 8)) (x : WindowL) (hr : x.rightB = true) (hP : PenAt X w b l) (hX : ∀ k, X k → k < w.heap.size) (hl : l.length ≤ 1073700000) :
    Calls Tryd.prog 29 #[.pointer (some ⟨b, 0, none⟩), .agg x.cells] w (PenEnd X b w (l ++ x.bytes) (.bool true)) := by
  obtain ⟨key, lo, hi⟩ := x
  obtain ⟨_, _, hkl, h0, h1, h2, h3⟩ := rightW_cases hr
  simp only at hkl h0 h1 h2 h3
  obtain ⟨a, rfl⟩ : ∃ n : Nat, lo = (n : Int) := ⟨lo.toNat, by omega⟩
  obtain ⟨d, rfl⟩ : ∃ n : Nat, hi = (a : Int) + (n : Int) := ⟨(hi - a).toNat, by omega⟩
  have hbl := hP.lt
  obtain ⟨hi, hhi⟩ : ∃ h : Int, h = (a : Int) + (d : Int) := ⟨_, rfl⟩
  rw [← hhi] at hr ⊢
  obtain ⟨w1, hw1⟩ : ∃ W, W = w.alloc (.cells (WindowL.mk key (a : Int) hi).cells 31) := ⟨_, rfl⟩
  have HB : Hid (Below w.heap.size w w1) := by rw [hw1]; exact (Below.refl _ w).alloc (Nat.le_refl _) _
  have hrow : w1.heap[w.heap.size]? = some (.cells (WindowL.mk key (a : Int) hi).cells 31 (0, 0)) := by rw [hw1]; exact heap_alloc_new w _
  have HC : Hid (∀ w', PKept X b w1 w' → ∀ i v, (WindowL.mk key (a : Int) hi).cells[i]? = some v → w'.cell? ⟨w.heap.size, i, none⟩ = some v) := fun w' hK i v hi => by
    rw [cell_of_row w' _ i _ _ _ (hK.row hrow (by decide) (by omega))]
    exact hi
  have HK1 : Hid (PKept X b w w1) := PKept.of_below HB.out
  have HP1 : Hid (PenAt X w1 b l) := hP.below HB.out
  have HR := Lib.hid (wright_any w1 (WindowL.mk key (a : Int) hi) (Nat.le_trans hkl (by decide)))
  rw [hr] at HR
  have HN : Hid (∀ w' l' n, n < 9223372036854775808 → l'.length ≤ 1073710000 → PenAt X w' b l' → PKept X b w w' → Calls Tryd.prog 56 #[.pointer (some ⟨b, 0, none⟩), .int .i64 ((n : Nat) : Int)] w' (PenEnd X b w' (l' ++ wordL n) (.bool true))) :=
    Lib.hid (fun w' l' n hn hl' h1 h2 => pnumber_any w' X b n l' hn h1 (fun k hk => Nat.lt_of_lt_of_le (hX k hk) h2.size) (by omega))
  have HT : Hid (∀ w' w'' c l', Below w'.heap.size w' w'' → (∀ i < key.length, w''.cell? ⟨w'.heap.size, i, none⟩ = some (B (gl key i))) → l'.length ≤ 1073710000 → PenAt X w' b l' → PKept X b w w' →
      Calls Tryd.prog 55 #[.pointer (some ⟨b, 0, none⟩), .slice (some ⟨w'.heap.size, 0, none⟩) key.length c] w'' (fun e w3 => e = .returned (.bool true) ∧ PenAt X w3 b (l' ++ textL key) ∧ PKept X b w' w3)) := by
    refine Lib.hid (fun w' w'' c l' hB hc hl' h1 h2 => ?_)
    have h3 : PenAt (fun k => X k ∨ k = w'.heap.size) w'' b l' := (h1.more _ (fun k hk => hk.imp id (fun e => by omega))).below hB
    have hs : w'.heap.size < w''.heap.size ∨ key.length = 0 := by
      by_cases h0 : key.length = 0
      · exact .inr h0
      · exact .inl (block_lt_of_cell (hc 0 (by omega)))
    have hblw : b < w'.heap.size := Nat.lt_of_lt_of_le hbl h2.size
    rcases hs with hs | hs
    · refine (ptext_any w'' (fun k => X k ∨ k = w'.heap.size) b key.length c (some ⟨w'.heap.size, 0, none⟩) l' key rfl (.inr ⟨_, _, rfl, .inr rfl, by omega, fun i hi => by rw [Nat.zero_add]; exact hc i hi⟩) (by omega) h3 (fun k hk => ?_) (by omega)).mono ?_
      · rcases hk with hk | hk
        · exact Nat.lt_of_lt_of_le (hX k hk) (Nat.le_trans h2.size hB.size)
        · omega
      · rintro e w3 ⟨rfl, k1, k2⟩
        exact ⟨rfl, k1.mono fun k hk => .inl hk, (PKept.of_below hB).trans (k2.mono fun k hk => .inl hk)⟩
    · refine (ptext_any w'' X b key.length c (some ⟨w'.heap.size, 0, none⟩) l' key rfl (.inl hs) (by omega) (h1.below hB) (fun k hk => Nat.lt_of_lt_of_le (hX k hk) (Nat.le_trans h2.size hB.size)) (by omega)).mono ?_
      rintro e w3 ⟨rfl, k1, k2⟩
      exact ⟨rfl, k1, (PKept.of_below hB).trans k2⟩
  have c0 : w1.cell? ⟨w.heap.size, 0, none⟩ = some (Sv key) := HC.out w1 (PKept.refl _ _ _) 0 _ rfl
  have c1 : w1.cell? ⟨w.heap.size, 1, none⟩ = some (.int .i64 (a : Int)) := HC.out w1 (PKept.refl _ _ _) 1 _ rfl
  have c2 : w1.cell? ⟨w.heap.size, 2, none⟩ = some (.int .i64 hi) := HC.out w1 (PKept.refl _ _ _) 2 _ rfl
  obtain ⟨L, hL⟩ : ∃ L, L = l ++ (WindowL.mk key (a : Int) hi).bytes := ⟨_, rfl⟩
  rw [← hL]
  have hL : L = (((l ++ textL key) ++ wordL a) ++ wordL d) := by
    rw [hL, WindowL.bytes]
    simp only [numberL, hhi, show ((a : Int) + (d : Int) - (a : Int)) = (d : Int) by omega, Int.toNat_natCast, List.append_assoc]
  have HL := Lib.hid (And.intro hL (And.intro hl (And.intro (show a < 9223372036854775808 by omega) (And.intro (show d < 9223372036854775808 by omega) hkl))))
  have hsub : wrap64 (hi - (a : Int)) = (d : Int) := by
    rw [hhi, show ((a : Int) + (d : Int) - (a : Int)) = (d : Int) by omega]
    exact IntWalk.wrap64_in _ (by omega)
  unfold WindowL.cells at hw1 HR ⊢
  simp only at hw1
  clear hrow hr hP hX hl hL hkl hbl h0 h1 h2 h3 hhi
  go_enter Tryd.func29, Tryd.ntmps29
  go_upto_region 1 with (fail)
  rw [← hw1]
  clear hw1
  go_wp2_with (fail)
  refine HR.out.mono ?_
  rintro e w3 ⟨rfl, hB3⟩
  have H3 : Hid (PenAt X w3 b l ∧ PKept X b w1 w3) := Lib.hid ⟨HP1.out.below hB3, PKept.of_below hB3⟩
  clear hB3 c0 c1 c2
  have c0 : w3.cell? ⟨w.heap.size, 0, none⟩ = some (Sv key) := HC.out w3 H3.out.2 0 _ rfl
  obtain ⟨cc, w5, hcv, hB5, hcell⟩ := conv_bytes w3 key
  have H5 := Lib.hid (And.intro hB5 hcell)
  clear hB5 hcell
  dsimp only
  go_wp2_with (fail)
  refine (HT.out w3 w5 cc l H5.out.1 H5.out.2 (by have := HL.out.2.1; omega) H3.out.1 (HK1.out.trans H3.out.2)).mono ?_
  rintro e w6 ⟨rfl, hp6, hk6⟩
  have H6 : Hid (PenAt X w6 b (l ++ textL key) ∧ PKept X b w1 w6) := Lib.hid ⟨hp6, H3.out.2.trans hk6⟩
  clear hp6 hk6 c0 hcv
  have c1 : w6.cell? ⟨w.heap.size, 1, none⟩ = some (.int .i64 (a : Int)) := HC.out w6 H6.out.2 1 _ rfl
  have l6 : Hid ((l ++ textL key).length ≤ 1073700040) := by
    have h1 := HL.out.2.1
    have h2 := HL.out.2.2.2.2
    have h4 := wordL_length key.length
    refine Lib.hid ?_
    simp only [textL, List.length_append]
    omega
  dsimp only
  go_wp2_with (fail)
  refine (HN.out w6 _ a HL.out.2.2.1 (by have := l6.out; omega) H6.out.1 (HK1.out.trans H6.out.2)).mono ?_
  rintro e w7 ⟨rfl, hp7, hk7⟩
  have H7 : Hid (PenAt X w7 b ((l ++ textL key) ++ wordL a) ∧ PKept X b w1 w7) := Lib.hid ⟨hp7, H6.out.2.trans hk7⟩
  clear hp7 hk7 c1
  have c1 : w7.cell? ⟨w.heap.size, 1, none⟩ = some (.int .i64 (a : Int)) := HC.out w7 H7.out.2 1 _ rfl
  have c2 : w7.cell? ⟨w.heap.size, 2, none⟩ = some (.int .i64 hi) := HC.out w7 H7.out.2 2 _ rfl
  dsimp only
  go_wp2_with (fail)
  refine (HN.out w7 _ d HL.out.2.2.2.1 (by have := l6.out; have := wordL_length a; rw [List.length_append]; omega) H7.out.1 (HK1.out.trans H7.out.2)).mono ?_
  rintro e w8 ⟨rfl, hp8, hk8⟩
  have H8 : Hid (PenAt X w8 b (((l ++ textL key) ++ wordL a) ++ wordL d) ∧ PKept X b w1 w8) := Lib.hid ⟨hp8, H7.out.2.trans hk8⟩
  clear hp8 hk8 c1 c2
  dsimp only
  go_wp2_with (fail)
  go_ret
  refine ⟨rfl, ?_, HK1.out.trans H8.out.2⟩
  rw [HL.out.1]
  exact H8.out.1
end Go.Proofs.YtkgmcjeficgciaaDoor
