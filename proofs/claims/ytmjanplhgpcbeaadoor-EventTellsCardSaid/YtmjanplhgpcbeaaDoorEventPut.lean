/-
  The contract of package event's Put.
-/
import Derived.Test.YtmjanplhgpcbeaaDoorEventText
import Derived.Test.YtmjanplhgpcbeaaDoorPenPen
namespace Go.Proofs.YtmjanplhgpcbeaaDoor
open Go Go.RowKit

theorem eput_nil (w : World) (x : ItemL) : Calls Tryd.prog 11 #[.pointer none, .agg x.cells] w (Below0 w (.bool false)) := by
  obtain ⟨kind, key, time, value⟩ := x
  unfold ItemL.cells
  go_enter Tryd.func11, Tryd.ntmps11
  go_wp2_with (fail)
  go_ret
  exact ⟨rfl, (Below.refl _ w).alloc (Nat.le_refl _) _⟩
set_option maxRecDepth 100000 in
theorem eput_no (w : World) (b : Nat) (x : ItemL) (hk : x.key.length ≤ 1000000) (hr : x.rightB = false) : Calls Tryd.prog 11 #[.pointer (some ⟨b, 0, none⟩), .agg x.cells] w (Below0 w (.bool false)) := by
  obtain ⟨w1, hw1⟩ : ∃ W, W = w.alloc (.cells x.cells 23) := ⟨_, rfl⟩
  have HB : Hid (Below w.heap.size w w1) := by rw [hw1]; exact (Below.refl _ w).alloc (Nat.le_refl _) _
  have HR := Lib.hid (eright_any w1 x hk)
  rw [hr] at HR
  clear hr hk
  rw [hw1] at HB HR
  clear hw1 w1
  obtain ⟨kind, key, time, value⟩ := x
  unfold ItemL.cells at HB HR ⊢
  go_enter Tryd.func11, Tryd.ntmps11
  go_wp2_with (fail)
  refine HR.out.mono ?_
  rintro e w3 ⟨rfl, hB3⟩
  have HZ : Hid (Below w.heap.size w w3) := HB.out.trans (hB3.mono HB.out.size)
  clear hB3
  dsimp only
  go_wp2_with (fail)
  go_ret
  exact ⟨rfl, HZ.out⟩
theorem ItemL.bytes_length {x : ItemL} (h : x.key.length ≤ 1000) : x.bytes.length ≤ 1050 := by
  have h1 := wordL_length 1
  have h2 := wordL_length 2
  have h3 := wordL_length x.time.toNat
  have h4 := wordL_length (zig x.value)
  have h5 := wordL_length x.key.length
  unfold ItemL.bytes numberL signedL textL
  split
  · rw [List.length_append]; omega
  · simp only [List.length_append]; omega
set_option maxRecDepth 100000 in
set_option maxHeartbeats 2000000 in
theorem eput_yes (w : World) (X : Nat → Prop) (b : Nat) (l : List (BitVec 8)) (x : ItemL) (hr : x.rightB = true) (hP : PenAt X w b l) (hX : ∀ k, X k → k < w.heap.size) (hl : l.length ≤ 1073700000) :
    Calls Tryd.prog 11 #[.pointer (some ⟨b, 0, none⟩), .agg x.cells] w (PenEnd X b w (l ++ x.bytes) (.bool true)) := by
  obtain ⟨kind, key, time, value⟩ := x
  obtain ⟨ht, hkv⟩ := right_cases hr
  obtain ⟨tn, rfl⟩ : ∃ n : Nat, time = (n : Int) := ⟨time.toNat, by omega⟩
  have hkl : key.length ≤ 16 := by
    rcases hkv with ⟨_, h, _⟩ | h
    · rw [h]; decide
    · exact h.2.2.2.1
  have hv : -1099511627776 ≤ value ∧ value ≤ 1099511627776 := by
    rcases hkv with ⟨_, _, h⟩ | h
    · omega
    · exact h.2.2.2.2
  have hbl := hP.lt
  obtain ⟨w1, hw1⟩ : ∃ W, W = w.alloc (.cells (ItemL.mk kind key (tn : Int) value).cells 23) := ⟨_, rfl⟩
  have HB : Hid (Below w.heap.size w w1) := by rw [hw1]; exact (Below.refl _ w).alloc (Nat.le_refl _) _
  have hrow : w1.heap[w.heap.size]? = some (.cells (ItemL.mk kind key (tn : Int) value).cells 23 (0, 0)) := by rw [hw1]; exact heap_alloc_new w _
  have HC : Hid (∀ w', PKept X b w1 w' → ∀ i v, (ItemL.mk kind key (tn : Int) value).cells[i]? = some v → w'.cell? ⟨w.heap.size, i, none⟩ = some v) := fun w' hK i v hi => by
    rw [cell_of_row w' _ i _ _ _ (hK.row hrow (by decide) (by omega))]
    exact hi
  have HK1 : Hid (PKept X b w w1) := PKept.of_below HB.out
  have HP1 : Hid (PenAt X w1 b l) := hP.below HB.out
  have HR := Lib.hid (eright_any w1 (ItemL.mk kind key (tn : Int) value) (Nat.le_trans hkl (by decide)))
  rw [hr] at HR
  have lw : ∀ n, (wordL n).length ≤ 10 := wordL_length
  have HN : Hid (∀ w' l' n, n < 9223372036854775808 → l'.length ≤ 1073710000 → PenAt X w' b l' → PKept X b w w' → Calls Tryd.prog 33 #[.pointer (some ⟨b, 0, none⟩), .int .i64 ((n : Nat) : Int)] w' (PenEnd X b w' (l' ++ wordL n) (.bool true))) :=
    Lib.hid (fun w' l' n hn hl' h1 h2 => pnumber_any w' X b n l' hn h1 (fun k hk => Nat.lt_of_lt_of_le (hX k hk) h2.size) (by omega))
  have HS : Hid (∀ w' l', l'.length ≤ 1073710000 → PenAt X w' b l' → PKept X b w w' → Calls Tryd.prog 35 #[.pointer (some ⟨b, 0, none⟩), .int .i64 value] w' (PenEnd X b w' (l' ++ signedL value) (.tuple #[]))) :=
    Lib.hid (fun w' l' hl' h1 h2 => psigned_any w' X b value l' (by omega) (by omega) h1 (fun k hk => Nat.lt_of_lt_of_le (hX k hk) h2.size) (by omega))
  have HT : Hid (∀ w' w'' c l', Below w'.heap.size w' w'' → (∀ i < key.length, w''.cell? ⟨w'.heap.size, i, none⟩ = some (B (gl key i))) → l'.length ≤ 1073710000 → PenAt X w' b l' → PKept X b w w' →
      Calls Tryd.prog 34 #[.pointer (some ⟨b, 0, none⟩), .slice (some ⟨w'.heap.size, 0, none⟩) key.length c] w'' (fun e w3 => e = .returned (.bool true) ∧ PenAt X w3 b (l' ++ textL key) ∧ PKept X b w' w3)) := by
    refine Lib.hid (fun w' w'' c l' hB hc hl' h1 h2 => ?_)
    have h3 : PenAt (fun k => X k ∨ k = w'.heap.size) w'' b l' := (h1.more _ (fun k hk => hk.imp id (fun e => by omega))).below hB
    have hs : w'.heap.size < w''.heap.size ∨ key.length = 0 := by
      by_cases h0 : key.length = 0
      · exact .inr h0
      · exact .inl (block_lt_of_cell (hc 0 (by omega)))
    have hblw : b < w'.heap.size := Nat.lt_of_lt_of_le hbl h2.size
    rcases hs with hs | hs
    · refine (ptext_any w'' (fun k => X k ∨ k = w'.heap.size) b key.length c (some ⟨w'.heap.size, 0, none⟩) l' key rfl (.inr ⟨_, _, rfl, .inr rfl, by omega, fun i hi => by rw [Nat.zero_add]; exact hc i hi⟩) (by omega) h3 (fun k hk => ?_) (by omega)).mono ?_
      · rcases hk with hk | hk
        · exact Nat.lt_of_lt_of_le (hX k hk) (Nat.le_trans h2.size hB.size)
        · omega
      · rintro e w3 ⟨rfl, k1, k2⟩
        exact ⟨rfl, k1.mono fun k hk => .inl hk, (PKept.of_below hB).trans (k2.mono fun k hk => .inl hk)⟩
    · refine (ptext_any w'' X b key.length c (some ⟨w'.heap.size, 0, none⟩) l' key rfl (.inl hs) (by omega) (h1.below hB) (fun k hk => Nat.lt_of_lt_of_le (hX k hk) (Nat.le_trans h2.size hB.size)) (by omega)).mono ?_
      rintro e w3 ⟨rfl, k1, k2⟩
      exact ⟨rfl, k1, (PKept.of_below hB).trans k2⟩
  have c0 : w1.cell? ⟨w.heap.size, 0, none⟩ = some (.int .i64 kind) := HC.out w1 (PKept.refl _ _ _) 0 _ rfl
  have c1 : w1.cell? ⟨w.heap.size, 1, none⟩ = some (Sv key) := HC.out w1 (PKept.refl _ _ _) 1 _ rfl
  have c2 : w1.cell? ⟨w.heap.size, 2, none⟩ = some (.int .i64 (tn : Int)) := HC.out w1 (PKept.refl _ _ _) 2 _ rfl
  have c3 : w1.cell? ⟨w.heap.size, 3, none⟩ = some (.int .i64 value) := HC.out w1 (PKept.refl _ _ _) 3 _ rfl
  have k2 : kind = 2 ∨ kind = 1 := by
    rcases hkv with h | h
    · exact .inl h.1
    · exact .inr h.1
  obtain ⟨L, hL⟩ : ∃ L, L = l ++ (ItemL.mk kind key (tn : Int) value).bytes := ⟨_, rfl⟩
  rw [← hL]
  have HL := Lib.hid (And.intro hL (And.intro hl (And.intro (show tn < 9223372036854775808 by omega) hkl)))
  unfold ItemL.cells at hw1 HR ⊢
  clear hrow ht hv hkv hr hP hX hl hL hkl hbl lw
  rcases k2 with rfl | rfl
  · go_enter Tryd.func11, Tryd.ntmps11
    go_upto_region 1 with (fail)
    rw [← hw1]
    clear hw1
    go_wp2_with (fail)
    refine HR.out.mono ?_
    rintro e w3 ⟨rfl, hB3⟩
    have H3 : Hid (PenAt X w3 b l ∧ PKept X b w1 w3) := Lib.hid ⟨HP1.out.below hB3, PKept.of_below hB3⟩
    clear hB3 c0 c1 c2 c3
    have c0 : w3.cell? ⟨w.heap.size, 0, none⟩ = some (.int .i64 2) := HC.out w3 H3.out.2 0 _ rfl
    dsimp only
    go_wp2_with (fail)
    refine (HN.out w3 l 2 (by decide) (by have := HL.out.2.1; omega) H3.out.1 (HK1.out.trans H3.out.2)).mono ?_
    rintro e w4 ⟨rfl, hp4, hk4⟩
    have H4 : Hid (PenAt X w4 b (l ++ wordL 2) ∧ PKept X b w1 w4) := Lib.hid ⟨hp4, H3.out.2.trans hk4⟩
    clear hp4 hk4 c0
    have c0 : w4.cell? ⟨w.heap.size, 0, none⟩ = some (.int .i64 2) := HC.out w4 H4.out.2 0 _ rfl
    have c2 : w4.cell? ⟨w.heap.size, 2, none⟩ = some (.int .i64 (tn : Int)) := HC.out w4 H4.out.2 2 _ rfl
    dsimp only
    go_wp2_with (fail)
    refine (HN.out w4 (l ++ wordL 2) tn HL.out.2.2.1 (by have := HL.out.2.1; have := wordL_length 2; rw [List.length_append]; omega) H4.out.1 (HK1.out.trans H4.out.2)).mono ?_
    rintro e w5 ⟨rfl, hp5, hk5⟩
    have H5 : Hid (PenAt X w5 b ((l ++ wordL 2) ++ wordL tn) ∧ PKept X b w1 w5) := Lib.hid ⟨hp5, H4.out.2.trans hk5⟩
    clear hp5 hk5 c0 c2
    dsimp only
    go_wp2_with (fail)
    go_ret
    refine ⟨rfl, ?_, HK1.out.trans H5.out.2⟩
    have e : L = (l ++ wordL 2) ++ wordL tn := by rw [HL.out.1, ItemL.bytes, if_pos rfl, List.append_assoc]; rfl
    rw [e]
    exact H5.out.1
  · go_enter Tryd.func11, Tryd.ntmps11
    go_upto_region 1 with (fail)
    rw [← hw1]
    clear hw1
    go_wp2_with (fail)
    refine HR.out.mono ?_
    rintro e w3 ⟨rfl, hB3⟩
    have H3 : Hid (PenAt X w3 b l ∧ PKept X b w1 w3) := Lib.hid ⟨HP1.out.below hB3, PKept.of_below hB3⟩
    clear hB3 c0 c1 c2 c3
    have c0 : w3.cell? ⟨w.heap.size, 0, none⟩ = some (.int .i64 1) := HC.out w3 H3.out.2 0 _ rfl
    dsimp only
    go_wp2_with (fail)
    refine (HN.out w3 l 1 (by decide) (by have := HL.out.2.1; omega) H3.out.1 (HK1.out.trans H3.out.2)).mono ?_
    rintro e w4 ⟨rfl, hp4, hk4⟩
    have H4 : Hid (PenAt X w4 b (l ++ wordL 1) ∧ PKept X b w1 w4) := Lib.hid ⟨hp4, H3.out.2.trans hk4⟩
    clear hp4 hk4 c0
    have c0 : w4.cell? ⟨w.heap.size, 0, none⟩ = some (.int .i64 1) := HC.out w4 H4.out.2 0 _ rfl
    have c1 : w4.cell? ⟨w.heap.size, 1, none⟩ = some (Sv key) := HC.out w4 H4.out.2 1 _ rfl
    obtain ⟨cc, w5, hcv, hB5, hcell⟩ := conv_bytes w4 key
    have H5 := Lib.hid (And.intro hB5 hcell)
    clear hB5 hcell
    dsimp only
    go_wp2_with (fail)
    refine (HT.out w4 w5 cc (l ++ wordL 1) H5.out.1 H5.out.2 (by have := HL.out.2.1; have := wordL_length 1; rw [List.length_append]; omega) H4.out.1 (HK1.out.trans H4.out.2)).mono ?_
    rintro e w6 ⟨rfl, hp6, hk6⟩
    have H6 : Hid (PenAt X w6 b ((l ++ wordL 1) ++ textL key) ∧ PKept X b w1 w6) := Lib.hid ⟨hp6, H4.out.2.trans hk6⟩
    clear hp6 hk6 c0 c1 hcv
    have c2 : w6.cell? ⟨w.heap.size, 2, none⟩ = some (.int .i64 (tn : Int)) := HC.out w6 H6.out.2 2 _ rfl
    have l6 : Hid (((l ++ wordL 1) ++ textL key).length ≤ 1073700040) := by
      have h1 := HL.out.2.1
      have h2 := HL.out.2.2.2
      have h3 := wordL_length 1
      have h4 := wordL_length key.length
      refine Lib.hid ?_
      simp only [textL, List.length_append]
      omega
    dsimp only
    go_wp2_with (fail)
    refine (HN.out w6 _ tn HL.out.2.2.1 (by have := l6.out; omega) H6.out.1 (HK1.out.trans H6.out.2)).mono ?_
    rintro e w7 ⟨rfl, hp7, hk7⟩
    have H7 : Hid (PenAt X w7 b (((l ++ wordL 1) ++ textL key) ++ wordL tn) ∧ PKept X b w1 w7) := Lib.hid ⟨hp7, H6.out.2.trans hk7⟩
    clear hp7 hk7 c2
    have c3 : w7.cell? ⟨w.heap.size, 3, none⟩ = some (.int .i64 value) := HC.out w7 H7.out.2 3 _ rfl
    dsimp only
    go_wp2_with (fail)
    refine (HS.out w7 _ (by have := l6.out; have := wordL_length tn; rw [List.length_append]; omega) H7.out.1 (HK1.out.trans H7.out.2)).mono ?_
    rintro e w8 ⟨rfl, hp8, hk8⟩
    have H8 : Hid (PenAt X w8 b ((((l ++ wordL 1) ++ textL key) ++ wordL tn) ++ signedL value) ∧ PKept X b w1 w8) := Lib.hid ⟨hp8, H7.out.2.trans hk8⟩
    clear hp8 hk8 c3
    dsimp only
    go_wp2_with (fail)
    go_ret
    refine ⟨rfl, ?_, HK1.out.trans H8.out.2⟩
    have e : L = (((l ++ wordL 1) ++ textL key) ++ wordL tn) ++ signedL value := by rw [HL.out.1, ItemL.bytes, if_neg (show ¬ (1 : Int) = 2 by decide)]; simp only [List.append_assoc]; rfl
    rw [e]
    exact H8.out.1
end Go.Proofs.YtmjanplhgpcbeaaDoor
