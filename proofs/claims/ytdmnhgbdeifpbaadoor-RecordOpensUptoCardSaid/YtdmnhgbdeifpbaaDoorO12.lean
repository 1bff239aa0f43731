/-
  Part 12 of 42 of what the proof leans on.
-/
import Derived.Test.YtdmnhgbdeifpbaaDoorO2
import Derived.Lib.LaidTab
import Derived.Lib.AppendIntMem
import Derived.Lib.Atoi
import Derived.Lib.ItoaMem
import Derived.Test.YtdmnhgbdeifpbaaDoorO5
import Derived.Test.YtdmnhgbdeifpbaaDoorO1
import Derived.Test.YtdmnhgbdeifpbaaDoorO6
import Derived.Test.YtdmnhgbdeifpbaaDoorO8
import Derived.Test.YtdmnhgbdeifpbaaDoorO10
import Derived.Test.YtdmnhgbdeifpbaaDoorO11
import Derived.Test.YtdmnhgbdeifpbaaDoorO3
import Derived.Test.YtdmnhgbdeifpbaaDoorO4
import Derived.Lib.AtoiAll
import Derived.Lib.AtoiTie
import Derived.Lib.Split
import Derived.Lib.IndexLaws
namespace Go.Proofs.YtdmnhgbdeifpbaaDoor
open Go Go.RowKit
def Sign (c : UInt8) : Prop := c = 43 ∨ c = 45
instance (c : UInt8) : Decidable (Sign c) := by unfold Sign; exact inferInstance
end Go.Proofs.YtdmnhgbdeifpbaaDoor
namespace Go.Proofs.YtdmnhgbdeifpbaaDoor
open Go Go.RowKit
theorem right_cases {kind : Int} {key : List (BitVec 8)} {time value : Int} (h : (ItemL.mk kind key time value).rightB = true) :
    (0 ≤ time ∧ time ≤ 1099511627776) ∧ ((kind = 2 ∧ key = [] ∧ value = 0) ∨ (kind = 1 ∧ nameB key = true ∧ 1 ≤ key.length ∧ key.length ≤ 16 ∧ -1099511627776 ≤ value ∧ value ≤ 1099511627776)) := by
  simp only [ItemL.rightB, Bool.and_eq_true, decide_eq_true_eq] at h; refine ⟨h.1, ?_⟩; have h2 := h.2
  split at h2
  · rename_i hk
    exact .inl ⟨hk, by simpa using h2⟩
  · simp only [Bool.and_eq_true, decide_eq_true_eq] at h2; have hn := h2.1.2; simp only [nameB, Bool.and_eq_true, decide_eq_true_eq] at hn; exact .inr ⟨h2.1.1, h2.1.2, hn.2.1, hn.2.2, h2.2.1, h2.2.2⟩
end Go.Proofs.YtdmnhgbdeifpbaaDoor
namespace Go.Proofs.YtdmnhgbdeifpbaaDoor
open Go Go.RowKit
set_option maxRecDepth 100000 in
theorem eput_no (w : World) (b : Nat) (x : ItemL) (hk : x.key.length ≤ 1000000) (hr : x.rightB = false) : Calls Tryd.prog 72 #[.pointer (some ⟨b, 0, none⟩), .agg x.cells] w (Below0 w (.bool false)) := by
  obtain ⟨w1, hw1⟩ : ∃ W, W = w.alloc (.cells x.cells 53) := ⟨_, rfl⟩
  have HB : Hid (Below w.heap.size w w1) := by rw [hw1]; exact (Below.refl _ w).alloc (Nat.le_refl _) _
  have HR := Lib.hid (eright_any w1 x hk); rw [hr] at HR; clear hr hk; rw [hw1] at HB HR; clear hw1 w1; obtain ⟨kind, key, time, value⟩ := x; unfold ItemL.cells at HB HR ⊢
  go_enter Tryd.func72, Tryd.ntmps72
  go_wp2_with (fail); refine HR.out.mono ?_; rintro e w3 ⟨rfl, hB3⟩; have HZ : Hid (Below w.heap.size w w3) := HB.out.trans (hB3.mono HB.out.size); clear hB3; dsimp only; go_wp2_with (fail); go_ret; exact ⟨rfl, HZ.out⟩
theorem ItemL.bytes_length {x : ItemL} (h : x.key.length ≤ 1000) : x.bytes.length ≤ 1050 := by
  have h1 := wordL_length 1; have h2 := wordL_length 2; have h3 := wordL_length x.time.toNat; have h4 := wordL_length (zig x.value); have h5 := wordL_length x.key.length; unfold ItemL.bytes numberL signedL textL
  split
  · rw [List.length_append]; omega
  · simp only [List.length_append]; omega
set_option maxRecDepth 100000 in
set_option maxHeartbeats 2000000 in
theorem eput_yes (w : World) (X : Nat → Prop) (b : Nat) (l : List (BitVec 8)) (x : ItemL) (hr : x.rightB = true) (hP : PenAt X w b l) (hX : ∀ k, X k → k < w.heap.size) (hl : l.length ≤ 1073700000) :
    Calls Tryd.prog 72 #[.pointer (some ⟨b, 0, none⟩), .agg x.cells] w (PenEnd X b w (l ++ x.bytes) (.bool true)) := by
  obtain ⟨kind, key, time, value⟩ := x; obtain ⟨ht, hkv⟩ := right_cases hr
  obtain ⟨tn, rfl⟩ : ∃ n : Nat, time = (n : Int) := ⟨time.toNat, by omega⟩
  have hkl : key.length ≤ 16 := by
    rcases hkv with ⟨_, h, _⟩ | h
    · rw [h]; decide
    · exact h.2.2.2.1
  have hv : -1099511627776 ≤ value ∧ value ≤ 1099511627776 := by
    rcases hkv with ⟨_, _, h⟩ | h
    · omega
    · exact h.2.2.2.2
  have hbl := hP.lt; obtain ⟨w1, hw1⟩ : ∃ W, W = w.alloc (.cells (ItemL.mk kind key (tn : Int) value).cells 53) := ⟨_, rfl⟩
  have HB : Hid (Below w.heap.size w w1) := by rw [hw1]; exact (Below.refl _ w).alloc (Nat.le_refl _) _
  have hrow : w1.heap[w.heap.size]? = some (.cells (ItemL.mk kind key (tn : Int) value).cells 53 (0, 0)) := by rw [hw1]; exact heap_alloc_new w _
  have HC : Hid (∀ w', PKept X b w1 w' → ∀ i v, (ItemL.mk kind key (tn : Int) value).cells[i]? = some v → w'.cell? ⟨w.heap.size, i, none⟩ = some v) := fun w' hK i v hi => by
    rw [cell_of_row w' _ i _ _ _ (hK.row hrow (by decide) (by omega))]
    exact hi
  have HK1 : Hid (PKept X b w w1) := PKept.of_below HB.out; have HP1 : Hid (PenAt X w1 b l) := hP.below HB.out
  have HR := Lib.hid (eright_any w1 (ItemL.mk kind key (tn : Int) value) (Nat.le_trans hkl (by decide)))
  rw [hr] at HR; have lw : ∀ n, (wordL n).length ≤ 10 := wordL_length
  have HN : Hid (∀ w' l' n, n < 9223372036854775808 → l'.length ≤ 1073710000 → PenAt X w' b l' → PKept X b w w' → Calls Tryd.prog 42 #[.pointer (some ⟨b, 0, none⟩), .int .i64 ((n : Nat) : Int)] w' (PenEnd X b w' (l' ++ wordL n) (.bool true))) :=
    Lib.hid (fun w' l' n hn hl' h1 h2 => pnumber_any w' X b n l' hn h1 (fun k hk => Nat.lt_of_lt_of_le (hX k hk) h2.size) (by omega))
  have HS : Hid (∀ w' l', l'.length ≤ 1073710000 → PenAt X w' b l' → PKept X b w w' → Calls Tryd.prog 84 #[.pointer (some ⟨b, 0, none⟩), .int .i64 value] w' (PenEnd X b w' (l' ++ signedL value) (.tuple #[]))) :=
    Lib.hid (fun w' l' hl' h1 h2 => psigned_any w' X b value l' (by omega) (by omega) h1 (fun k hk => Nat.lt_of_lt_of_le (hX k hk) h2.size) (by omega))
  have HT : Hid (∀ w' w'' c l', Below w'.heap.size w' w'' → (∀ i < key.length, w''.cell? ⟨w'.heap.size, i, none⟩ = some (B (gl key i))) → l'.length ≤ 1073710000 → PenAt X w' b l' → PKept X b w w' →
      Calls Tryd.prog 46 #[.pointer (some ⟨b, 0, none⟩), .slice (some ⟨w'.heap.size, 0, none⟩) key.length c] w'' (fun e w3 => e = .returned (.bool true) ∧ PenAt X w3 b (l' ++ textL key) ∧ PKept X b w' w3)) := by
    refine Lib.hid (fun w' w'' c l' hB hc hl' h1 h2 => ?_)
    have h3 : PenAt (fun k => X k ∨ k = w'.heap.size) w'' b l' := (h1.more _ (fun k hk => hk.imp id (fun e => by omega))).below hB
    have hs : w'.heap.size < w''.heap.size ∨ key.length = 0 := by
      by_cases h0 : key.length = 0
      · exact .inr h0
      · exact .inl (block_lt_of_cell (hc 0 (by omega)))
    have hblw : b < w'.heap.size := Nat.lt_of_lt_of_le hbl h2.size
    rcases hs with hs | hs
    · refine (ptext_any w'' (fun k => X k ∨ k = w'.heap.size) b key.length c (some ⟨w'.heap.size, 0, none⟩) l' key rfl (.inr ⟨_, _, rfl, .inr rfl, by omega, fun i hi => by rw [Nat.zero_add]; exact hc i hi⟩) (by omega) h3 (fun k hk => ?_) (by omega)).mono ?_
      · rcases hk with hk | hk
        · exact Nat.lt_of_lt_of_le (hX k hk) (Nat.le_trans h2.size hB.size)
        · omega
      · rintro e w3 ⟨rfl, k1, k2⟩; exact ⟨rfl, k1.mono fun k hk => .inl hk, (PKept.of_below hB).trans (k2.mono fun k hk => .inl hk)⟩
    · refine (ptext_any w'' X b key.length c (some ⟨w'.heap.size, 0, none⟩) l' key rfl (.inl hs) (by omega) (h1.below hB) (fun k hk => Nat.lt_of_lt_of_le (hX k hk) (Nat.le_trans h2.size hB.size)) (by omega)).mono ?_
      rintro e w3 ⟨rfl, k1, k2⟩; exact ⟨rfl, k1, (PKept.of_below hB).trans k2⟩
  have c0 : w1.cell? ⟨w.heap.size, 0, none⟩ = some (.int .i64 kind) := HC.out w1 (PKept.refl _ _ _) 0 _ rfl; have c1 : w1.cell? ⟨w.heap.size, 1, none⟩ = some (Sv key) := HC.out w1 (PKept.refl _ _ _) 1 _ rfl; have c2 : w1.cell? ⟨w.heap.size, 2, none⟩ = some (.int .i64 (tn : Int)) := HC.out w1 (PKept.refl _ _ _) 2 _ rfl; have c3 : w1.cell? ⟨w.heap.size, 3, none⟩ = some (.int .i64 value) := HC.out w1 (PKept.refl _ _ _) 3 _ rfl
  have k2 : kind = 2 ∨ kind = 1 := by
    rcases hkv with h | h
    · exact .inl h.1
    · exact .inr h.1
  obtain ⟨L, hL⟩ : ∃ L, L = l ++ (ItemL.mk kind key (tn : Int) value).bytes := ⟨_, rfl⟩; rw [← hL]
  have HL := Lib.hid (And.intro hL (And.intro hl (And.intro (show tn < 9223372036854775808 by omega) hkl)))
  unfold ItemL.cells at hw1 HR ⊢; clear hrow ht hv hkv hr hP hX hl hL hkl hbl lw
  rcases k2 with rfl | rfl
  · go_enter Tryd.func72, Tryd.ntmps72
    go_upto_region 1 with (fail)
    rw [← hw1]; clear hw1; go_wp2_with (fail); refine HR.out.mono ?_; rintro e w3 ⟨rfl, hB3⟩; have H3 : Hid (PenAt X w3 b l ∧ PKept X b w1 w3) := Lib.hid ⟨HP1.out.below hB3, PKept.of_below hB3⟩; clear hB3 c0 c1 c2 c3; have c0 : w3.cell? ⟨w.heap.size, 0, none⟩ = some (.int .i64 2) := HC.out w3 H3.out.2 0 _ rfl; dsimp only; go_wp2_with (fail)
    refine (HN.out w3 l 2 (by decide) (by have := HL.out.2.1; omega) H3.out.1 (HK1.out.trans H3.out.2)).mono ?_
    rintro e w4 ⟨rfl, hp4, hk4⟩; have H4 : Hid (PenAt X w4 b (l ++ wordL 2) ∧ PKept X b w1 w4) := Lib.hid ⟨hp4, H3.out.2.trans hk4⟩; clear hp4 hk4 c0; have c0 : w4.cell? ⟨w.heap.size, 0, none⟩ = some (.int .i64 2) := HC.out w4 H4.out.2 0 _ rfl; have c2 : w4.cell? ⟨w.heap.size, 2, none⟩ = some (.int .i64 (tn : Int)) := HC.out w4 H4.out.2 2 _ rfl; dsimp only; go_wp2_with (fail)
    refine (HN.out w4 (l ++ wordL 2) tn HL.out.2.2.1 (by have := HL.out.2.1; have := wordL_length 2; rw [List.length_append]; omega) H4.out.1 (HK1.out.trans H4.out.2)).mono ?_
    rintro e w5 ⟨rfl, hp5, hk5⟩; have H5 : Hid (PenAt X w5 b ((l ++ wordL 2) ++ wordL tn) ∧ PKept X b w1 w5) := Lib.hid ⟨hp5, H4.out.2.trans hk5⟩; clear hp5 hk5 c0 c2; dsimp only; go_wp2_with (fail); go_ret; refine ⟨rfl, ?_, HK1.out.trans H5.out.2⟩
    have e : L = (l ++ wordL 2) ++ wordL tn := by rw [HL.out.1, ItemL.bytes, if_pos rfl, List.append_assoc]; rfl
    rw [e]; exact H5.out.1
  · go_enter Tryd.func72, Tryd.ntmps72
    go_upto_region 1 with (fail)
    rw [← hw1]; clear hw1; go_wp2_with (fail); refine HR.out.mono ?_; rintro e w3 ⟨rfl, hB3⟩; have H3 : Hid (PenAt X w3 b l ∧ PKept X b w1 w3) := Lib.hid ⟨HP1.out.below hB3, PKept.of_below hB3⟩; clear hB3 c0 c1 c2 c3; have c0 : w3.cell? ⟨w.heap.size, 0, none⟩ = some (.int .i64 1) := HC.out w3 H3.out.2 0 _ rfl; dsimp only; go_wp2_with (fail)
    refine (HN.out w3 l 1 (by decide) (by have := HL.out.2.1; omega) H3.out.1 (HK1.out.trans H3.out.2)).mono ?_
    rintro e w4 ⟨rfl, hp4, hk4⟩; have H4 : Hid (PenAt X w4 b (l ++ wordL 1) ∧ PKept X b w1 w4) := Lib.hid ⟨hp4, H3.out.2.trans hk4⟩; clear hp4 hk4 c0; have c0 : w4.cell? ⟨w.heap.size, 0, none⟩ = some (.int .i64 1) := HC.out w4 H4.out.2 0 _ rfl; have c1 : w4.cell? ⟨w.heap.size, 1, none⟩ = some (Sv key) := HC.out w4 H4.out.2 1 _ rfl; obtain ⟨cc, w5, hcv, hB5, hcell⟩ := conv_bytes w4 key; have H5 := Lib.hid (And.intro hB5 hcell); clear hB5 hcell; dsimp only; go_wp2_with (fail)
    refine (HT.out w4 w5 cc (l ++ wordL 1) H5.out.1 H5.out.2 (by have := HL.out.2.1; have := wordL_length 1; rw [List.length_append]; omega) H4.out.1 (HK1.out.trans H4.out.2)).mono ?_
    rintro e w6 ⟨rfl, hp6, hk6⟩; have H6 : Hid (PenAt X w6 b ((l ++ wordL 1) ++ textL key) ∧ PKept X b w1 w6) := Lib.hid ⟨hp6, H4.out.2.trans hk6⟩; clear hp6 hk6 c0 c1 hcv; have c2 : w6.cell? ⟨w.heap.size, 2, none⟩ = some (.int .i64 (tn : Int)) := HC.out w6 H6.out.2 2 _ rfl
    have l6 : Hid (((l ++ wordL 1) ++ textL key).length ≤ 1073700040) := by
      have h1 := HL.out.2.1; have h2 := HL.out.2.2.2; have h3 := wordL_length 1; have h4 := wordL_length key.length; refine Lib.hid ?_; simp only [textL, List.length_append]; omega
    dsimp only; go_wp2_with (fail)
    refine (HN.out w6 _ tn HL.out.2.2.1 (by have := l6.out; omega) H6.out.1 (HK1.out.trans H6.out.2)).mono ?_
    rintro e w7 ⟨rfl, hp7, hk7⟩; have H7 : Hid (PenAt X w7 b (((l ++ wordL 1) ++ textL key) ++ wordL tn) ∧ PKept X b w1 w7) := Lib.hid ⟨hp7, H6.out.2.trans hk7⟩; clear hp7 hk7 c2; have c3 : w7.cell? ⟨w.heap.size, 3, none⟩ = some (.int .i64 value) := HC.out w7 H7.out.2 3 _ rfl; dsimp only; go_wp2_with (fail)
    refine (HS.out w7 _ (by have := l6.out; have := wordL_length tn; rw [List.length_append]; omega) H7.out.1 (HK1.out.trans H7.out.2)).mono ?_
    rintro e w8 ⟨rfl, hp8, hk8⟩; have H8 : Hid (PenAt X w8 b ((((l ++ wordL 1) ++ textL key) ++ wordL tn) ++ signedL value) ∧ PKept X b w1 w8) := Lib.hid ⟨hp8, H7.out.2.trans hk8⟩; clear hp8 hk8 c3; dsimp only; go_wp2_with (fail); go_ret; refine ⟨rfl, ?_, HK1.out.trans H8.out.2⟩
    have e : L = (((l ++ wordL 1) ++ textL key) ++ wordL tn) ++ signedL value := by rw [HL.out.1, ItemL.bytes, if_neg (show ¬ (1 : Int) = 2 by decide)]; simp only [List.append_assoc]; rfl
    rw [e]; exact H8.out.1
end Go.Proofs.YtdmnhgbdeifpbaaDoor
namespace Go.Proofs.YtdmnhgbdeifpbaaDoor
open Go Go.RowKit
def zeroI : ItemL := ⟨0, [], 0, 0⟩
def TapeL.item0 (t : TapeL) : ItemL × TapeL :=
  if (t.number 9223372036854775807).1 = 1 then
    (⟨1, ((t.number 9223372036854775807).2.text 16).1, (((t.number 9223372036854775807).2.text 16).2.number 1099511627776).1, ((((t.number 9223372036854775807).2.text 16).2.number 1099511627776).2.signed).1⟩,
      ((((t.number 9223372036854775807).2.text 16).2.number 1099511627776).2.signed).2)
  else if (t.number 9223372036854775807).1 = 2 then (⟨2, [], ((t.number 9223372036854775807).2.number 1099511627776).1, 0⟩, ((t.number 9223372036854775807).2.number 1099511627776).2)
  else (⟨(t.number 9223372036854775807).1, [], 0, 0⟩, (t.number 9223372036854775807).2)
def TapeL.last (x : ItemL) (t : TapeL) : TapeL := if x.rightB then t else t.fail 11
def TapeL.item (t : TapeL) : ItemL × TapeL := (if (TapeL.last t.item0.1 t.item0.2).e = 0 then t.item0.1 else zeroI, TapeL.last t.item0.1 t.item0.2)
theorem item_size : (Tryd.prog.info? 53).map (·.size) = some 4 := by kernel_rfl
theorem item_one (x : ItemL) : x.cells.all (·.oneCell') = true := by
  rw [Array.all_eq_true']; intro v hv; simp only [ItemL.cells, List.mem_toArray, List.mem_cons, List.not_mem_nil, or_false] at hv
  rcases hv with rfl | rfl | rfl | rfl <;> rfl
def GetSt (base b xb : Nat) (w w' : World) (t : TapeL) (x : ItemL) : Prop :=
  RdAt base w' b t ∧ w.grownBy w' (some b) ∧ w'.heap[w.heap.size]? = some (.cells zeroI.cells 53 (0, 0)) ∧ w'.heap[xb]? = some (.cells x.cells 53 (0, 0)) ∧ w.heap.size < xb ∧ b < w.heap.size ∧ base ≤ w.heap.size
theorem GetSt.cell {base b xb : Nat} {w w' : World} {t : TapeL} {x : ItemL} (h : GetSt base b xb w w' t x) (i : Nat) {v : Value} (hi : x.cells[i]? = some v) : w'.cell? ⟨xb, i, none⟩ = some v := by
  rw [cell_of_row _ _ _ _ _ _ h.2.2.2.1]; exact hi
theorem GetSt.fro {base b xb : Nat} {w w' : World} {t : TapeL} {x : ItemL} (h : GetSt base b xb w w' t x) (i : Nat) : w'.frozen? ⟨xb, i, none⟩ = false := frozen_of_row _ _ _ _ _ h.2.2.2.1
theorem GetSt.rd {base b xb : Nat} {w w' w2 : World} {t t2 : TapeL} {x : ItemL} (h : GetSt base b xb w w' t x) (hr : RdAt base w2 b t2) (hg : w'.grownBy w2 (some b)) : GetSt base b xb w w2 t2 x := by
  obtain ⟨h1, h2, h3, h4, h5, h6, h7⟩ := h
  exact ⟨hr, grown_trans h2 hg, (hg.block _ (Array.getElem?_eq_some_iff.1 h3).1 (by simp; omega)).trans h3, (hg.block _ (Array.getElem?_eq_some_iff.1 h4).1 (by simp; omega)).trans h4, h5, h6, h7⟩
theorem below_gb {w w' : World} {b : Option Nat} (h : Below w.heap.size w w') : w.grownBy w' b := ⟨h.os, h.tape, h.output, h.size, fun k hk _ => h.block k hk⟩
theorem GetSt.below {base b xb : Nat} {w w' w2 : World} {t : TapeL} {x : ItemL} (h : GetSt base b xb w w' t x) (hB : Below w'.heap.size w' w2) : GetSt base b xb w w2 t x := h.rd (h.1.below hB) (below_gb hB)
theorem GetSt.set {base b xb : Nat} {w w' : World} {t : TapeL} {x y : ItemL} (h : GetSt base b xb w w' t x) (i : Nat) (v : Value) (hy : y.cells = x.cells.setIfInBounds i v) : GetSt base b xb w (w'.setCell ⟨xb, i, none⟩ v) t y := by
  obtain ⟨h1, h2, h3, h4, h5, h6, h7⟩ := h
  refine ⟨h1.same (heap_setCell_other _ _ _ _ (by show b ≠ xb; omega)) (fun k hk _ _ => heap_setCell_other _ _ _ _ (by show k ≠ xb; omega)), ⟨h2.os, h2.tape, h2.output, by simpa [World.setCell] using h2.size, fun k hk hne => (heap_setCell_other _ _ _ _ (by show k ≠ xb; omega)).trans (h2.block k hk hne)⟩,
    (heap_setCell_other _ _ _ _ (by show w.heap.size ≠ xb; omega)).trans h3, ?_, h5, h6, h7⟩
  rw [hy]; exact heap_setCell_same _ _ _ _ _ _ h4
theorem GetSt.fin {base b xb : Nat} {w w' : World} {t : TapeL} {x : ItemL} (h : GetSt base b xb w w' t x) (cs : Array Value) :
    (w'.setRow w.heap.size cs).heap[w.heap.size]? = some (.cells cs 53 (0, 0)) ∧ RdAt base (w'.setRow w.heap.size cs) b t ∧ w.grownBy (w'.setRow w.heap.size cs) (some b) := by
  obtain ⟨h1, h2, h3, h4, h5, h6, h7⟩ := h
  exact ⟨setRow_heap _ _ _ _ _ _ h3, h1.same (setRow_other _ _ _ _ (by omega)) (fun k hk _ _ => setRow_other _ _ _ _ (by omega)), ⟨h2.os, h2.tape, h2.output, by simpa [World.setRow] using h2.size, fun k hk hne => (setRow_other _ _ _ _ (by omega)).trans (h2.block k hk hne)⟩⟩
theorem text16_len (t : TapeL) : (t.text 16).1.length ≤ 16 := by
  have hn : (t.number 16).1 ≤ 16 := by
    unfold TapeL.number
    split
    · simp
    · split
      · simp
      · rename_i h1 h2
        by_cases he : t.word.2.e = 0
        · simp only; omega
        · have := word_err he; simp only; omega
  rw [text_eq]; unfold TapeL.fixed
  split
  · simp
  · split
    · simp
    · split
      · simp
      · simp only [List.length_take]; omega
set_option maxRecDepth 100000 in
set_option maxHeartbeats 2000000 in
theorem eget_any (w : World) (base b : Nat) (t : TapeL) (h : RdAt base w b t) (hb : base ≤ w.heap.size) :
    Calls Tryd.prog 32 #[.pointer (some ⟨b, 0, none⟩)] w (RdEnd base w b t.item.2 (.agg t.item.1.cells)) := by
  have hbl := h.lt; obtain ⟨w0, hw0⟩ : ∃ W, W = w.alloc (.cells #[.int .i64 0, .string ⟨#[]⟩, .int .i64 0, .int .i64 0] 53) := ⟨_, rfl⟩
  have HB0 : Hid (Below w.heap.size w w0 ∧ w0.heap[w.heap.size]? = some (.cells zeroI.cells 53 (0, 0))) := by
    rw [hw0]; exact Lib.hid ⟨(Below.refl _ w).alloc (Nat.le_refl _) _, heap_alloc_new w _⟩
  have HN := Lib.hid (rnumber_any w0 base b t 9223372036854775807 (h.below HB0.out.1)); have HH := Lib.hid (And.intro hbl hb); clear hbl hb h; obtain ⟨k, hk⟩ : ∃ k, k = (t.number 9223372036854775807).1 := ⟨_, rfl⟩; obtain ⟨t1, ht1⟩ : ∃ k, k = (t.number 9223372036854775807).2 := ⟨_, rfl⟩; rw [← hk, ← ht1] at HN; obtain ⟨P, hP⟩ : ∃ P, P = RdEnd base w b t.item.2 (.agg t.item.1.cells) := ⟨_, rfl⟩; rw [← hP]; have HP := Lib.hid hP; have HK := Lib.hid (And.intro hk ht1); clear hk ht1 hP
  go_enter Tryd.func32, Tryd.ntmps32
  go_upto_region 1 with (fail)
  rw [← hw0]; clear hw0; go_wp2_with (fail); refine HN.out.mono ?_; rintro e w1 ⟨rfl, h1, h2⟩; have H1 := Lib.hid (And.intro h1 h2); clear h1 h2; dsimp only
  iterate 7 go_step
  refine wpList_store_row rfl _ _ _ rfl w1.heap.size (ItemL.mk k [] 0 0).cells rfl rfl 53 zeroI.cells (heap_alloc_new w1 _) item_size rfl (item_one _) ?_; obtain ⟨xb, hxb⟩ : ∃ x, x = w1.heap.size := ⟨_, rfl⟩; obtain ⟨w2, hw2⟩ : ∃ W, W = (w1.alloc (Obj.cells #[.int .i64 0, .string ⟨#[]⟩, .int .i64 0, .int .i64 0] 53)).setRow w1.heap.size (ItemL.mk k [] 0 0).cells := ⟨_, rfl⟩; rw [← hw2, ← hxb]
  have S2 : Hid (GetSt base b xb w w2 t1 ⟨k, [], 0, 0⟩) := by
    have g1 : w.grownBy w1 (some b) := grown_trans (below_gb HB0.out.1) H1.out.2; have hs0 : w.heap.size < w0.heap.size := (Array.getElem?_eq_some_iff.1 HB0.out.2).1; have hs1 : w0.heap.size ≤ w1.heap.size := H1.out.2.size; have hbl := HH.out.1; have hbs := HH.out.2; have ha : Below w1.heap.size w1 (w1.alloc (Obj.cells #[.int .i64 0, .string ⟨#[]⟩, .int .i64 0, .int .i64 0] 53)) := (Below.refl _ w1).alloc (Nat.le_refl _) _
    have hb2 : Below w1.heap.size w1 w2 := by
      rw [hw2]
      exact ha.trans ⟨rfl, rfl, rfl, by simp [World.setRow], fun i hi => setRow_other _ _ _ _ (by omega)⟩
    refine Lib.hid ⟨H1.out.1.below hb2, grown_trans g1 (below_gb hb2), (hb2.block _ (by omega)).trans ((H1.out.2.block _ hs0 (by simp; omega)).trans HB0.out.2), ?_, by omega, hbl, hbs⟩
    rw [hw2, hxb]; exact setRow_heap _ _ _ _ _ _ (heap_alloc_new w1 _)
  clear hw2 hxb; have d0 : w2.cell? ⟨xb, 0, none⟩ = some (.int .i64 k) := S2.out.cell 0 rfl
  by_cases k1 : k = 1
  · subst k1; go_wp2_with (fail); refine (rtext_any w2 base b t1 16 S2.out.1).mono ?_; rintro e w3 ⟨sa, sc, rfl, hsrc, h1, h2⟩; have S3 := Lib.hid (S2.out.rd h1 h2); obtain ⟨key, hkey⟩ : ∃ x, x = (t1.text 16).1 := ⟨_, rfl⟩; obtain ⟨t2, ht2⟩ : ∃ x, x = (t1.text 16).2 := ⟨_, rfl⟩; rw [← hkey] at hsrc ⊢; rw [← ht2] at S3
    have HLn : Hid (key.length ≤ 1000000) := Lib.hid (Nat.le_trans (by rw [hkey]; exact text16_len t1) (by decide))
    have HKy := Lib.hid (And.intro hkey ht2); have hcv : (convert 26 9 (.slice sa key.length sc)).run Tryd.prog w3 = .ok (Sv key) w3 := run_conv_str w3 sa sc key hsrc.srcP; clear hsrc h1 h2 hkey ht2 d0; have f1 := S3.out.fro 1; have g1 : w3.cell? ⟨xb, 1, none⟩ = _ := S3.out.cell 1 rfl
    have hst : (storeCells ⟨xb, 1, none⟩ [Sv key]).run Tryd.prog w3 = .ok () (w3.setCell ⟨xb, 1, none⟩ (Sv key)) := by
      rw [run_storeCells_Sv]; simp [stored, f1, g1]
    dsimp only; go_wp2_with (fail); rw [hst]; clear hst f1 g1 hcv
    go_upto_region 5 with (fail)
    obtain ⟨w4, hw4⟩ : ∃ W, W = w3.setCell ⟨xb, 1, none⟩ (Sv key) := ⟨_, rfl⟩; rw [← hw4]
    have S4 : Hid (GetSt base b xb w w4 t2 ⟨1, key, 0, 0⟩) := by rw [hw4]; exact Lib.hid (S3.out.set 1 (Sv key) rfl)
    clear hw4; go_wp2_with (fail); refine (rnumber_any w4 base b t2 1099511627776 S4.out.1).mono ?_; rintro e w5 ⟨rfl, h1, h2⟩; have S5 := Lib.hid (S4.out.rd h1 h2); obtain ⟨tm, htm⟩ : ∃ x, x = (t2.number 1099511627776).1 := ⟨_, rfl⟩; obtain ⟨t3, ht3⟩ : ∃ x, x = (t2.number 1099511627776).2 := ⟨_, rfl⟩; rw [← ht3] at S5; rw [← htm]; have HTm := Lib.hid (And.intro htm ht3); clear h1 h2 htm ht3; have f2 := S5.out.fro 2; have g2 : w5.cell? ⟨xb, 2, none⟩ = _ := S5.out.cell 2 rfl; dsimp only
    go_upto_region 6 with (fail)
    obtain ⟨w6, hw6⟩ : ∃ W, W = w5.setCell ⟨xb, 2, none⟩ (.int .i64 tm) := ⟨_, rfl⟩; rw [← hw6]
    have S6 : Hid (GetSt base b xb w w6 t3 ⟨1, key, tm, 0⟩) := by rw [hw6]; exact Lib.hid (S5.out.set 2 (.int .i64 tm) rfl)
    clear hw6 f2 g2; go_wp2_with (fail); refine (rsigned_any w6 base b t3 S6.out.1).mono ?_; rintro e w7 ⟨rfl, h1, h2⟩; have S7 := Lib.hid (S6.out.rd h1 h2); obtain ⟨va, hva⟩ : ∃ x, x = t3.signed.1 := ⟨_, rfl⟩; obtain ⟨t4, ht4⟩ : ∃ x, x = t3.signed.2 := ⟨_, rfl⟩; rw [← ht4] at S7; rw [← hva]; have HVa := Lib.hid (And.intro hva ht4); clear h1 h2 hva ht4; have f3 := S7.out.fro 3; have g3 : w7.cell? ⟨xb, 3, none⟩ = _ := S7.out.cell 3 rfl; dsimp only
    go_upto_region 9 with (fail)
    obtain ⟨w8, hw8⟩ : ∃ W, W = w7.setCell ⟨xb, 3, none⟩ (.int .i64 va) := ⟨_, rfl⟩; rw [← hw8]
    have S8 : Hid (GetSt base b xb w w8 t4 ⟨1, key, tm, va⟩) := by rw [hw8]; exact Lib.hid (S7.out.set 3 (.int .i64 va) rfl)
    clear hw8 f3 g3
    have HI : Hid (t.item0 = (⟨1, key, tm, va⟩, t4)) := by
      rw [TapeL.item0, ← HK.out.1, ← HK.out.2, if_pos rfl, ← HKy.out.1, ← HKy.out.2, ← HTm.out.1, ← HTm.out.2, ← HVa.out.1, ← HVa.out.2]; exact Lib.hid rfl
    obtain ⟨r, hr⟩ : ∃ r, r = (ItemL.mk 1 key tm va).rightB := ⟨_, rfl⟩
    have HRt : Hid (Calls Tryd.prog 66 #[.agg (ItemL.mk 1 key tm va).cells] w8 (Below0 w8 (.bool r))) := by
      rw [hr]; exact eright_any w8 _ HLn.out
    have d0 : w8.cell? ⟨xb, 0, none⟩ = _ := S8.out.cell 0 rfl; have d1 : w8.cell? ⟨xb, 1, none⟩ = _ := S8.out.cell 1 rfl; have d2 : w8.cell? ⟨xb, 2, none⟩ = _ := S8.out.cell 2 rfl; have d3 : w8.cell? ⟨xb, 3, none⟩ = _ := S8.out.cell 3 rfl; unfold ItemL.cells at HRt
    have HQ : Hid (∀ tz, tz = TapeL.last (ItemL.mk 1 key tm va) (t4) → t.item = (if tz.e = 0 then (ItemL.mk 1 key tm va) else zeroI, tz)) := by
      refine Lib.hid ?_; rintro tz rfl; rw [TapeL.item, HI.out]
    have Hr := Lib.hid hr; clear hr
    cases r with
    | true =>
      go_wp2_with (fail); refine HRt.out.mono ?_; rintro e wr ⟨rfl, hBR⟩; have SR := Lib.hid (S8.out.below hBR); clear hBR d0 d1 d2 d3; dsimp only; obtain ⟨tz, htz⟩ : ∃ z, z = t4 := ⟨_, rfl⟩; rw [← htz] at SR
      have HI2 := Lib.hid (HQ.out tz (by rw [htz, TapeL.last, ← Hr.out]; rfl))
      obtain ⟨q, hq⟩ : ∃ q, q = tz.e := ⟨_, rfl⟩
      have HE : Hid (Calls Tryd.prog 67 #[.pointer (some ⟨b, 0, none⟩)] wr fun e w' => e = .returned (.int .i64 q) ∧ w' = wr) := by
        rw [hq]; exact rerr_any wr base b tz SR.out.1
      clear htz
      by_cases hq0 : q = 0
      · have HF : Hid (∀ wz, RdAt base wz b tz → w.grownBy wz (some b) → P (.returned (.agg (ItemL.mk 1 key tm va).cells)) wz) := by
          refine Lib.hid (fun wz k1 k2 => ?_)
          rw [HP.out, HI2.out, if_pos (by rw [← hq]; exact hq0)]
          exact ⟨rfl, k1, k2⟩
        clear hq; subst hq0; go_wp2_with (fail); refine HE.out.mono ?_; rintro e we ⟨rfl, hwe⟩; subst we; have d0 : wr.cell? ⟨xb, 0, none⟩ = _ := SR.out.cell 0 rfl; have d1 : wr.cell? ⟨xb, 1, none⟩ = _ := SR.out.cell 1 rfl; have d2 : wr.cell? ⟨xb, 2, none⟩ = _ := SR.out.cell 2 rfl; have d3 : wr.cell? ⟨xb, 3, none⟩ = _ := SR.out.cell 3 rfl; dsimp only
        go_upto_region 13 with (fail)
        refine wp_region_lit ?_
        first
          | (iterate 1 go_step
             refine wpList_store_row rfl _ _ _ rfl w.heap.size (ItemL.mk 1 key tm va).cells rfl rfl 53 zeroI.cells SR.out.2.2.1 item_size rfl (item_one _) ?_)
          | (iterate 2 go_step
             refine wpList_store_row rfl _ _ _ rfl w.heap.size (ItemL.mk 1 key tm va).cells rfl rfl 53 zeroI.cells SR.out.2.2.1 item_size rfl (item_one _) ?_)
          | (iterate 3 go_step
             refine wpList_store_row rfl _ _ _ rfl w.heap.size (ItemL.mk 1 key tm va).cells rfl rfl 53 zeroI.cells SR.out.2.2.1 item_size rfl (item_one _) ?_)
          | (iterate 4 go_step
             refine wpList_store_row rfl _ _ _ rfl w.heap.size (ItemL.mk 1 key tm va).cells rfl rfl 53 zeroI.cells SR.out.2.2.1 item_size rfl (item_one _) ?_)
          | (iterate 5 go_step
             refine wpList_store_row rfl _ _ _ rfl w.heap.size (ItemL.mk 1 key tm va).cells rfl rfl 53 zeroI.cells SR.out.2.2.1 item_size rfl (item_one _) ?_)
          | (iterate 6 go_step
             refine wpList_store_row rfl _ _ _ rfl w.heap.size (ItemL.mk 1 key tm va).cells rfl rfl 53 zeroI.cells SR.out.2.2.1 item_size rfl (item_one _) ?_)
        have HZ := Lib.hid (SR.out.fin (ItemL.mk 1 key tm va).cells); obtain ⟨wz, hwz⟩ : ∃ W, W = wr.setRow w.heap.size (ItemL.mk 1 key tm va).cells := ⟨_, rfl⟩; rw [← hwz] at HZ ⊢; clear hwz; go_wp2_with (fail); exact bodyPost_ret (v := .agg (ItemL.mk 1 key tm va).cells) (results_cell_row rfl _ _ w.heap.size 53 (ItemL.mk 1 key tm va).cells (0, 0) _ rfl HZ.out.1 Tryd.underlying53 rfl item_size) rfl (HF.out _ HZ.out.2.1 HZ.out.2.2)
      · have HF : Hid (∀ wz, RdAt base wz b tz → w.grownBy wz (some b) → P (.returned (.agg (zeroI).cells)) wz) := by
          refine Lib.hid (fun wz k1 k2 => ?_)
          rw [HP.out, HI2.out, if_neg (by rw [← hq]; exact hq0)]
          exact ⟨rfl, k1, k2⟩
        have e1 : (q != 0) = true := by simpa using hq0
        clear hq hq0; go_wp2_with (fail); refine HE.out.mono ?_; rintro e we ⟨rfl, hwe⟩; subst we; dsimp only
        go_upto_region 12 with (fail)
        refine wp_region_lit ?_
        first
          | (iterate 1 go_step
             refine wpList_store_row rfl _ _ _ rfl w.heap.size (zeroI).cells rfl rfl 53 zeroI.cells SR.out.2.2.1 item_size rfl (item_one _) ?_)
          | (iterate 2 go_step
             refine wpList_store_row rfl _ _ _ rfl w.heap.size (zeroI).cells rfl rfl 53 zeroI.cells SR.out.2.2.1 item_size rfl (item_one _) ?_)
          | (iterate 3 go_step
             refine wpList_store_row rfl _ _ _ rfl w.heap.size (zeroI).cells rfl rfl 53 zeroI.cells SR.out.2.2.1 item_size rfl (item_one _) ?_)
          | (iterate 4 go_step
             refine wpList_store_row rfl _ _ _ rfl w.heap.size (zeroI).cells rfl rfl 53 zeroI.cells SR.out.2.2.1 item_size rfl (item_one _) ?_)
          | (iterate 5 go_step
             refine wpList_store_row rfl _ _ _ rfl w.heap.size (zeroI).cells rfl rfl 53 zeroI.cells SR.out.2.2.1 item_size rfl (item_one _) ?_)
          | (iterate 6 go_step
             refine wpList_store_row rfl _ _ _ rfl w.heap.size (zeroI).cells rfl rfl 53 zeroI.cells SR.out.2.2.1 item_size rfl (item_one _) ?_)
        have HZ := Lib.hid (SR.out.fin (zeroI).cells); obtain ⟨wz, hwz⟩ : ∃ W, W = wr.setRow w.heap.size (zeroI).cells := ⟨_, rfl⟩; rw [← hwz] at HZ ⊢; clear hwz; go_wp2_with (fail); exact bodyPost_ret (v := .agg (zeroI).cells) (results_cell_row rfl _ _ w.heap.size 53 (zeroI).cells (0, 0) _ rfl HZ.out.1 Tryd.underlying53 rfl item_size) rfl (HF.out _ HZ.out.2.1 HZ.out.2.2)
    | false =>
      go_wp2_with (fail); refine HRt.out.mono ?_; rintro e wr ⟨rfl, hBR⟩; have SR := Lib.hid (S8.out.below hBR); clear hBR d0 d1 d2 d3; dsimp only; go_wp2_with (fail); refine (rfail_any wr base b (t4) 11 SR.out.1).mono ?_; rintro e wf ⟨rfl, hf1, hf2⟩; have SF := Lib.hid (SR.out.rd hf1 hf2); clear hf1 hf2; dsimp only; obtain ⟨tz, htz⟩ : ∃ z, z = (t4).fail 11 := ⟨_, rfl⟩; rw [← htz] at SF
      have HI2 := Lib.hid (HQ.out tz (by rw [htz, TapeL.last, ← Hr.out]; rfl))
      obtain ⟨q, hq⟩ : ∃ q, q = tz.e := ⟨_, rfl⟩
      have HE : Hid (Calls Tryd.prog 67 #[.pointer (some ⟨b, 0, none⟩)] wf fun e w' => e = .returned (.int .i64 q) ∧ w' = wf) := by
        rw [hq]; exact rerr_any wf base b tz SF.out.1
      clear htz
      by_cases hq0 : q = 0
      · have HF : Hid (∀ wz, RdAt base wz b tz → w.grownBy wz (some b) → P (.returned (.agg (ItemL.mk 1 key tm va).cells)) wz) := by
          refine Lib.hid (fun wz k1 k2 => ?_)
          rw [HP.out, HI2.out, if_pos (by rw [← hq]; exact hq0)]
          exact ⟨rfl, k1, k2⟩
        clear hq; subst hq0; go_wp2_with (fail); refine HE.out.mono ?_; rintro e we ⟨rfl, hwe⟩; subst we; have d0 : wf.cell? ⟨xb, 0, none⟩ = _ := SF.out.cell 0 rfl; have d1 : wf.cell? ⟨xb, 1, none⟩ = _ := SF.out.cell 1 rfl; have d2 : wf.cell? ⟨xb, 2, none⟩ = _ := SF.out.cell 2 rfl; have d3 : wf.cell? ⟨xb, 3, none⟩ = _ := SF.out.cell 3 rfl; dsimp only
        go_upto_region 13 with (fail)
        refine wp_region_lit ?_
        first
          | (iterate 1 go_step
             refine wpList_store_row rfl _ _ _ rfl w.heap.size (ItemL.mk 1 key tm va).cells rfl rfl 53 zeroI.cells SF.out.2.2.1 item_size rfl (item_one _) ?_)
          | (iterate 2 go_step
             refine wpList_store_row rfl _ _ _ rfl w.heap.size (ItemL.mk 1 key tm va).cells rfl rfl 53 zeroI.cells SF.out.2.2.1 item_size rfl (item_one _) ?_)
          | (iterate 3 go_step
             refine wpList_store_row rfl _ _ _ rfl w.heap.size (ItemL.mk 1 key tm va).cells rfl rfl 53 zeroI.cells SF.out.2.2.1 item_size rfl (item_one _) ?_)
          | (iterate 4 go_step
             refine wpList_store_row rfl _ _ _ rfl w.heap.size (ItemL.mk 1 key tm va).cells rfl rfl 53 zeroI.cells SF.out.2.2.1 item_size rfl (item_one _) ?_)
          | (iterate 5 go_step
             refine wpList_store_row rfl _ _ _ rfl w.heap.size (ItemL.mk 1 key tm va).cells rfl rfl 53 zeroI.cells SF.out.2.2.1 item_size rfl (item_one _) ?_)
          | (iterate 6 go_step
             refine wpList_store_row rfl _ _ _ rfl w.heap.size (ItemL.mk 1 key tm va).cells rfl rfl 53 zeroI.cells SF.out.2.2.1 item_size rfl (item_one _) ?_)
        have HZ := Lib.hid (SF.out.fin (ItemL.mk 1 key tm va).cells); obtain ⟨wz, hwz⟩ : ∃ W, W = wf.setRow w.heap.size (ItemL.mk 1 key tm va).cells := ⟨_, rfl⟩; rw [← hwz] at HZ ⊢; clear hwz; go_wp2_with (fail); exact bodyPost_ret (v := .agg (ItemL.mk 1 key tm va).cells) (results_cell_row rfl _ _ w.heap.size 53 (ItemL.mk 1 key tm va).cells (0, 0) _ rfl HZ.out.1 Tryd.underlying53 rfl item_size) rfl (HF.out _ HZ.out.2.1 HZ.out.2.2)
      · have HF : Hid (∀ wz, RdAt base wz b tz → w.grownBy wz (some b) → P (.returned (.agg (zeroI).cells)) wz) := by
          refine Lib.hid (fun wz k1 k2 => ?_)
          rw [HP.out, HI2.out, if_neg (by rw [← hq]; exact hq0)]
          exact ⟨rfl, k1, k2⟩
        have e1 : (q != 0) = true := by simpa using hq0
        clear hq hq0; go_wp2_with (fail); refine HE.out.mono ?_; rintro e we ⟨rfl, hwe⟩; subst we; dsimp only
        go_upto_region 12 with (fail)
        refine wp_region_lit ?_
        first
          | (iterate 1 go_step
             refine wpList_store_row rfl _ _ _ rfl w.heap.size (zeroI).cells rfl rfl 53 zeroI.cells SF.out.2.2.1 item_size rfl (item_one _) ?_)
          | (iterate 2 go_step
             refine wpList_store_row rfl _ _ _ rfl w.heap.size (zeroI).cells rfl rfl 53 zeroI.cells SF.out.2.2.1 item_size rfl (item_one _) ?_)
          | (iterate 3 go_step
             refine wpList_store_row rfl _ _ _ rfl w.heap.size (zeroI).cells rfl rfl 53 zeroI.cells SF.out.2.2.1 item_size rfl (item_one _) ?_)
          | (iterate 4 go_step
             refine wpList_store_row rfl _ _ _ rfl w.heap.size (zeroI).cells rfl rfl 53 zeroI.cells SF.out.2.2.1 item_size rfl (item_one _) ?_)
          | (iterate 5 go_step
             refine wpList_store_row rfl _ _ _ rfl w.heap.size (zeroI).cells rfl rfl 53 zeroI.cells SF.out.2.2.1 item_size rfl (item_one _) ?_)
          | (iterate 6 go_step
             refine wpList_store_row rfl _ _ _ rfl w.heap.size (zeroI).cells rfl rfl 53 zeroI.cells SF.out.2.2.1 item_size rfl (item_one _) ?_)
        have HZ := Lib.hid (SF.out.fin (zeroI).cells); obtain ⟨wz, hwz⟩ : ∃ W, W = wf.setRow w.heap.size (zeroI).cells := ⟨_, rfl⟩; rw [← hwz] at HZ ⊢; clear hwz; go_wp2_with (fail); exact bodyPost_ret (v := .agg (zeroI).cells) (results_cell_row rfl _ _ w.heap.size 53 (zeroI).cells (0, 0) _ rfl HZ.out.1 Tryd.underlying53 rfl item_size) rfl (HF.out _ HZ.out.2.1 HZ.out.2.2)
  · by_cases k2 : k = 2
    · subst k2; go_wp2_with (fail); refine (rnumber_any w2 base b t1 1099511627776 S2.out.1).mono ?_; rintro e w5 ⟨rfl, h1, h2⟩; have S5 := Lib.hid (S2.out.rd h1 h2); obtain ⟨tm, htm⟩ : ∃ x, x = (t1.number 1099511627776).1 := ⟨_, rfl⟩; obtain ⟨t3, ht3⟩ : ∃ x, x = (t1.number 1099511627776).2 := ⟨_, rfl⟩; rw [← ht3] at S5; rw [← htm]; have HTm := Lib.hid (And.intro htm ht3); clear h1 h2 htm ht3 d0 k1; have f2 := S5.out.fro 2; have g2 : w5.cell? ⟨xb, 2, none⟩ = _ := S5.out.cell 2 rfl; dsimp only
      go_upto_region 9 with (fail)
      obtain ⟨w6, hw6⟩ : ∃ W, W = w5.setCell ⟨xb, 2, none⟩ (.int .i64 tm) := ⟨_, rfl⟩; rw [← hw6]
      have S6 : Hid (GetSt base b xb w w6 t3 ⟨2, [], tm, 0⟩) := by rw [hw6]; exact Lib.hid (S5.out.set 2 (.int .i64 tm) rfl)
      clear hw6 f2 g2
      have HI : Hid (t.item0 = (⟨2, [], tm, 0⟩, t3)) := by
        rw [TapeL.item0, ← HK.out.1, ← HK.out.2, if_neg (by decide), if_pos rfl, ← HTm.out.1, ← HTm.out.2]
        exact Lib.hid rfl
      have HLn : Hid (([] : List (BitVec 8)).length ≤ 1000000) := Lib.hid (by decide)
      obtain ⟨r, hr⟩ : ∃ r, r = (ItemL.mk 2 [] tm 0).rightB := ⟨_, rfl⟩
      have HRt : Hid (Calls Tryd.prog 66 #[.agg (ItemL.mk 2 [] tm 0).cells] w6 (Below0 w6 (.bool r))) := by
        rw [hr]; exact eright_any w6 _ HLn.out
      have d0 : w6.cell? ⟨xb, 0, none⟩ = _ := S6.out.cell 0 rfl; have d1 : w6.cell? ⟨xb, 1, none⟩ = _ := S6.out.cell 1 rfl; have d2 : w6.cell? ⟨xb, 2, none⟩ = _ := S6.out.cell 2 rfl; have d3 : w6.cell? ⟨xb, 3, none⟩ = _ := S6.out.cell 3 rfl; unfold ItemL.cells at HRt
      have HQ : Hid (∀ tz, tz = TapeL.last (ItemL.mk 2 [] tm 0) (t3) → t.item = (if tz.e = 0 then (ItemL.mk 2 [] tm 0) else zeroI, tz)) := by
        refine Lib.hid ?_; rintro tz rfl; rw [TapeL.item, HI.out]
      have Hr := Lib.hid hr; clear hr
      cases r with
      | true =>
        go_wp2_with (fail); refine HRt.out.mono ?_; rintro e wr ⟨rfl, hBR⟩; have SR := Lib.hid (S6.out.below hBR); clear hBR d0 d1 d2 d3; dsimp only; obtain ⟨tz, htz⟩ : ∃ z, z = t3 := ⟨_, rfl⟩; rw [← htz] at SR
        have HI2 := Lib.hid (HQ.out tz (by rw [htz, TapeL.last, ← Hr.out]; rfl))
        obtain ⟨q, hq⟩ : ∃ q, q = tz.e := ⟨_, rfl⟩
        have HE : Hid (Calls Tryd.prog 67 #[.pointer (some ⟨b, 0, none⟩)] wr fun e w' => e = .returned (.int .i64 q) ∧ w' = wr) := by
          rw [hq]; exact rerr_any wr base b tz SR.out.1
        clear htz
        by_cases hq0 : q = 0
        · have HF : Hid (∀ wz, RdAt base wz b tz → w.grownBy wz (some b) → P (.returned (.agg (ItemL.mk 2 [] tm 0).cells)) wz) := by
            refine Lib.hid (fun wz k1 k2 => ?_)
            rw [HP.out, HI2.out, if_pos (by rw [← hq]; exact hq0)]
            exact ⟨rfl, k1, k2⟩
          clear hq; subst hq0; go_wp2_with (fail); refine HE.out.mono ?_; rintro e we ⟨rfl, hwe⟩; subst we; have d0 : wr.cell? ⟨xb, 0, none⟩ = _ := SR.out.cell 0 rfl; have d1 : wr.cell? ⟨xb, 1, none⟩ = _ := SR.out.cell 1 rfl; have d2 : wr.cell? ⟨xb, 2, none⟩ = _ := SR.out.cell 2 rfl; have d3 : wr.cell? ⟨xb, 3, none⟩ = _ := SR.out.cell 3 rfl; dsimp only
          go_upto_region 13 with (fail)
          refine wp_region_lit ?_
          first
            | (iterate 1 go_step
               refine wpList_store_row rfl _ _ _ rfl w.heap.size (ItemL.mk 2 [] tm 0).cells rfl rfl 53 zeroI.cells SR.out.2.2.1 item_size rfl (item_one _) ?_)
            | (iterate 2 go_step
               refine wpList_store_row rfl _ _ _ rfl w.heap.size (ItemL.mk 2 [] tm 0).cells rfl rfl 53 zeroI.cells SR.out.2.2.1 item_size rfl (item_one _) ?_)
            | (iterate 3 go_step
               refine wpList_store_row rfl _ _ _ rfl w.heap.size (ItemL.mk 2 [] tm 0).cells rfl rfl 53 zeroI.cells SR.out.2.2.1 item_size rfl (item_one _) ?_)
            | (iterate 4 go_step
               refine wpList_store_row rfl _ _ _ rfl w.heap.size (ItemL.mk 2 [] tm 0).cells rfl rfl 53 zeroI.cells SR.out.2.2.1 item_size rfl (item_one _) ?_)
            | (iterate 5 go_step
               refine wpList_store_row rfl _ _ _ rfl w.heap.size (ItemL.mk 2 [] tm 0).cells rfl rfl 53 zeroI.cells SR.out.2.2.1 item_size rfl (item_one _) ?_)
            | (iterate 6 go_step
               refine wpList_store_row rfl _ _ _ rfl w.heap.size (ItemL.mk 2 [] tm 0).cells rfl rfl 53 zeroI.cells SR.out.2.2.1 item_size rfl (item_one _) ?_)
          have HZ := Lib.hid (SR.out.fin (ItemL.mk 2 [] tm 0).cells); obtain ⟨wz, hwz⟩ : ∃ W, W = wr.setRow w.heap.size (ItemL.mk 2 [] tm 0).cells := ⟨_, rfl⟩; rw [← hwz] at HZ ⊢; clear hwz; go_wp2_with (fail); exact bodyPost_ret (v := .agg (ItemL.mk 2 [] tm 0).cells) (results_cell_row rfl _ _ w.heap.size 53 (ItemL.mk 2 [] tm 0).cells (0, 0) _ rfl HZ.out.1 Tryd.underlying53 rfl item_size) rfl (HF.out _ HZ.out.2.1 HZ.out.2.2)
        · have HF : Hid (∀ wz, RdAt base wz b tz → w.grownBy wz (some b) → P (.returned (.agg (zeroI).cells)) wz) := by
            refine Lib.hid (fun wz k1 k2 => ?_)
            rw [HP.out, HI2.out, if_neg (by rw [← hq]; exact hq0)]
            exact ⟨rfl, k1, k2⟩
          have e1 : (q != 0) = true := by simpa using hq0
          clear hq hq0; go_wp2_with (fail); refine HE.out.mono ?_; rintro e we ⟨rfl, hwe⟩; subst we; dsimp only
          go_upto_region 12 with (fail)
          refine wp_region_lit ?_
          first
            | (iterate 1 go_step
               refine wpList_store_row rfl _ _ _ rfl w.heap.size (zeroI).cells rfl rfl 53 zeroI.cells SR.out.2.2.1 item_size rfl (item_one _) ?_)
            | (iterate 2 go_step
               refine wpList_store_row rfl _ _ _ rfl w.heap.size (zeroI).cells rfl rfl 53 zeroI.cells SR.out.2.2.1 item_size rfl (item_one _) ?_)
            | (iterate 3 go_step
               refine wpList_store_row rfl _ _ _ rfl w.heap.size (zeroI).cells rfl rfl 53 zeroI.cells SR.out.2.2.1 item_size rfl (item_one _) ?_)
            | (iterate 4 go_step
               refine wpList_store_row rfl _ _ _ rfl w.heap.size (zeroI).cells rfl rfl 53 zeroI.cells SR.out.2.2.1 item_size rfl (item_one _) ?_)
            | (iterate 5 go_step
               refine wpList_store_row rfl _ _ _ rfl w.heap.size (zeroI).cells rfl rfl 53 zeroI.cells SR.out.2.2.1 item_size rfl (item_one _) ?_)
            | (iterate 6 go_step
               refine wpList_store_row rfl _ _ _ rfl w.heap.size (zeroI).cells rfl rfl 53 zeroI.cells SR.out.2.2.1 item_size rfl (item_one _) ?_)
          have HZ := Lib.hid (SR.out.fin (zeroI).cells); obtain ⟨wz, hwz⟩ : ∃ W, W = wr.setRow w.heap.size (zeroI).cells := ⟨_, rfl⟩; rw [← hwz] at HZ ⊢; clear hwz; go_wp2_with (fail); exact bodyPost_ret (v := .agg (zeroI).cells) (results_cell_row rfl _ _ w.heap.size 53 (zeroI).cells (0, 0) _ rfl HZ.out.1 Tryd.underlying53 rfl item_size) rfl (HF.out _ HZ.out.2.1 HZ.out.2.2)
      | false =>
        go_wp2_with (fail); refine HRt.out.mono ?_; rintro e wr ⟨rfl, hBR⟩; have SR := Lib.hid (S6.out.below hBR); clear hBR d0 d1 d2 d3; dsimp only; go_wp2_with (fail); refine (rfail_any wr base b (t3) 11 SR.out.1).mono ?_; rintro e wf ⟨rfl, hf1, hf2⟩; have SF := Lib.hid (SR.out.rd hf1 hf2); clear hf1 hf2; dsimp only; obtain ⟨tz, htz⟩ : ∃ z, z = (t3).fail 11 := ⟨_, rfl⟩; rw [← htz] at SF
        have HI2 := Lib.hid (HQ.out tz (by rw [htz, TapeL.last, ← Hr.out]; rfl))
        obtain ⟨q, hq⟩ : ∃ q, q = tz.e := ⟨_, rfl⟩
        have HE : Hid (Calls Tryd.prog 67 #[.pointer (some ⟨b, 0, none⟩)] wf fun e w' => e = .returned (.int .i64 q) ∧ w' = wf) := by
          rw [hq]; exact rerr_any wf base b tz SF.out.1
        clear htz
        by_cases hq0 : q = 0
        · have HF : Hid (∀ wz, RdAt base wz b tz → w.grownBy wz (some b) → P (.returned (.agg (ItemL.mk 2 [] tm 0).cells)) wz) := by
            refine Lib.hid (fun wz k1 k2 => ?_)
            rw [HP.out, HI2.out, if_pos (by rw [← hq]; exact hq0)]
            exact ⟨rfl, k1, k2⟩
          clear hq; subst hq0; go_wp2_with (fail); refine HE.out.mono ?_; rintro e we ⟨rfl, hwe⟩; subst we; have d0 : wf.cell? ⟨xb, 0, none⟩ = _ := SF.out.cell 0 rfl; have d1 : wf.cell? ⟨xb, 1, none⟩ = _ := SF.out.cell 1 rfl; have d2 : wf.cell? ⟨xb, 2, none⟩ = _ := SF.out.cell 2 rfl; have d3 : wf.cell? ⟨xb, 3, none⟩ = _ := SF.out.cell 3 rfl; dsimp only
          go_upto_region 13 with (fail)
          refine wp_region_lit ?_
          first
            | (iterate 1 go_step
               refine wpList_store_row rfl _ _ _ rfl w.heap.size (ItemL.mk 2 [] tm 0).cells rfl rfl 53 zeroI.cells SF.out.2.2.1 item_size rfl (item_one _) ?_)
            | (iterate 2 go_step
               refine wpList_store_row rfl _ _ _ rfl w.heap.size (ItemL.mk 2 [] tm 0).cells rfl rfl 53 zeroI.cells SF.out.2.2.1 item_size rfl (item_one _) ?_)
            | (iterate 3 go_step
               refine wpList_store_row rfl _ _ _ rfl w.heap.size (ItemL.mk 2 [] tm 0).cells rfl rfl 53 zeroI.cells SF.out.2.2.1 item_size rfl (item_one _) ?_)
            | (iterate 4 go_step
               refine wpList_store_row rfl _ _ _ rfl w.heap.size (ItemL.mk 2 [] tm 0).cells rfl rfl 53 zeroI.cells SF.out.2.2.1 item_size rfl (item_one _) ?_)
            | (iterate 5 go_step
               refine wpList_store_row rfl _ _ _ rfl w.heap.size (ItemL.mk 2 [] tm 0).cells rfl rfl 53 zeroI.cells SF.out.2.2.1 item_size rfl (item_one _) ?_)
            | (iterate 6 go_step
               refine wpList_store_row rfl _ _ _ rfl w.heap.size (ItemL.mk 2 [] tm 0).cells rfl rfl 53 zeroI.cells SF.out.2.2.1 item_size rfl (item_one _) ?_)
          have HZ := Lib.hid (SF.out.fin (ItemL.mk 2 [] tm 0).cells); obtain ⟨wz, hwz⟩ : ∃ W, W = wf.setRow w.heap.size (ItemL.mk 2 [] tm 0).cells := ⟨_, rfl⟩; rw [← hwz] at HZ ⊢; clear hwz; go_wp2_with (fail); exact bodyPost_ret (v := .agg (ItemL.mk 2 [] tm 0).cells) (results_cell_row rfl _ _ w.heap.size 53 (ItemL.mk 2 [] tm 0).cells (0, 0) _ rfl HZ.out.1 Tryd.underlying53 rfl item_size) rfl (HF.out _ HZ.out.2.1 HZ.out.2.2)
        · have HF : Hid (∀ wz, RdAt base wz b tz → w.grownBy wz (some b) → P (.returned (.agg (zeroI).cells)) wz) := by
            refine Lib.hid (fun wz k1 k2 => ?_)
            rw [HP.out, HI2.out, if_neg (by rw [← hq]; exact hq0)]
            exact ⟨rfl, k1, k2⟩
          have e1 : (q != 0) = true := by simpa using hq0
          clear hq hq0; go_wp2_with (fail); refine HE.out.mono ?_; rintro e we ⟨rfl, hwe⟩; subst we; dsimp only
          go_upto_region 12 with (fail)
          refine wp_region_lit ?_
          first
            | (iterate 1 go_step
               refine wpList_store_row rfl _ _ _ rfl w.heap.size (zeroI).cells rfl rfl 53 zeroI.cells SF.out.2.2.1 item_size rfl (item_one _) ?_)
            | (iterate 2 go_step
               refine wpList_store_row rfl _ _ _ rfl w.heap.size (zeroI).cells rfl rfl 53 zeroI.cells SF.out.2.2.1 item_size rfl (item_one _) ?_)
            | (iterate 3 go_step
               refine wpList_store_row rfl _ _ _ rfl w.heap.size (zeroI).cells rfl rfl 53 zeroI.cells SF.out.2.2.1 item_size rfl (item_one _) ?_)
            | (iterate 4 go_step
               refine wpList_store_row rfl _ _ _ rfl w.heap.size (zeroI).cells rfl rfl 53 zeroI.cells SF.out.2.2.1 item_size rfl (item_one _) ?_)
            | (iterate 5 go_step
               refine wpList_store_row rfl _ _ _ rfl w.heap.size (zeroI).cells rfl rfl 53 zeroI.cells SF.out.2.2.1 item_size rfl (item_one _) ?_)
            | (iterate 6 go_step
               refine wpList_store_row rfl _ _ _ rfl w.heap.size (zeroI).cells rfl rfl 53 zeroI.cells SF.out.2.2.1 item_size rfl (item_one _) ?_)
          have HZ := Lib.hid (SF.out.fin (zeroI).cells); obtain ⟨wz, hwz⟩ : ∃ W, W = wf.setRow w.heap.size (zeroI).cells := ⟨_, rfl⟩; rw [← hwz] at HZ ⊢; clear hwz; go_wp2_with (fail); exact bodyPost_ret (v := .agg (zeroI).cells) (results_cell_row rfl _ _ w.heap.size 53 (zeroI).cells (0, 0) _ rfl HZ.out.1 Tryd.underlying53 rfl item_size) rfl (HF.out _ HZ.out.2.1 HZ.out.2.2)
    · have HI : Hid (t.item0 = (⟨k, [], 0, 0⟩, t1)) := by
        rw [TapeL.item0, ← HK.out.1, ← HK.out.2, if_neg k1, if_neg k2]; exact Lib.hid rfl
      have HLn : Hid (([] : List (BitVec 8)).length ≤ 1000000) := Lib.hid (by decide)
      have e1 : (k == 1) = false := by simpa using k1
      have e2 : (k == 2) = false := by simpa using k2
      clear k1 k2
      go_upto_region 9 with (fail)
      clear d0 e1 e2; obtain ⟨r, hr⟩ : ∃ r, r = (ItemL.mk k [] 0 0).rightB := ⟨_, rfl⟩
      have HRt : Hid (Calls Tryd.prog 66 #[.agg (ItemL.mk k [] 0 0).cells] w2 (Below0 w2 (.bool r))) := by
        rw [hr]; exact eright_any w2 _ HLn.out
      have d0 : w2.cell? ⟨xb, 0, none⟩ = _ := S2.out.cell 0 rfl; have d1 : w2.cell? ⟨xb, 1, none⟩ = _ := S2.out.cell 1 rfl; have d2 : w2.cell? ⟨xb, 2, none⟩ = _ := S2.out.cell 2 rfl; have d3 : w2.cell? ⟨xb, 3, none⟩ = _ := S2.out.cell 3 rfl; unfold ItemL.cells at HRt
      have HQ : Hid (∀ tz, tz = TapeL.last (ItemL.mk k [] 0 0) (t1) → t.item = (if tz.e = 0 then (ItemL.mk k [] 0 0) else zeroI, tz)) := by
        refine Lib.hid ?_; rintro tz rfl; rw [TapeL.item, HI.out]
      have Hr := Lib.hid hr; clear hr
      cases r with
      | true =>
        go_wp2_with (fail); refine HRt.out.mono ?_; rintro e wr ⟨rfl, hBR⟩; have SR := Lib.hid (S2.out.below hBR); clear hBR d0 d1 d2 d3; dsimp only; obtain ⟨tz, htz⟩ : ∃ z, z = t1 := ⟨_, rfl⟩; rw [← htz] at SR
        have HI2 := Lib.hid (HQ.out tz (by rw [htz, TapeL.last, ← Hr.out]; rfl))
        obtain ⟨q, hq⟩ : ∃ q, q = tz.e := ⟨_, rfl⟩
        have HE : Hid (Calls Tryd.prog 67 #[.pointer (some ⟨b, 0, none⟩)] wr fun e w' => e = .returned (.int .i64 q) ∧ w' = wr) := by
          rw [hq]; exact rerr_any wr base b tz SR.out.1
        clear htz
        by_cases hq0 : q = 0
        · have HF : Hid (∀ wz, RdAt base wz b tz → w.grownBy wz (some b) → P (.returned (.agg (ItemL.mk k [] 0 0).cells)) wz) := by
            refine Lib.hid (fun wz k1 k2 => ?_)
            rw [HP.out, HI2.out, if_pos (by rw [← hq]; exact hq0)]
            exact ⟨rfl, k1, k2⟩
          clear hq; subst hq0; go_wp2_with (fail); refine HE.out.mono ?_; rintro e we ⟨rfl, hwe⟩; subst we; have d0 : wr.cell? ⟨xb, 0, none⟩ = _ := SR.out.cell 0 rfl; have d1 : wr.cell? ⟨xb, 1, none⟩ = _ := SR.out.cell 1 rfl; have d2 : wr.cell? ⟨xb, 2, none⟩ = _ := SR.out.cell 2 rfl; have d3 : wr.cell? ⟨xb, 3, none⟩ = _ := SR.out.cell 3 rfl; dsimp only
          go_upto_region 13 with (fail)
          refine wp_region_lit ?_
          first
            | (iterate 1 go_step
               refine wpList_store_row rfl _ _ _ rfl w.heap.size (ItemL.mk k [] 0 0).cells rfl rfl 53 zeroI.cells SR.out.2.2.1 item_size rfl (item_one _) ?_)
            | (iterate 2 go_step
               refine wpList_store_row rfl _ _ _ rfl w.heap.size (ItemL.mk k [] 0 0).cells rfl rfl 53 zeroI.cells SR.out.2.2.1 item_size rfl (item_one _) ?_)
            | (iterate 3 go_step
               refine wpList_store_row rfl _ _ _ rfl w.heap.size (ItemL.mk k [] 0 0).cells rfl rfl 53 zeroI.cells SR.out.2.2.1 item_size rfl (item_one _) ?_)
            | (iterate 4 go_step
               refine wpList_store_row rfl _ _ _ rfl w.heap.size (ItemL.mk k [] 0 0).cells rfl rfl 53 zeroI.cells SR.out.2.2.1 item_size rfl (item_one _) ?_)
            | (iterate 5 go_step
               refine wpList_store_row rfl _ _ _ rfl w.heap.size (ItemL.mk k [] 0 0).cells rfl rfl 53 zeroI.cells SR.out.2.2.1 item_size rfl (item_one _) ?_)
            | (iterate 6 go_step
               refine wpList_store_row rfl _ _ _ rfl w.heap.size (ItemL.mk k [] 0 0).cells rfl rfl 53 zeroI.cells SR.out.2.2.1 item_size rfl (item_one _) ?_)
          have HZ := Lib.hid (SR.out.fin (ItemL.mk k [] 0 0).cells); obtain ⟨wz, hwz⟩ : ∃ W, W = wr.setRow w.heap.size (ItemL.mk k [] 0 0).cells := ⟨_, rfl⟩; rw [← hwz] at HZ ⊢; clear hwz; go_wp2_with (fail); exact bodyPost_ret (v := .agg (ItemL.mk k [] 0 0).cells) (results_cell_row rfl _ _ w.heap.size 53 (ItemL.mk k [] 0 0).cells (0, 0) _ rfl HZ.out.1 Tryd.underlying53 rfl item_size) rfl (HF.out _ HZ.out.2.1 HZ.out.2.2)
        · have HF : Hid (∀ wz, RdAt base wz b tz → w.grownBy wz (some b) → P (.returned (.agg (zeroI).cells)) wz) := by
            refine Lib.hid (fun wz k1 k2 => ?_)
            rw [HP.out, HI2.out, if_neg (by rw [← hq]; exact hq0)]
            exact ⟨rfl, k1, k2⟩
          have e1 : (q != 0) = true := by simpa using hq0
          clear hq hq0; go_wp2_with (fail); refine HE.out.mono ?_; rintro e we ⟨rfl, hwe⟩; subst we; dsimp only
          go_upto_region 12 with (fail)
          refine wp_region_lit ?_
          first
            | (iterate 1 go_step
               refine wpList_store_row rfl _ _ _ rfl w.heap.size (zeroI).cells rfl rfl 53 zeroI.cells SR.out.2.2.1 item_size rfl (item_one _) ?_)
            | (iterate 2 go_step
               refine wpList_store_row rfl _ _ _ rfl w.heap.size (zeroI).cells rfl rfl 53 zeroI.cells SR.out.2.2.1 item_size rfl (item_one _) ?_)
            | (iterate 3 go_step
               refine wpList_store_row rfl _ _ _ rfl w.heap.size (zeroI).cells rfl rfl 53 zeroI.cells SR.out.2.2.1 item_size rfl (item_one _) ?_)
            | (iterate 4 go_step
               refine wpList_store_row rfl _ _ _ rfl w.heap.size (zeroI).cells rfl rfl 53 zeroI.cells SR.out.2.2.1 item_size rfl (item_one _) ?_)
            | (iterate 5 go_step
               refine wpList_store_row rfl _ _ _ rfl w.heap.size (zeroI).cells rfl rfl 53 zeroI.cells SR.out.2.2.1 item_size rfl (item_one _) ?_)
            | (iterate 6 go_step
               refine wpList_store_row rfl _ _ _ rfl w.heap.size (zeroI).cells rfl rfl 53 zeroI.cells SR.out.2.2.1 item_size rfl (item_one _) ?_)
          have HZ := Lib.hid (SR.out.fin (zeroI).cells); obtain ⟨wz, hwz⟩ : ∃ W, W = wr.setRow w.heap.size (zeroI).cells := ⟨_, rfl⟩; rw [← hwz] at HZ ⊢; clear hwz; go_wp2_with (fail); exact bodyPost_ret (v := .agg (zeroI).cells) (results_cell_row rfl _ _ w.heap.size 53 (zeroI).cells (0, 0) _ rfl HZ.out.1 Tryd.underlying53 rfl item_size) rfl (HF.out _ HZ.out.2.1 HZ.out.2.2)
      | false =>
        go_wp2_with (fail); refine HRt.out.mono ?_; rintro e wr ⟨rfl, hBR⟩; have SR := Lib.hid (S2.out.below hBR); clear hBR d0 d1 d2 d3; dsimp only; go_wp2_with (fail); refine (rfail_any wr base b (t1) 11 SR.out.1).mono ?_; rintro e wf ⟨rfl, hf1, hf2⟩; have SF := Lib.hid (SR.out.rd hf1 hf2); clear hf1 hf2; dsimp only; obtain ⟨tz, htz⟩ : ∃ z, z = (t1).fail 11 := ⟨_, rfl⟩; rw [← htz] at SF
        have HI2 := Lib.hid (HQ.out tz (by rw [htz, TapeL.last, ← Hr.out]; rfl))
        obtain ⟨q, hq⟩ : ∃ q, q = tz.e := ⟨_, rfl⟩
        have HE : Hid (Calls Tryd.prog 67 #[.pointer (some ⟨b, 0, none⟩)] wf fun e w' => e = .returned (.int .i64 q) ∧ w' = wf) := by
          rw [hq]; exact rerr_any wf base b tz SF.out.1
        clear htz
        by_cases hq0 : q = 0
        · have HF : Hid (∀ wz, RdAt base wz b tz → w.grownBy wz (some b) → P (.returned (.agg (ItemL.mk k [] 0 0).cells)) wz) := by
            refine Lib.hid (fun wz k1 k2 => ?_)
            rw [HP.out, HI2.out, if_pos (by rw [← hq]; exact hq0)]
            exact ⟨rfl, k1, k2⟩
          clear hq; subst hq0; go_wp2_with (fail); refine HE.out.mono ?_; rintro e we ⟨rfl, hwe⟩; subst we; have d0 : wf.cell? ⟨xb, 0, none⟩ = _ := SF.out.cell 0 rfl; have d1 : wf.cell? ⟨xb, 1, none⟩ = _ := SF.out.cell 1 rfl; have d2 : wf.cell? ⟨xb, 2, none⟩ = _ := SF.out.cell 2 rfl; have d3 : wf.cell? ⟨xb, 3, none⟩ = _ := SF.out.cell 3 rfl; dsimp only
          go_upto_region 13 with (fail)
          refine wp_region_lit ?_
          first
            | (iterate 1 go_step
               refine wpList_store_row rfl _ _ _ rfl w.heap.size (ItemL.mk k [] 0 0).cells rfl rfl 53 zeroI.cells SF.out.2.2.1 item_size rfl (item_one _) ?_)
            | (iterate 2 go_step
               refine wpList_store_row rfl _ _ _ rfl w.heap.size (ItemL.mk k [] 0 0).cells rfl rfl 53 zeroI.cells SF.out.2.2.1 item_size rfl (item_one _) ?_)
            | (iterate 3 go_step
               refine wpList_store_row rfl _ _ _ rfl w.heap.size (ItemL.mk k [] 0 0).cells rfl rfl 53 zeroI.cells SF.out.2.2.1 item_size rfl (item_one _) ?_)
            | (iterate 4 go_step
               refine wpList_store_row rfl _ _ _ rfl w.heap.size (ItemL.mk k [] 0 0).cells rfl rfl 53 zeroI.cells SF.out.2.2.1 item_size rfl (item_one _) ?_)
            | (iterate 5 go_step
               refine wpList_store_row rfl _ _ _ rfl w.heap.size (ItemL.mk k [] 0 0).cells rfl rfl 53 zeroI.cells SF.out.2.2.1 item_size rfl (item_one _) ?_)
            | (iterate 6 go_step
               refine wpList_store_row rfl _ _ _ rfl w.heap.size (ItemL.mk k [] 0 0).cells rfl rfl 53 zeroI.cells SF.out.2.2.1 item_size rfl (item_one _) ?_)
          have HZ := Lib.hid (SF.out.fin (ItemL.mk k [] 0 0).cells); obtain ⟨wz, hwz⟩ : ∃ W, W = wf.setRow w.heap.size (ItemL.mk k [] 0 0).cells := ⟨_, rfl⟩; rw [← hwz] at HZ ⊢; clear hwz; go_wp2_with (fail); exact bodyPost_ret (v := .agg (ItemL.mk k [] 0 0).cells) (results_cell_row rfl _ _ w.heap.size 53 (ItemL.mk k [] 0 0).cells (0, 0) _ rfl HZ.out.1 Tryd.underlying53 rfl item_size) rfl (HF.out _ HZ.out.2.1 HZ.out.2.2)
        · have HF : Hid (∀ wz, RdAt base wz b tz → w.grownBy wz (some b) → P (.returned (.agg (zeroI).cells)) wz) := by
            refine Lib.hid (fun wz k1 k2 => ?_)
            rw [HP.out, HI2.out, if_neg (by rw [← hq]; exact hq0)]
            exact ⟨rfl, k1, k2⟩
          have e1 : (q != 0) = true := by simpa using hq0
          clear hq hq0; go_wp2_with (fail); refine HE.out.mono ?_; rintro e we ⟨rfl, hwe⟩; subst we; dsimp only
          go_upto_region 12 with (fail)
          refine wp_region_lit ?_
          first
            | (iterate 1 go_step
               refine wpList_store_row rfl _ _ _ rfl w.heap.size (zeroI).cells rfl rfl 53 zeroI.cells SF.out.2.2.1 item_size rfl (item_one _) ?_)
            | (iterate 2 go_step
               refine wpList_store_row rfl _ _ _ rfl w.heap.size (zeroI).cells rfl rfl 53 zeroI.cells SF.out.2.2.1 item_size rfl (item_one _) ?_)
            | (iterate 3 go_step
               refine wpList_store_row rfl _ _ _ rfl w.heap.size (zeroI).cells rfl rfl 53 zeroI.cells SF.out.2.2.1 item_size rfl (item_one _) ?_)
            | (iterate 4 go_step
               refine wpList_store_row rfl _ _ _ rfl w.heap.size (zeroI).cells rfl rfl 53 zeroI.cells SF.out.2.2.1 item_size rfl (item_one _) ?_)
            | (iterate 5 go_step
               refine wpList_store_row rfl _ _ _ rfl w.heap.size (zeroI).cells rfl rfl 53 zeroI.cells SF.out.2.2.1 item_size rfl (item_one _) ?_)
            | (iterate 6 go_step
               refine wpList_store_row rfl _ _ _ rfl w.heap.size (zeroI).cells rfl rfl 53 zeroI.cells SF.out.2.2.1 item_size rfl (item_one _) ?_)
          have HZ := Lib.hid (SF.out.fin (zeroI).cells); obtain ⟨wz, hwz⟩ : ∃ W, W = wf.setRow w.heap.size (zeroI).cells := ⟨_, rfl⟩; rw [← hwz] at HZ ⊢; clear hwz; go_wp2_with (fail); exact bodyPost_ret (v := .agg (zeroI).cells) (results_cell_row rfl _ _ w.heap.size 53 (zeroI).cells (0, 0) _ rfl HZ.out.1 Tryd.underlying53 rfl item_size) rfl (HF.out _ HZ.out.2.1 HZ.out.2.2)
end Go.Proofs.YtdmnhgbdeifpbaaDoor
namespace Go.Proofs.YtdmnhgbdeifpbaaDoor
open Go Go.RowKit
def itemsN : Nat → TapeL → List ItemL × TapeL
  | 0, t => ([], t)
  | k + 1, t => ((itemsN k t).1 ++ [(itemsN k t).2.item.1], (itemsN k t).2.item.2)
theorem itemsN_length (t : TapeL) : ∀ k, (itemsN k t).1.length = k
  | 0 => rfl
  | k + 1 => by simp [itemsN, itemsN_length t k]
theorem number_range (t : TapeL) (most : Int) (h0 : 0 ≤ most) : 0 ≤ (t.number most).1 ∧ (t.number most).1 ≤ most := by
  unfold TapeL.number
  split
  · simp only; omega
  · split
    · simp only; omega
    · rename_i h1 h2
      by_cases he : t.word.2.e = 0
      · simp only; omega
      · have := word_err he; simp only; omega
end Go.Proofs.YtdmnhgbdeifpbaaDoor
namespace Go.Proofs.YtdmnhgbdeifpbaaDoor
open Go Go.RowKit
def bytesL (l : List ItemL) : List (BitVec 8) := (l.filter (·.rightB)).flatMap (·.bytes)
def countL (l : List ItemL) : Nat := (l.filter (·.rightB)).length
theorem listL_eq (l : List ItemL) : listL l = wordL (countL l) ++ bytesL l := rfl
theorem take_next {α : Type} {l : List α} {t : Nat} {x : α} (h : l[t]? = some x) : l.take (t + 1) = l.take t ++ [x] := by
  have ht : t < l.length := (List.getElem?_eq_some_iff.1 h).1; rw [List.take_succ_eq_append_getElem ht]; rw [List.getElem?_eq_getElem ht] at h; simp only [Option.some.injEq] at h; rw [h]
theorem countL_next {l : List ItemL} {t : Nat} {x : ItemL} (h : l[t]? = some x) : countL (l.take (t + 1)) = countL (l.take t) + if x.rightB then 1 else 0 := by
  rw [take_next h, countL, countL, List.filter_append]
  cases hx : x.rightB <;> simp [hx]
theorem bytesL_next {l : List ItemL} {t : Nat} {x : ItemL} (h : l[t]? = some x) : bytesL (l.take (t + 1)) = bytesL (l.take t) ++ if x.rightB then x.bytes else [] := by
  rw [take_next h, bytesL, bytesL, List.filter_append]
  cases hx : x.rightB <;> simp [hx]
theorem countL_le (l : List ItemL) : countL l ≤ l.length := List.length_filter_le _ _
theorem right_bytes {x : ItemL} (h : x.rightB = true) : x.bytes.length ≤ 1050 := by
  obtain ⟨kind, key, time, value⟩ := x
  obtain ⟨_, h | h⟩ := right_cases h
  · exact ItemL.bytes_length (by rw [show (ItemL.mk kind key time value).key = key from rfl, h.2.1]; decide)
  · exact ItemL.bytes_length (Nat.le_trans h.2.2.2.1 (by decide))
set_option maxRecDepth 100000 in
theorem bytesL_len : ∀ l : List ItemL, (bytesL l).length ≤ l.length * 1050
  | [] => by simp [bytesL]
  | x :: l => by
    have ih := bytesL_len l; unfold bytesL at ih ⊢
    cases hx : x.rightB with
    | true =>
      have := right_bytes hx; simp only [List.filter_cons, hx, if_true, List.flatMap_cons, List.length_append, List.length_cons]; omega
    | false =>
      simp only [List.filter_cons, hx, List.length_cons]; simp only [Bool.false_eq_true, if_false]; omega
theorem ItemsAt.get {w : World} {a : Option Addr} {l : List ItemL} (h : ItemsAt w a l) {t : Nat} (ht : t < l.length) : ∃ x b o, l[t]? = some x ∧ a = some ⟨b, o, none⟩ ∧ w.cell? ⟨b, o + t * 4, none⟩ = some (.int .i64 x.kind) ∧ w.cell? ⟨b, o + t * 4 + 1, none⟩ = some (Sv x.key) ∧
    w.cell? ⟨b, o + t * 4 + 2, none⟩ = some (.int .i64 x.time) ∧ w.cell? ⟨b, o + t * 4 + 3, none⟩ = some (.int .i64 x.value) := by
  rcases h with h | ⟨b, o, h, h'⟩
  · rw [h] at ht; simp at ht
  · exact ⟨l[t], b, o, List.getElem?_eq_getElem ht, h, h' t _ (List.getElem?_eq_getElem ht) 0 _ rfl, h' t _ (List.getElem?_eq_getElem ht) 1 _ rfl, h' t _ (List.getElem?_eq_getElem ht) 2 _ rfl, h' t _ (List.getElem?_eq_getElem ht) 3 _ rfl⟩
def EB1 (w : World) (l : List ItemL) (n i : Value) (wr : World) : Prop := ∃ t : Nat, t ≤ l.length ∧ i = .int .i64 (t : Int) ∧ n = .int .i64 ((countL (l.take t) : Nat) : Int) ∧ Below w.heap.size w wr
def EB2 (b : Nat) (W0 : World) (l : List ItemL) (i : Value) (wr : World) : Prop := ∃ t : Nat, t ≤ l.length ∧ i = .int .i64 (t : Int) ∧ PenAt (fun k => k < b) wr b (wordL (countL l) ++ bytesL (l.take t)) ∧ PKept (fun k => k < b) b W0 wr
set_option maxRecDepth 100000 in
set_option maxHeartbeats 2000000 in
theorem ebytes_any (w : World) (la : Option Addr) (lc : Nat) (l : List ItemL) (hI : ItemsAt w la l) (hk : ∀ x ∈ l, x.key.length ≤ 1000000) (hl : l.length ≤ 1000000) :
    Calls Tryd.prog 44 #[.slice la l.length lc] w (BytesEnd w (listL l)) := by
  obtain ⟨L, hL⟩ : ∃ L, L = l.length := ⟨_, rfl⟩; have HP := Lib.hid (And.intro hI (And.intro hk (And.intro hL hl))); obtain ⟨P, hP⟩ : ∃ P, P = BytesEnd w (listL l) := ⟨_, rfl⟩; rw [← hL, ← hP]; have HPP := Lib.hid hP
  have hL6 : L ≤ 1000000 := by omega
  clear hI hk hL hl hP
  go_enter Tryd.func44, Tryd.ntmps44
  go_wp2_with (fail)
  go_loopw [3, 11] (EB1 w l) (fun _ i _ => L - (intOf i).toNat)
  case atStart => exact ⟨0, Nat.zero_le _, rfl, rfl, Below.refl _ _⟩
  case round =>
    obtain ⟨t, ht, rfl, rfl, hB⟩ := hrel; rw [← HP.out.2.2.1] at ht
    by_cases hlt : t < L
    · have hi0 : (0 : Int) ≤ (t : Int) ∧ (t : Int) < (L : Int) := by omega
      obtain ⟨x, pb, po, hx, rfl, d0, d1, d2, d3⟩ := (HP.out.1.below hB).get (t := t) (by rw [← HP.out.2.2.1]; exact hlt)
      have hxk := HP.out.2.1 x (List.mem_of_getElem? hx); obtain ⟨c, hc⟩ : ∃ c, c = countL (l.take t) := ⟨_, rfl⟩
      have hcl : c ≤ 1000000 := by
        rw [hc]; have h1 := countL_le (l.take t); have h2 := List.length_take_le t l; have h3 := HP.out.2.2.2; omega
      rw [← hc]; obtain ⟨r, hr⟩ : ∃ r, r = x.rightB := ⟨_, rfl⟩; obtain ⟨wo, hwo⟩ : ∃ wo, wo = wr.alloc (.cells x.cells 53) := ⟨_, rfl⟩
      have hBo : Below wr.heap.size wr wo := by rw [hwo]; exact (Below.refl _ wr).alloc (Nat.le_refl _) _
      have hrow : wo.heap[wr.heap.size]? = some (.cells x.cells 53 (0, 0)) := by rw [hwo]; exact heap_alloc_new wr _
      have HR : Hid (Calls Tryd.prog 66 #[.agg x.cells] wo (Below0 wo (.bool r))) := by
        rw [hr]; exact eright_any wo x hxk
      have HZ : Hid (∀ w3, Below wo.heap.size wo w3 → EB1 w l (.int .i64 ((c : Int) + if r then 1 else 0)) (.int .i64 ((t : Int) + 1)) w3) := by
        refine Lib.hid (fun w3 h3 => ⟨t + 1, by rw [← HP.out.2.2.1]; omega, by go_num, ?_, hB.trans ((hBo.trans (h3.mono hBo.size)).mono hB.size)⟩)
        rw [countL_next hx, ← hr, ← hc]
        cases r <;> simp
      have HL := Lib.hid hlt
      have co0 : wo.cell? ⟨wr.heap.size, 0, none⟩ = some (.int .i64 x.kind) := by rw [cell_of_row _ _ 0 _ _ _ hrow]; rfl
      have co1 : wo.cell? ⟨wr.heap.size, 1, none⟩ = some (Sv x.key) := by rw [cell_of_row _ _ 1 _ _ _ hrow]; rfl
      have co2 : wo.cell? ⟨wr.heap.size, 2, none⟩ = some (.int .i64 x.time) := by rw [cell_of_row _ _ 2 _ _ _ hrow]; rfl
      have co3 : wo.cell? ⟨wr.heap.size, 3, none⟩ = some (.int .i64 x.value) := by rw [cell_of_row _ _ 3 _ _ _ hrow]; rfl
      unfold ItemL.cells at hwo HR; obtain ⟨kind, key, time, value⟩ := x; simp only at d0 d1 d2 d3 co0 co1 co2 co3 hwo HR; clear hB hx hxk hc hr hBo hrow
      go_upto_region 5 with (fail)
      rw [← hwo]; clear hwo d0 d1 d2 d3
      cases r with
      | true =>
        go_wp2_with (fail); refine HR.out.mono ?_; rintro e w3 ⟨rfl, hB3⟩; have H3 := Lib.hid (HZ.out w3 hB3); clear hB3 co0 co1 co2 co3; dsimp only; go_wp2_with (fail); have := HL.out
        exact ⟨H3.out, by simp [intOf]; omega⟩
      | false =>
        go_wp2_with (fail); refine HR.out.mono ?_; rintro e w3 ⟨rfl, hB3⟩
        have H3 : Hid (EB1 w l (.int .i64 (c : Int)) (.int .i64 ((t : Int) + 1)) w3) := by
          have := HZ.out w3 hB3
          exact Lib.hid (by simpa using this)
        clear hB3 co0 co1 co2 co3; dsimp only; go_wp2_with (fail); have := HL.out
        exact ⟨H3.out, by simp [intOf]; omega⟩
    · obtain rfl : t = L := by omega
      rw [HP.out.2.2.1, List.take_length]; have HB := Lib.hid hB; obtain ⟨n, hn⟩ : ∃ n, n = countL l := ⟨_, rfl⟩; rw [← hn, ← HP.out.2.2.1]; have HN := Lib.hid hn
      have hn6 : Hid (n ≤ 1000000) := by
        have h1 := countL_le l; have h3 := HP.out.2.2.2
        show n ≤ _
        omega
      clear hB hn ht; obtain ⟨W0, hW0⟩ : ∃ W0, W0 = wr.alloc (.cells #[.slice none 0 0] 76) := ⟨_, rfl⟩; obtain ⟨b, hb⟩ : ∃ b, b = wr.heap.size := ⟨_, rfl⟩
      have H0 : Hid (PenAt (fun k => k < b) W0 b [] ∧ b < W0.heap.size ∧ w.heap.size ≤ b ∧ Below w.heap.size w W0) := by
        refine ⟨by rw [hW0, hb]; exact PenAt.new _ wr, by rw [hW0, hb]; simp, by rw [hb]; exact HB.out.size, ?_⟩
        rw [hW0]; exact HB.out.trans ((Below.refl _ wr).alloc HB.out.size _)
      go_upto_region 9 with (fail)
      rw [← hW0, ← hb]; clear hW0 hb; go_wp2_with (fail)
      refine (pnumber_any W0 (fun k => k < b) b n [] (by have := hn6.out; omega) H0.out.1 (fun k hk => Nat.lt_trans hk H0.out.2.1) (by simp)).mono ?_
      rintro e W1 ⟨rfl, hp1, hk1⟩; have H1 := Lib.hid (And.intro hp1 hk1); clear hp1 hk1; dsimp only; go_wp2_with (fail); obtain ⟨wf, rfl⟩ : ∃ x, x = wr := ⟨wr, rfl⟩
      go_loopw [24] (EB2 b W0 l) (fun i _ => t - (intOf i).toNat)
      case atStart =>
        refine ⟨0, Nat.zero_le _, rfl, ?_, H1.out.2⟩; have := H1.out.1; rw [HN.out] at this
        simpa [bytesL] using this
      case round =>
        obtain ⟨i, hi, rfl, hp, hk⟩ := hrel; rw [← HP.out.2.2.1] at hi; have HS := Lib.hid (And.intro hp hk); clear hp hk
        by_cases hlt2 : i < t
        · have hi0 : (0 : Int) ≤ (i : Int) ∧ (i : Int) < (t : Int) := by omega
          have hBw : Below w.heap.size w wr := H0.out.2.2.2.trans (HS.out.2.below (B := w.heap.size) (fun k hk => (by have := H0.out.2.2.1; omega)) H0.out.2.2.1 (by have := H0.out; omega))
          obtain ⟨x, pb, po, hx, hla, d0, d1, d2, d3⟩ := (HP.out.1.below hBw).get (t := i) (by rw [← HP.out.2.2.1]; exact hlt2)
          subst hla; have hxk := HP.out.2.1 x (List.mem_of_getElem? hx); obtain ⟨wo, hwo⟩ : ∃ wo, wo = wr.alloc (.cells x.cells 53) := ⟨_, rfl⟩
          have hBo : Below wr.heap.size wr wo := by rw [hwo]; exact (Below.refl _ wr).alloc (Nat.le_refl _) _
          have hrow : wo.heap[wr.heap.size]? = some (.cells x.cells 53 (0, 0)) := by rw [hwo]; exact heap_alloc_new wr _
          have hbq := HS.out.1.lt
          have HPut : Hid (Calls Tryd.prog 72 #[.pointer (some ⟨b, 0, none⟩), .agg x.cells] wo fun e w3 => ∃ r, e = .returned (.bool r) ∧ EB2 b W0 l (.int .i64 ((i : Int) + 1)) w3) := by
            have hlen : (wordL (countL l) ++ bytesL (l.take i)).length ≤ 1073700000 := by
              have h1 := wordL_length (countL l); have h2 := bytesL_len (l.take i); have h3 := List.length_take_le i l; have h4 := HP.out.2.2.2; rw [List.length_append]
              have h5 : (l.take i).length ≤ 1000000 := by simp only [List.length_take]; omega
              have h6 : (l.take i).length * 1050 ≤ 1000000 * 1050 := Nat.mul_le_mul_right _ h5; omega
            cases hr : x.rightB with
            | true =>
              refine Lib.hid ((eput_yes wo (fun k => k < b) b _ x hr (HS.out.1.below hBo) (fun k hk => by have := hBo.size; omega) hlen).mono ?_)
              rintro e w3 ⟨rfl, k1, k2⟩
              refine ⟨true, rfl, i + 1, by rw [← HP.out.2.2.1]; omega, by go_num, ?_, HS.out.2.trans ((PKept.of_below hBo).trans k2)⟩
              rw [bytesL_next hx, hr, if_pos rfl, ← List.append_assoc]; exact k1
            | false =>
              refine Lib.hid ((eput_no wo b x hxk hr).mono ?_); rintro e w3 ⟨rfl, k1⟩
              refine ⟨false, rfl, i + 1, by rw [← HP.out.2.2.1]; omega, by go_num, ?_, HS.out.2.trans ((PKept.of_below hBo).trans (PKept.of_below k1))⟩
              rw [bytesL_next hx, hr, if_neg (by decide), List.append_nil]
              exact (HS.out.1.below hBo).below k1
          have HL := Lib.hid hlt2
          have co0 : wo.cell? ⟨wr.heap.size, 0, none⟩ = some (.int .i64 x.kind) := by rw [cell_of_row _ _ 0 _ _ _ hrow]; rfl
          have co1 : wo.cell? ⟨wr.heap.size, 1, none⟩ = some (Sv x.key) := by rw [cell_of_row _ _ 1 _ _ _ hrow]; rfl
          have co2 : wo.cell? ⟨wr.heap.size, 2, none⟩ = some (.int .i64 x.time) := by rw [cell_of_row _ _ 2 _ _ _ hrow]; rfl
          have co3 : wo.cell? ⟨wr.heap.size, 3, none⟩ = some (.int .i64 x.value) := by rw [cell_of_row _ _ 3 _ _ _ hrow]; rfl
          unfold ItemL.cells at hwo HPut; obtain ⟨kind, key, time, value⟩ := x; simp only at d0 d1 d2 d3 co0 co1 co2 co3 hwo HPut; clear hBw hx hxk hBo hrow hbq
          go_upto_region 13 with (fail)
          rw [← hwo]; clear hwo d0 d1 d2 d3; go_wp2_with (fail); refine HPut.out.mono ?_; rintro e w3 ⟨r, rfl, hz⟩; have H3 := Lib.hid hz; clear hz co0 co1 co2 co3; dsimp only; go_wp2_with (fail); have := HL.out
          exact ⟨H3.out, by simp [intOf]; omega⟩
        · obtain rfl : i = t := by omega
          have HPb : Hid (PenAt (fun k => k < b) wr b (listL l)) := by
            have := HS.out.1; rw [HP.out.2.2.1, List.take_length] at this; exact this
          have hll : (listL l).length ≤ 1073741824 := by
            have h1 := wordL_length (countL l); have h2 := bytesL_len l; have h4 := HP.out.2.2.2; have h6 : l.length * 1050 ≤ 1000000 * 1050 := Nat.mul_le_mul_right _ h4; rw [listL_eq, List.length_append]; omega
          have HBy := Lib.hid (pbytes_any wr (fun k => k < b) b (listL l) HPb.out hll)
          have hBw : Below w.heap.size w wr := H0.out.2.2.2.trans (HS.out.2.below (B := w.heap.size) (fun k hk => (by have := H0.out.2.2.1; omega)) H0.out.2.2.1 (by have := H0.out; omega))
          have HBw := Lib.hid hBw; clear hBw hll hi hlt2; go_wp2_with (fail); refine HBy.out.mono ?_; rintro e w3 ⟨ba, bc, rfl, k1, k2, k3, k4, k5⟩
          have HF : Hid (P (.returned (.slice ba (listL l).length bc)) w3) := by
            rw [HPP.out]; exact Lib.hid ⟨ba, bc, rfl, k1, k2, k3, k4.mono HBw.out.size, HBw.out.trans (k5.mono HBw.out.size)⟩
          obtain ⟨N, hN⟩ : ∃ N, N = (listL l).length := ⟨_, rfl⟩; rw [← hN] at HF ⊢; clear k1 k2 k3 k4 k5 hN; dsimp only; go_wp2_with (fail); exact HF.out
end Go.Proofs.YtdmnhgbdeifpbaaDoor
namespace Go.Proofs.YtdmnhgbdeifpbaaDoor
open Go Go.RowKit
theorem back_text16 (m r : List (BitVec 8)) (h : m.length ≤ 16) : (TapeL.mk (textL m ++ r) 0).text 16 = (m, ⟨r, 0⟩) := by
  rw [text_eq, textL, List.append_assoc, back_number m.length 16 (by omega) (by omega)]
  exact back_fixed m r
theorem item_back {x : ItemL} (h : x.rightB = true) (r : List (BitVec 8)) : (TapeL.mk (x.bytes ++ r) 0).item = (x, ⟨r, 0⟩) := by
  have key : (TapeL.mk (x.bytes ++ r) 0).item0 = (x, ⟨r, 0⟩) := by
    obtain ⟨kind, key, time, value⟩ := x
    obtain ⟨ht, ⟨rfl, rfl, rfl⟩ | ⟨rfl, hn, h1, h16, hv⟩⟩ := right_cases h
    · have e : (ItemL.mk 2 [] time 0).bytes ++ r = wordL 2 ++ (wordL time.toNat ++ r) := by rw [ItemL.bytes, if_pos rfl, List.append_assoc]; rfl
      have n1 := back_number 2 9223372036854775807 (by decide) (by decide) (wordL time.toNat ++ r)
      have n2 := back_number time.toNat 1099511627776 (by omega) (by omega) r
      rw [e, TapeL.item0, n1]; simp only
      rw [if_neg (by decide), if_pos (by decide), n2]
      simp only [Prod.mk.injEq, ItemL.mk.injEq, and_true, true_and]; omega
    · have e : (ItemL.mk 1 key time value).bytes ++ r = wordL 1 ++ (textL key ++ (wordL time.toNat ++ (signedL value ++ r))) := by
        rw [ItemL.bytes, if_neg (show ¬ (1 : Int) = 2 by decide)]
        simp only [List.append_assoc]; rfl
      have n1 := back_number 1 9223372036854775807 (by decide) (by decide) (textL key ++ (wordL time.toNat ++ (signedL value ++ r)))
      have n2 := back_text16 key (wordL time.toNat ++ (signedL value ++ r)) h16
      have n3 := back_number time.toNat 1099511627776 (by omega) (by omega) (signedL value ++ r)
      have n4 := back_signed value (by omega) (by omega) r
      rw [e, TapeL.item0, n1]; simp only
      rw [if_pos (by decide), n2]
      simp only; rw [n3]; simp only; rw [n4]; simp only [Prod.mk.injEq, ItemL.mk.injEq, and_true, true_and]; omega
  rw [TapeL.item, key]; simp only [TapeL.last, h, if_true]
theorem itemsN_back : ∀ (l : List ItemL) (r : List (BitVec 8)), (∀ x ∈ l, x.rightB = true) → itemsN l.length ⟨l.flatMap (·.bytes) ++ r, 0⟩ = (l, ⟨r, 0⟩) := by
  have snoc : ∀ (k : Nat) (t : TapeL), itemsN (k + 1) t = (t.item.1 :: (itemsN k t.item.2).1, (itemsN k t.item.2).2) := by
    intro k
    induction k with
    | zero => intro t; rfl
    | succ k ih =>
      intro t; rw [itemsN, ih t]; rfl
  intro l
  induction l with
  | nil => intro r _; rfl
  | cons x l ih =>
    intro r h
    rw [List.length_cons, snoc, List.flatMap_cons, List.append_assoc, item_back (h x (by simp)), ih r fun y hy => h y (by simp [hy])]
end Go.Proofs.YtdmnhgbdeifpbaaDoor
namespace Go.Proofs.YtdmnhgbdeifpbaaDoor
open Go Go.RowKit
end Go.Proofs.YtdmnhgbdeifpbaaDoor
namespace Go.Proofs.YtdmnhgbdeifpbaaDoor
open Go Go.RowKit
end Go.Proofs.YtdmnhgbdeifpbaaDoor
