/-
  Part 24 of 42 of what the proof leans on.
-/
import Derived.Test.YtdmnhgbdeifpbaaDoorO23
namespace Go.Proofs.YtdmnhgbdeifpbaaDoor
open Go Go.RowKit
def zeroSd : Array Value := #[.slice none 0 0, .slice none 0 0, .slice none 0 0, .int .i64 0]
theorem zero_sealed : (∀ w, (zeroValue 87).run Tryd.prog w = .ok (.agg zeroSd) w) ∧ (Tryd.prog.info? 87).map (·.size) = some 4 := zero_of_info (n := 4) (by kernel_rfl)
theorem built_sealed (a a' : Option Addr) (n n' c c' : Nat) : Tryd.prog.built 87 [(0, .slice a n c), (1, .slice a' n' c')] = some #[.slice a n c, .slice a' n' c', .slice none 0 0, .int .i64 0] := by kernel_rfl
theorem rdW_short : ∀ (n i acc : Nat) (l : List (BitVec 8)), (rdW n i acc l).2.2.length ≤ l.length
  | 0, _, _, _ => Nat.zero_le _
  | _ + 1, _, _, [] => Nat.zero_le _
  | n + 1, i, acc, c :: r => by
    rw [rdW]
    split
    · exact Nat.zero_le _
    · split
      · exact Nat.le_succ _
      · exact Nat.le_trans (rdW_short n (i + 1) _ r) (Nat.le_succ _)
theorem fail_short (t : TapeL) (e : Int) : (t.fail e).s.length ≤ t.s.length := by
  unfold TapeL.fail
  split
  · exact Nat.zero_le _
  · exact Nat.le_refl _
theorem word_short (t : TapeL) : t.word.2.s.length ≤ t.s.length := by
  unfold TapeL.word
  split
  · exact Nat.le_refl _
  · split
    · exact rdW_short 10 0 0 t.s
    · exact fail_short t _
theorem number_short (t : TapeL) (most : Int) : (t.number most).2.s.length ≤ t.s.length := by
  unfold TapeL.number
  split
  · exact Nat.le_trans (fail_short _ _) (word_short t)
  · split
    · exact Nat.le_trans (fail_short _ _) (word_short t)
    · exact word_short t
theorem fixed_short (t : TapeL) (n : Int) : (t.fixed n).2.s.length ≤ t.s.length := by
  unfold TapeL.fixed
  split
  · exact Nat.le_refl _
  · split
    · exact fail_short _ _
    · split
      · exact fail_short _ _
      · simp only [List.length_drop]; omega
theorem take_used (s : List (BitVec 8)) : (take4 s).2.s.length ≤ s.length := by
  refine Nat.le_trans (fixed_short _ _) (Nat.le_trans (fixed_short _ _) ?_); have h : (take1 s).2.s.length ≤ s.length := number_short _ _; unfold take2
  split
  · exact Nat.le_trans (fail_short _ _) h
  · exact h
theorem SrcP.apart {w w' : World} {a : Option Addr} {n b : Nat} {m : List (BitVec 8)} {cs : Array Value} {ty : TypeId} {fr : Nat × Nat} (h : SrcP w a n m) (hb : w.heap[b]? = some (.cells cs ty fr)) (hn : ∀ (j : Nat) (x : BitVec 8), cs[j]? ≠ some (B x)) (hg : w.grownBy w' (some b)) : SrcP w' a n m := by
  rcases h with h | ⟨ab, off, ha, h⟩
  · exact .inl h
  · refine .inr ⟨ab, off, ha, fun i hi => hg.cell (h i hi) ?_⟩; simp only [ne_eq, Option.some.injEq]; intro e; subst e; have hc := h i hi; rw [cell_of_row _ _ _ _ _ _ hb] at hc; exact hn _ _ hc
theorem SrcP.reader {w w' : World} {a : Option Addr} {n b base : Nat} {m : List (BitVec 8)} {t : TapeL} (h : SrcP w a n m) (hR : RdAt base w b t) (hg : w.grownBy w' (some b)) : SrcP w' a n m := by
  obtain ⟨ra, rn, rc, hb, -⟩ := hR; refine h.apart hb (fun j x => ?_) hg
  match j with
  | 0 => simp [B]
  | 1 => simp [B]
  | j + 2 => simp
def RowSd (w : World) (b : Nat) (a1 : Option Addr) (n1 c1 : Nat) (a2 : Option Addr) (n2 c2 : Nat) (a3 : Option Addr) (n3 c3 : Nat) (k : Int) : Prop := w.heap[b]? = some (.cells #[.slice a1 n1 c1, .slice a2 n2 c2, .slice a3 n3 c3, .int .i64 k] 87 (0, 0))
theorem sd_no_byte {a1 a2 a3 : Option Addr} {n1 n2 n3 c1 c2 c3 : Nat} {k : Int} (j : Nat) (x : BitVec 8) : (#[.slice a1 n1 c1, .slice a2 n2 c2, .slice a3 n3 c3, .int .i64 k] : Array Value)[j]? ≠ some (B x) := by
  match j with
  | 0 => simp [B]
  | 1 => simp [B]
  | 2 => simp [B]
  | 3 => simp [B]
  | j + 4 => simp
theorem SrcP.sd {w w' : World} {a : Option Addr} {n b : Nat} {m : List (BitVec 8)} {a1 a2 a3 : Option Addr} {n1 n2 n3 c1 c2 c3 : Nat} {k : Int} (h : SrcP w a n m) (hb : RowSd w b a1 n1 c1 a2 n2 c2 a3 n3 c3 k) (hg : w.grownBy w' (some b)) : SrcP w' a n m := h.apart hb sd_no_byte hg
theorem RowSd.d4 {w : World} {b : Nat} {a1 a2 a3 : Option Addr} {n1 n2 n3 c1 c2 c3 : Nat} {k : Int} (h : RowSd w b a1 n1 c1 a2 n2 c2 a3 n3 c3 k) : w.cell? ⟨b, 0, none⟩ = some (.slice a1 n1 c1) ∧ w.cell? ⟨b, 1, none⟩ = some (.slice a2 n2 c2) ∧ w.cell? ⟨b, 2, none⟩ = some (.slice a3 n3 c3) ∧ w.cell? ⟨b, 3, none⟩ = some (.int .i64 k) ∧ (∀ j, w.frozen? ⟨b, j, none⟩ = false) := by
  refine ⟨?_, ?_, ?_, ?_, fun j => frozen_of_row w b j _ _ h⟩
  · rw [cell_of_row _ _ _ _ _ _ h]; rfl
  · rw [cell_of_row _ _ _ _ _ _ h]; rfl
  · rw [cell_of_row _ _ _ _ _ _ h]; rfl
  · rw [cell_of_row _ _ _ _ _ _ h]; rfl
theorem RowSd.lt {w : World} {b : Nat} {a1 a2 a3 : Option Addr} {n1 n2 n3 c1 c2 c3 : Nat} {k : Int} (h : RowSd w b a1 n1 c1 a2 n2 c2 a3 n3 c3 k) : b < w.heap.size := (Array.getElem?_eq_some_iff.1 h).1
theorem RowSd.behind {w : World} {b : Nat} {a1 a2 a3 a' : Option Addr} {n1 n2 n3 n' c1 c2 c3 c' : Nat} {k : Int} (h : RowSd w b a1 n1 c1 a2 n2 c2 a3 n3 c3 k) : RowSd (w.setCell ⟨b, 2, none⟩ (.slice a' n' c')) b a1 n1 c1 a2 n2 c2 a' n' c' k := heap_setCell_same w b 2 _ _ (.slice a' n' c') h
theorem RowSd.blocks {w : World} {b : Nat} {a1 a2 a3 : Option Addr} {n1 n2 n3 c1 c2 c3 : Nat} {k k' : Int} (h : RowSd w b a1 n1 c1 a2 n2 c2 a3 n3 c3 k) : RowSd (w.setCell ⟨b, 3, none⟩ (.int .i64 k')) b a1 n1 c1 a2 n2 c2 a3 n3 c3 k' := heap_setCell_same w b 3 _ _ (.int .i64 k') h
theorem RowSd.grown {w w' : World} {b x : Nat} {a1 a2 a3 : Option Addr} {n1 n2 n3 c1 c2 c3 : Nat} {k : Int} (h : RowSd w b a1 n1 c1 a2 n2 c2 a3 n3 c3 k) (hg : w.grownBy w' (some x)) (hne : b ≠ x) : RowSd w' b a1 n1 c1 a2 n2 c2 a3 n3 c3 k := (hg.block b h.lt (by simpa using hne)).trans h
theorem sd_one {a1 a2 a3 : Option Addr} {n1 n2 n3 c1 c2 c3 : Nat} {k : Int} : (#[.slice a1 n1 c1, .slice a2 n2 c2, .slice a3 n3 c3, .int .i64 k] : Array Value).all (·.oneCell') = true := by
  rw [Array.all_eq_true']; intro v hv; simp only [List.mem_toArray, List.mem_cons, List.not_mem_nil, or_false] at hv
  rcases hv with rfl | rfl | rfl | rfl <;> rfl
def TakeEnd (w : World) (x : TakenL) (e : Ending) (w' : World) : Prop :=
  ∃ ba bc ta tc ha hc, e = .returned (.tuple #[.agg #[.slice ba x.body.length bc, .slice ta x.tag.length tc, .slice ha x.behind.length hc, .int .i64 (x.blocks : Int)], .int .i64 x.e]) ∧
    (x.body.length ≤ bc ∧ bc ≤ 9223372036854775807 ∧ (ba = none → bc = 0) ∧ SrcP w' ba x.body.length x.body) ∧ (x.tag.length ≤ tc ∧ tc ≤ 9223372036854775807 ∧ SrcP w' ta x.tag.length x.tag) ∧ SrcP w' ha x.behind.length x.behind ∧ Below w.heap.size w w'
set_option maxRecDepth 100000 in
set_option maxHeartbeats 4000000 in
theorem rtake_any (w : World) (s : List (BitVec 8)) (sa : Option Addr) (sc : Nat) (hS : SrcP w sa s.length s) (hc : s.length ≤ sc) (h0 : sa = none → sc = 0) (hl : s.length ≤ 4257) :
    Calls Tryd.prog 53 #[.slice sa s.length sc] w (TakeEnd w (takeB s)) := by
  obtain ⟨P, hP⟩ : ∃ P : Ending → World → Prop, P = TakeEnd w (takeB s) := ⟨_, rfl⟩; rw [← hP]; obtain ⟨ZS, hZS⟩ : ∃ z, z = zeroSd := ⟨_, rfl⟩; have hz := zero_sealed.1; rw [← hZS] at hz; obtain ⟨N, hN⟩ : ∃ n, n = s.length := ⟨_, rfl⟩; rw [← hN]
  have hN4 : N ≤ 4257 := by omega
  have hmn : min (N : Int) 4257 = (N : Int) := by omega
  have hsl : ∀ w, (Instr.slice 26 (.slice sa N sc) none (some (.int .i64 (N : Int))) none).run Tryd.prog w = .ok (.slice sa N sc) w := fun w => run_slice_sl_h 26 5 Tryd.underlying26 (fun w => Tryd.sizeOf5 w) sa N sc N (by omega) w
  obtain ⟨w1, hw1⟩ : ∃ W, W = w.alloc (.cells ZS 87) := ⟨_, rfl⟩; obtain ⟨zb, hzb⟩ : ∃ b, b = w.heap.size := ⟨_, rfl⟩
  have hB1 : Below w.heap.size w w1 := by rw [hw1]; exact (Below.refl _ w).alloc (Nat.le_refl _) _
  have hrz : w1.heap[zb]? = some (.cells ZS 87 (0, 0)) := by rw [hw1, hzb]; exact heap_alloc_new w _
  have hs1 : w1.heap.size = zb + 1 := by rw [hw1, hzb]; simp
  have HRd := Lib.hid (rread_any w1 sa sc N s hN (hS.below hB1) h0 (by omega))
  have H1 := Lib.hid (And.intro hB1 (And.intro hrz (And.intro hs1 (And.intro hzb (And.intro hP (And.intro hZS hN)))))); clear hS hc h0 hl hN hB1 hrz hs1 hP hZS
  go_enter Tryd.func53, Tryd.ntmps53
  go_upto_region 1 with (fail)
  rw [← hw1, ← hzb]; clear hw1 hzb
  go_upto_region 2 with (fail)
  clear hsl hmn; go_wp2_with (fail); refine HRd.out.mono ?_; rintro e w2 ⟨b, rfl, hR, hge, hB2⟩; obtain ⟨base, hbase⟩ : ∃ x, x = w2.heap.size := ⟨_, rfl⟩; rw [← hbase] at hR
  have H2 : Hid (RdAt base w2 b ⟨s, 0⟩ ∧ zb + 1 ≤ b ∧ b < base ∧ Below (zb + 1) w1 w2 ∧ base = w2.heap.size) := by
    have := hR.lt
    exact Lib.hid ⟨hR, by have := H1.out.2.2.1; omega, by omega, by rw [← H1.out.2.2.1]; exact hB2, hbase⟩
  clear hR hge hB2 hbase HRd; dsimp only; obtain ⟨n, hn⟩ : ∃ k, k = (take1 s).1 := ⟨_, rfl⟩; obtain ⟨t1, ht1⟩ : ∃ k, k = (take1 s).2 := ⟨_, rfl⟩; have HN1 := rnumber_any w2 base b ⟨s, 0⟩ 9223372036854775807 H2.out.1; rw [show ((TapeL.mk s 0).number 9223372036854775807).1 = n from hn.symm, show ((TapeL.mk s 0).number 9223372036854775807).2 = t1 from ht1.symm] at HN1; have HN1 := Lib.hid HN1; have HT1 := Lib.hid (And.intro hn ht1); clear hn ht1; go_wp2_with (fail); refine HN1.out.mono ?_; rintro e w3 ⟨rfl, hR3, hg3⟩
  have H3 : Hid (RdAt base w3 b t1 ∧ Below (zb + 1) w1 w3 ∧ base ≤ w3.heap.size) := Lib.hid ⟨hR3, below_own H2.out.2.2.2.1 H2.out.2.1 (by have := H2.out.2.1; have := H2.out.2.2.1; have := H2.out.2.2.2.2; omega) hg3, by have := H2.out.2.2.2.2; have := hg3.size; omega⟩
  clear hR3 hg3 HN1; dsimp only; obtain ⟨t2, ht2⟩ : ∃ k, k = take2 s := ⟨_, rfl⟩; have HT2 := Lib.hid ht2; clear ht2
  by_cases hbig : 4096 < n
  · have HFl := rfail_any w3 base b t1 11 H3.out.1
    rw [show t1.fail 11 = t2 by rw [HT2.out]; unfold take2; rw [← HT1.out.1, ← HT1.out.2, if_pos hbig]] at HFl
    have HFl := Lib.hid HFl; go_wp2_with (fail); refine HFl.out.mono ?_; rintro e w4 ⟨rfl, hR4, hg4⟩
    have H4 : Hid (RdAt base w4 b t2 ∧ Below (zb + 1) w1 w4 ∧ base ≤ w4.heap.size) := Lib.hid ⟨hR4, below_own H3.out.2.1 H2.out.2.1 (by have := H3.out.2.2; have := H2.out.2.1; have := H2.out.2.2.1; omega) hg4, by have := H3.out.2.2; have := hg4.size; omega⟩
    clear hR4 hg4 HFl hbig; dsimp only
    go_upto_region 6 with (fail)
    try clear hbig
    have HF1 := rfixed2_any w4 base b t2 n H4.out.1; obtain ⟨body, hbody⟩ : ∃ x, x = (t2.fixed n).1 := ⟨_, rfl⟩; obtain ⟨t3, ht3⟩ : ∃ x, x = (t2.fixed n).2 := ⟨_, rfl⟩; unfold RdBytes2 at HF1; rw [← hbody, ← ht3] at HF1; have HF1 := Lib.hid HF1
    have HT3 : Hid (body = (take3 s).1 ∧ t3 = (take3 s).2) := by
      unfold take3; rw [← HT2.out, ← HT1.out.1]; exact Lib.hid ⟨hbody, ht3⟩
    clear hbody ht3; refine wp_region_lit ?_
    iterate 8 go_step
    refine HF1.out.mono ?_; rintro e w5 ⟨ba, bc, rfl, b1, b2, b3, b4, hR5, hg5⟩
    have H5 : Hid (RdAt base w5 b t3 ∧ Below (zb + 1) w1 w5 ∧ base ≤ w5.heap.size ∧ (body.length ≤ bc ∧ bc ≤ 9223372036854775807 ∧ (ba = none → bc = 0) ∧ SrcP w5 ba body.length body)) := Lib.hid ⟨hR5, below_own H4.out.2.1 H2.out.2.1 (by have := H4.out.2.2; have := H2.out.2.1; have := H2.out.2.2.1; omega) hg5, by have := H4.out.2.2; have := hg5.size; omega, b1, b2, b3, b4.srcP⟩
    clear b1 b2 b3 b4 hR5 hg5 HF1; have HF2 := rfixed2_any w5 base b t3 32 H5.out.1; obtain ⟨tag, htag⟩ : ∃ x, x = (t3.fixed 32).1 := ⟨_, rfl⟩; obtain ⟨t4, ht4⟩ : ∃ x, x = (t3.fixed 32).2 := ⟨_, rfl⟩; unfold RdBytes2 at HF2; rw [← htag, ← ht4] at HF2; have HF2 := Lib.hid HF2
    have HT4 : Hid (tag = (take4 s).1 ∧ t4 = (take4 s).2) := by
      unfold take4; rw [← HT3.out.2]; exact Lib.hid ⟨htag, ht4⟩
    clear htag ht4; dsimp only
    iterate 6 go_step
    refine HF2.out.mono ?_; rintro e w6 ⟨ta, tc, rfl, b1, b2, b3, b4, hR6, hg6⟩
    have H6 : Hid (RdAt base w6 b t4 ∧ Below (zb + 1) w1 w6 ∧ base ≤ w6.heap.size ∧ SrcP w6 ba body.length body ∧ (tag.length ≤ tc ∧ tc ≤ 9223372036854775807 ∧ SrcP w6 ta tag.length tag)) := Lib.hid ⟨hR6, below_own H5.out.2.1 H2.out.2.1 (by have := H5.out.2.2.1; have := H2.out.2.1; have := H2.out.2.2.1; omega) hg6, by have := H5.out.2.2.1; have := hg6.size; omega, H5.out.2.2.2.2.2.2.reader H5.out.1 hg6, b1, b2, b4.srcP⟩
    clear b1 b2 b3 b4 hR6 hg6 HF2; dsimp only; obtain ⟨BL, hBL⟩ : ∃ x, x = body.length := ⟨_, rfl⟩; obtain ⟨TL, hTL⟩ : ∃ x, x = tag.length := ⟨_, rfl⟩; rw [← hBL, ← hTL]; have HBT := Lib.hid (And.intro hBL hTL); clear hBL hTL; go_step
    refine wpList_built_at rfl 87 _ rfl (cs := #[.slice ba BL bc, .slice ta TL tc, .slice none 0 0, .int .i64 0]) (by simpa [Act.eval] using built_sealed ba ta BL TL bc tc) ?_
    iterate 3 go_step
    refine wpList_store_row rfl _ _ _ rfl w6.heap.size #[.slice ba BL bc, .slice ta TL tc, .slice none 0 0, .int .i64 0] rfl rfl 87 ZS (heap_alloc_new w6 _) zero_sealed.2 (by rw [H1.out.2.2.2.2.2.1]; rfl) sd_one ?_
    obtain ⟨xb, hxb⟩ : ∃ x, x = w6.heap.size := ⟨_, rfl⟩; obtain ⟨w7, hw7⟩ : ∃ W, W = (w6.alloc (.cells ZS 87)).setRow w6.heap.size #[.slice ba BL bc, .slice ta TL tc, .slice none 0 0, .int .i64 0] := ⟨_, rfl⟩
    have H7 : Hid (RowSd w7 xb ba BL bc ta TL tc none 0 0 0 ∧ RdAt base w7 b t4 ∧ Below (zb + 1) w1 w7 ∧ SrcP w7 ba BL body ∧ SrcP w7 ta TL tag ∧ base ≤ xb ∧ zb + 1 ≤ xb ∧ xb < w7.heap.size) := by
      have kB : Below w6.heap.size w6 w7 := by
        rw [hw7]; have h1 := (Below.refl _ w6).alloc (Nat.le_refl _) (.cells ZS 87)
        exact h1.trans ⟨rfl, rfl, rfl, by simp, fun k hk => setRow_other _ _ _ _ (by omega)⟩
      have hz1 : zb + 1 ≤ w6.heap.size := by have := H6.out.2.2.1; have := H2.out.2.2; have := H2.out.2.1; omega
      rw [HBT.out.1, HBT.out.2] at hw7; rw [HBT.out.1, HBT.out.2]
      refine Lib.hid ⟨by rw [hw7, hxb]; exact setRow_heap _ _ ZS _ _ _ (heap_alloc_new w6 _), H6.out.1.below kB, H6.out.2.1.trans (kB.mono hz1), H6.out.2.2.2.1.below kB, H6.out.2.2.2.2.2.2.below kB, by rw [hxb]; exact H6.out.2.2.1, by rw [hxb]; exact hz1, by rw [hw7, hxb]; simp [World.setRow]⟩
    rw [← hw7, ← hxb]; clear hw7 hxb
    have hbx : b ≠ xb := by have := H7.out.2.2.2.2.2.1; have := H2.out.2.2.1; omega
    obtain ⟨LF, hLF⟩ : ∃ x, x = t4.s.length := ⟨_, rfl⟩
    have hLN : LF ≤ N := by rw [hLF, HT4.out.2, H1.out.2.2.2.2.2.2]; exact take_used s
    obtain ⟨U, hU⟩ : ∃ x, x = N - LF := ⟨_, rfl⟩
    have hUN : U ≤ 4257 := by omega
    have e1 : (N : Int) - (LF : Int) = (U : Int) := by omega
    have e1w : IntKind.i64.wrap ((N : Int) - (LF : Int)) = (U : Int) := by rw [e1]; exact IntWalk.i64_in _ (by omega)
    have HLf := rleft_any w7 base b t4 H7.out.2.1; rw [← hLF] at HLf; have HLf := Lib.hid HLf; have HU : Hid (U = N - LF ∧ LF = t4.s.length) := Lib.hid ⟨hU, hLF⟩; clear hLF hU; go_wp2_with (fail); refine HLf.out.mono ?_; rintro e w7' ⟨rfl, rfl⟩; dsimp only
    have HNo := noughts_any w7' U (by omega)
    obtain ⟨NN, hNN⟩ : ∃ x, x = noughtN U := ⟨_, rfl⟩; rw [← hNN] at HNo; have HNo := Lib.hid HNo; go_wp2_with (fail); refine HNo.out.mono ?_; rintro e w7'' ⟨rfl, rfl⟩; dsimp only; have HF3 := rfixed2_any w7'' base b t4 (NN : Int) H7.out.2.1; obtain ⟨beh, hbeh⟩ : ∃ x, x = (t4.fixed (NN : Int)).1 := ⟨_, rfl⟩; obtain ⟨t5, ht5⟩ : ∃ x, x = (t4.fixed (NN : Int)).2 := ⟨_, rfl⟩
    have hbl : beh.length ≤ 128 := by
      rw [hbeh]; have h := fixed_le t4 (NN : Int); have := noughtN_lt U; omega
    unfold RdBytes2 at HF3; rw [← hbeh, ← ht5] at HF3; have HF3 := Lib.hid HF3
    have HT5 : Hid (beh = (take5 s).1 ∧ t5 = (take5 s).2) := by
      unfold take5; rw [← HT4.out.2, ← HU.out.2, ← H1.out.2.2.2.2.2.2, ← HU.out.1, ← hNN]; exact Lib.hid ⟨hbeh, ht5⟩
    clear hbeh ht5 hNN HNo HLf; go_wp2_with (fail); refine HF3.out.mono ?_; rintro e w8 ⟨ha, hc, rfl, -, -, -, b4, hR8, hg8⟩; obtain ⟨HL, hHL⟩ : ∃ x, x = beh.length := ⟨_, rfl⟩
    have H8 : Hid (RowSd w8 xb ba BL bc ta TL tc none 0 0 0 ∧ RdAt base w8 b t5 ∧ Below (zb + 1) w1 w8 ∧ SrcP w8 ba BL body ∧ SrcP w8 ta TL tag ∧ SrcP w8 ha HL beh ∧ HL = beh.length) := by
      rw [hHL]
      exact Lib.hid ⟨H7.out.1.grown hg8 hbx.symm, hR8, below_own H7.out.2.2.1 H2.out.2.1 (by have := H7.out.2.2.2.2.2; omega) hg8, H7.out.2.2.2.1.reader H7.out.2.1 hg8, H7.out.2.2.2.2.1.reader H7.out.2.1 hg8, b4.srcP, rfl⟩
    rw [← hHL] at hbl ⊢; clear b4 hR8 hg8 hHL HF3; obtain ⟨-, -, c2, -, ff⟩ := H8.out.1.d4; have f2 := ff 2; dsimp only
    go_upto_region 9 with (fail)
    obtain ⟨w9, hw9⟩ : ∃ W, W = w8.setCell ⟨xb, 2, none⟩ (.slice ha HL hc) := ⟨_, rfl⟩
    have H9 : Hid (RowSd w9 xb ba BL bc ta TL tc ha HL hc 0 ∧ RdAt base w9 b t5 ∧ Below (zb + 1) w1 w9 ∧ SrcP w9 ba BL body ∧ SrcP w9 ta TL tag ∧ SrcP w9 ha HL beh) := by
      have hg := grown_setCell w8 xb 2 (.slice ha HL hc); rw [hw9]
      exact Lib.hid ⟨H8.out.1.behind, H8.out.2.1.apart hg H7.out.2.2.2.2.2.1 hbx, below_own H8.out.2.2.1 H7.out.2.2.2.2.2.2.1 (by have := H8.out.1.lt; have := H7.out.2.2.2.2.2.2.1; omega) hg, H8.out.2.2.2.1.sd H8.out.1 hg, H8.out.2.2.2.2.1.sd H8.out.1 hg, H8.out.2.2.2.2.2.1.sd H8.out.1 hg⟩
    rw [← hw9]; clear hw9 c2 ff f2; obtain ⟨-, -, c2, c3, ff⟩ := H9.out.1.d4; have f3 := ff 3; obtain ⟨KB, hKB⟩ : ∃ x, x = (U + HL) / 128 := ⟨_, rfl⟩
    have hdv : Int.tdiv ((U : Int) + (HL : Int)) 128 = (KB : Int) := by
      rw [Int.tdiv_eq_ediv_of_nonneg (by omega), hKB]
      omega
    have hKs : KB ≤ 40 := by omega
    have hw : wrap64 (KB : Int) = (KB : Int) := by unfold wrap64; omega
    have HKB := Lib.hid hKB; clear hKB ff
    go_upto_region 10 with (fail)
    obtain ⟨wa, hwa⟩ : ∃ W, W = w9.setCell ⟨xb, 3, none⟩ (.int .i64 (KB : Int)) := ⟨_, rfl⟩
    have HA : Hid (RowSd wa.drew xb ba BL bc ta TL tc ha HL hc KB ∧ RdAt base wa.drew b t5 ∧ Below (zb + 1) w1 wa.drew ∧ SrcP wa.drew ba BL body ∧ SrcP wa.drew ta TL tag ∧ SrcP wa.drew ha HL beh ∧ wa.drew.heap[zb]? = some (.cells ZS 87 (0, 0))) := by
      have hg := grown_setCell w9 xb 3 (.int .i64 (KB : Int)); have hd := (Below.refl wa.heap.size wa).drew; rw [hwa] at hd ⊢
      have hb := below_own H9.out.2.2.1 H7.out.2.2.2.2.2.2.1 (by have := H9.out.1.lt; have := H7.out.2.2.2.2.2.2.1; omega) hg
      have hzl : zb < w1.heap.size := (Array.getElem?_eq_some_iff.1 H1.out.2.1).1
      exact Lib.hid ⟨H9.out.1.blocks, (H9.out.2.1.apart hg H7.out.2.2.2.2.2.1 hbx).below hd, hb.trans (hd.mono (by have := hb.size; omega)), (H9.out.2.2.2.1.sd H9.out.1 hg).below hd, (H9.out.2.2.2.2.1.sd H9.out.1 hg).below hd, (H9.out.2.2.2.2.2.sd H9.out.1 hg).below hd, (hb.block zb (by omega)).trans H1.out.2.1⟩
    have HEr := Lib.hid (rerr_any wa.drew base b t5 HA.out.2.1)
    try rw [← hwa]
    clear hwa c2 c3 f3 hdv hw
    refine wp_region_held_drew (S := fun w' => RowSd w' xb ba BL bc ta TL tc ha HL hc KB) (by kernel_rfl) HA.out.1 (fun hHeld => ?_)
    refine tkFree (i := 0) (v := .agg #[.slice ba BL bc, .slice ta TL tc, .slice ha HL hc, .int .i64 KB]) rfl (by kernel_rfl) (by kernel_rfl) (by kernel_rfl) (fun _ _ _ h => h) (yieldsIf_load_at (by rfl) 87 _ rfl ⟨xb, 0, none⟩ rfl (fun w hS => run_loadVar_row w xb _ _ _ _ _ hS Tryd.underlying87 rfl zero_sealed.2)) hHeld ?_
    simp only [Act.put, List.setIfInBounds_toArray, List.set_cons_zero, List.set_cons_succ]
    refine tkFree (i := 1) rfl (by kernel_rfl) (by kernel_rfl) (by kernel_rfl) (fun _ _ _ h => h) (.inl ⟨by rfl, fun w hSw => by go_simp; rfl⟩) hHeld ?_
    simp only [Act.put, List.setIfInBounds_toArray, List.set_cons_zero, List.set_cons_succ]
    refine tkOne 2 rfl (by kernel_rfl) rfl (fun K hK => ?_)
    go_simp
    refine HEr.out.mono ?_; rintro e wb ⟨rfl, rfl⟩; refine hK _ _ hHeld ?_; clear hK HEr
    try simp only [Act.put, List.setIfInBounds_toArray, List.set_cons_zero, List.set_cons_succ]
    refine tkOne 3 rfl (by kernel_rfl) rfl (fun K hK => ?_)
    refine wp_store_row _ (.tmp 2) (.tmp 44) rfl zb #[.slice ba BL bc, .slice ta TL tc, .slice ha HL hc, .int .i64 KB] rfl rfl 87 ZS HA.out.2.2.2.2.2.2 zero_sealed.2 (by rw [H1.out.2.2.2.2.2.1]; rfl) sd_one ?_
    have hxz : xb ≠ zb := by have := H7.out.2.2.2.2.2.2.1; omega
    have hH2 := (setRow_other wa.drew zb xb #[.slice ba BL bc, .slice ta TL tc, .slice ha HL hc, .int .i64 KB] hxz).trans hHeld; refine hK _ _ hH2 ?_; clear hK hHeld; have hHeld := hH2; clear hH2
    try simp only [Act.put, ]
    refine tkFree (i := 4) rfl (by kernel_rfl) (by kernel_rfl) (by kernel_rfl) (fun _ _ _ h => h) (.inl ⟨by rfl, fun w hSw => by go_simp; rfl⟩) hHeld ?_
    simp only [Act.put, List.setIfInBounds_toArray, List.set_cons_zero, List.set_cons_succ]; clear hHeld
    refine wpAnyH_done (by kernel_rfl) ?_ _
    obtain ⟨wz, hwz⟩ : ∃ W, W = wa.drew.setRow zb #[.slice ba BL bc, .slice ta TL tc, .slice ha HL hc, .int .i64 KB] := ⟨_, rfl⟩
    have HE : Hid (P (.returned (.tuple #[.agg #[.slice ba BL bc, .slice ta TL tc, .slice ha HL hc, .int .i64 KB], .int .i64 t5.e])) wz ∧ wz.heap[zb]? = some (.cells #[.slice ba BL bc, .slice ta TL tc, .slice ha HL hc, .int .i64 KB] 87 (0, 0))) := by
      have hg := grown_row wa.drew zb #[.slice ba BL bc, .slice ta TL tc, .slice ha HL hc, .int .i64 KB]; have hz0 := HA.out.2.2.2.2.2.2
      have hzr : RowSd wa.drew zb none 0 0 none 0 0 none 0 0 0 := by rw [RowSd, hz0, H1.out.2.2.2.2.2.1]; rfl
      refine Lib.hid ⟨?_, by rw [hwz]; exact setRow_heap _ _ ZS _ _ _ hz0⟩
      rw [H1.out.2.2.2.2.1, hwz]; have eb : (takeB s).body = body := HT3.out.1.symm; have et : (takeB s).tag = tag := HT4.out.1.symm; have eh : (takeB s).behind = beh := HT5.out.1.symm
      have ee : (takeB s).e = t5.e := by rw [HT5.out.2]; rfl
      have ek : (takeB s).blocks = KB := by
        show (s.length - (take4 s).2.s.length + (take5 s).1.length) / 128 = KB
        rw [← HT4.out.2, ← HT5.out.1, ← HU.out.2, ← H1.out.2.2.2.2.2.2, ← HU.out.1, ← H8.out.2.2.2.2.2.2, HKB.out]
      unfold TakeEnd; rw [eb, et, eh, ee, ek, ← HBT.out.1, ← HBT.out.2, ← H8.out.2.2.2.2.2.2]; have h5 := H5.out.2.2.2; rw [← HBT.out.1] at h5; have h6 := H6.out.2.2.2.2; rw [← HBT.out.2] at h6; refine ⟨ba, bc, ta, tc, ha, hc, rfl, ⟨h5.1, h5.2.1, h5.2.2.1, HA.out.2.2.2.1.sd hzr hg⟩, ⟨h6.1, h6.2.1, HA.out.2.2.2.2.1.sd hzr hg⟩, HA.out.2.2.2.2.2.1.sd hzr hg, ?_⟩
      have hb := H1.out.1.trans (HA.out.2.2.1.mono (by have := H1.out.2.2.2.1; omega))
      exact hb.trans ⟨rfl, rfl, rfl, by simp, fun k hk => setRow_other _ _ _ _ (by have := H1.out.2.2.2.1; omega)⟩
    try rw [← hwz]
    clear hwz; go_wp2_with (fail); refine bodyPost_ret (v := .tuple #[.agg #[.slice ba BL bc, .slice ta TL tc, .slice ha HL hc, .int .i64 KB], .int .i64 t5.e]) ?_ rfl HE.out.1; exact results_cell_tmp (p := 2) (s := 3) rfl _ _ zb 87 #[.slice ba BL bc, .slice ta TL tc, .slice ha HL hc, .int .i64 KB] (0, 0) _ rfl HE.out.2 Tryd.underlying87 rfl zero_sealed.2

  · have H4 : Hid (RdAt base w3 b t2 ∧ Below (zb + 1) w1 w3 ∧ base ≤ w3.heap.size) := by
      have e : t2 = t1 := by rw [HT2.out]; unfold take2; rw [← HT1.out.1, ← HT1.out.2, if_neg hbig]
      rw [e]; exact H3
    go_upto_region 6 with (fail)
    try clear hbig
    have HF1 := rfixed2_any w3 base b t2 n H4.out.1; obtain ⟨body, hbody⟩ : ∃ x, x = (t2.fixed n).1 := ⟨_, rfl⟩; obtain ⟨t3, ht3⟩ : ∃ x, x = (t2.fixed n).2 := ⟨_, rfl⟩; unfold RdBytes2 at HF1; rw [← hbody, ← ht3] at HF1; have HF1 := Lib.hid HF1
    have HT3 : Hid (body = (take3 s).1 ∧ t3 = (take3 s).2) := by
      unfold take3; rw [← HT2.out, ← HT1.out.1]; exact Lib.hid ⟨hbody, ht3⟩
    clear hbody ht3; refine wp_region_lit ?_
    iterate 8 go_step
    refine HF1.out.mono ?_; rintro e w5 ⟨ba, bc, rfl, b1, b2, b3, b4, hR5, hg5⟩
    have H5 : Hid (RdAt base w5 b t3 ∧ Below (zb + 1) w1 w5 ∧ base ≤ w5.heap.size ∧ (body.length ≤ bc ∧ bc ≤ 9223372036854775807 ∧ (ba = none → bc = 0) ∧ SrcP w5 ba body.length body)) := Lib.hid ⟨hR5, below_own H4.out.2.1 H2.out.2.1 (by have := H4.out.2.2; have := H2.out.2.1; have := H2.out.2.2.1; omega) hg5, by have := H4.out.2.2; have := hg5.size; omega, b1, b2, b3, b4.srcP⟩
    clear b1 b2 b3 b4 hR5 hg5 HF1; have HF2 := rfixed2_any w5 base b t3 32 H5.out.1; obtain ⟨tag, htag⟩ : ∃ x, x = (t3.fixed 32).1 := ⟨_, rfl⟩; obtain ⟨t4, ht4⟩ : ∃ x, x = (t3.fixed 32).2 := ⟨_, rfl⟩; unfold RdBytes2 at HF2; rw [← htag, ← ht4] at HF2; have HF2 := Lib.hid HF2
    have HT4 : Hid (tag = (take4 s).1 ∧ t4 = (take4 s).2) := by
      unfold take4; rw [← HT3.out.2]; exact Lib.hid ⟨htag, ht4⟩
    clear htag ht4; dsimp only
    iterate 6 go_step
    refine HF2.out.mono ?_; rintro e w6 ⟨ta, tc, rfl, b1, b2, b3, b4, hR6, hg6⟩
    have H6 : Hid (RdAt base w6 b t4 ∧ Below (zb + 1) w1 w6 ∧ base ≤ w6.heap.size ∧ SrcP w6 ba body.length body ∧ (tag.length ≤ tc ∧ tc ≤ 9223372036854775807 ∧ SrcP w6 ta tag.length tag)) := Lib.hid ⟨hR6, below_own H5.out.2.1 H2.out.2.1 (by have := H5.out.2.2.1; have := H2.out.2.1; have := H2.out.2.2.1; omega) hg6, by have := H5.out.2.2.1; have := hg6.size; omega, H5.out.2.2.2.2.2.2.reader H5.out.1 hg6, b1, b2, b4.srcP⟩
    clear b1 b2 b3 b4 hR6 hg6 HF2; dsimp only; obtain ⟨BL, hBL⟩ : ∃ x, x = body.length := ⟨_, rfl⟩; obtain ⟨TL, hTL⟩ : ∃ x, x = tag.length := ⟨_, rfl⟩; rw [← hBL, ← hTL]; have HBT := Lib.hid (And.intro hBL hTL); clear hBL hTL; go_step
    refine wpList_built_at rfl 87 _ rfl (cs := #[.slice ba BL bc, .slice ta TL tc, .slice none 0 0, .int .i64 0]) (by simpa [Act.eval] using built_sealed ba ta BL TL bc tc) ?_
    iterate 3 go_step
    refine wpList_store_row rfl _ _ _ rfl w6.heap.size #[.slice ba BL bc, .slice ta TL tc, .slice none 0 0, .int .i64 0] rfl rfl 87 ZS (heap_alloc_new w6 _) zero_sealed.2 (by rw [H1.out.2.2.2.2.2.1]; rfl) sd_one ?_
    obtain ⟨xb, hxb⟩ : ∃ x, x = w6.heap.size := ⟨_, rfl⟩; obtain ⟨w7, hw7⟩ : ∃ W, W = (w6.alloc (.cells ZS 87)).setRow w6.heap.size #[.slice ba BL bc, .slice ta TL tc, .slice none 0 0, .int .i64 0] := ⟨_, rfl⟩
    have H7 : Hid (RowSd w7 xb ba BL bc ta TL tc none 0 0 0 ∧ RdAt base w7 b t4 ∧ Below (zb + 1) w1 w7 ∧ SrcP w7 ba BL body ∧ SrcP w7 ta TL tag ∧ base ≤ xb ∧ zb + 1 ≤ xb ∧ xb < w7.heap.size) := by
      have kB : Below w6.heap.size w6 w7 := by
        rw [hw7]; have h1 := (Below.refl _ w6).alloc (Nat.le_refl _) (.cells ZS 87)
        exact h1.trans ⟨rfl, rfl, rfl, by simp, fun k hk => setRow_other _ _ _ _ (by omega)⟩
      have hz1 : zb + 1 ≤ w6.heap.size := by have := H6.out.2.2.1; have := H2.out.2.2; have := H2.out.2.1; omega
      rw [HBT.out.1, HBT.out.2] at hw7; rw [HBT.out.1, HBT.out.2]
      refine Lib.hid ⟨by rw [hw7, hxb]; exact setRow_heap _ _ ZS _ _ _ (heap_alloc_new w6 _), H6.out.1.below kB, H6.out.2.1.trans (kB.mono hz1), H6.out.2.2.2.1.below kB, H6.out.2.2.2.2.2.2.below kB, by rw [hxb]; exact H6.out.2.2.1, by rw [hxb]; exact hz1, by rw [hw7, hxb]; simp [World.setRow]⟩
    rw [← hw7, ← hxb]; clear hw7 hxb
    have hbx : b ≠ xb := by have := H7.out.2.2.2.2.2.1; have := H2.out.2.2.1; omega
    obtain ⟨LF, hLF⟩ : ∃ x, x = t4.s.length := ⟨_, rfl⟩
    have hLN : LF ≤ N := by rw [hLF, HT4.out.2, H1.out.2.2.2.2.2.2]; exact take_used s
    obtain ⟨U, hU⟩ : ∃ x, x = N - LF := ⟨_, rfl⟩
    have hUN : U ≤ 4257 := by omega
    have e1 : (N : Int) - (LF : Int) = (U : Int) := by omega
    have e1w : IntKind.i64.wrap ((N : Int) - (LF : Int)) = (U : Int) := by rw [e1]; exact IntWalk.i64_in _ (by omega)
    have HLf := rleft_any w7 base b t4 H7.out.2.1; rw [← hLF] at HLf; have HLf := Lib.hid HLf; have HU : Hid (U = N - LF ∧ LF = t4.s.length) := Lib.hid ⟨hU, hLF⟩; clear hLF hU; go_wp2_with (fail); refine HLf.out.mono ?_; rintro e w7' ⟨rfl, rfl⟩; dsimp only
    have HNo := noughts_any w7' U (by omega)
    obtain ⟨NN, hNN⟩ : ∃ x, x = noughtN U := ⟨_, rfl⟩; rw [← hNN] at HNo; have HNo := Lib.hid HNo; go_wp2_with (fail); refine HNo.out.mono ?_; rintro e w7'' ⟨rfl, rfl⟩; dsimp only; have HF3 := rfixed2_any w7'' base b t4 (NN : Int) H7.out.2.1; obtain ⟨beh, hbeh⟩ : ∃ x, x = (t4.fixed (NN : Int)).1 := ⟨_, rfl⟩; obtain ⟨t5, ht5⟩ : ∃ x, x = (t4.fixed (NN : Int)).2 := ⟨_, rfl⟩
    have hbl : beh.length ≤ 128 := by
      rw [hbeh]; have h := fixed_le t4 (NN : Int); have := noughtN_lt U; omega
    unfold RdBytes2 at HF3; rw [← hbeh, ← ht5] at HF3; have HF3 := Lib.hid HF3
    have HT5 : Hid (beh = (take5 s).1 ∧ t5 = (take5 s).2) := by
      unfold take5; rw [← HT4.out.2, ← HU.out.2, ← H1.out.2.2.2.2.2.2, ← HU.out.1, ← hNN]; exact Lib.hid ⟨hbeh, ht5⟩
    clear hbeh ht5 hNN HNo HLf; go_wp2_with (fail); refine HF3.out.mono ?_; rintro e w8 ⟨ha, hc, rfl, -, -, -, b4, hR8, hg8⟩; obtain ⟨HL, hHL⟩ : ∃ x, x = beh.length := ⟨_, rfl⟩
    have H8 : Hid (RowSd w8 xb ba BL bc ta TL tc none 0 0 0 ∧ RdAt base w8 b t5 ∧ Below (zb + 1) w1 w8 ∧ SrcP w8 ba BL body ∧ SrcP w8 ta TL tag ∧ SrcP w8 ha HL beh ∧ HL = beh.length) := by
      rw [hHL]
      exact Lib.hid ⟨H7.out.1.grown hg8 hbx.symm, hR8, below_own H7.out.2.2.1 H2.out.2.1 (by have := H7.out.2.2.2.2.2; omega) hg8, H7.out.2.2.2.1.reader H7.out.2.1 hg8, H7.out.2.2.2.2.1.reader H7.out.2.1 hg8, b4.srcP, rfl⟩
    rw [← hHL] at hbl ⊢; clear b4 hR8 hg8 hHL HF3; obtain ⟨-, -, c2, -, ff⟩ := H8.out.1.d4; have f2 := ff 2; dsimp only
    go_upto_region 9 with (fail)
    obtain ⟨w9, hw9⟩ : ∃ W, W = w8.setCell ⟨xb, 2, none⟩ (.slice ha HL hc) := ⟨_, rfl⟩
    have H9 : Hid (RowSd w9 xb ba BL bc ta TL tc ha HL hc 0 ∧ RdAt base w9 b t5 ∧ Below (zb + 1) w1 w9 ∧ SrcP w9 ba BL body ∧ SrcP w9 ta TL tag ∧ SrcP w9 ha HL beh) := by
      have hg := grown_setCell w8 xb 2 (.slice ha HL hc); rw [hw9]
      exact Lib.hid ⟨H8.out.1.behind, H8.out.2.1.apart hg H7.out.2.2.2.2.2.1 hbx, below_own H8.out.2.2.1 H7.out.2.2.2.2.2.2.1 (by have := H8.out.1.lt; have := H7.out.2.2.2.2.2.2.1; omega) hg, H8.out.2.2.2.1.sd H8.out.1 hg, H8.out.2.2.2.2.1.sd H8.out.1 hg, H8.out.2.2.2.2.2.1.sd H8.out.1 hg⟩
    rw [← hw9]; clear hw9 c2 ff f2; obtain ⟨-, -, c2, c3, ff⟩ := H9.out.1.d4; have f3 := ff 3; obtain ⟨KB, hKB⟩ : ∃ x, x = (U + HL) / 128 := ⟨_, rfl⟩
    have hdv : Int.tdiv ((U : Int) + (HL : Int)) 128 = (KB : Int) := by
      rw [Int.tdiv_eq_ediv_of_nonneg (by omega), hKB]
      omega
    have hKs : KB ≤ 40 := by omega
    have hw : wrap64 (KB : Int) = (KB : Int) := by unfold wrap64; omega
    have HKB := Lib.hid hKB; clear hKB ff
    go_upto_region 10 with (fail)
    obtain ⟨wa, hwa⟩ : ∃ W, W = w9.setCell ⟨xb, 3, none⟩ (.int .i64 (KB : Int)) := ⟨_, rfl⟩
    have HA : Hid (RowSd wa.drew xb ba BL bc ta TL tc ha HL hc KB ∧ RdAt base wa.drew b t5 ∧ Below (zb + 1) w1 wa.drew ∧ SrcP wa.drew ba BL body ∧ SrcP wa.drew ta TL tag ∧ SrcP wa.drew ha HL beh ∧ wa.drew.heap[zb]? = some (.cells ZS 87 (0, 0))) := by
      have hg := grown_setCell w9 xb 3 (.int .i64 (KB : Int)); have hd := (Below.refl wa.heap.size wa).drew; rw [hwa] at hd ⊢
      have hb := below_own H9.out.2.2.1 H7.out.2.2.2.2.2.2.1 (by have := H9.out.1.lt; have := H7.out.2.2.2.2.2.2.1; omega) hg
      have hzl : zb < w1.heap.size := (Array.getElem?_eq_some_iff.1 H1.out.2.1).1
      exact Lib.hid ⟨H9.out.1.blocks, (H9.out.2.1.apart hg H7.out.2.2.2.2.2.1 hbx).below hd, hb.trans (hd.mono (by have := hb.size; omega)), (H9.out.2.2.2.1.sd H9.out.1 hg).below hd, (H9.out.2.2.2.2.1.sd H9.out.1 hg).below hd, (H9.out.2.2.2.2.2.sd H9.out.1 hg).below hd, (hb.block zb (by omega)).trans H1.out.2.1⟩
    have HEr := Lib.hid (rerr_any wa.drew base b t5 HA.out.2.1)
    try rw [← hwa]
    clear hwa c2 c3 f3 hdv hw
    refine wp_region_held_drew (S := fun w' => RowSd w' xb ba BL bc ta TL tc ha HL hc KB) (by kernel_rfl) HA.out.1 (fun hHeld => ?_)
    refine tkFree (i := 0) (v := .agg #[.slice ba BL bc, .slice ta TL tc, .slice ha HL hc, .int .i64 KB]) rfl (by kernel_rfl) (by kernel_rfl) (by kernel_rfl) (fun _ _ _ h => h) (yieldsIf_load_at (by rfl) 87 _ rfl ⟨xb, 0, none⟩ rfl (fun w hS => run_loadVar_row w xb _ _ _ _ _ hS Tryd.underlying87 rfl zero_sealed.2)) hHeld ?_
    simp only [Act.put, List.setIfInBounds_toArray, List.set_cons_zero, List.set_cons_succ]
    refine tkFree (i := 1) rfl (by kernel_rfl) (by kernel_rfl) (by kernel_rfl) (fun _ _ _ h => h) (.inl ⟨by rfl, fun w hSw => by go_simp; rfl⟩) hHeld ?_
    simp only [Act.put, List.setIfInBounds_toArray, List.set_cons_zero, List.set_cons_succ]
    refine tkOne 2 rfl (by kernel_rfl) rfl (fun K hK => ?_)
    go_simp
    refine HEr.out.mono ?_; rintro e wb ⟨rfl, rfl⟩; refine hK _ _ hHeld ?_; clear hK HEr
    try simp only [Act.put, List.setIfInBounds_toArray, List.set_cons_zero, List.set_cons_succ]
    refine tkOne 3 rfl (by kernel_rfl) rfl (fun K hK => ?_)
    refine wp_store_row _ (.tmp 2) (.tmp 44) rfl zb #[.slice ba BL bc, .slice ta TL tc, .slice ha HL hc, .int .i64 KB] rfl rfl 87 ZS HA.out.2.2.2.2.2.2 zero_sealed.2 (by rw [H1.out.2.2.2.2.2.1]; rfl) sd_one ?_
    have hxz : xb ≠ zb := by have := H7.out.2.2.2.2.2.2.1; omega
    have hH2 := (setRow_other wa.drew zb xb #[.slice ba BL bc, .slice ta TL tc, .slice ha HL hc, .int .i64 KB] hxz).trans hHeld; refine hK _ _ hH2 ?_; clear hK hHeld; have hHeld := hH2; clear hH2
    try simp only [Act.put, ]
    refine tkFree (i := 4) rfl (by kernel_rfl) (by kernel_rfl) (by kernel_rfl) (fun _ _ _ h => h) (.inl ⟨by rfl, fun w hSw => by go_simp; rfl⟩) hHeld ?_
    simp only [Act.put, List.setIfInBounds_toArray, List.set_cons_zero, List.set_cons_succ]; clear hHeld
    refine wpAnyH_done (by kernel_rfl) ?_ _
    obtain ⟨wz, hwz⟩ : ∃ W, W = wa.drew.setRow zb #[.slice ba BL bc, .slice ta TL tc, .slice ha HL hc, .int .i64 KB] := ⟨_, rfl⟩
    have HE : Hid (P (.returned (.tuple #[.agg #[.slice ba BL bc, .slice ta TL tc, .slice ha HL hc, .int .i64 KB], .int .i64 t5.e])) wz ∧ wz.heap[zb]? = some (.cells #[.slice ba BL bc, .slice ta TL tc, .slice ha HL hc, .int .i64 KB] 87 (0, 0))) := by
      have hg := grown_row wa.drew zb #[.slice ba BL bc, .slice ta TL tc, .slice ha HL hc, .int .i64 KB]; have hz0 := HA.out.2.2.2.2.2.2
      have hzr : RowSd wa.drew zb none 0 0 none 0 0 none 0 0 0 := by rw [RowSd, hz0, H1.out.2.2.2.2.2.1]; rfl
      refine Lib.hid ⟨?_, by rw [hwz]; exact setRow_heap _ _ ZS _ _ _ hz0⟩
      rw [H1.out.2.2.2.2.1, hwz]; have eb : (takeB s).body = body := HT3.out.1.symm; have et : (takeB s).tag = tag := HT4.out.1.symm; have eh : (takeB s).behind = beh := HT5.out.1.symm
      have ee : (takeB s).e = t5.e := by rw [HT5.out.2]; rfl
      have ek : (takeB s).blocks = KB := by
        show (s.length - (take4 s).2.s.length + (take5 s).1.length) / 128 = KB
        rw [← HT4.out.2, ← HT5.out.1, ← HU.out.2, ← H1.out.2.2.2.2.2.2, ← HU.out.1, ← H8.out.2.2.2.2.2.2, HKB.out]
      unfold TakeEnd; rw [eb, et, eh, ee, ek, ← HBT.out.1, ← HBT.out.2, ← H8.out.2.2.2.2.2.2]; have h5 := H5.out.2.2.2; rw [← HBT.out.1] at h5; have h6 := H6.out.2.2.2.2; rw [← HBT.out.2] at h6; refine ⟨ba, bc, ta, tc, ha, hc, rfl, ⟨h5.1, h5.2.1, h5.2.2.1, HA.out.2.2.2.1.sd hzr hg⟩, ⟨h6.1, h6.2.1, HA.out.2.2.2.2.1.sd hzr hg⟩, HA.out.2.2.2.2.2.1.sd hzr hg, ?_⟩
      have hb := H1.out.1.trans (HA.out.2.2.1.mono (by have := H1.out.2.2.2.1; omega))
      exact hb.trans ⟨rfl, rfl, rfl, by simp, fun k hk => setRow_other _ _ _ _ (by have := H1.out.2.2.2.1; omega)⟩
    try rw [← hwz]
    clear hwz; go_wp2_with (fail); refine bodyPost_ret (v := .tuple #[.agg #[.slice ba BL bc, .slice ta TL tc, .slice ha HL hc, .int .i64 KB], .int .i64 t5.e]) ?_ rfl HE.out.1; exact results_cell_tmp (p := 2) (s := 3) rfl _ _ zb 87 #[.slice ba BL bc, .slice ta TL tc, .slice ha HL hc, .int .i64 KB] (0, 0) _ rfl HE.out.2 Tryd.underlying87 rfl zero_sealed.2
end Go.Proofs.YtdmnhgbdeifpbaaDoor
namespace Go.Proofs.YtdmnhgbdeifpbaaDoor
open Go Go.RowKit
set_option maxRecDepth 100000 in
set_option maxHeartbeats 1000000 in
theorem cindex_any (w : World) (a : Option Addr) (c : Nat) (m : List (BitVec 8)) (hS : SrcP w a m.length m) (hl : m.length ≤ 1000000) :
    Calls Tryd.prog 81 #[.slice a m.length c, .func (.func 56) #[] #[]] w fun e w' => (∃ z : Int, e = .returned (.int .i64 z) ∧ decide (0 ≤ z) = (m.any fun x => x != 0)) ∧ w' = w := by
  obtain ⟨N, hN⟩ : ∃ n, n = m.length := ⟨_, rfl⟩; rw [← hN]; have HS := Lib.hid (And.intro hS (And.intro hN trivial))
  have hN6 : N ≤ 1000000 := by omega
  clear hS hN hl
  go_enter Tryd.func81, Tryd.ntmps81
  go_wp2_with (fail)
  go_loopw [5, 8] (fun _ u wr => ∃ i : Nat, i ≤ N ∧ u = .int .i64 (i : Int) ∧ wr = w ∧ (m.take i).any (fun x => x != 0) = false) (fun _ u _ => N - (intOf u).toNat)
  case atStart => exact ⟨0, Nat.zero_le _, rfl, rfl, rfl⟩
  case round =>
    obtain ⟨i, hi, rfl, rfl, hno⟩ := hrel
    by_cases hlt : i < N
    · have hi0 : (0 : Int) ≤ (i : Int) ∧ (i : Int) < (N : Int) := by omega
      have hm := HS.out.2.1
      rcases HS.out.1 with h | ⟨ab, off, rfl, h⟩
      · omega
      have c0 := h i (by omega)
      obtain ⟨x, hx⟩ : ∃ x, x = gl m i := ⟨_, rfl⟩; rw [← hx] at c0; have hfl := filled_any wr x; obtain ⟨r, hr⟩ : ∃ r, r = (x != 0) := ⟨_, rfl⟩; rw [← hr] at hfl; have HFl := Lib.hid hfl
      have hnext : (m.take (i + 1)).any (fun x => x != 0) = r := by
        rw [List.take_succ_eq_append_getElem (by omega), List.any_append, hno]
        rw [hr, hx]
        simp [gl, show i < m.length by omega]
      have HN := Lib.hid (And.intro hnext hlt); clear hfl hnext hr hx h hno hm hlt
      cases r with
      | true =>
        go_wp2_with (fail); refine HFl.out.mono ?_; rintro e w2 ⟨rfl, rfl⟩; dsimp only; go_wp2_with (fail); go_ret; refine ⟨⟨_, rfl, ?_⟩, rfl⟩
        rw [decide_eq_true (show (0 : Int) ≤ (i : Int) by omega)]
        have h1 := HN.out.1
        have e : m.any (fun x => x != 0) = ((m.take (i + 1)).any (fun x => x != 0) || (m.drop (i + 1)).any (fun x => x != 0)) := by rw [← List.any_append, List.take_append_drop]
        rw [e, h1]; rfl
      | false =>
        go_wp2_with (fail); refine HFl.out.mono ?_; rintro e w2 ⟨rfl, rfl⟩; dsimp only; go_wp2_with (fail); have := HN.out.2
        exact ⟨⟨i + 1, by omega, by go_num, trivial, HN.out.1⟩, by simp [intOf]; omega⟩
    · obtain rfl : i = N := by omega
      rw [HS.out.2.1, List.take_length] at hno; have HN := Lib.hid hno; clear hno hlt; go_wp2_with (fail); go_ret; refine ⟨⟨_, rfl, ?_⟩, rfl⟩; rw [HN.out]
      decide
set_option maxRecDepth 100000 in
theorem contains_any (w : World) (a : Option Addr) (c : Nat) (m : List (BitVec 8)) (hS : SrcP w a m.length m) (hl : m.length ≤ 1000000) :
    Calls Tryd.prog 55 #[.slice a m.length c, .func (.func 56) #[] #[]] w fun e w' => e = .returned (.bool (m.any fun x => x != 0)) ∧ w' = w := by
  have HC := Lib.hid (cindex_any w a c m hS hl); obtain ⟨r, hr⟩ : ∃ r, r = (m.any fun x => x != 0) := ⟨_, rfl⟩; obtain ⟨N, hN⟩ : ∃ n, n = m.length := ⟨_, rfl⟩; rw [← hr, ← hN] at HC ⊢; clear hS hl hr hN
  go_enter Tryd.func55, Tryd.ntmps55
  go_wp2_with (fail); refine HC.out.mono ?_; rintro e w2 ⟨⟨z, rfl, hz⟩, rfl⟩; dsimp only
  cases r with
  | true =>
    have h0 : (0 : Int) ≤ z := of_decide_eq_true hz; clear hz; go_wp2_with (fail); go_ret; exact ⟨rfl, rfl⟩
  | false =>
    have h0 : ¬ (0 : Int) ≤ z := of_decide_eq_false hz; clear hz; go_wp2_with (fail); go_ret; exact ⟨rfl, rfl⟩
end Go.Proofs.YtdmnhgbdeifpbaaDoor
