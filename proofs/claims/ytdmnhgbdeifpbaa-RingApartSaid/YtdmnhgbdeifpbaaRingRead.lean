/-
  The contract of ring's Read, for a run that begins just there, on a store that isn't off.
-/
import Derived.Test.YtdmnhgbdeifpbaaRingWrite
namespace Go.Proofs.Ytdmnhgbdeifpbaa
open Go Go.RowKit

/-- A store behind the reads of a run's first blocks, and what they tell. -/
def runT (s : StS) (k : Nat) : Nat → StS
  | 0 => s
  | i + 1 => (runT s k i).told (k + i)
def runB (s : StS) (k : Nat) : Nat → List (BitVec 8)
  | 0 => []
  | i + 1 => runB s k i ++ s.new'.getD (k + i) []
theorem runT_L (s : StS) (k : Nat) : ∀ i, (runT s k i).L = s.L
  | 0 => rfl
  | i + 1 => runT_L s k i
theorem runT_W (s : StS) (k : Nat) : ∀ i, (runT s k i).W = s.W
  | 0 => rfl
  | i + 1 => runT_W s k i
theorem runT_C (s : StS) (k : Nat) : ∀ i, (runT s k i).C = s.C
  | 0 => rfl
  | i + 1 => runT_C s k i
theorem runT_new (s : StS) (k i : Nat) : (runT s k i).new' = s.new' := by
  unfold StS.new'
  rw [runT_L, runT_W]
theorem runB_length (s : StS) (h : s.Ok) (k : Nat) : ∀ i, k + i ≤ s.L.length → (runB s k i).length = i * 128
  | 0, _ => by simp [runB]
  | i + 1, hi => by
    have h1 := runB_length s h k i (by omega)
    have h2 := h.new'.at (k := k + i) (by rw [new'_length]; omega)
    simp only [runB, List.length_append, h1, h2]
    omega
theorem mk_run (m : Nat) (hm : m ≤ 524288) (w : World) : ∃ cur : Array Value, cur.size = m ∧ (Instr.makeSlice 25 (.int .i64 0) (.int .i64 (m : Int))).run Try.prog w =
    .ok (.slice (some ⟨w.heap.size, 0, none⟩) 0 m) (w.alloc (.cells cur 5)) := by
  have hI := info_u8'
  cases hq : Try.prog.info? 5 with
  | none => rw [hq] at hI; cases hI
  | some i =>
    rw [hq] at hI
    simp only [Option.map_some, Option.some.injEq, Prod.mk.injEq] at hI
    obtain ⟨hz, hs, hb⟩ := hI
    have hr := run_make (P := Try.prog) w 25 5 i _ Try.underlying25 hq hz .i64 .i64 0 m (by omega) (by omega) (by rw [hb]; omega) (by omega)
    simp only [Int.toNat_natCast] at hr
    refine ⟨_, ?_, hr⟩
    rw [hs]
    simp [madeCells]
theorem own_made {w : World} {cur : Array Value} {m : Nat} (hm : cur.size = m) (hl : m ≤ 524288) : Own (w.alloc (.cells cur 5)) w.heap.size 5 (.slice (some ⟨w.heap.size, 0, none⟩) 0 m) [] :=
  ⟨rfl, .inr ⟨w.heap.size, m, cur, rfl, Nat.le_refl _, heap_alloc_new w _, Nat.zero_le _, by unfold maxLen; omega, by omega, by simp⟩⟩
/-- What the loop keeps to: what was read so far lies in a row of its own. -/
def RgRd (w : World) (base : Nat) (sf : StF) (s : StS) (K n B0 : Nat) (u v : Value) (wr : World) : Prop :=
  ∃ (i : Nat) (x : Value), i ≤ n ∧ x = u ∧ v = .int .i64 (i : Int) ∧ Next base sf (runT s K i) w wr sf ∧ base ≤ wr.heap.size ∧ B0 ≤ wr.heap.size ∧ Own wr B0 5 x ((runB s K i).map B)
set_option maxRecDepth 100000 in
set_option maxHeartbeats 2000000 in
theorem rgread_any {w : World} {base : Nat} {sf : StF} {s : StS} (h : StAt w base sf s) (hb : base ≤ w.heap.size) {f l v : Int} {n : Nat} (hB : rgBegins f l s.L.length v n) (hC : s.C = -1) :
    Calls Try.prog 13 #[.pointer (some ⟨sf.b, 0, none⟩), rgC f l, .int .i64 v, .int .i64 (n : Int)] w fun e w' => ∃ a c, e = .returned (.tuple #[.slice a (n * 128) c, .int .i64 0]) ∧ SrcN w.heap.size w' a (runB s (rgBlock f l v).toNat n) ∧ Next base sf (runT s (rgBlock f l v).toNat n) w w' sf := by
  obtain ⟨P, hP⟩ : ∃ P : Ending → World → Prop, P = fun e w' => ∃ a c, e = .returned (.tuple #[.slice a (n * 128) c, .int .i64 0]) ∧ SrcN w.heap.size w' a (runB s (rgBlock f l v).toNat n) ∧ Next base sf (runT s (rgBlock f l v).toNat n) w w' sf := ⟨_, rfl⟩
  rw [← hP]
  have hbg := hB
  obtain ⟨⟨hp, hfl⟩, hv, hst⟩ := hB
  have hne : rgStart f l v n ≠ -1 := by rw [hst]; have := hv.1; omega
  obtain ⟨-, -, hn1, hn2, -, -, hlap⟩ := rgStart_bounds hne
  rw [hst] at hlap
  have hnl : n ≤ 4096 := by have := hp.2.2.2; omega
  have hmd := mod_bounds (v := v) (l := l) hp.2.2.1
  obtain ⟨K, hK⟩ : ∃ K : Nat, (K : Int) = f + v % l := ⟨(f + v % l).toNat, by have := hp.1; omega⟩
  have hKb : rgBlock f l v = (K : Int) := by rw [rgBlock_at hp hv, hK]
  have hKn : K + n ≤ s.L.length := by omega
  have hKm : K ≤ 8192 := by have := h.ok.most; omega
  have hn0 : 0 < n := by omega
  obtain ⟨N, hN⟩ : ∃ N : Nat, N = n * 128 := ⟨_, rfl⟩
  have hNi : (n : Int) * 128 = (N : Int) := by omega
  have hNw : IntKind.i64.wrap (N : Int) = (N : Int) := IntWalk.i64_in _ (by omega)
  have hN5 : N ≤ 524288 := by omega
  have hN0 : (0 : Int) ≤ (N : Int) := by omega
  obtain ⟨wb, hwb⟩ : ∃ W, W = w.alloc (.cells #[.int .i64 f, .int .i64 l] 23) := ⟨_, rfl⟩
  obtain ⟨b, hbb⟩ : ∃ b, b = w.heap.size := ⟨_, rfl⟩
  have hnw := rg_new w f l
  rw [← hwb, ← hbb] at hnw
  have hBw : Below w.heap.size w wb := by rw [← hbb]; exact hnw.2
  have d0 := hnw.1.c0
  have d1 := hnw.1.c1
  have HB := Lib.hid (And.intro hnw.1 hBw)
  have hX : Next base sf s w wb sf := Next.far h hb hBw
  have HS := Lib.hid (And.intro hX (Nat.le_trans hb hBw.size))
  have HF := Lib.hid (And.intro hP (And.intro hbg (And.intro hKb (And.intro hC (And.intro hN h.ok)))))
  have HN := Lib.hid (And.intro hKn (And.intro hKm (And.intro hnl (And.intro hn0 hN5))))
  have HBg : Hid (Calls Try.prog 21 #[.pointer (some ⟨sf.b, 0, none⟩), rgC f l, .int .i64 v, .int .i64 n] wb (Below0 wb (.bool true))) := rgbegins_any hX.2.1 hbg
  unfold rgC at HBg ⊢
  clear h hb hbg hp hfl hv hst hne hn1 hn2 hlap hnl hmd hK hKb hKn hKm hn0 hnw hBw hX hP hC hN hN5
  go_enter Try.func13, Try.ntmps13
  go_upto_region 1 with (fail)
  rw [← hwb, ← hbb]
  clear hwb hbb
  go_wp2_with (fail)
  refine HBg.out.mono ?_
  clear d0 d1
  rintro e w1 ⟨rfl, hB1⟩
  have d0 := (HB.out.1.below hB1).c0
  have d1 := (HB.out.1.below hB1).c1
  have H1 := Lib.hid hB1
  clear hB1
  dsimp only
  go_wp2_with (fail)
  have hbl := rgblock_any w1 f l v
  rw [HF.out.2.2.1] at hbl
  unfold rgC at hbl
  refine hbl.mono ?_
  clear hbl d0 d1
  rintro e w2 ⟨rfl, hB2⟩
  have H2 : Hid (Below wb.heap.size wb w2) := H1.out.trans (hB2.mono H1.out.size)
  clear hB2
  dsimp only
  obtain ⟨cur, hcs, hmk⟩ := mk_run N HN.out.2.2.2.2 w2
  obtain ⟨w3, hw3⟩ : ∃ W, W = w2.alloc (.cells cur 5) := ⟨_, rfl⟩
  have ho3 := own_made (w := w2) hcs HN.out.2.2.2.2
  rw [← hw3] at hmk ho3
  obtain ⟨v3, hv3⟩ : ∃ v, v = Value.slice (some ⟨w2.heap.size, 0, none⟩) 0 N := ⟨_, rfl⟩
  rw [← hv3] at hmk ho3
  have hB23 : Below w2.heap.size w2 w3 := by rw [hw3]; exact (Below.refl _ w2).alloc (Nat.le_refl _) _
  obtain ⟨B0, hB0⟩ : ∃ B0, B0 = w2.heap.size := ⟨_, rfl⟩
  rw [← hB0] at ho3
  have H3 : Hid (Next base sf s w w3 sf ∧ base ≤ w3.heap.size ∧ B0 ≤ w3.heap.size ∧ w.heap.size ≤ B0 ∧ Own w3 B0 5 v3 [] ∧ ∀ k, sf.has k → k < B0) := by
    have hB := H2.out.trans (hB23.mono H2.out.size)
    have hsz := HB.out.2.size
    have hsz2 := H2.out.size
    have hsz3 := hB23.size
    have hx := HS.out.1.2.1.far H2.out
    refine ⟨HS.out.1.trans (Next.far HS.out.1.2.1 HS.out.2 hB), ?_, by omega, by omega, ho3, fun k hk => by rw [hB0]; exact hx.lt hk⟩
    have := HS.out.2
    omega
  clear hcs hw3 ho3 hv3 hB23 hB0
  go_upto_region 7 with (fail)
  clear hNi hNw hN0 hmk
  go_wp2_with (fail)
  go_loopw [11, 30] (RgRd w base sf s K n B0) (fun _ u _ => n - (intOf u).toNat)
  case atStart => exact ⟨0, v3, Nat.zero_le _, rfl, rfl, H3.out.1, H3.out.2.1, H3.out.2.2.1, H3.out.2.2.2.2.1⟩
  case round =>
    obtain ⟨i, x, hi, rfl, rfl, hX, hbr, h0r, ho⟩ := hrel
    by_cases hlt : i < n
    · have hi0 : (0 : Int) ≤ (i : Int) ∧ (i : Int) < n := by omega
      have hi9 : (i : Int) < 4096 := by have := HN.out.2.2.1; omega
      have hK9 : (K : Int) ≤ 8192 := by have := HN.out.2.1; omega
      have wa : IntKind.i64.wrap ((K : Int) + (i : Int)) = (K : Int) + (i : Int) := IntWalk.i64_in _ (by omega)
      have hLL : (runT s K i).L.length = s.L.length := by rw [runT_L]
      have hcl := sread_any hX.2.1 (k := K + i) (by rw [hLL]; have := HN.out.1; omega) (by rw [runT_C, HF.out.2.2.2.1]; decide)
      rw [show ((K + i : Nat) : Int) = (K : Int) + (i : Int) by omega] at hcl
      have HX := Lib.hid (And.intro hX (And.intro hbr (And.intro h0r ho)))
      clear hX hbr h0r ho hLL hlt
      go_wp2_with (fail)
      refine hcl.mono ?_
      clear hcl
      rintro e w4 ⟨a4, c4, rfl, hsr, hst, hk⟩
      have hbl : ((runT s K i).new'.getD (K + i) []).length = 128 := by
        rw [runT_new]
        exact HF.out.2.2.2.2.2.new'.at (by rw [new'_length]; have := HN.out.1; omega)
      rw [runT_new] at hsr hbl
      have H4 : Hid (Next base sf (runT s K (i + 1)) w w4 sf ∧ base ≤ w4.heap.size ∧ B0 ≤ w4.heap.size ∧ Own w4 B0 5 x ((runB s K i).map B)) := by
        have hn := Next.kept HX.out.1.2.1 HX.out.2.1 hst hk
        refine ⟨HX.out.1.trans hn, Nat.le_trans HX.out.2.1 hk.size, Nat.le_trans HX.out.2.2.1 hk.size, own_move HX.out.2.2.2 fun g hg => hk.block g (HX.out.2.2.2.lt hg).2 fun hf => ?_⟩
        have := H3.out.2.2.2.2.2 g hf
        have := (HX.out.2.2.2.lt hg).1
        omega
      have HR := Lib.hid (And.intro hsr (And.intro hbl hst))
      clear hsr hst hk hbl
      dsimp only
      go_upto_region 13 with (fail)
      refine wp_region_lit ?_
      iterate 6 go_step
      refine wpList_append_own2 rfl (.tmp 44) (.tmp 45) rfl B0 x _ rfl H4.out.2.2.2 a4 c4 _ 128 HR.out.2.1.symm rfl HR.out.1.srcP ?_ H4.out.2.2.1 ?_
      · have := runB_length s HF.out.2.2.2.2.2 K i (by have := HN.out.1; omega)
        have := HR.out.2.1
        simp only [List.length_map]
        omega
      intro v' w5 ho5 hg5 hv5
      have H5 : Hid (Next base sf (runT s K (i + 1)) w w5 sf ∧ base ≤ w5.heap.size ∧ B0 ≤ w5.heap.size ∧ Own w5 B0 5 v' ((runB s K (i + 1)).map B)) := by
        have hst : StAt w5 base sf (runT s K (i + 1)) := H4.out.1.2.1.keep fun k hk => hg5.block k (H4.out.1.2.1.lt hk) fun e => by
          have h1 := H3.out.2.2.2.2.2 k hk
          have h2 := (H4.out.2.2.2.lt e.symm).1
          omega
        refine ⟨⟨rfl, hst, ?_, ?_⟩, Nat.le_trans H4.out.2.1 hg5.size, Nat.le_trans H4.out.2.2.1 hg5.size, ?_⟩
        · refine H4.out.1.2.2.1.trans ⟨hg5.os, hg5.tape, hg5.output, hg5.size, fun k hk => hg5.block k (Nat.lt_of_lt_of_le hk H4.out.2.1) fun e => ?_⟩
          have h2 := (H4.out.2.2.2.lt e.symm).1
          have h3 := H3.out.2.2.2.1
          have h4 := HS.out.1.2.1.low.1
          have h5 := H3.out.2.2.2.2.2 sf.b (.inl rfl)
          omega
        · intro k hk
          obtain ⟨g1, g2⟩ := H4.out.1.2.2.2 k hk
          refine ⟨⟨Nat.lt_of_lt_of_le g1.1 hg5.size, g1.2⟩, (hg5.block k g1.1 fun e => ?_).trans g2⟩
          have h2 := (H4.out.2.2.2.lt e.symm).1
          have h3 := H3.out.2.2.2.1
          have h4 := hk.1
          omega
        · have : (runB s K (i + 1)).map B = (runB s K i).map B ++ (s.new'.getD (K + i) []).map B := by simp [runB]
          rw [this]
          exact ho5
      clear ho5 hg5 hv5
      dsimp only
      go_wp2_with (fail)
      exact ⟨⟨i + 1, v', by omega, rfl, by go_num, H5.out⟩, by simp [intOf]; omega⟩
    · obtain rfl : i = n := by omega
      have hbl := runB_length s HF.out.2.2.2.2.2 K i (by have := HN.out.1; omega)
      obtain ⟨a', c', rfl, h1, h2, h2b, h3⟩ := own_src ho
      have HZ : Hid (P (.returned (.tuple #[.slice a' (runB s K i).length c', .int .i64 0])) wr) := by
        rw [HF.out.1, HF.out.2.2.1, hbl]
        exact ⟨a', c', rfl, h3.mono H3.out.2.2.2.1, hX⟩
      clear hX hbr h0r ho h1 h2 h2b h3 hlt hbl
      go_wp2_with (fail)
      exact HZ.out
end Go.Proofs.Ytdmnhgbdeifpbaa
