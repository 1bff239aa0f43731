/-
  The contract of ring's Write, for a run that begins just there, on a store that isn't off.
-/
import Derived.Test.YtdmnhgbdeifpbaaRingBegins
namespace Go.Proofs.Ytdmnhgbdeifpbaa
open Go Go.RowKit

/-- A store behind the writes of a run's first blocks. -/
def runW (s : StS) (k : Nat) (m : List (BitVec 8)) : Nat → StS
  | 0 => s
  | i + 1 => (runW s k m i).wrote (k + i) ((m.drop (i * 128)).take 128)
theorem runW_L (s : StS) (k : Nat) (m : List (BitVec 8)) : ∀ i, (runW s k m i).L = s.L
  | 0 => rfl
  | i + 1 => runW_L s k m i
theorem runW_C (s : StS) (k : Nat) (m : List (BitVec 8)) (h : s.C = -1) : ∀ i, (runW s k m i).C = -1
  | 0 => h
  | i + 1 => by
    show lessCall (runW s k m i).C = -1
    rw [runW_C s k m h i]
    rfl
theorem runW_W (s : StS) (k : Nat) (m : List (BitVec 8)) : ∀ i, (runW s k m i).W.length = s.W.length + i
  | 0 => rfl
  | i + 1 => by
    show ((runW s k m i).W ++ [_]).length = _
    rw [List.length_append, runW_W s k m i]
    rfl
theorem Next.trans {base : Nat} {f f1 f2 : StF} {s s2 : StS} {w w1 w2 : World} (h : Next base f s w w1 f1) (h2 : Next base f1 s2 w1 w2 f2) : Next base f s2 w w2 f2 :=
  ⟨h2.1.trans h.1, h2.2.1, h.2.2.1.trans h2.2.2.1, fun k hk => ⟨(h2.2.2.2 k (h.2.2.2 k hk).1).1, (h2.2.2.2 k (h.2.2.2 k hk).1).2.trans (h.2.2.2 k hk).2⟩⟩
theorem rg_slice_lh (w : World) (ab off n c l h : Nat) (hl : l ≤ h) (hh : h ≤ c) (hlc : l < c) : (Instr.slice 25 (.slice (some ⟨ab, off, none⟩) n c) (some (.int .i64 (l : Int))) (some (.int .i64 (h : Int))) none).run Try.prog w = .ok (.slice (some ⟨ab, off + l, none⟩) (h - l) (c - l)) w := by
  have h4 : ¬ c = l := by omega
  simp [Instr.slice, run_underlying Try.underlying25, Instr.sliceBounds, run_sliceBound, Try.sizeOf5, addr_add, hl, hh, h4]
/-- A block amid bytes that lie aside. -/
theorem SrcA.part {f : StF} {w : World} {ab off : Nat} {m : List (BitVec 8)} (hA : Aside f w ab) (hc : ∀ i < m.length, w.cell? ⟨ab, off + i, none⟩ = some (B (gl m i))) (i : Nat) (hi : i * 128 + 128 ≤ m.length) :
    SrcA f w (some ⟨ab, off + i * 128, none⟩) ((m.drop (i * 128)).take 128) := by
  refine .inr ⟨ab, off + i * 128, rfl, hA, fun j hj => ?_⟩
  have hj' : j < 128 := by
    rw [List.length_take] at hj
    omega
  have h := hc (i * 128 + j) (by omega)
  rw [show off + i * 128 + j = off + (i * 128 + j) by omega, h]
  congr 1
  simp [gl, hj', List.getElem?_drop]
set_option maxRecDepth 100000 in
set_option maxHeartbeats 2000000 in
theorem rgwrite_any {w : World} {base : Nat} {sf : StF} {s : StS} (h : StAt w base sf s) (hb : base ≤ w.heap.size) {f l v : Int} {n : Nat} (hB : rgBegins f l s.L.length v n) (hC : s.C = -1) (hW : s.W.length = 0) (a : Option Addr) (c : Nat) (m : List (BitVec 8)) (hm : m.length = n * 128)
    (hc : n * 128 ≤ c) (hs : SrcA sf w a m) : Calls Try.prog 10 #[.pointer (some ⟨sf.b, 0, none⟩), rgC f l, .int .i64 v, .slice a (n * 128) c] w fun e w' => e = .returned (.int .i64 0) ∧ ∃ sf', Next base sf (runW s (rgBlock f l v).toNat m n) w w' sf' := by
  obtain ⟨P, hP⟩ : ∃ P : Ending → World → Prop, P = fun e w' => e = .returned (.int .i64 0) ∧ ∃ sf', Next base sf (runW s (rgBlock f l v).toNat m n) w w' sf' := ⟨_, rfl⟩
  rw [← hP]
  have hbg := hB
  obtain ⟨⟨hp, hfl⟩, hv, hst⟩ := hB
  have hne : rgStart f l v n ≠ -1 := by rw [hst]; have := hv.1; omega
  obtain ⟨-, -, hn1, hn2, -, -, hlap⟩ := rgStart_bounds hne
  rw [hst] at hlap
  have hnl : n ≤ 4096 := by have := hp.2.2.2; omega
  have hmd := mod_bounds (v := v) (l := l) hp.2.2.1
  obtain ⟨K, hK⟩ : ∃ K : Nat, (K : Int) = f + v % l := ⟨(f + v % l).toNat, by have := hp.1; omega⟩
  have hKb : rgBlock f l v = (K : Int) := by rw [rgBlock_at hp hv, hK]
  have hKn : K + n ≤ s.L.length := by omega
  have hKm : K ≤ 8192 := by have := h.ok.most; omega
  have hn0 : 0 < n := by omega
  obtain ⟨ab, off, rfl, hA, hcell⟩ : ∃ ab off, a = some ⟨ab, off, none⟩ ∧ Aside sf w ab ∧ ∀ i < m.length, w.cell? ⟨ab, off + i, none⟩ = some (B (gl m i)) := by
    rcases hs with h | h
    · omega
    · exact h
  obtain ⟨N, hN⟩ : ∃ N, N = n * 128 := ⟨_, rfl⟩
  rw [← hN]
  have hq : Int.tdiv (N : Int) 128 = (n : Int) := by rw [Int.tdiv_eq_ediv_of_nonneg (by omega)]; omega
  have hr : Int.tmod (N : Int) 128 = 0 := by rw [Int.tmod_eq_emod_of_nonneg (by omega)]; omega
  have hNw : IntKind.i64.wrap (n : Int) = (n : Int) := IntWalk.i64_in _ (by omega)
  obtain ⟨wb, hwb⟩ : ∃ W, W = w.alloc (.cells #[.int .i64 f, .int .i64 l] 23) := ⟨_, rfl⟩
  obtain ⟨b, hbb⟩ : ∃ b, b = w.heap.size := ⟨_, rfl⟩
  have hnw := rg_new w f l
  rw [← hwb, ← hbb] at hnw
  have hBw : Below w.heap.size w wb := by rw [← hbb]; exact hnw.2
  have d0 := hnw.1.c0
  have d1 := hnw.1.c1
  have HB := Lib.hid (And.intro hnw.1 hBw)
  have hX : Next base sf s w wb sf := Next.far h hb hBw
  have hA1 := (hX.2.2.2 ab hA)
  have hcell1 : ∀ i < m.length, wb.cell? ⟨ab, off + i, none⟩ = some (B (gl m i)) := fun i hi => by
    rw [World.cell?_of_block (w := w) hA1.2]
    exact hcell i hi
  have HS := Lib.hid (And.intro hX (And.intro hA1.1 (And.intro hcell1 (Nat.le_trans hb hBw.size))))
  have HF := Lib.hid (And.intro hP (And.intro hbg (And.intro hKb (And.intro hm (And.intro hc (And.intro hC (And.intro hW hN)))))))
  have HN := Lib.hid (And.intro hKn (And.intro hKm (And.intro hnl hn0)))
  have HBg : Hid (Calls Try.prog 21 #[.pointer (some ⟨sf.b, 0, none⟩), rgC f l, .int .i64 v, .int .i64 n] wb (Below0 wb (.bool true))) := rgbegins_any hX.2.1 hbg
  unfold rgC at HBg ⊢
  clear h hb hbg hp hfl hv hst hne hn1 hn2 hlap hnl hmd hK hKb hKn hKm hn0 hs hA hcell hnw hBw hX hA1 hcell1 hP hm hc hC hW hN
  go_enter Try.func10, Try.ntmps10
  go_upto_region 1 with (fail)
  rw [← hwb, ← hbb]
  clear hwb hbb
  go_wp2_with (fail)
  refine HBg.out.mono ?_
  clear d0 d1
  rintro e w1 ⟨rfl, hB1⟩
  have d0 := (HB.out.1.below hB1).c0
  have d1 := (HB.out.1.below hB1).c1
  have H1 := Lib.hid hB1
  clear hB1
  dsimp only
  go_wp2_with (fail)
  have hbl := rgblock_any w1 f l v
  rw [HF.out.2.2.1] at hbl
  unfold rgC at hbl
  refine hbl.mono ?_
  clear hbl d0 d1
  rintro e w2 ⟨rfl, hB2⟩
  have H2' : Hid (Below wb.heap.size wb w2) := H1.out.trans (hB2.mono H1.out.size)
  have hA2 : Hid (Aside sf w2 ab ∧ (∀ i < m.length, w2.cell? ⟨ab, off + i, none⟩ = some (B (gl m i))) ∧ StAt w2 base sf s ∧ base ≤ w2.heap.size) := by
    have hB := H1.out.trans (hB2.mono H1.out.size)
    have hn := Next.far HS.out.1.2.1 HS.out.2.2.2 hB
    obtain ⟨g1, g2⟩ := hn.2.2.2 ab HS.out.2.1
    exact ⟨g1, fun i hi => by rw [World.cell?_of_block (w := wb) g2]; exact HS.out.2.2.1 i hi, hn.2.1, Nat.le_trans HS.out.2.2.2 hB.size⟩
  clear hB2
  dsimp only
  go_wp2_with (fail)
  go_loopw [34] (fun u wr => ∃ i : Nat, i ≤ n ∧ u = .int .i64 (i : Int) ∧ ∃ sf', Next base sf (runW s K m i) w2 wr sf') (fun u _ => n - (intOf u).toNat)
  case atStart => exact ⟨0, Nat.zero_le _, rfl, sf, Next.kept hA2.out.2.2.1 hA2.out.2.2.2 hA2.out.2.2.1 (SKept.refl sf w2)⟩
  case round =>
    obtain ⟨i, hi, rfl, sf', hX⟩ := hrel
    by_cases hlt : i < n
    · have hi0 : (0 : Int) ≤ (i : Int) ∧ (i : Int) < n := by omega
      have hi9 : (i : Int) < 4096 := by have := HN.out.2.2.1; omega
      have hK9 : (K : Int) ≤ 8192 := by have := HN.out.2.1; omega
      have wa : IntKind.i64.wrap ((K : Int) + (i : Int)) = (K : Int) + (i : Int) := IntWalk.i64_in _ (by omega)
      have wb : IntKind.i64.wrap ((i : Int) * 128) = (i : Int) * 128 := IntWalk.i64_in _ (by omega)
      have wc : IntKind.i64.wrap ((i : Int) + 1) = (i : Int) + 1 := IntWalk.i64_in _ (by omega)
      have wd : IntKind.i64.wrap (((i : Int) + 1) * 128) = ((i : Int) + 1) * 128 := IntWalk.i64_in _ (by omega)
      have hsl : ∀ w', (Instr.slice 25 (.slice (some ⟨ab, off, none⟩) N c) (some (.int .i64 ((i : Int) * 128))) (some (.int .i64 (((i : Int) + 1) * 128))) none).run Try.prog w' = .ok (.slice (some ⟨ab, off + i * 128, none⟩) 128 (c - i * 128)) w' := fun w' => by
        have hc := HF.out.2.2.2.2.1
        have h := rg_slice_lh w' ab off N c (i * 128) ((i + 1) * 128) (by omega) (by omega) (by omega)
        rw [show (i + 1) * 128 - i * 128 = 128 by omega] at h
        rw [← h]
        congr 2
      have hA3 := hX.2.2.2 ab hA2.out.1
      have hcell3 : ∀ j < m.length, wr.cell? ⟨ab, off + j, none⟩ = some (B (gl m j)) := fun j hj => by
        rw [World.cell?_of_block (w := w2) hA3.2]
        exact hA2.out.2.1 j hj
      have hpart := SrcA.part hA3.1 hcell3 i (by have := HF.out.2.2.2.1; omega)
      have hpl : ((m.drop (i * 128)).take 128).length = 128 := by
        have := HF.out.2.2.2.1
        simp
        omega
      have hLL : (runW s K m i).L.length = s.L.length := by rw [runW_L]
      have hcl := swrite_any hX.2.1 (k := K + i) (by rw [hLL]; have := HN.out.1; omega) (some ⟨ab, off + i * 128, none⟩) (c - i * 128) _ hpl (SrcA.src hpart) (by rw [runW_C s K m HF.out.2.2.2.2.2.1 i]; decide) (SrcA.not hpart (by rw [hpl]; decide)) (Nat.le_trans hA2.out.2.2.2 hX.2.2.1.size) (by rw [runW_W]; have := HF.out.2.2.2.2.2.2.1; omega)
      rw [hX.1, show ((K + i : Nat) : Int) = (K : Int) + (i : Int) by omega] at hcl
      have HX := Lib.hid hX
      clear hX hA3 hcell3 hpart hpl hLL hlt
      go_wp2_with (fail)
      refine hcl.mono ?_
      clear hcl
      rintro e w4 ⟨rfl, hE⟩
      have H4 : Hid (∃ sf', Next base sf (runW s K m (i + 1)) w2 w4 sf') := by
        obtain ⟨f1, hn⟩ := SEnd.next HX.out.2.1 (Nat.le_trans hA2.out.2.2.2 HX.out.2.2.1.size) hE
        exact ⟨f1, HX.out.trans hn⟩
      clear hE
      dsimp only
      go_wp2_with (fail)
      exact ⟨⟨i + 1, by omega, by go_num, H4.out⟩, by simp [intOf]; omega⟩
    · obtain rfl : i = n := by omega
      have HZ : Hid (P (.returned (.int .i64 0)) wr) := by
        rw [HF.out.1, HF.out.2.2.1]
        exact ⟨rfl, sf', (HS.out.1.trans (Next.far HS.out.1.2.1 HS.out.2.2.2 (H2'.out))).trans hX⟩
      clear hX hlt
      go_wp2_with (fail)
      exact HZ.out
end Go.Proofs.Ytdmnhgbdeifpbaa
