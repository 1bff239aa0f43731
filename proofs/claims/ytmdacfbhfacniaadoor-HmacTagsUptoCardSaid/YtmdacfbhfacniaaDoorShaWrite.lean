/-
  The contract of Write.
-/
import Derived.Test.YtmdacfbhfacniaaDoorShaFold
import Derived.Test.YtmdacfbhfacniaaDoorShaList
import Derived.Laws.CopyOwn
import Derived.Deep.CutRange
namespace Go.Proofs.YtmdacfbhfacniaaDoor
open Go.RowKit

/-- The tables of the package lie in a world. -/
def Tables (w : World) : Prop := (∀ i < 8, w.cell? ⟨0, i, none⟩ = some (W (firstSt.at i))) ∧ Roots w
theorem Tables.grown {w w' : World} (h : Tables w) {b : Nat} (hg : w.grownBy w' (some b)) (h0 : b ≠ 0) (h1 : b ≠ 1) : Tables w' :=
  ⟨fun i hi => hg.cell (h.1 i hi) (by simp; omega), fun i hi => hg.cell (h.2 i hi) (by simp; omega)⟩
theorem Tables.below {w w' : World} (h : Tables w) (hg : Below w.heap.size w w') : Tables w' :=
  ⟨fun i hi => (hg.cell (p := ⟨0, i, none⟩) (block_lt_of_cell (h.1 i hi))).trans (h.1 i hi), fun i hi => (hg.cell (p := ⟨1, i, none⟩) (block_lt_of_cell (h.2 i hi))).trans (h.2 i hi)⟩

/-- The n bytes from place a on are those of m from place k on; none of them lies in block b. -/
def Src (w : World) (b : Nat) (a : Option Addr) (n : Nat) (m : List (BitVec 8)) (k : Nat) : Prop :=
  n = 0 ∨ ∃ ab off, a = some ⟨ab, off, none⟩ ∧ ab ≠ b ∧ ∀ i < n, w.cell? ⟨ab, off + i, none⟩ = some (B (gl m (k + i)))
theorem Src.grown {w w' : World} {b : Nat} {a : Option Addr} {n : Nat} {m : List (BitVec 8)} {k : Nat} (h : Src w b a n m k) (hg : w.grownBy w' (some b)) : Src w' b a n m k := by
  rcases h with h | ⟨ab, off, ha, hb, hc⟩
  · exact .inl h
  · exact .inr ⟨ab, off, ha, hb, fun i hi => hg.cell (hc i hi) (by simpa using hb)⟩

theorem Src.belowS {w w' : World} {b : Nat} {a : Option Addr} {n : Nat} {m : List (BitVec 8)} {k : Nat} (h : Src w b a n m k) (hB : Below w.heap.size w w') : Src w' b a n m k := by
  rcases h with h | ⟨ab, off, ha, hb, hc⟩
  · exact .inl h
  · exact .inr ⟨ab, off, ha, hb, fun i hi => (hB.cell (p := ⟨ab, off + i, none⟩) (block_lt_of_cell (hc i hi))).trans (hc i hi)⟩

def WriteEnd (w : World) (b : Nat) (l m : List (BitVec 8)) (e : Ending) (w' : World) : Prop :=
  e = .returned (.int .i64 (m.length : Int)) ∧ ∃ c', w'.heap[b]? = some (.cells c' 57 (0, 0)) ∧ HashS c' (l ++ m) ∧ w.grownBy w' (some b)

def WRel (w : World) (b : Nat) (l m : List (BitVec 8)) (left : Value) (wr : World) : Prop :=
  ∃ (k : Nat) (a : Option Addr) (n cap : Nat) (c : Array Value), k + n = m.length ∧ left = .slice a n cap ∧ n ≤ cap ∧ cap ≤ 9223372036854775807 ∧ Src w b a n m k ∧
    wr.heap[b]? = some (.cells c 57 (0, 0)) ∧ HashS c (l ++ m.take k) ∧ w.grownBy wr (some b)
def lenOf : Value → Nat | .slice _ n _ => n | _ => 0

theorem grown_trans {w w1 w2 : World} {b : Nat} (h : w.grownBy w1 (some b)) (h2 : w1.grownBy w2 (some b)) : w.grownBy w2 (some b) :=
  ⟨h2.os.trans h.os, h2.tape.trans h.tape, h2.output.trans h.output, Nat.le_trans h.size h2.size, fun k hk hne => (h2.block k (Nat.lt_of_lt_of_le hk h.size) hne).trans (h.block k hk hne)⟩
theorem grown_setCell (w : World) (b i : Nat) (v : Value) : w.grownBy (w.setCell ⟨b, i, none⟩ v) (some b) :=
  ⟨rfl, rfl, rfl, by simp [World.setCell], fun k hk hne => heap_setCell_other _ _ _ _ (fun e => hne (by rw [e]))⟩

/-- The state at first is laid. -/
theorem strong_first {c : Array Value} {l : List (BitVec 8)} (h : HashW c l) (hl : l = []) :
    HashS ((c.toList.take 0 ++ [W firstSt.a, W firstSt.b, W firstSt.c, W firstSt.d, W firstSt.e, W firstSt.f, W firstSt.g, W firstSt.h] ++ c.toList.drop 8).toArray) l := by
  subst hl
  obtain ⟨h1, h2, _, f, h4, h5⟩ := h
  have hz : c.toList.length = 73 := by simpa using h1
  refine ⟨by simp [h1], ?_, fun i hi => ?_, f, fun j hj => ?_, h5⟩
  · rw [← h2]
    simp [List.getElem?_drop]
  · have := St.cell firstSt i hi
    simp only [List.getElem?_toArray] at this ⊢
    rw [List.getElem?_append_left (by simp; omega)]
    exact this
  · rw [← h4 j hj]
    simp only [List.getElem?_toArray]
    rw [List.getElem?_append_right (by simp)]
    simp [List.getElem?_drop]

set_option maxRecDepth 100000 in
set_option maxHeartbeats 4000000 in
theorem write_any (w : World) (b : Nat) (c : Array Value) (l m : List (BitVec 8)) (a : Option Addr) (cap : Nat) (hb : w.heap[b]? = some (.cells c 57 (0, 0))) (hH : HashW c l)
    (hT : Tables w) (hb0 : b ≠ 0) (hb1 : b ≠ 1) (hcap : m.length ≤ cap) (hmax : cap ≤ 9223372036854775807) (hS : Src w b a m.length m 0) (hlen : l.length + m.length < 4611686018427387904) :
    Calls Tryd.prog 19 #[.pointer (some ⟨b, 0, none⟩), .slice a m.length cap] w (WriteEnd w b l m) := by
  have hbl : b < w.heap.size := (Array.getElem?_eq_some_iff.1 hb).1
  have hn : w.cell? ⟨b, 72, none⟩ = some (.int .i64 (l.length : Int)) := (cell_of_row w b 72 c _ _ hb).trans hH.2.1
  have HB := Lib.hid hb
  have HH := Lib.hid hH
  have HT := Lib.hid hT
  have HS := Lib.hid hS
  clear hb hH hT hS
  go_enter Tryd.func19, Tryd.ntmps19
  go_upto_if 13 with (fail)
  go_cut [] from 14 to 17 (fun wx => ∃ c0, wx.heap[b]? = some (.cells c0 57 (0, 0)) ∧ HashS c0 l ∧ w.grownBy wx (some b))
  case first =>
    by_cases hl : l = []
    · have HL := Lib.hid hl
      have e0 : ((l.length : Int) == 0) = true := by rw [hl]; rfl
      clear hl
      have h0 : w.cell? ⟨0, 0, none⟩ = some (W firstSt.a) := HT.out.1 0 (by omega)
      have h1 : w.cell? ⟨0, 1, none⟩ = some (W firstSt.b) := HT.out.1 1 (by omega)
      have h2 : w.cell? ⟨0, 2, none⟩ = some (W firstSt.c) := HT.out.1 2 (by omega)
      have h3 : w.cell? ⟨0, 3, none⟩ = some (W firstSt.d) := HT.out.1 3 (by omega)
      have h4 : w.cell? ⟨0, 4, none⟩ = some (W firstSt.e) := HT.out.1 4 (by omega)
      have h5 : w.cell? ⟨0, 5, none⟩ = some (W firstSt.f) := HT.out.1 5 (by omega)
      have h6 : w.cell? ⟨0, 6, none⟩ = some (W firstSt.g) := HT.out.1 6 (by omega)
      have h7 : w.cell? ⟨0, 7, none⟩ = some (W firstSt.h) := HT.out.1 7 (by omega)
      go_upto_region 4 with (fail)
      refine wp_region_lit ?_
      iterate 12 go_step
      refine wpList_store_at rfl _ _ _ rfl b 0 [W firstSt.a, W firstSt.b, W firstSt.c, W firstSt.d, W firstSt.e, W firstSt.f, W firstSt.g, W firstSt.h] rfl rfl _ c HB.out (by kernel_rfl) (by simp [HH.out.1]) (by simp [W_oneCell]) ?_
      go_wp2_with (fail)
      go_meet
      refine ⟨_, setRow_heap _ _ c _ _ _ HB.out, strong_first HH.out HL.out, ⟨rfl, rfl, rfl, by simp, fun k hk hne => setRow_other _ _ _ _ (fun e => hne (by rw [e]))⟩⟩
    · have e0 : ((l.length : Int) == 0) = false := by
        have : 0 < l.length := List.length_pos_iff.2 hl
        simp
        omega
      go_wp2_with (fail)
      go_meet
      exact ⟨c, HB.out, HH.out.strong hl, ⟨rfl, rfl, rfl, Nat.le_refl _, fun _ _ _ => rfl⟩⟩
  case rest =>
    obtain ⟨c0, hb0', hH0, hg0⟩ := hcut
    have HB0 := Lib.hid hb0'
    have HH0 := Lib.hid hH0
    have HG0 := Lib.hid hg0
    clear hb0' hH0 hg0 hn HB HH
    go_wp2_with (fail)
    go_loopw [5] (WRel w b l m) (fun v _ => lenOf v)
    case atStart => exact ⟨0, a, m.length, cap, c0, by omega, rfl, hcap, hmax, HS.out, HB0.out, by simpa using HH0.out, HG0.out⟩
    case round =>
      clear HB0 HH0 HG0 HS hcap hmax
      obtain ⟨k, a', n, cap', c1, hk, rfl, hcap, hmax, hS, hb, hH, hg⟩ := hrel
      by_cases hlt : 0 < n
      · obtain ⟨lk, hlk⟩ : ∃ lk, lk = l ++ m.take k := ⟨_, rfl⟩
        rw [← hlk] at hH
        have hkl : lk.length = l.length + k := by rw [hlk]; simp; omega
        obtain ⟨r, hr⟩ : ∃ r, r = lk.length % 64 := ⟨_, rfl⟩
        obtain ⟨q, hq⟩ : ∃ q, q = Nat.min n (64 - r) := ⟨_, rfl⟩
        have hr64 : r < 64 := by omega
        have hq0 : 0 < q := by rw [hq]; exact Nat.lt_min.2 ⟨hlt, by omega⟩
        have hqn : q ≤ n := by rw [hq]; exact Nat.min_le_left _ _
        have hqr : r + q ≤ 64 := by have : q ≤ 64 - r := by rw [hq]; exact Nat.min_le_right _ _
                                    omega
        obtain ⟨x, hx⟩ : ∃ x, x = (m.drop k).take q := ⟨_, rfl⟩
        have hxl : x.length = q := by rw [hx]; simp; omega
        have hxg : ∀ i < q, gl x i = gl m (k + i) := fun i hi => by rw [hx]; simp [gl, hi]
        have hlx : l ++ m.take (k + q) = lk ++ x := by rw [hlk, hx, List.append_assoc, List.take_add]
        rcases hS with hS | ⟨ab, off, rfl, hab, hS⟩
        · omega
        have hN : wr.cell? ⟨b, 72, none⟩ = some (.int .i64 (lk.length : Int)) := (cell_of_row wr b 72 c1 _ _ hb).trans hH.2.1
        obtain ⟨N, hNe⟩ : ∃ N, N = lk.length := ⟨_, rfl⟩
        rw [← hNe] at hN
        have et : (N : Int).tmod 64 = r := by rw [hr, ← hNe]; exact (Int.tmod_eq_emod_of_nonneg (by omega)).trans (by omega)
        have em : (N : Int) % 64 = r := by rw [hr, ← hNe]; omega
        have hN62 : (N : Int) < 4611686018427387904 := by omega
        have hNq : (N : Int) + q < 4611686018427387904 := by omega
        have hn0 : (0 : Int) < (n : Int) := by omega
        have hsl1 : ∀ W', (Instr.sliceAt 42 (.pointer (some ⟨b, 8, none⟩)) (some (.int .i64 (r : Int))) none none).run Tryd.prog W' = .ok (.slice (some ⟨b, 8 + r, none⟩) (64 - r) (64 - r)) W' := fun W' =>
          run_slice_arr_l _ _ 64 Tryd.underlying42 Tryd.sizeOf5 b 8 r hr64 W'
        have HQ := Lib.hid (And.intro hq (And.intro hr (And.intro hx (And.intro hxl (And.intro hxg (And.intro hlx (And.intro hlk (And.intro hkl hNe))))))))
        have HB1 := Lib.hid hb
        have HH1 := Lib.hid hH
        have HG1 := Lib.hid hg
        have HS1 := Lib.hid hS
        clear hq hr hx hxl hxg hlx hlk hkl hNe hb hH hg hS
        go_wp2_with (fail)
        refine wp_region_quiet_tail 10 (by kernel_rfl) (by kernel_rfl) ?_
        simp only [List.take_succ_cons, List.take_zero, List.drop_succ_cons, List.drop_zero]
        repeat (quiet_step (fail))
        refine wpQuiet_nil ?_
        intro _ hw'
        obtain ⟨nq, hw''⟩ := hw'
        subst hw''
        refine wpList_copy_own rfl (.tmp 30) (.tmp 31) 22 22 rfl 5 Tryd.underlying22 (by kernel_rfl) b (8 + r) (64 - r) (64 - r) ⟨ab, off, none⟩ n cap' rfl rfl c1 57 HB1.out (x.map B)
          (by rw [List.length_map, HQ.out.2.2.2.1]; exact HQ.out.1) (fun j v hv => ?_) (by rw [List.length_map, HQ.out.2.2.2.1, HH1.out.1]; omega) (fun v hv => ?_) ?_
        · rw [List.getElem?_map] at hv
          cases hxj : x[j]? with
          | none => rw [hxj] at hv; cases hv
          | some y =>
            rw [hxj] at hv
            simp only [Option.map_some, Option.some.injEq] at hv
            have hj : j < q := by rw [← HQ.out.2.2.2.1]; exact (List.getElem?_eq_some_iff.1 hxj).1
            have e1 := HG1.out.cell (HS1.out j (by omega)) (by simpa using hab)
            have e2 := HQ.out.2.2.2.2.1 j hj
            have e3 : gl x j = y := by simp [gl, hxj]
            rw [addr_add, ← hv, ← e3, e2]
            exact e1
        · obtain ⟨y, _, rfl⟩ := List.mem_map.1 hv
          rfl
        rw [show goInt (x.map B).length = .int .i64 (q : Int) from by rw [List.length_map, HQ.out.2.2.2.1]; rfl]
        obtain ⟨cc, hcc⟩ : ∃ cc, cc = (c1.toList.take (8 + r) ++ (x.map B ++ c1.toList.drop (8 + r + (x.map B).length))).toArray := ⟨_, rfl⟩
        rw [← hcc]
        obtain ⟨W1, hW1⟩ : ∃ W1, W1 = (wr.drewN nq).setRow b cc := ⟨_, rfl⟩
        rw [← hW1]
        have hsp := Spl_copy c1 r (N + q) x HH1.out.1 (by rw [HQ.out.2.2.2.1]; exact hqr)
        rw [← hcc] at hsp
        have hb1w : W1.heap[b]? = some (.cells cc 57 (0, 0)) := by rw [hW1]; exact setRow_heap _ _ c1 _ _ _ HB1.out
        have hg1 : w.grownBy W1 (some b) := by
          have hg := HG1.out
          rw [hW1]
          exact ⟨hg.os, hg.tape, hg.output, by simp only [setRow_size]; exact hg.size, fun i hi hne => (setRow_other _ _ _ _ (fun e => hne (by rw [e]))).trans (hg.block i hi hne)⟩
        have hN1 : W1.cell? ⟨b, 72, none⟩ = some (.int .i64 (N : Int)) := by
          rw [cell_of_row W1 b 72 cc _ _ hb1w, hcc, copy72 c1 r x HH1.out.1 (by rw [HQ.out.2.2.2.1]; exact hqr), HQ.out.2.2.2.2.2.2.2.2]
          exact HH1.out.2.1
        have hF1 : W1.frozen? ⟨b, 72, none⟩ = false := frozen_of_row W1 b 72 cc _ hb1w
        obtain ⟨A2, hA2⟩ : ∃ A2 : Option Addr, A2 = if cap' = q then some ⟨ab, off, none⟩ else some ⟨ab, off + q, none⟩ := ⟨_, rfl⟩
        have hsl2 : ∀ W', (Instr.slice 22 (.slice (some ⟨ab, off, none⟩) n cap') (some (.int .i64 (q : Int))) none none).run Tryd.prog W' = .ok (.slice A2 (n - q) (cap' - q)) W' := fun W' => by
          rw [hA2]
          exact run_slice_sl_l _ _ Tryd.underlying22 Tryd.sizeOf5 ab off n cap' q hqn W'
        have hsl3 : ∀ W', (Instr.sliceAt 22 (.slice (some ⟨ab, off, none⟩) n cap') (some (.int .i64 (q : Int))) none none).run Tryd.prog W' = .ok (.slice A2 (n - q) (cap' - q)) W' := fun W' => by
          rw [run_sliceAt_sl _ _ Tryd.underlying22]
          exact hsl2 W'
        have hS2 : Src w b A2 (n - q) m (k + q) := by
          by_cases h0 : n - q = 0
          · exact .inl h0
          · refine .inr ⟨ab, off + q, by rw [hA2, if_neg (by omega)], hab, fun i hi => ?_⟩
            rw [Nat.add_assoc, Nat.add_assoc]
            exact HS1.out (q + i) (by omega)
        have HX := Lib.hid (And.intro hsp (And.intro hb1w (And.intro hg1 hS2)))
        clear hsp hb1w hg1 hS2 hW1 hA2 hcc hsl1
        go_upto_region 9 with (fail)
        obtain ⟨M, hM⟩ : ∃ M : Nat, M = N + q := ⟨_, rfl⟩
        have hMi : (N : Int) + (q : Int) = (M : Int) := by omega
        have hMb : (M : Int) < 4611686018427387904 := by omega
        have hMw : IntKind.i64.wrap (M : Int) = M := IntWalk.i64_in _ (by omega)
        have HM := Lib.hid hM
        clear hM
        go_upto_region 10 with (fail)
        obtain ⟨W2, hW2⟩ : ∃ W2, W2 = W1.setCell ⟨b, 72, none⟩ (.int .i64 (M : Int)) := ⟨_, rfl⟩
        rw [← hW2]
        obtain ⟨c2, hc2⟩ : ∃ c2, c2 = cc.setIfInBounds 72 (.int .i64 (M : Int)) := ⟨_, rfl⟩
        obtain ⟨hsp, hb1w, hg1, hS2⟩ := HX.out
        have hb2 : W2.heap[b]? = some (.cells c2 57 (0, 0)) := by rw [hW2, hc2]; exact heap_setCell_same W1 b 72 cc _ _ hb1w
        have hg2 : w.grownBy W2 (some b) := by rw [hW2]; exact grown_trans hg1 (grown_setCell W1 b 72 _)
        rw [← HM.out, ← hc2] at hsp
        obtain ⟨hq, hr, hx, hxl, hxg, hlx, hlk, hkl, hNe⟩ := HQ.out
        have hn2 : W2.cell? ⟨b, 72, none⟩ = some (.int .i64 (M : Int)) := by rw [cell_of_row W2 b 72 c2 _ _ hb2]; exact hsp.2.1
        obtain ⟨h73, _, hst, f, hf, hfr⟩ := HH1.out
        rw [HM.out, hNe, ← hxl, hr] at hsp
        have hrl : lk.length % 64 + x.length = r + q := by rw [← hr, hxl]
        have HE := Lib.hid (And.intro hsp (And.intro hb2 (And.intro hg2 (And.intro hS2 (And.intro hlx (And.intro h73 (And.intro hst (And.intro hf (And.intro hfr hrl)))))))))
        have hM64 : M % 64 = (r + q) % 64 := by rw [HM.out, hNe, hr]; omega
        have HM64 := Lib.hid hM64
        have hqk : k + q + (n - q) = m.length := by omega
        have HK := Lib.hid hqk
        clear hM64 hqk hsp hb2 hg2 hS2 hlx h73 hst hf hfr hrl hq hr hx hxl hxg hlk hkl hNe hb1w hg1 hW2 hc2 HX hN1 hF1 hsl2 hsl3 hN et em hMi
        by_cases hfull : r + q = 64
        · have m1 : (M : Int).tmod 64 = 0 := by
            have := HM64.out
            exact (Int.tmod_eq_emod_of_nonneg (by omega)).trans (by omega)
          have m2 : (M : Int) % 64 = 0 := by have := HM64.out; omega
          have HU := Lib.hid hfull
          clear hfull
          go_wp2_with (fail)
          obtain ⟨hsp, hb2, hg2, hS2, hlx, h73, hst, hf, hfr, hrl⟩ := HE.out
          refine (fold_any W2 b c2 (laidF f (lk.length % 64) x) (chain (gl lk) (lk.length / 64)) hb2 (fun i hi => (hsp.2.2.1 i hi).trans (hst i hi)) (laid_cells hf hsp) (HT.out.grown hg2 hb0 hb1).2).mono ?_
          rintro e w' ⟨rfl, c3, hb3, hF, hg3⟩
          have HF3 := Lib.hid (And.intro hb3 (And.intro hF hg3))
          clear hsp hb2 hg2 hS2 hlx h73 hst hf hfr hrl hb3 hF hg3
          dsimp only
          go_wp2_with (fail)
          obtain ⟨hsp, hb2, hg2, hS2, hlx, h73, hst, hf, hfr, hrl⟩ := HE.out
          obtain ⟨hb3, hF, hg3⟩ := HF3.out
          refine ⟨⟨k + q, A2, n - q, cap' - q, c3, HK.out, rfl, by omega, by omega, hS2, hb3, ?_, grown_trans hg2 hg3⟩, ?_⟩
          · rw [hlx]
            exact HashS.full h73 hfr hf hsp (hrl.trans HU.out) hF.1 hF.2.1 hF.2.2
          · show n - q < n
            omega
        · obtain ⟨p, hp⟩ : ∃ p, p = r + q := ⟨_, rfl⟩
          have m1 : (M : Int).tmod 64 = p := by
            have := HM64.out
            exact (Int.tmod_eq_emod_of_nonneg (by omega)).trans (by omega)
          have m2 : (M : Int) % 64 = p := by have := HM64.out; omega
          have m3 : ((p : Int) == 0) = false := by
            have : 0 < p := by omega
            simp
            omega
          have hp64 : p < 64 := by omega
          have HU := Lib.hid (And.intro hp hp64)
          clear hfull hp hp64
          go_wp2_with (fail)
          obtain ⟨hsp, hb2, hg2, hS2, hlx, h73, hst, hf, hfr, hrl⟩ := HE.out
          refine ⟨⟨k + q, A2, n - q, cap' - q, c2, HK.out, rfl, by omega, by omega, hS2, hb2, ?_, hg2⟩, ?_⟩
          · rw [hlx]
            exact HashS.more HH1.out hsp (by rw [hrl, ← HU.out.1]; exact HU.out.2)
          · show n - q < n
            omega
      · obtain rfl : n = 0 := by omega
        have HF := Lib.hid (And.intro hb (And.intro hH hg))
        clear hb hH hg hS
        go_wp2_with (fail)
        go_ret
        obtain ⟨hb, hH, hg⟩ := HF.out
        refine ⟨rfl, c1, hb, ?_, hg⟩
        rw [List.take_of_length_le (by omega)] at hH
        exact hH
end Go.Proofs.YtmdacfbhfacniaaDoor
