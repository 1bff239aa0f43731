/-
  StorePlays: whatever acts it is called with, the program's store and the document's answer the same, and it returns true.
-/
import Derived.Test.YtggecfecodoigaaStorePlaysA
namespace Go.Proofs.Ytggecfecodoigaa
open Go Go.RowKit

theorem RAt.lower {w : World} {base base' : Nat} {rf : RfF} {s : StS} (h : RAt w base rf s) (hb : base' ≤ base) : RAt w base' rf s :=
  ⟨h.ok, h.obj, own_low h.last hb, own_low h.waits hb, own_low h.count hb, Nat.le_trans hb h.low⟩
def imgV (l : List (List (BitVec 8))) : Value := Sv (flatB l)
structure PX (W1 : World) (base pb rb n i d : Nat) (iv : Value) (wr : World) (f : StF) (rf : RfF) (s : StS) (ims : List (List (List (BitVec 8)))) : Prop where
  pb : f.b = pb
  rb : rf.b = rb
  both : Both wr base f rf s
  len : s.L.length = n
  few : s.W.length ≤ i + d
  imgs : Own wr base 9 iv (ims.map imgV)
  count : ims.length = i + 1
  good : ∀ l ∈ ims, Blocks l ∧ l.length = n
  apart : ∀ k, iv.ownBlock = some k → ¬ f.has k ∧ ¬ rf.has k
  below : Below base W1 wr
def PR (W1 : World) (base pb rb n i : Nat) (iv : Value) (wr : World) : Prop := ∃ (f : StF) (rf : RfF) (s : StS) (ims : List (List (List (BitVec 8)))), PX W1 base pb rb n i 0 iv wr f rf s ims
theorem PX.far {W1 : World} {base pb rb n i d : Nat} {iv : Value} {wr w' : World} {f : StF} {rf : RfF} {s : StS} {ims : List (List (List (BitVec 8)))} (h : PX W1 base pb rb n i d iv wr f rf s ims) (hb : base ≤ wr.heap.size) (hB : Below wr.heap.size wr w') : PX W1 base pb rb n i d iv w' f rf s ims :=
  ⟨h.pb, h.rb, h.both.far hB, h.len, h.few, h.imgs.far hB, h.count, h.good, h.apart, h.below.trans (hB.mono hb)⟩
def PM (W1 : World) (base pb rb n i : Nat) (iv : Value) (wr : World) : Prop := ∃ (f : StF) (rf : RfF) (s : StS) (ims : List (List (List (BitVec 8)))), PX W1 base pb rb n i 1 iv wr f rf s ims
theorem PX.played {W1 : World} {base pb rb n i : Nat} {iv : Value} {wr w6 : World} {f : StF} {rf : RfF} {s s1 : StS} {ims : List (List (List (BitVec 8)))} (h : PX W1 base pb rb n i 0 iv wr f rf s ims) (hb : base ≤ wr.heap.size) (hL : s1.L.length = s.L.length) (hW : s1.W.length ≤ s.W.length + 1) (hE : BothEnd wr base f rf s1 w6) :
    ∃ f6 rf6, PX W1 base pb rb n i 1 iv w6 f6 rf6 s1 ims ∧ Moved (fun k => f.has k ∨ rf.has k) wr w6 := by
  obtain ⟨f6, rf6, hbo, h1, h2, h3, h4, h5⟩ := hE
  refine ⟨f6, rf6, ⟨h1.trans h.pb, h2.trans h.rb, hbo, hL.trans h.len, by have := h.few; omega, own_move h.imgs fun g hg => ?_, h.count, h.good, fun k hk => ⟨fun hf => ?_, fun hf => ?_⟩, ?_⟩, h5⟩
  · exact h5.block g (Own.lt h.imgs hg).2 fun e => e.elim (h.apart g hg).1 (h.apart g hg).2
  · rcases h3 k hf with e | e
    · exact (h.apart k hk).1 e
    · have := (Own.lt h.imgs hk).2
      omega
  · rcases h4 k hf with e | e
    · exact (h.apart k hk).2 e
    · have := (Own.lt h.imgs hk).2
      omega
  · refine ⟨h5.os.trans h.below.os, h5.tape.trans h.below.tape, h5.output.trans h.below.output, Nat.le_trans h.below.size h5.size, fun k hk => ?_⟩
    refine (h5.block k (Nat.lt_of_lt_of_le hk hb) fun e => ?_).trans (h.below.block k hk)
    rcases e with e | e
    · have := h.both.prog.ge e
      omega
    · have := h.both.ref.ge e
      omega
theorem PX.asked {W1 : World} {base pb rb n i d : Nat} {iv : Value} {w6 : World} {f : StF} {rf : RfF} {s : StS} {ims : List (List (List (BitVec 8)))} (h : PX W1 base pb rb n i d iv w6 f rf s ims) (hW : s.W.length < 1000) :
    ∃ (z : Int) (bz : Bool) (wa : Option Addr) (wc WL L1 : Nat) (u1 : ByteArray), (z == 0) = bz ∧
      (∀ w7, Below w6.heap.size w6 w7 → w7.cell? ⟨rb, 2, none⟩ = some (.int .i64 z) ∧ w7.cell? ⟨rb, 1, none⟩ = some (.slice wa WL wc)) ∧
      Calls Try.prog 18 #[.pointer (some ⟨pb, 0, none⟩)] w6 (fun e w' => e = .returned (.bool bz) ∧ w' = w6) ∧
      Calls Try.prog 15 #[.pointer (some ⟨pb, 0, none⟩)] w6 (fun e w' => ∃ a c, e = .returned (.slice a WL c) ∧ Below w6.heap.size w6 w') ∧
      (∀ w7, Below w6.heap.size w6 w7 → Calls Try.prog 16 #[.pointer (some ⟨pb, 0, none⟩)] w7 (fun e w' => ∃ a c, e = .returned (.slice a L1 c) ∧ (convert 28 9 (.slice a L1 c)).run Try.prog w' = .ok (.string u1) w' ∧ Below w7.heap.size w7 w')) ∧
      (∀ w7, Below w6.heap.size w6 w7 → Calls Try.prog 22 #[.pointer (some ⟨rb, 0, none⟩)] w7 (fun e w' => e = .returned (.string u1) ∧ w' = w7)) := by
  obtain ⟨_, ⟨wa, wc, hwv⟩, _⟩ := h.both.ref.slice
  refine ⟨clip s.C, decide (s.C = 0), wa, wc, s.W.length, 128 * s.L.length, strOf (flatB s.L), ?_, fun w7 hB => ?_, ?_, ?_, fun w7 hB => ?_, fun w7 hB => ?_⟩
  · rw [← clip_zero, Bool.eq_iff_iff]
    simp
  · have hR := h.both.ref.far hB
    rw [← h.rb, hR.cell2, hR.cell1, hwv]
    exact ⟨rfl, rfl⟩
  · rw [← h.pb]
    exact soff_any h.both.prog
  · rw [← h.pb]
    refine (swaits_any h.both.prog hW).mono ?_
    rintro e w' ⟨v, rfl, hO, hB⟩
    obtain ⟨a, c, rfl⟩ := hO.form
    exact ⟨a, c, by simp [atsOf], hB⟩
  · rw [← h.pb]
    refine (simage_any (h.both.prog.far hB)).mono ?_
    rintro e w' ⟨a, c, rfl, hS, hB'⟩
    refine ⟨a, c, rfl, ?_, hB'⟩
    have := run_conv_str w' a c (flatB s.L) hS.srcP
    rw [flatB_length h.both.prog.ok.blocks] at this
    exact this
  · rw [← h.rb]
    exact rimage_any (h.both.ref.far hB)
/-- One operation alone may come up, whose guard lets it. -/
theorem oneW {P : Program} {l : List Oper} {Q : Exit → Act → World → Prop} {md : Region.Mode} {S : World → Prop} (i : Nat) {oi : Oper} {fuel : Nat} {listed : Array Bool} {a : Act} {w : World} (hi : l[i]? = some oi) (hr : Region.ready md l.toArray listed = [i]) (hg : Region.wanted oi (yielded l.toArray a.tmps) = true)
    (h : ∀ K : Act → World → Prop, (∀ a w, S w → wpAnyH P md l.toArray Q S fuel (listed.setIfInBounds i true) a w → K a w) → oi.wp P a w K Q) : wpAnyH P md l.toArray Q S (fuel + 1) listed a w := by
  refine wpAnyH_ready hr (by simp) (AllReadyH.cons (o := oi) (by rw [List.getElem?_toArray]; exact hi) (fun K hK => ?_) AllReadyH.nil)
  rw [if_pos hg]
  exact h K fun a w hS hW => hK.out a w hS fun _ => hW
theorem wpAnyH_stronger {P : Program} {md : Region.Mode} {l : Array Oper} {Q : Exit → Act → World → Prop} {S S' : World → Prop} (hS : ∀ w, S' w → S w) : ∀ (fuel : Nat) (listed : Array Bool) (a : Act) (w : World), wpAnyH P md l Q S' fuel listed a w → wpAnyH P md l Q S fuel listed a w
  | 0, _, _, _, h => h
  | fuel + 1, _, _, _, h => ⟨h.1, fun i hi => wpOp_mono (fun a' w' h' => ⟨hS w' h'.1, wpAnyH_stronger hS fuel _ a' w' h'.2⟩) (h.2 i hi)⟩
theorem PX.grow {W1 : World} {base pb rb n i : Nat} {iv v' : Value} {w7 w8 : World} {f : StF} {rf : RfF} {s : StS} {ims : List (List (List (BitVec 8)))} {u : ByteArray} (h : PX W1 base pb rb n i 1 iv w7 f rf s ims) (hb : base ≤ w7.heap.size) (hu : Sv (flatB s.L) = .string u)
    (ho : Own w8 base 9 v' (ims.map imgV ++ [.string u])) (hg : (w7.alloc (.cells #[.string u] 9)).grownBy w8 iv.ownBlock) (hv : v'.ownBlock = iv.ownBlock ∨ v'.ownBlock = some (w7.alloc (.cells #[.string u] 9)).heap.size) :
    PX W1 base pb rb n (i + 1) 0 v' w8 f rf s (ims ++ [s.L]) := by
  have hal : ∀ k, k < w7.heap.size → iv.ownBlock ≠ some k → w8.heap[k]? = w7.heap[k]? := fun k hk hne => by
    rw [hg.block k (by simp; omega) fun e => hne e.symm, heap_alloc_old _ _ hk]
  refine ⟨h.pb, h.rb, ⟨h.both.prog.keep fun k hk => hal k (h.both.prog.lt hk) fun e => (h.apart k e).1 hk, h.both.ref.keep fun k hk => hal k (h.both.ref.lt hk) fun e => (h.apart k e).2 hk, h.both.apart⟩, h.len, h.few, ?_, ?_, fun l hl => ?_, fun k hk => ?_, ?_⟩
  · rw [List.map_append, List.map_cons, List.map_nil, show imgV s.L = .string u from hu]
    exact ho
  · rw [List.length_append, h.count]
    rfl
  · rcases List.mem_append.1 hl with hl | hl
    · exact h.good l hl
    · rw [List.mem_singleton.1 hl]
      exact ⟨h.both.prog.ok.blocks, h.len⟩
  · rcases hv with e | e
    · exact h.apart k (e.symm.trans hk)
    · rw [e] at hk
      have hk : w7.heap.size + 1 = k := by simpa using hk
      refine ⟨fun hf => ?_, fun hf => ?_⟩
      · have := h.both.prog.lt hf
        omega
      · have := h.both.ref.lt hf
        omega
  · have hi := h.imgs.far ((Below.refl _ w7).alloc (Nat.le_refl _) (.cells #[.string u] 9))
    exact (h.below.trans (((Below.refl _ w7).alloc (Nat.le_refl _) _).mono hb)).trans (below_grown hi hg (by simp; omega))
theorem wp_slice1_img {ops : Array Oper} {rest : List Oper} {o : Oper} {a : Act} {w : World} {Q : Exit → Act → World → Prop} (hg : o.guard = none) (y : Operand) (ho : o.op = .buildSlice 44 1 #[(0, y)]) (u : ByteArray) (hy : a.eval y = .string u)
    (h : wpList Try.prog ops Q rest (a.put o.dst (.slice (some ⟨w.heap.size, 0, none⟩) 1 1)) (w.alloc (.cells #[.string u] 9))) : wpList Try.prog ops Q (o :: rest) a w := by
  have hF : Instr.fill (fun i => some (i * 1, 1)) ((Array.range (1 * 1)).map ((Value.string ⟨#[]⟩).cells[· % (Value.string ⟨#[]⟩).cells.size]!)) [(0, .string u)] = some #[.string u] := by kernel_rfl
  obtain ⟨i, hi, hz0, hz1, hz2⟩ := info_parts infoStr
  refine wpList_buildSlice hg 44 9 1 _ ho #[.string u] i _ Try.underlying44 hi hz0 (by rw [hz1]; decide) (by rw [hz1]; decide) ?_ h
  rw [hz1]
  simp only [List.map_toArray, List.map_cons, List.map_nil, hy]
  exact hF
/-- What the drawn region may count on: the act in its box. -/
def BoxS (ib : Nat) (o : OpL) (N M : Nat) (w' : World) : Prop :=
  w'.cell? ⟨ib, 0, none⟩ = some (.int .i64 o.kind) ∧ w'.cell? ⟨ib, 1, none⟩ = some (.int .i64 o.at_) ∧ w'.cell? ⟨ib, 2, none⟩ = some (.int .i64 o.n) ∧ w'.cell? ⟨ib, 3, none⟩ = some (.slice o.ba N o.bc) ∧ w'.cell? ⟨ib, 4, none⟩ = some (.slice o.ka M o.kc)
set_option maxRecDepth 100000 in
set_option maxHeartbeats 2000000 in
theorem plays_few (w : World) (n : Nat) (h1 : 1 ≤ n) (h2 : n ≤ 20) (la : Option Addr) (lc : Nat) (ops : List OpL) (hops : OpsAt w la ops) (hol : ops.length ≤ 9223372036854775807) : Calls Try.prog 3 #[.int .i64 (n : Int), .slice la ops.length lc] w (Says w (.bool true)) := by
  have HI := Lib.hid (And.intro hops (And.intro hol (And.intro h1 h2)))
  obtain ⟨N, hN⟩ : ∃ N, N = ops.length := ⟨_, rfl⟩
  rw [← hN]
  have HN := Lib.hid hN
  have q1 : ¬ (n : Int) < 1 := by omega
  have q2 : ¬ (4096 : Int) < (n : Int) := by omega
  have q3 : ¬ (20 : Int) < (n : Int) := by omega
  have hN9 : N ≤ 9223372036854775807 := by rw [hN]; exact hol
  clear h1 h2 hops hol hN
  go_enter Try.func3, Try.ntmps3
  go_wp2_with (fail)
  refine (first_any _).mono ?_
  rintro e w1 ⟨rfl, hB1⟩
  dsimp only
  have H1 := Lib.hid hB1
  clear hB1
  go_wp2_with (fail)
  refine (snew_any w1 n HI.out.2.2.1 (by have := HI.out.2.2.2; omega)).mono ?_
  rintro e w2 ⟨f0, rfl, hA0, hB0⟩
  obtain ⟨pb, hpb⟩ : ∃ b, b = f0.b := ⟨_, rfl⟩
  rw [← hpb]
  have H2 := Lib.hid (And.intro hA0 (And.intro hB0 hpb))
  clear hA0 hB0 hpb
  dsimp only
  go_wp2_with (fail)
  refine (rnew_any w2 n HI.out.2.2.1 HI.out.2.2.2).mono ?_
  rintro e w3 ⟨rf0, rfl, hR0, hB3⟩
  obtain ⟨rb, hrb⟩ : ∃ b, b = rf0.b := ⟨_, rfl⟩
  have him := rimage_any hR0
  rw [← hrb] at him ⊢
  obtain ⟨u0, hu0⟩ : ∃ u, u = strOf (flatB (StS.new n).L) := ⟨_, rfl⟩
  rw [show Sv (flatB (StS.new n).L) = .string u0 from by rw [hu0]; rfl] at him
  have H3 := Lib.hid (And.intro hR0 (And.intro hB3 (And.intro hrb (And.intro hu0 him))))
  clear hR0 hB3 hrb hu0 him
  dsimp only
  go_wp2_with (fail)
  refine H3.out.2.2.2.2.mono ?_
  rintro e w9 ⟨rfl, rfl⟩
  dsimp only
  iterate 1 go_step
  refine wp_slice1_img rfl _ rfl u0 rfl ?_
  obtain ⟨w4, hw4⟩ : ∃ W, W = w9.alloc (.cells #[.string u0] 9) := ⟨_, rfl⟩
  obtain ⟨g0, hg0⟩ : ∃ b, b = w9.heap.size := ⟨_, rfl⟩
  have hX4 : PX w1 w1.heap.size pb rb n 0 0 (.slice (some ⟨g0, 0, none⟩) 1 1) w4 f0 rf0 (StS.new n) [(StS.new n).L] := by
    obtain ⟨hA0, hB0, hpb⟩ := H2.out
    obtain ⟨hR0, hB3, hrb, hu0, -⟩ := H3.out
    have hB4 : Below w9.heap.size w9 w4 := by rw [hw4]; exact (Below.refl _ w9).alloc (Nat.le_refl _) _
    have hBo : Both w9 w1.heap.size f0 rf0 (StS.new n) := ⟨hA0.far hB3, hR0.lower hB0.size, fun k h1 h2 => by
      have := hA0.lt h1
      have := hR0.ge h2
      omega⟩
    have ho := Own.lit (base := w1.heap.size) w9 #[.string u0] 9 (Nat.le_trans hB0.size hB3.size) (by simp)
    refine ⟨hpb.symm, hrb.symm, hBo.far hB4, by simp [StS.new], Nat.zero_le _, ?_, rfl, fun l hl => ?_, fun k hk => ?_, (hB0.trans (hB3.mono hB0.size)).trans (hB4.mono (Nat.le_trans hB0.size hB3.size))⟩
    · rw [hw4, hg0]
      simpa [imgV, Sv, hu0] using ho
    · simp only [List.mem_singleton] at hl
      subst hl
      exact ⟨hA0.ok.blocks, by simp [StS.new]⟩
    · have e : g0 = k := by injection hk
      refine ⟨fun hf => ?_, fun hf => ?_⟩
      · have := hBo.prog.lt hf
        omega
      · have := hBo.ref.lt hf
        omega
  rw [← hw4, ← hg0]
  have H4 := Lib.hid hX4
  clear hw4 hg0 hX4
  have d1 : decide ((n : Int) < 1) = false := decide_eq_false (by omega)
  have d2 : decide ((4096 : Int) < (n : Int)) = false := decide_eq_false (by omega)
  have d3 : decide ((20 : Int) < (n : Int)) = false := decide_eq_false (by omega)
  dsimp only
  go_upto_region 13 with (fail)
  clear d1 d2 d3 q1 q2 q3
  go_wp2_with (fail)
  go_loopw [10, 107] (fun iv v wr => ∃ i : Nat, i ≤ N ∧ i ≤ 40 ∧ v = .int .i64 (i : Int) ∧ PR w1 w1.heap.size pb rb n i iv wr) (fun _ v _ => N - (intOf v).toNat)
  case atStart => exact ⟨0, Nat.zero_le _, Nat.zero_le _, rfl, _, _, _, _, H4.out⟩
  case round =>
    obtain ⟨i, hi, hi4, rfl, f, rf, s, ims, hX⟩ := hrel
    have HX := Lib.hid hX
    clear hX
    by_cases hlt : i < N
    · have hi0 : (0 : Int) ≤ (i : Int) ∧ (i : Int) < N := by omega
      obtain ⟨o, ho⟩ : ∃ o, ops[i]? = some o := ⟨_, List.getElem?_eq_getElem (by rw [← HN.out]; exact hlt)⟩
      obtain ⟨ab, off, rfl, hq⟩ : ∃ ab off, la = some ⟨ab, off, none⟩ ∧ w.rangeAt ab (off + i * 5) o.cells := by
        rcases HI.out.1.2 with h | ⟨ab, off, h1, h2⟩
        · have := HN.out; omega
        · exact ⟨ab, off, h1, h2 i o ho⟩
      have hg := HI.out.1.1 o (List.mem_of_getElem? ho)
      have hBw : Below w.heap.size w wr := H1.out.trans (HX.out.below.mono H1.out.size)
      have hab : ab < w.heap.size := block_lt_of_cell (hq 0 _ rfl)
      have hq' : wr.rangeAt ab (off + i * 5) o.cells := range_block hq (hBw.block ab hab)
      obtain ⟨oc, hoc⟩ : ∃ oc, oc = o.cells := ⟨_, rfl⟩
      have hol : oc.length = 5 := by rw [hoc]; rfl
      rw [← hoc] at hq'
      have HO := Lib.hid (And.intro ho (And.intro hg (And.intro hBw (And.intro hq' (And.intro hoc hol)))))
      clear ho hg hBw hq hq' hab hoc hol
      go_upto_region 15 with (fail)
      refine wp_region_lit ?_
      iterate 6 go_step
      refine wpList_load_mid rfl _ _ rfl ab (off + i * 5) rfl oc _ HO.out.2.2.2.1 Try.underlying47 rfl (by rw [HO.out.2.2.2.2.2]; kernel_rfl) ?_
      iterate 6 go_step
      refine wpList_store_row rfl _ _ _ rfl wr.heap.size oc.toArray rfl rfl 47 _ (heap_alloc_new wr _) (by simp only [List.size_toArray, HO.out.2.2.2.2.2]; kernel_rfl) (by simp only [List.size_toArray, HO.out.2.2.2.2.2]; rfl)
        (by rw [HO.out.2.2.2.2.1]; exact all_oneCell_toArray (OpL.one o)) ?_
      obtain ⟨w5, hw5⟩ : ∃ W, W = (wr.alloc (.cells #[.int .i64 0, .int .i64 0, .int .i64 0, .slice none 0 0, .slice none 0 0] 47)).setRow wr.heap.size oc.toArray := ⟨_, rfl⟩
      obtain ⟨ib, hib⟩ : ∃ b, b = wr.heap.size := ⟨_, rfl⟩
      have hB5 : Below wr.heap.size wr w5 := by
        rw [hw5]
        exact below_setRow ((Below.refl _ wr).alloc (Nat.le_refl _) _) (Nat.le_refl _) _
      have hrow : w5.heap[ib]? = some (.cells o.cells.toArray 47 (0, 0)) := by
        rw [hw5, hib, ← HO.out.2.2.2.2.1]
        exact setRow_heap _ _ _ _ _ _ (heap_alloc_new wr _)
      rw [← hw5, ← hib]
      have hX5 := HX.out.far HX.out.below.size hB5
      have hibr : ∀ k, f.has k ∨ rf.has k → k < ib := fun k hk => by
        rcases hk with h | h
        · have := HX.out.both.prog.lt h; omega
        · have := HX.out.both.ref.lt h; omega
      have H5 := Lib.hid (And.intro hX5 (And.intro hrow (And.intro hibr (HO.out.2.2.1.trans (hB5.mono HO.out.2.2.1.size)))))
      clear hw5 hib hB5 hrow hX5 hibr
      by_cases h40 : i = 40
      · subst h40
        go_wp2_with (fail)
        go_ret
        exact ⟨rfl, H5.out.2.2.2⟩
      · have h40' : ¬ (40 : Int) ≤ (i : Int) := by omega
        obtain ⟨g, ic, rfl, -, -⟩ := H5.out.1.imgs.form1 (by rw [List.length_map, H5.out.1.count]; omega)
        have himgs := H5.out.1.imgs
        have hpl := played_any (w := w5.drew) (w0 := w) (H5.out.1.both.far ⟨rfl, rfl, rfl, Nat.le_refl _, fun _ _ => rfl⟩) o HO.out.2.1 H1.out.size H5.out.1.below.size (H5.out.2.2.2.trans ⟨rfl, rfl, rfl, Nat.le_refl _, fun _ _ => rfl⟩) (by have := H5.out.1.few; omega) g ic ims (by rw [H5.out.1.count]; omega) (by rw [H5.out.1.count]; omega)
          (fun j hj => by
            have h1 := himgs.cellAt j (by simpa using hj)
            refine Eq.trans (show _ = w5.cell? ⟨g, j, none⟩ from rfl) (h1.trans ?_)
            simp [imgV, List.getD_eq_getElem?_getD, hj]) (fun l hl => by rw [H5.out.1.len]; exact H5.out.1.good l hl)
        rw [H5.out.1.pb, H5.out.1.rb] at hpl
        have HPL := Lib.hid hpl
        clear himgs hpl
        rw [List.length_map]
        go_upto_region 18 with (fail)
        go_cut [148] from 114 to 148 (fun s148 wx => s148 = .bool false ∧ PM w1 w1.heap.size pb rb n i (.slice (some ⟨g, 0, none⟩) ims.length ic) wx)
        case first =>
          have hB5d : Below w5.heap.size w5 w5.drew := ⟨rfl, rfl, rfl, Nat.le_refl _, fun _ _ => rfl⟩
          have hX5d := H5.out.1.far H5.out.1.below.size hB5d
          have hrowd : w5.drew.heap[ib]? = some (.cells o.cells.toArray 47 (0, 0)) := H5.out.2.1
          have HX5d := Lib.hid (And.intro hX5d hrowd)
          have K0 : Hid (BoxS ib o o.bs.length o.keep.length w5.drew) := by
            refine ⟨?_, ?_, ?_, ?_, ?_⟩ <;> (rw [cell_of_row _ _ _ _ _ _ hrowd]; rfl)
          clear hB5d hX5d hrowd
          refine wp_region_held_drew (S := BoxS ib o o.bs.length o.keep.length) (by kernel_rfl) K0.out (fun hHeld => ?_)
          refine takeL (i := 0) rfl (by kernel_rfl) (by kernel_rfl) (by kernel_rfl) (fun _ _ _ h => h) (.inl ⟨by rfl, fun w hSw => by go_simp; rfl⟩) hHeld ?_
          simp only [Act.put, List.setIfInBounds_toArray, List.set_cons_zero, List.set_cons_succ]
          refine takeL (i := 1) rfl (by kernel_rfl) (by kernel_rfl) (by kernel_rfl) (fun _ _ _ h => h) (.inl ⟨by rfl, fun w hSw => by go_simp; rfl⟩) hHeld ?_
          simp only [Act.put, List.setIfInBounds_toArray, List.set_cons_zero, List.set_cons_succ]
          refine takeL (i := 2) rfl (by kernel_rfl) (by kernel_rfl) (by kernel_rfl) (fun _ _ _ h => h) (.inl ⟨by rfl, fun w hSw => by (have hS1 := hSw.1; have hS2 := hSw.2.1; have hS3 := hSw.2.2.1; have hS4 := hSw.2.2.2.1; have hS5 := hSw.2.2.2.2); go_simp; rfl⟩) hHeld ?_
          simp only [Act.put, List.setIfInBounds_toArray, List.set_cons_zero, List.set_cons_succ]
          refine takeL (i := 3) rfl (by kernel_rfl) (by kernel_rfl) (by kernel_rfl) (fun _ _ _ h => h) (.inl ⟨by rfl, fun w hSw => by go_simp; rfl⟩) hHeld ?_
          simp only [Act.put, List.setIfInBounds_toArray, List.set_cons_zero, List.set_cons_succ]
          refine oneL 4 rfl (by kernel_rfl) rfl (fun K hK => ?_)
          go_simp
          refine HPL.out.mono ?_
          rintro e w6 ⟨rfl, s1, hL1, hW1, hBE⟩
          obtain ⟨f6, rf6, hX6, hmv⟩ := HX5d.out.1.played HX5d.out.1.below.size hL1 hW1 hBE
          have hrow6 := (hmv.block ib (Array.getElem?_eq_some_iff.1 HX5d.out.2).1 fun e => Nat.lt_irrefl _ (H5.out.2.2.1 ib e)).trans HX5d.out.2
          have K6 : BoxS ib o o.bs.length o.keep.length w6 := by
            refine ⟨?_, ?_, ?_, ?_, ?_⟩ <;> (rw [cell_of_row _ _ _ _ _ _ hrow6]; rfl)
          obtain ⟨z, bz, wa, wc, WL, L1, u1, hz, hcs, hoff, hwt, himg, hrim⟩ := hX6.asked (by have := hX6.few; omega)
          have K6b : BoxS ib o o.bs.length o.keep.length w6 ∧ w6.cell? ⟨rb, 2, none⟩ = some (.int .i64 z) ∧ w6.cell? ⟨rb, 1, none⟩ = some (.slice wa WL wc) := ⟨K6, hcs w6 (Below.refl _ _)⟩
          have HA := Lib.hid (And.intro hX6 (And.intro hcs (And.intro hoff (And.intro hwt (And.intro himg (And.intro hrim (And.intro hrow6 K6b)))))))
          refine hK _ _ K6 ?_
          clear hL1 hW1 hBE hX6 hmv hrow6 hcs hoff hwt himg hrim hHeld K6 hK
          clear K0 HPL HX5d H5 HI H1 H2 H3 H4 HX HO
          refine wpAnyH_stronger (S' := fun w' => BoxS ib o o.bs.length o.keep.length w' ∧ w'.cell? ⟨rb, 2, none⟩ = some (.int .i64 z) ∧ w'.cell? ⟨rb, 1, none⟩ = some (.slice wa WL wc)) (fun _ h => h.1) _ _ _ _ ?_
          have hHeld := K6b
          clear K6b
          refine takeL (i := 5) rfl (by kernel_rfl) (by kernel_rfl) (by kernel_rfl) (fun _ _ _ h => h) (.inl ⟨by rfl, fun w hSw => by go_simp; rfl⟩) hHeld ?_
          simp only [Act.put, List.setIfInBounds_toArray, List.set_cons_zero, List.set_cons_succ]
          refine takeL (i := 6) rfl (by kernel_rfl) (by kernel_rfl) (by kernel_rfl) (fun _ _ _ h => h) (.inl ⟨by rfl, fun w hSw => by go_simp; rfl⟩) hHeld ?_
          simp only [Act.put, List.setIfInBounds_toArray, List.set_cons_zero, List.set_cons_succ]
          refine takeL (i := 7) rfl (by kernel_rfl) (by kernel_rfl) (by kernel_rfl) (fun _ _ _ h => h) (.inl ⟨by rfl, fun w hSw => by go_simp; rfl⟩) hHeld ?_
          simp only [Act.put, List.setIfInBounds_toArray, List.set_cons_zero, List.set_cons_succ]
          refine takeL (i := 9) rfl (by kernel_rfl) (by kernel_rfl) (by kernel_rfl) (fun _ _ _ h => h) (.inl ⟨by rfl, fun w hSw => by go_simp; rfl⟩) hHeld ?_
          simp only [Act.put, List.setIfInBounds_toArray, List.set_cons_zero, List.set_cons_succ]
          refine takeL (i := 10) rfl (by kernel_rfl) (by kernel_rfl) (by kernel_rfl) (fun _ _ _ h => h) (.inl ⟨by rfl, fun w hSw => by go_simp; rfl⟩) hHeld ?_
          simp only [Act.put, List.setIfInBounds_toArray, List.set_cons_zero, List.set_cons_succ]
          refine takeL (i := 11) rfl (by kernel_rfl) (by kernel_rfl) (by kernel_rfl) (fun _ _ _ h => h) (.inl ⟨by rfl, fun w hSw => by go_simp; rfl⟩) hHeld ?_
          simp only [Act.put, List.setIfInBounds_toArray, List.set_cons_zero, List.set_cons_succ]
          refine takeL (i := 12) rfl (by kernel_rfl) (by kernel_rfl) (by kernel_rfl) (fun _ _ _ h => h) (.inl ⟨by rfl, fun w hSw => by (have hS1 := hSw.2.1); go_simp; rfl⟩) hHeld ?_
          simp only [Act.put, List.setIfInBounds_toArray, List.set_cons_zero, List.set_cons_succ]
          refine takeL (i := 13) rfl (by kernel_rfl) (by kernel_rfl) (by kernel_rfl) (fun _ _ _ h => h) (.inl ⟨by rfl, fun w hSw => by go_simp; rfl⟩) hHeld ?_
          simp only [Act.put, List.setIfInBounds_toArray, List.set_cons_zero, List.set_cons_succ]
          refine oneW 8 rfl (by kernel_rfl) rfl (fun K hK => ?_)
          go_simp
          refine HA.out.2.2.1.mono ?_
          rintro e w9 ⟨rfl, rfl⟩
          refine hK _ _ hHeld ?_
          clear hK
          try simp only [Act.put, List.setIfInBounds_toArray, List.set_cons_zero, List.set_cons_succ]
          refine takeL (i := 14) rfl (by kernel_rfl) (by kernel_rfl) (by kernel_rfl) (fun _ _ _ h => h) (.inl ⟨by rfl, fun w hSw => by go_simp; rfl⟩) hHeld ?_
          simp only [Act.put, List.setIfInBounds_toArray, List.set_cons_zero, List.set_cons_succ]
          refine takeL (i := 15) rfl (by kernel_rfl) (by kernel_rfl) (by kernel_rfl) (fun _ _ _ h => h) (.inl ⟨by rfl, fun w hSw => by go_simp; rfl⟩) hHeld ?_
          simp only [Act.put, List.setIfInBounds_toArray, List.set_cons_zero, List.set_cons_succ]
          refine takeL (i := 16) rfl (by kernel_rfl) (by kernel_rfl) (by kernel_rfl) (fun _ _ _ h => h) (.inl ⟨by rfl, fun w hSw => by go_simp; rfl⟩) hHeld ?_
          simp only [Act.put, List.setIfInBounds_toArray, List.set_cons_zero, List.set_cons_succ]
          refine takeL (i := 17) rfl (by kernel_rfl) (by kernel_rfl) (by kernel_rfl) (fun _ _ _ h => h) (.inl ⟨by rfl, fun w hSw => by go_simp; rfl⟩) hHeld ?_
          simp only [Act.put, List.setIfInBounds_toArray, List.set_cons_zero, List.set_cons_succ]
          refine takeL (i := 20) rfl (by kernel_rfl) (by kernel_rfl) (by kernel_rfl) (fun _ _ _ h => h) (.inl ⟨by rfl, fun w hSw => by go_simp; rfl⟩) hHeld ?_
          simp only [Act.put, List.setIfInBounds_toArray, List.set_cons_zero, List.set_cons_succ]
          refine takeL (i := 21) rfl (by kernel_rfl) (by kernel_rfl) (by kernel_rfl) (fun _ _ _ h => h) (.inl ⟨by rfl, fun w hSw => by go_simp; rfl⟩) hHeld ?_
          simp only [Act.put, List.setIfInBounds_toArray, List.set_cons_zero, List.set_cons_succ]
          refine takeL (i := 22) rfl (by kernel_rfl) (by kernel_rfl) (by kernel_rfl) (fun _ _ _ h => h) (.inl ⟨by rfl, fun w hSw => by go_simp; rfl⟩) hHeld ?_
          simp only [Act.put, List.setIfInBounds_toArray, List.set_cons_zero, List.set_cons_succ]
          refine takeL (i := 23) rfl (by kernel_rfl) (by kernel_rfl) (by kernel_rfl) (fun _ _ _ h => h) (.inl ⟨by rfl, fun w hSw => by (have hS1 := hSw.2.2); go_simp; rfl⟩) hHeld ?_
          simp only [Act.put, List.setIfInBounds_toArray, List.set_cons_zero, List.set_cons_succ]
          refine takeL (i := 24) rfl (by kernel_rfl) (by kernel_rfl) (by kernel_rfl) (fun _ _ _ h => h) (.inl ⟨by rfl, fun w hSw => by go_simp; rfl⟩) hHeld ?_
          simp only [Act.put, List.setIfInBounds_toArray, List.set_cons_zero, List.set_cons_succ]
          refine oneW 18 rfl (by kernel_rfl) rfl (fun K hK => ?_)
          go_simp
          refine HA.out.2.2.2.1.mono ?_
          rintro e w7 ⟨a7, c7, rfl, hB7⟩
          have hrow7 := (hB7.block ib (Array.getElem?_eq_some_iff.1 HA.out.2.2.2.2.2.2.1).1).trans HA.out.2.2.2.2.2.2.1
          have K7 : BoxS ib o o.bs.length o.keep.length w7 ∧ w7.cell? ⟨rb, 2, none⟩ = some (.int .i64 z) ∧ w7.cell? ⟨rb, 1, none⟩ = some (.slice wa WL wc) :=
            ⟨by refine ⟨?_, ?_, ?_, ?_, ?_⟩ <;> (rw [cell_of_row _ _ _ _ _ _ hrow7]; rfl), HA.out.2.1 w7 hB7⟩
          refine hK _ _ K7 ?_
          have H7 := Lib.hid (And.intro hB7 hrow7)
          clear hK hHeld hB7 hrow7
          have hHeld := K7
          clear K7
          try simp only [Act.put, List.setIfInBounds_toArray, List.set_cons_zero, List.set_cons_succ]
          refine takeL (i := 19) rfl (by kernel_rfl) (by kernel_rfl) (by kernel_rfl) (fun _ _ _ h => h) (.inl ⟨by rfl, fun w hSw => by go_simp; rfl⟩) hHeld ?_
          simp only [Act.put, List.setIfInBounds_toArray, List.set_cons_zero, List.set_cons_succ]
          refine takeL (i := 25) rfl (by kernel_rfl) (by kernel_rfl) (by kernel_rfl) (fun _ _ _ h => h) (.inl ⟨by rfl, fun w hSw => by go_simp; rfl⟩) hHeld ?_
          simp only [Act.put, List.setIfInBounds_toArray, List.set_cons_zero, List.set_cons_succ]
          refine takeL (i := 26) rfl (by kernel_rfl) (by kernel_rfl) (by kernel_rfl) (fun _ _ _ h => h) (.inl ⟨by rfl, fun w hSw => by go_simp; rfl⟩) hHeld ?_
          simp only [Act.put, List.setIfInBounds_toArray, List.set_cons_zero, List.set_cons_succ]
          refine takeL (i := 27) rfl (by kernel_rfl) (by kernel_rfl) (by kernel_rfl) (fun _ _ _ h => h) (.inl ⟨by rfl, fun w hSw => by go_simp; rfl⟩) hHeld ?_
          simp only [Act.put, List.setIfInBounds_toArray, List.set_cons_zero, List.set_cons_succ]
          refine takeL (i := 28) rfl (by kernel_rfl) (by kernel_rfl) (by kernel_rfl) (fun _ _ _ h => h) (.inl ⟨by rfl, fun w hSw => by go_simp; rfl⟩) hHeld ?_
          simp only [Act.put, List.setIfInBounds_toArray, List.set_cons_zero, List.set_cons_succ]
          refine takeL (i := 31) rfl (by kernel_rfl) (by kernel_rfl) (by kernel_rfl) (fun _ _ _ h => h) (.inl ⟨by rfl, fun w hSw => by go_simp; rfl⟩) hHeld ?_
          simp only [Act.put, List.setIfInBounds_toArray, List.set_cons_zero, List.set_cons_succ]
          refine oneW 29 rfl (by kernel_rfl) rfl (fun K hK => ?_)
          go_simp
          refine (HA.out.2.2.2.2.1 _ H7.out.1).mono ?_
          rintro e w8 ⟨a8, c8, rfl, hcv8, hB8⟩
          have hrow8 := (hB8.block ib (Array.getElem?_eq_some_iff.1 H7.out.2).1).trans H7.out.2
          have hB68 := H7.out.1.trans (hB8.mono H7.out.1.size)
          have K8 : BoxS ib o o.bs.length o.keep.length w8 ∧ w8.cell? ⟨rb, 2, none⟩ = some (.int .i64 z) ∧ w8.cell? ⟨rb, 1, none⟩ = some (.slice wa WL wc) :=
            ⟨by refine ⟨?_, ?_, ?_, ?_, ?_⟩ <;> (rw [cell_of_row _ _ _ _ _ _ hrow8]; rfl), HA.out.2.1 w8 hB68⟩
          refine hK _ _ K8 ?_
          have H8 := Lib.hid hB68
          clear hK hHeld hB8 hrow8 hB68
          refine wpAnyH_stronger (S' := fun w' => (BoxS ib o o.bs.length o.keep.length w' ∧ w'.cell? ⟨rb, 2, none⟩ = some (.int .i64 z) ∧ w'.cell? ⟨rb, 1, none⟩ = some (.slice wa WL wc)) ∧ (convert 28 9 (.slice a8 L1 c8)).run Try.prog w' = .ok (.string u1) w') (fun _ h => h.1) _ _ _ _ ?_
          have hHeld := And.intro K8 hcv8
          clear K8 hcv8
          try simp only [Act.put, List.setIfInBounds_toArray, List.set_cons_zero, List.set_cons_succ]
          refine takeL (i := 30) rfl (by kernel_rfl) (by kernel_rfl) (by kernel_rfl) (fun _ _ _ h => h) (.inl ⟨by rfl, fun w hSw => by (have hS1 := hSw.2); go_simp; rfl⟩) hHeld ?_
          simp only [Act.put, List.setIfInBounds_toArray, List.set_cons_zero, List.set_cons_succ]
          refine oneW 32 rfl (by kernel_rfl) rfl (fun K hK => ?_)
          go_simp
          refine (HA.out.2.2.2.2.2.1 _ H8.out).mono ?_
          rintro e w9 ⟨rfl, rfl⟩
          refine hK _ _ hHeld ?_
          clear hK
          try simp only [Act.put, List.setIfInBounds_toArray, List.set_cons_zero, List.set_cons_succ]
          refine takeL (i := 33) rfl (by kernel_rfl) (by kernel_rfl) (by kernel_rfl) (fun _ _ _ h => h) (.inl ⟨by rfl, fun w hSw => by go_simp; rfl⟩) hHeld ?_
          simp only [Act.put, List.setIfInBounds_toArray, List.set_cons_zero, List.set_cons_succ]
          refine takeL (i := 34) rfl (by kernel_rfl) (by kernel_rfl) (by kernel_rfl) (fun _ _ _ h => h) (.inl ⟨by rfl, fun w hSw => by go_simp; rfl⟩) hHeld ?_
          simp only [Act.put, List.setIfInBounds_toArray, List.set_cons_zero, List.set_cons_succ]
          refine wpAnyH_done (by kernel_rfl) ?_ _
          clear hHeld
          have HZ := Lib.hid (HA.out.1.far HA.out.1.below.size H8.out)
          clear HA H7 H8
          go_wp2_with (fail)
          go_meet
          case rel => exact ⟨rfl, _, _, _, _, by simpa only [List.length_map] using HZ.out⟩
        case rest =>
          obtain ⟨rfl, f1, rf1, s1, ims1, hX1⟩ := hcut
          have hW1 : s1.W.length < 1000 := by have := hX1.few; omega
          have hwt := swaits_any hX1.both.prog hW1
          rw [hX1.pb] at hwt
          have HX1 := Lib.hid (And.intro hX1 (And.intro hW1 hwt))
          clear hX1 hW1 hwt
          go_wp2_with (fail)
          refine HX1.out.2.2.mono ?_
          rintro e w7 ⟨v7, rfl, hO7, hB7⟩
          obtain ⟨a7, c7, rfl⟩ := hO7.form
          have hX7 := HX1.out.1.far HX1.out.1.below.size hB7
          obtain ⟨_, ⟨wa, wc, hwv⟩, _⟩ := hX7.both.ref.slice
          have d1 : w7.cell? ⟨rb, 1, none⟩ = some (.slice wa s1.W.length wc) := by rw [← hX7.rb, hX7.both.ref.cell1, hwv]
          have him := rimage_any hX7.both.ref
          rw [hX7.rb] at him
          obtain ⟨u1, hu1⟩ : ∃ u, Sv (flatB s1.L) = .string u := ⟨_, rfl⟩
          rw [hu1] at him
          have H7 := Lib.hid (And.intro hX7 (And.intro hO7 (And.intro hwv (And.intro hu1 him))))
          rw [show (atsOf s1.W).length = s1.W.length from by simp [atsOf]]
          have hW1 := HX1.out.2.1
          clear hX7 hB7 hO7 hwv hu1 him
          dsimp only
          go_wp2_with (fail)
          go_loopw [152] (fun u wr => ∃ j : Nat, j ≤ s1.W.length ∧ u = .int .i64 (j : Int) ∧ wr = w7) (fun u _ => s1.W.length - (intOf u).toNat)
          case atStart => exact ⟨0, Nat.zero_le _, rfl, rfl⟩
          case round =>
            obtain ⟨j, hj, rfl, rfl⟩ := hrel
            by_cases hlt2 : j < s1.W.length
            · have hj0 : (0 : Int) ≤ (j : Int) ∧ (j : Int) < s1.W.length := by omega
              obtain ⟨x, hx⟩ : ∃ x, s1.W[j]? = some x := ⟨_, List.getElem?_eq_getElem hlt2⟩
              obtain ⟨q, rfl, x0, -⟩ := rwait_cells H7.out.1.both.ref.waits H7.out.2.2.1 hx
              obtain ⟨g7, c8, he, -, -⟩ := H7.out.2.1.form1 (by simpa [atsOf] using Nat.lt_of_le_of_lt (Nat.zero_le _) hlt2)
              obtain rfl : a7 = some ⟨g7, 0, none⟩ := by injection he
              have x1 : wr.cell? ⟨g7, j, none⟩ = some (.int .i64 (x.1 : Int)) := by
                refine (H7.out.2.1.cellAt j (by simpa [atsOf] using hlt2)).trans ?_
                simp [atsOf, hx]
              obtain ⟨xk, xb⟩ := x
              dsimp only at x0 x1
              clear hx hlt2
              go_wp2_with (fail)
              exact ⟨⟨j + 1, by omega, by go_num, trivial⟩, by simp [intOf]; omega⟩
            · obtain rfl : j = s1.W.length := by omega
              clear hlt2
              go_wp2_with (fail)
              refine H7.out.2.2.2.2.mono ?_
              rintro e w9 ⟨rfl, rfl⟩
              dsimp only
              iterate 1 go_step
              refine wp_slice1_img rfl _ rfl u1 rfl ?_
              have hX7 := H7.out.1
              have hi7 := hX7.imgs.far ((Below.refl _ w9).alloc (Nat.le_refl _) (.cells #[.string u1] 9))
              rw [show Value.slice (some ⟨g, 0, none⟩) ims.length ic = Value.slice (some ⟨g, 0, none⟩) ims.length ic from rfl] at hi7
              refine wpList_push Try.underlying44 infoStr rfl rfl (.tmp 168) (.tmp 171) rfl w1.heap.size _ (ims1.map imgV) rfl hi7 (.string u1) w9.heap.size rfl (by rw [cell_of_row _ _ _ _ _ _ (heap_alloc_new w9 _)]; rfl) rfl (by rw [List.length_map, hX7.count]; omega) (by have := hX7.below.size; simp; omega) (by decide) ?_
              intro v11 w11 hO11 hg11 hv11
              have hX11 := hX7.grow hX7.below.size H7.out.2.2.2.1 hO11 hg11 hv11
              have H11 := Lib.hid hX11
              clear hX7 hi7 hO11 hg11 hv11 hX11
              dsimp only
              go_wp2_with (fail)
              exact ⟨⟨i + 1, by omega, by omega, by go_num, _, _, _, _, H11.out⟩, by simp [intOf]; omega⟩
    · obtain rfl : i = N := by omega
      go_wp2_with (fail)
      go_ret
      exact ⟨rfl, H1.out.trans (HX.out.below.mono H1.out.size)⟩
end Go.Proofs.Ytggecfecodoigaa
