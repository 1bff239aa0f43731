/-
  Part 15 of 42 of what the proof leans on.
-/
import Derived.Test.YtdmnhgbdeifpbaaDoorO13
import Derived.Test.YtdmnhgbdeifpbaaDoorO14
import Derived.Deep.WholeRow
import Derived.Deep.Cut
import Derived.Lib.Hide
import Derived.Test.YtdmnhgbdeifpbaaDoorO2
import Derived.Laws.CopyOwn
import Derived.Deep.CutRange
namespace Go.Proofs.YtdmnhgbdeifpbaaDoor
open Go.RowKit
def Sched (f : Nat → BitVec 8) : Array Value := Array.ofFn (n := 64) fun i => W (sched f i)
def S1 (f : Nat → BitVec 8) (t : Nat) (c : Array Value) : Prop := c.size = 64 ∧ ∀ j < t, c[j]? = some (W (sched f j))
theorem S1_step (f : Nat → BitVec 8) (t : Nat) (c : Array Value) (h : S1 f t c) (ht : t < 64) : S1 f (t + 1) (c.setIfInBounds t (W (sched f t))) := by
  refine ⟨by simp [h.1], fun j hj => ?_⟩
  rw [Array.getElem?_setIfInBounds]
  split
  · rename_i e
    subst e
    rw [if_pos (by rw [h.1]; exact ht)]
  · exact h.2 j (by omega)
theorem S1_all (f : Nat → BitVec 8) (c : Array Value) (h : S1 f 64 c) : c = Sched f := by
  apply Array.ext
  · simp [Sched, h.1]
  · intro i h1 h2
    have h3 : i < 64 := by rw [← h.1]; exact h1
    have := h.2 i h3; rw [Array.getElem?_eq_getElem h1] at this; simp only [Option.some.injEq] at this; rw [this]; simp [Sched]
theorem Sched_one (f : Nat → BitVec 8) : (Sched f).all (·.oneCell') = true := by
  rw [Array.all_eq_true]; intro i hi; simp [Sched, W_oneCell]
theorem gen2 {P : Program} {c : Code} {Q : Exit → Act → World → Prop} {a : Act} {w : World} {t : TypeId} {Z : Array Value}
    (h : ∀ Z', Z'.size = Z.size → c.wp P Q a ((w.alloc (.cells Z' t)).alloc (.cells Z' t))) : c.wp P Q a ((w.alloc (.cells Z t)).alloc (.cells Z t)) := h Z rfl
set_option maxRecDepth 100000 in
set_option maxHeartbeats 400000 in
theorem schedule_any (w : World) (b : Nat) (hc : Array Value) (f : Nat → BitVec 8) (hb : w.heap[b]? = some (.cells hc 109 (0, 0)))
    (hf : ∀ j < 64, hc[8 + j]? = some (B (f j))) :
    Calls Tryd.prog 96 #[.pointer (some ⟨b, 0, none⟩)] w (Below0 w (.agg (Sched f))) := by
  have cB : ∀ w (x : BitVec 8), (convert 5 105 (B x)).run Tryd.prog w = .ok (W (x.setWidth 32)) w := fun w x => run_conv_B_W w _ _ x Tryd.underlying5 Tryd.underlying105
  go_enter Tryd.func96, Tryd.ntmps96
  go_upto_region 2 with (fail)
  refine gen2 (fun Z hZ => ?_); have hZ' : Z.size = 64 := hZ.trans rfl; clear hZ; have hbl : b < w.heap.size := (Array.getElem?_eq_some_iff.1 hb).1
  have hcell : ∀ j < 64, w.cell? ⟨b, 8 + j, none⟩ = some (B (f j)) := fun j hj => by rw [cell_of_row w b (8 + j) hc _ _ hb]; exact hf j hj
  have HC := Lib.hid hcell; have HB := Lib.hid hb; have HF := Lib.hid hf; have HZ := Lib.hid hZ'; clear hcell hb hf hZ'; go_wp2_with (fail)
  go_loopw [7] (fun k wr => ∃ (t n : Nat) (c : Array Value), t ≤ 16 ∧ k = .int .i64 t ∧ wr = ((w.alloc (.cells Z 132)).alloc (.cells c 132)).drewN n ∧ S1 f t c) (fun k _ => 16 - (intOf k).toNat)
  case atStart => exact ⟨0, 0, Z, by omega, rfl, rfl, HZ.out, fun j hj => by omega⟩
  case round =>
    obtain ⟨t, n, c, ht, rfl, rfl, hS⟩ := hrel
    by_cases hlt : t < 16
    · have c0 := HC.out (4 * t) (by omega)
      have c1 := HC.out (4 * t + 1) (by omega)
      have c2 := HC.out (4 * t + 2) (by omega)
      have c3 := HC.out (4 * t + 3) (by omega)
      rw [← Nat.add_assoc] at c1 c2 c3
      have hi : (0 : Int) ≤ (t : Int) ∧ (t : Int) < 64 := by omega
      obtain ⟨v, hct⟩ : ∃ v, c[t]? = some v := ⟨c[t]'(by rw [hS.1]; omega), Array.getElem?_eq_getElem (by rw [hS.1]; omega)⟩
      have HS := Lib.hid hS; clear hS
      have hsl : ∀ W', (Instr.sliceAt 107 (.pointer (some ⟨b, 8, none⟩)) (some (.int .i64 (4 * (t : Int)))) (some (.int .i64 (4 * (t : Int) + 4))) none).run Tryd.prog W' = .ok (.slice (some ⟨b, 8 + 4 * t, none⟩) 4 (64 - 4 * t)) W' := fun W' => by
        have := run_slice_arr 107 5 64 Tryd.underlying107 Tryd.sizeOf5 b 8 (4 * t) (4 * t + 4) (by omega) (by omega) (by omega) W' (4 * (t : Int)) (4 * (t : Int) + 4) (by omega) (by omega)
        rw [this]
        rw [show 4 * t + 4 - 4 * t = 4 by omega]
      go_wp2_with (fail)
      refine wp_region_quiet_tail 24 (by kernel_rfl) (by kernel_rfl) ?_
      simp only [List.take_succ_cons, List.take_zero, List.drop_succ_cons, List.drop_zero]
      repeat (quiet_step (fail))
      refine wpQuiet_nil ?_; intro _ hw'; obtain ⟨nq, hw''⟩ := hw'; subst hw''
      refine wpList_store1 rfl _ _ _ rfl ⟨w.heap.size + 1, t, none⟩ (W (sched f t)) v rfl (by rw [sched_lo f t hlt]; rfl) rfl rfl Tryd.sizeOf105 (by go_simp) (by go_simp) ?_
      go_wp2_with (fail)
      refine ⟨⟨t + 1, n + nq, c.setIfInBounds t (W (sched f t)), by omega, by go_num, setCell_last w _ c _ _ t _, S1_step f t c HS.out (by omega)⟩, by simp [intOf]; omega⟩
    · obtain rfl : t = 16 := by omega
      have HS := Lib.hid hS; clear hS ht hlt; go_wp2_with (fail); rw [show ((16 : Nat) : Int) = 16 from rfl]
      go_loopw [6] (fun k wr => ∃ (t n : Nat) (c : Array Value), 16 ≤ t ∧ t ≤ 64 ∧ k = .int .i64 t ∧ wr = ((w.alloc (.cells Z 132)).alloc (.cells c 132)).drewN n ∧ S1 f t c) (fun k _ => 64 - (intOf k).toNat)
      case atStart => exact ⟨16, n, c, by omega, by omega, rfl, rfl, HS.out⟩
      case round =>
        clear HS c n; obtain ⟨t, n, c, ht, hl, rfl, rfl, hS⟩ := hrel
        by_cases hlt : t < 64
        · have HS := Lib.hid hS; clear hS
          obtain ⟨a2, e2⟩ : ∃ a2 : Nat, (t : Int) - 2 = a2 := ⟨t - 2, by omega⟩
          obtain ⟨a7, e7⟩ : ∃ a7 : Nat, (t : Int) - 7 = a7 := ⟨t - 7, by omega⟩
          obtain ⟨a15, e15⟩ : ∃ a15 : Nat, (t : Int) - 15 = a15 := ⟨t - 15, by omega⟩
          obtain ⟨a16, e16⟩ : ∃ a16 : Nat, (t : Int) - 16 = a16 := ⟨t - 16, by omega⟩
          have g2 := HS.out.2 a2 (by omega)
          have g7 := HS.out.2 a7 (by omega)
          have g15 := HS.out.2 a15 (by omega)
          have g16 := HS.out.2 a16 (by omega)
          have i0 : (0 : Int) ≤ (t : Int) ∧ (t : Int) < 64 := by omega
          have i2 : (0 : Int) ≤ (a2 : Int) ∧ (a2 : Int) < 64 := by omega
          have i7 : (0 : Int) ≤ (a7 : Int) ∧ (a7 : Int) < 64 := by omega
          have i15 : (0 : Int) ≤ (a15 : Int) ∧ (a15 : Int) < 64 := by omega
          have i16 : (0 : Int) ≤ (a16 : Int) ∧ (a16 : Int) < 64 := by omega
          have w2 : IntKind.i64.wrap (a2 : Int) = a2 := IntWalk.i64_in _ (by omega)
          have w7 : IntKind.i64.wrap (a7 : Int) = a7 := IntWalk.i64_in _ (by omega)
          have w15 : IntKind.i64.wrap (a15 : Int) = a15 := IntWalk.i64_in _ (by omega)
          have w16 : IntKind.i64.wrap (a16 : Int) = a16 := IntWalk.i64_in _ (by omega)
          have HE : Hid (sched f t = sp (sched f a2) 17 19 10 + sched f a7 + sp (sched f a15) 7 18 3 + sched f a16) := by
            show sched f t = _
            rw [sched_hi f t ht, show a2 = t - 2 by omega, show a7 = t - 7 by omega, show a15 = t - 15 by omega, show a16 = t - 16 by omega]
          go_wp2_with (fail)
          refine wp_region_quiet_tail 23 (by kernel_rfl) (by kernel_rfl) ?_
          simp only [List.take_succ_cons, List.take_zero, List.drop_succ_cons, List.drop_zero]
          repeat (quiet_step (fail))
          refine wpQuiet_step (fun K hK => ?_)
          go_simp
          apply Exists.intro
          refine ⟨fun _ => ?_, hK _ ?_⟩
          · exact quiet_of2 (spread1 _ _)
          clear hK K
          repeat (quiet_step (fail))
          refine wpQuiet_step (fun K hK => ?_)
          go_simp
          apply Exists.intro
          refine ⟨fun _ => ?_, hK _ ?_⟩
          · exact quiet_of2 (spread0 _ _)
          clear hK K
          repeat (quiet_step (fail))
          refine wpQuiet_nil ?_; intro _ hw'; obtain ⟨nq, hw''⟩ := hw'; subst hw''
          obtain ⟨v, hct⟩ : ∃ v, c[t]? = some v := ⟨c[t]'(by rw [HS.out.1]; omega), Array.getElem?_eq_getElem (by rw [HS.out.1]; omega)⟩
          refine wpList_store1 rfl _ _ _ rfl ⟨w.heap.size + 1, t, none⟩ (W (sched f t)) v rfl (by rw [HE.out]; rfl) rfl rfl Tryd.sizeOf105 (by go_simp) (by go_simp) ?_
          go_wp2_with (fail); go_roundw
          case rel => exact ⟨t + 1, n + nq, c.setIfInBounds t (W (sched f t)), by omega, by omega, by go_num, setCell_last w _ c _ _ t _, S1_step f t c HS.out (by omega)⟩
          case measure => simp [intOf]; omega
        · obtain rfl : t = 64 := by omega
          have HS := Lib.hid hS; clear hS ht hlt hl; have hlast : ∀ o1 o2 : Obj, (((w.alloc o1).alloc o2).drewN n).heap[w.heap.size + 1]? = some o2 := fun o1 o2 => heap_alloc2_new w o1 o2; have hfirst : ∀ o1 o2 : Obj, (((w.alloc o1).alloc o2).drewN n).heap[w.heap.size]? = some o1 := fun o1 o2 => heap_alloc2_old w o1 o2; have hc : c = Sched f := S1_all f c HS.out; subst hc
          have hi : (Tryd.prog.info? 132).map (·.size) = some (Sched f).size := by rw [show (Sched f).size = 64 by simp [Sched]]; kernel_rfl
          go_upto_region 12 with (fail)
          refine wp_region_lit ?_; refine wpList_load_row rfl _ _ rfl (w.heap.size + 1) rfl 132 (Sched f) (0, 0) _ (hlast _ _) Tryd.underlying132 rfl hi ?_
          refine wpList_store_row rfl _ _ _ rfl w.heap.size (Sched f) rfl rfl 132 Z (hfirst _ _) hi (by rw [HZ.out]; simp [Sched]) (Sched_one f) ?_
          go_wp2_with (fail)
          have hset : ((((w.alloc (.cells Z 132)).alloc (.cells (Sched f) 132)).drewN n).setRow w.heap.size (Sched f)).heap[w.heap.size]? = some (.cells (Sched f) 132 (0, 0)) :=
            setRow_heap _ _ Z _ _ _ (hfirst _ _)
          refine bodyPost_ret (v := .agg (Sched f)) (results_cell_row rfl _ _ w.heap.size 132 (Sched f) (0, 0) _ rfl hset Tryd.underlying132 rfl hi) rfl ⟨rfl, ?_⟩
          exact ((((Below.refl _ w).alloc (Nat.le_refl _) _).alloc (by simp) _).trans ⟨rfl, rfl, rfl, by simp, fun k hk => rfl⟩).trans ⟨rfl, rfl, rfl, by simp, fun k hk => setRow_other _ _ _ _ (by omega)⟩
end Go.Proofs.YtdmnhgbdeifpbaaDoor
namespace Go.Proofs.YtdmnhgbdeifpbaaDoor
open Go.RowKit
def FoldRel (f : Nat → BitVec 8) (s : St) (W2 : World) (a b c d e g h i k : Value) (wr : World) : Prop :=
  ∃ (t n : Nat), t ≤ 64 ∧ k = .int .i64 t ∧ wr = W2.drewN n ∧ a = W (rnds f s t).a ∧ b = W (rnds f s t).b ∧ c = W (rnds f s t).c ∧ d = W (rnds f s t).d ∧
    e = W (rnds f s t).e ∧ g = W (rnds f s t).f ∧ h = W (rnds f s t).g ∧ i = W (rnds f s t).h
def Roots (w : World) : Prop := ∀ i < 64, w.cell? ⟨1, i, none⟩ = some (W (kAt i))
def Folded (f : Nat → BitVec 8) (s : St) (k : Nat) (c c' : Array Value) : Prop :=
  c'.size = c.size ∧ (∀ i < k, c'[i]? = some (W ((compress f s).at i))) ∧ ∀ i, k ≤ i → c'[i]? = c[i]?
theorem Folded_step {f : Nat → BitVec 8} {s : St} {k : Nat} {c c' : Array Value} (h : Folded f s k c c') (hk : k < c.size) : Folded f s (k + 1) c (c'.setIfInBounds k (W ((compress f s).at k))) := by
  refine ⟨by simp [h.1], fun i hi => ?_, fun i hi => ?_⟩
  · rw [Array.getElem?_setIfInBounds]
    split
    · rename_i e
      subst e
      rw [if_pos (by rw [h.1]; exact hk)]
    · exact h.2.1 i (by omega)
  · rw [Array.getElem?_setIfInBounds, if_neg (by omega)]
    exact h.2.2 i (by omega)
def FoldRel2 (f : Nat → BitVec 8) (s : St) (W2 : World) (b : Nat) (c : Array Value) (k : Value) (wr : World) : Prop :=
  ∃ (t n : Nat) (c' : Array Value), t ≤ 8 ∧ k = .int .i64 t ∧ wr = (W2.setRow b c').drewN n ∧ Folded f s t c c'
def FoldEnd (f : Nat → BitVec 8) (s : St) (w : World) (b : Nat) (c : Array Value) (e : Ending) (w' : World) : Prop :=
  e = .returned (.tuple #[]) ∧ ∃ c', w'.heap[b]? = some (.cells c' 109 (0, 0)) ∧ Folded f s 8 c c' ∧ w.grownBy w' (some b)
theorem built8 (x0 x1 x2 x3 x4 x5 x6 x7 : BitVec 32) :
    Tryd.prog.built 106 [(0, W x0), (1, W x1), (2, W x2), (3, W x3), (4, W x4), (5, W x5), (6, W x6), (7, W x7)] = some #[W x0, W x1, W x2, W x3, W x4, W x5, W x6, W x7] := by kernel_rfl
theorem run_build8 (x0 x1 x2 x3 x4 x5 x6 x7 : BitVec 32) (w : World) :
    (Instr.build 106 #[(0, W x0), (1, W x1), (2, W x2), (3, W x3), (4, W x4), (5, W x5), (6, W x6), (7, W x7)]).run Tryd.prog w = .ok (.agg #[W x0, W x1, W x2, W x3, W x4, W x5, W x6, W x7]) w :=
  run_build w _ _ _ (built8 x0 x1 x2 x3 x4 x5 x6 x7)
set_option maxRecDepth 100000 in
set_option maxHeartbeats 4000000 in
theorem fold_any (w : World) (b : Nat) (c : Array Value) (f : Nat → BitVec 8) (s : St) (hb : w.heap[b]? = some (.cells c 109 (0, 0)))
    (hs : ∀ i < 8, c[i]? = some (W (s.at i))) (hf : ∀ j < 64, c[8 + j]? = some (B (f j))) (hr : Roots w) :
    Calls Tryd.prog 85 #[.pointer (some ⟨b, 0, none⟩)] w (FoldEnd f s w b c) := by
  have hbl : b < w.heap.size := (Array.getElem?_eq_some_iff.1 hb).1
  have h0 : w.cell? ⟨b, 0, none⟩ = some (W s.a) := (cell_of_row w b 0 c _ _ hb).trans (hs 0 (by omega))
  have h1 : w.cell? ⟨b, 1, none⟩ = some (W s.b) := (cell_of_row w b 1 c _ _ hb).trans (hs 1 (by omega))
  have h2 : w.cell? ⟨b, 2, none⟩ = some (W s.c) := (cell_of_row w b 2 c _ _ hb).trans (hs 2 (by omega))
  have h3 : w.cell? ⟨b, 3, none⟩ = some (W s.d) := (cell_of_row w b 3 c _ _ hb).trans (hs 3 (by omega))
  have h4 : w.cell? ⟨b, 4, none⟩ = some (W s.e) := (cell_of_row w b 4 c _ _ hb).trans (hs 4 (by omega))
  have h5 : w.cell? ⟨b, 5, none⟩ = some (W s.f) := (cell_of_row w b 5 c _ _ hb).trans (hs 5 (by omega))
  have h6 : w.cell? ⟨b, 6, none⟩ = some (W s.g) := (cell_of_row w b 6 c _ _ hb).trans (hs 6 (by omega))
  have h7 : w.cell? ⟨b, 7, none⟩ = some (W s.h) := (cell_of_row w b 7 c _ _ hb).trans (hs 7 (by omega))
  go_enter Tryd.func85, Tryd.ntmps85
  go_wp2_with (fail); refine (schedule_any w b c f hb hf).mono ?_; rintro e w1 ⟨rfl, hw1⟩; have hR : ∀ i < 64, w1.cell? ⟨1, i, none⟩ = some (W (kAt i)) := fun i hi =>
    (hw1.cell (p := ⟨1, i, none⟩) (block_lt_of_cell (hr i hi))).trans (hr i hi)
  have hgl : 1 < w.heap.size := block_lt_of_cell (hr 0 (by omega))
  have hgl1 : 1 < w1.heap.size := by have := hw1.size; omega
  have HK := Lib.hid hR; have HG := Lib.hid hgl; clear hR hr hgl
  have hbl1 : b < w1.heap.size := by have := hw1.size; omega
  have g : ∀ i, w1.cell? ⟨b, i, none⟩ = w.cell? ⟨b, i, none⟩ := fun i => hw1.cell (p := ⟨b, i, none⟩) hbl; rw [← g] at h0 h1 h2 h3 h4 h5 h6 h7; clear g; dsimp only; go_step; go_step; go_step; go_step
  have hi : (Tryd.prog.info? 132).map (·.size) = some (Sched f).size := by rw [show (Sched f).size = 64 by simp [Sched]]; kernel_rfl
  refine wpList_store_row rfl _ _ _ rfl w1.heap.size (Sched f) rfl rfl 132 _ (heap_alloc_new w1 _) hi (by simp [Sched]) (Sched_one f) ?_
  rw [World.setRow_alloc_new]
  have hS : ∀ j < 64, (Sched f)[j]? = some (W (sched f j)) := fun j hj => by simp [Sched, hj]
  generalize Sched f = C at hS ⊢
  have HS := Lib.hid hS; have HB := Lib.hid hb; have HF := Lib.hid hf; have HC := Lib.hid hs; have H1 := Lib.hid hw1; clear hS hi hb hf hs hw1; go_wp2_with (fail)
  go_quiet (fail)
  obtain ⟨W2, hW2⟩ : ∃ W2, W2 = (w1.alloc (.cells C 132)).alloc (.cells #[W s.a, W s.b, W s.c, W s.d, W s.e, W s.f, W s.g, W s.h] 106) := ⟨_, rfl⟩; rw [← hW2]; have HW2 := Lib.hid hW2; clear hW2 h0 h1 h2 h3 h4 h5 h6 h7; go_wp2_with (fail)
  go_loopw [4, 5, 6, 7, 8, 9, 10, 11, 39] (FoldRel f s W2) (fun _ _ _ _ _ _ _ _ k _ => 64 - (intOf k).toNat)
  case atStart => exact ⟨0, nq, by omega, rfl, rfl, rfl, rfl, rfl, rfl, rfl, rfl, rfl, rfl⟩
  case round =>
    obtain ⟨t, n, ht, rfl, rfl, rfl, rfl, rfl, rfl, rfl, rfl, rfl, rfl⟩ := hrel
    by_cases hlt : t < 64
    · obtain ⟨r, hr⟩ : ∃ r, r = rnds f s t := ⟨_, rfl⟩; rw [← hr]; have HR := Lib.hid hr; clear hr
      have i0 : (0 : Int) ≤ (t : Int) ∧ (t : Int) < 64 := by omega
      have cS : W2.cell? ⟨w1.heap.size, t, none⟩ = some (W (sched f t)) := by
        have e : W2.heap[w1.heap.size]? = some (.cells C 132 (0, 0)) := by rw [HW2.out]; exact heap_alloc2_old w1 _ _
        rw [cell_of_row W2 _ t C _ _ e]; exact HS.out t hlt
      have cR : W2.cell? ⟨1, t, none⟩ = some (W (kAt t)) := by
        have e : W2.heap[1]? = w1.heap[1]? := by rw [HW2.out, Below.heap_alloc _ _ _ (by simp; omega), Below.heap_alloc _ _ _ hgl1]
        have e2 : W2.cell? ⟨1, t, none⟩ = w1.cell? ⟨1, t, none⟩ := World.cell?_of_block e; rw [e2]; exact HK.out t hlt
      go_wp2_with (fail)
      refine wp_region_quiet_lit (by kernel_rfl) (by kernel_rfl) ?_
      repeat (quiet_step (fail))
      refine wpQuiet_step (fun K hK => ?_)
      go_simp
      apply Exists.intro
      refine ⟨fun _ => ?_, hK _ ?_⟩
      · exact quiet_same2 (turns1 _ _)
      clear hK K
      repeat (quiet_step (fail))
      refine wpQuiet_nil ?_; intro _ hw'; obtain ⟨nq, hw''⟩ := hw'; subst hw''; go_wp2_with (fail); refine (turns0 _ _).mono ?_; rintro e w' ⟨rfl, rfl⟩; dsimp only; go_wp2_with (fail)
      refine ⟨⟨t + 1, n + nq, by omega, by go_num, rfl, ?_⟩, by simp [intOf]; omega⟩
      rw [show rnds f s (t + 1) = rstep (rnds f s t) (kAt t) (sched f t) from rfl, ← HR.out]; exact ⟨rfl, rfl, rfl, rfl, rfl, rfl, rfl, rfl⟩
    · obtain rfl : t = 64 := by omega
      obtain ⟨r, hr⟩ : ∃ r, r = rnds f s 64 := ⟨_, rfl⟩; rw [← hr]; have HR := Lib.hid hr; clear hr ht hlt
      have hbW : W2.heap[b]? = some (.cells c 109 (0, 0)) := by
        rw [HW2.out, Below.heap_alloc _ _ _ (by simp; omega), Below.heap_alloc _ _ _ hbl1, H1.out.block b hbl]
        exact HB.out
      have hg : w.grownBy W2 (some b) := by
        rw [HW2.out]
        exact ⟨H1.out.os, H1.out.tape, H1.out.output, by have := H1.out.size; simp; omega, fun k hk _ => by
          have := H1.out.size
          rw [Below.heap_alloc _ _ _ (by simp; omega), Below.heap_alloc _ _ _ (by omega), H1.out.block k hk]⟩
      have hs8 : 8 ≤ c.size := by
        have := HC.out 7 (by omega)
        have := (Array.getElem?_eq_some_iff.1 this).1; omega
      have HBW := Lib.hid hbW; have HGR := Lib.hid hg; have HC8 := Lib.hid hs8; clear hbW hg hs8
      go_upto_region 10 with (fail)
      refine wp_region_lit ?_
      iterate 24 go_step
      refine wpList_plain rfl fun K hK => ?_; unfold Oper.wp execOp; simp only [Sem.run_bind, List.map_toArray, List.map_cons, List.map_nil, Act.eval]
      show Oper.upon _ _ _ _ _ (Result.andThen (Sem.run Tryd.prog (Instr.build 106 #[(0, W r.a), (1, W r.b), (2, W r.c), (3, W r.d), (4, W r.e), (5, W r.f), (6, W r.g), (7, W r.h)]) (W2.drewN n)) _)
      rw [run_build8]; refine hK _ _ ?_; clear hK K; go_wp2_with (fail)
      try rw [show ((64 : Nat) : Int) = 64 from rfl]
      go_loopw [99] (FoldRel2 f s W2 b c) (fun k _ => 8 - (intOf k).toNat)
      case atStart => exact ⟨0, n, c, by omega, rfl, by rw [setRow_self _ _ _ _ HBW.out], rfl, fun i hi => by omega, fun i _ => rfl⟩
      case round =>
        clear n; obtain ⟨t, n, c', ht, rfl, rfl, hF⟩ := hrel
        by_cases hlt : t < 8
        · have i0 : (0 : Int) ≤ (t : Int) ∧ (t : Int) < 8 := by omega
          have hix : ∀ W', (Instr.index 106 (.agg #[W r.a, W r.b, W r.c, W r.d, W r.e, W r.f, W r.g, W r.h]) (.int .i64 (t : Int))).run Tryd.prog W' = .ok (W (r.at t)) W' := fun W' =>
            run_index_arr _ 105 8 Tryd.underlying106 Tryd.sizeOf105 Tryd.isAgg105 _ t hlt _ (r.cell t hlt) W'
          have hrow : ((W2.setRow b c').drewN n).heap[b]? = some (.cells c' 109 (0, 0)) := setRow_heap W2 b c c' _ _ HBW.out
          have hval : ((W2.setRow b c').drewN n).cell? ⟨b, t, none⟩ = some (W (s.at t)) := by
            rw [cell_of_row _ b t c' _ _ hrow, hF.2.2 t (Nat.le_refl _)]; exact HC.out t hlt
          have hfro : ((W2.setRow b c').drewN n).frozen? ⟨b, t, none⟩ = false := frozen_of_row _ b t c' _ hrow; obtain ⟨W3, hW3⟩ : ∃ W3, W3 = (W2.setRow b c').drewN n := ⟨_, rfl⟩; rw [← hW3] at hval hfro ⊢; have HW3 := Lib.hid hW3; have HF2 := Lib.hid hF; clear hW3 hrow hF; go_wp2_with (fail)
          refine wp_region_quiet_tail 11 (by kernel_rfl) (by kernel_rfl) ?_
          simp only [List.take_succ_cons, List.take_zero, List.drop_succ_cons, List.drop_zero]
          repeat (quiet_step (fail))
          refine wpQuiet_nil ?_; intro _ hw'; obtain ⟨nq, hw''⟩ := hw'; subst hw''; refine wpList_store1 rfl _ _ _ rfl ⟨b, t, none⟩ (W (s.at t + r.at t)) (W (s.at t)) rfl rfl rfl rfl Tryd.sizeOf105 hval hfro ?_; go_wp2_with (fail)
          have hval2 : W (s.at t + r.at t) = W ((compress f s).at t) := by rw [compress, at_add _ _ _ hlt, HR.out]
          refine ⟨⟨t + 1, n + nq, c'.setIfInBounds t (W (s.at t + r.at t)), by omega, by go_num, ?_, ?_⟩, by simp [intOf]; omega⟩
          · rw [HW3.out]
            show World.drewN (World.setCell ((W2.setRow b c').drewN n) ⟨b, t, none⟩ _) nq = _
            rw [setCell_row W2 b t n c c' _ _ HBW.out, World.drewN_drewN]
          · rw [hval2]
            exact Folded_step HF2.out (by have := HC8.out; omega)
        · obtain rfl : t = 8 := by omega
          go_wp2_with (fail)
          go_end0
          refine ⟨rfl, c', setRow_heap W2 b c c' _ _ HBW.out, hF, ?_⟩; have hg := HGR.out
          exact ⟨hg.os, hg.tape, hg.output, by have := hg.size; show _ ≤ (W2.setRow b c').heap.size; rw [setRow_size]; exact this, fun k hk hne => by
            have : k ≠ b := fun e => hne (by rw [e])
            show (W2.setRow b c').heap[k]? = _
            rw [setRow_other _ _ _ _ this]
            exact hg.block k hk hne⟩
end Go.Proofs.YtdmnhgbdeifpbaaDoor
namespace Go.Proofs.YtdmnhgbdeifpbaaDoor
open Go.RowKit
def chain (g : Nat → BitVec 8) : Nat → St
  | 0 => firstSt
  | k + 1 => compress (fun j => g (64 * k + j)) (chain g k)
theorem sl_congr {f g : Nat → BitVec 8} (h : ∀ j < 64, f j = g j) : ∀ t, t ≤ 64 → sl f t = sl g t
  | 0, _ => rfl
  | t + 1, ht => by
    have ih := sl_congr h t (by omega)
    simp only [sl, ih]
    split
    · rw [h _ (by omega), h _ (by omega), h _ (by omega), h _ (by omega)]
    · rfl
theorem rnds_congr {f g : Nat → BitVec 8} (h : ∀ j < 64, f j = g j) (s : St) : ∀ t, t ≤ 64 → rnds f s t = rnds g s t
  | 0, _ => rfl
  | t + 1, ht => by
    rw [rnds, rnds, rnds_congr h s t (by omega), sched, sched, sl_congr h (t + 1) ht]
theorem compress_congr {f g : Nat → BitVec 8} (h : ∀ j < 64, f j = g j) (s : St) : compress f s = compress g s := by
  rw [compress, compress, rnds_congr h s 64 (by omega)]
theorem chain_congr {f g : Nat → BitVec 8} : ∀ k, (∀ i < 64 * k, f i = g i) → chain f k = chain g k
  | 0, _ => rfl
  | k + 1, h => by
    rw [chain, chain, chain_congr k (fun i hi => h i (by omega))]
    exact compress_congr (fun j hj => h _ (by omega)) _
def HashS (c : Array Value) (l : List (BitVec 8)) : Prop :=
  c.size = 73 ∧ c[72]? = some (.int .i64 (l.length : Int)) ∧ (∀ i < 8, c[i]? = some (W ((chain (gl l) (l.length / 64)).at i))) ∧
  ∃ f : Nat → BitVec 8, (∀ j < 64, c[8 + j]? = some (B (f j))) ∧ ∀ j < l.length % 64, f j = gl l (64 * (l.length / 64) + j)
def HashW (c : Array Value) (l : List (BitVec 8)) : Prop :=
  c.size = 73 ∧ c[72]? = some (.int .i64 (l.length : Int)) ∧ (∃ s : St, (∀ i < 8, c[i]? = some (W (s.at i))) ∧ (l ≠ [] → s = chain (gl l) (l.length / 64))) ∧
  ∃ f : Nat → BitVec 8, (∀ j < 64, c[8 + j]? = some (B (f j))) ∧ ∀ j < l.length % 64, f j = gl l (64 * (l.length / 64) + j)
theorem HashS.weak {c : Array Value} {l : List (BitVec 8)} (h : HashS c l) : HashW c l := ⟨h.1, h.2.1, ⟨_, h.2.2.1, fun _ => rfl⟩, h.2.2.2⟩
theorem HashW.strong {c : Array Value} {l : List (BitVec 8)} (h : HashW c l) (hl : l ≠ []) : HashS c l := by
  obtain ⟨h1, h2, ⟨s, h3, h4⟩, h5⟩ := h; rw [h4 hl] at h3; exact ⟨h1, h2, h3, h5⟩
def Spl (c : Array Value) (r : Nat) (x : List (BitVec 8)) (n : Nat) (c2 : Array Value) : Prop :=
  c2.size = c.size ∧ c2[72]? = some (.int .i64 (n : Int)) ∧ (∀ i < 8, c2[i]? = c[i]?) ∧
  ∀ j < 64, c2[8 + j]? = if r ≤ j ∧ j < r + x.length then some (B (gl x (j - r))) else c[8 + j]?
def laidF (f : Nat → BitVec 8) (r : Nat) (x : List (BitVec 8)) : Nat → BitVec 8 := fun j => if r ≤ j ∧ j < r + x.length then gl x (j - r) else f j
theorem laid_cells {c c2 : Array Value} {r n : Nat} {x : List (BitVec 8)} {f : Nat → BitVec 8} (hf : ∀ j < 64, c[8 + j]? = some (B (f j))) (hs : Spl c r x n c2) :
    ∀ j < 64, c2[8 + j]? = some (B (laidF f r x j)) := by
  intro j hj; rw [hs.2.2.2 j hj, laidF]
  split
  · rfl
  · exact hf j hj
theorem laid_is {l x : List (BitVec 8)} {f : Nat → BitVec 8} (hf : ∀ j < l.length % 64, f j = gl l (64 * (l.length / 64) + j)) :
    ∀ j < l.length % 64 + x.length, laidF f (l.length % 64) x j = gl (l ++ x) (64 * (l.length / 64) + j) := by
  intro j hj; have hd := Nat.div_add_mod l.length 64; rw [laidF]
  by_cases h : l.length % 64 ≤ j
  · rw [if_pos ⟨h, hj⟩, gl_right l x _ (by omega)]
    congr 1
    omega
  · rw [if_neg (by omega), gl_left l x _ (by omega)]
    exact hf j (by omega)
theorem HashS.more {c c2 : Array Value} {l x : List (BitVec 8)} (h : HashS c l) (hs : Spl c (l.length % 64) x (l.length + x.length) c2) (hq : l.length % 64 + x.length < 64) : HashS c2 (l ++ x) := by
  obtain ⟨h1, h2, h3, f, h4, h5⟩ := h; have hd := Nat.div_add_mod l.length 64
  have e1 : (l ++ x).length / 64 = l.length / 64 := by rw [List.length_append]; omega
  have e2 : (l ++ x).length % 64 = l.length % 64 + x.length := by rw [List.length_append]; omega
  refine ⟨hs.1.trans h1, by rw [hs.2.1, List.length_append], fun i hi => ?_, laidF f (l.length % 64) x, laid_cells h4 hs, fun j hj => ?_⟩
  · rw [hs.2.2.1 i hi, h3 i hi, e1]
    congr 3
    exact chain_congr _ fun i hi => (gl_left l x i (by omega)).symm
  · rw [e1]
    exact laid_is h5 j (by omega)
theorem HashS.full {c c2 c3 : Array Value} {l x : List (BitVec 8)} {f : Nat → BitVec 8} (h1 : c.size = 73)
    (h5 : ∀ j < l.length % 64, f j = gl l (64 * (l.length / 64) + j)) (h4 : ∀ j < 64, c[8 + j]? = some (B (f j)))
    (hs : Spl c (l.length % 64) x (l.length + x.length) c2) (hq : l.length % 64 + x.length = 64)
    (k1 : c3.size = c2.size) (k2 : ∀ i < 8, c3[i]? = some (W ((compress (laidF f (l.length % 64) x) (chain (gl l) (l.length / 64))).at i))) (k3 : ∀ i, 8 ≤ i → c3[i]? = c2[i]?) : HashS c3 (l ++ x) := by
  have hd := Nat.div_add_mod l.length 64
  have e1 : (l ++ x).length / 64 = l.length / 64 + 1 := by rw [List.length_append]; omega
  have e2 : (l ++ x).length % 64 = 0 := by rw [List.length_append]; omega
  have hl := laid_is (x := x) h5
  refine ⟨by rw [k1, hs.1, h1], by rw [k3 72 (by omega), hs.2.1, List.length_append], fun i hi => ?_, laidF f (l.length % 64) x, fun j hj => ?_, fun j hj => by omega⟩
  · rw [k2 i hi, e1, chain]
    congr 3
    rw [chain_congr (l.length / 64) (fun i hi => (gl_left l x i (by omega)).symm : ∀ i < 64 * (l.length / 64), gl l i = gl (l ++ x) i)]
    exact compress_congr (fun j hj => hl j (by omega)) _
  · rw [k3 _ (by omega)]
    exact laid_cells h4 hs j hj
theorem Spl_copy (c : Array Value) (r n : Nat) (x : List (BitVec 8)) (h : c.size = 73) (hr : r + x.length ≤ 64) :
    Spl c r x n ((c.toList.take (8 + r) ++ (x.map B ++ c.toList.drop (8 + r + (x.map B).length))).toArray.setIfInBounds 72 (.int .i64 (n : Int))) := by
  have hz : c.toList.length = 73 := by simpa using h
  have hsz : (c.toList.take (8 + r) ++ (x.map B ++ c.toList.drop (8 + r + (x.map B).length))).length = 73 := by simp; omega
  refine ⟨by simp only [Array.size_setIfInBounds, List.size_toArray, hsz, h], ?_, fun i hi => ?_, fun j hj => ?_⟩
  · rw [Array.getElem?_setIfInBounds, if_pos rfl, if_pos (by simp only [List.size_toArray, hsz]; omega)]
  · rw [Array.getElem?_setIfInBounds, if_neg (by omega), List.getElem?_toArray, List.getElem?_append_left (by simp; omega), List.getElem?_take, if_pos (by omega)]
    simp
  · rw [Array.getElem?_setIfInBounds, if_neg (by omega), List.getElem?_toArray]
    by_cases h1 : j < r
    · rw [if_neg (by omega), List.getElem?_append_left (by simp; omega), List.getElem?_take, if_pos (by omega)]
      simp
    · rw [List.getElem?_append_right (by simp; omega)]
      have e : (c.toList.take (8 + r)).length = 8 + r := by simp; omega
      rw [e]
      by_cases h2 : j < r + x.length
      · rw [if_pos ⟨by omega, h2⟩, List.getElem?_append_left (by simp; omega), List.getElem?_map, gl, show 8 + j - (8 + r) = j - r by omega]
        rw [List.getD_eq_getElem?_getD, List.getElem?_eq_getElem (by omega)]
        rfl
      · rw [if_neg (by omega), List.getElem?_append_right (by simp; omega), List.getElem?_drop]
        simp only [List.length_map]
        rw [show 8 + r + x.length + (8 + j - (8 + r) - x.length) = 8 + j by omega]
        simp
theorem copy72 (c : Array Value) (r : Nat) (x : List (BitVec 8)) (h : c.size = 73) (hr : r + x.length ≤ 64) :
    ((c.toList.take (8 + r) ++ (x.map B ++ c.toList.drop (8 + r + (x.map B).length))).toArray)[72]? = c[72]? := by
  have hz : c.toList.length = 73 := by simpa using h
  have e : (c.toList.take (8 + r)).length = 8 + r := by simp; omega
  rw [List.getElem?_toArray, List.getElem?_append_right (by rw [e]; omega), e, List.getElem?_append_right (by simp; omega), List.getElem?_drop]
  simp only [List.length_map]
  rw [show 8 + r + x.length + (72 - (8 + r) - x.length) = 72 by omega]
  simp
theorem pad_0 (n : Nat) : gl (pad n) 0 = 0x80 := rfl
theorem pad_mid (n j : Nat) (h1 : 0 < j) (h2 : j < gap n) : gl (pad n) j = 0 := by
  match j, h1 with
  | j + 1, _ =>
    simp only [gl, pad, List.getD_eq_getElem?_getD, List.getElem?_cons_succ]
    rw [List.getElem?_append_left (by simp; omega)]
    simp only [List.getElem?_replicate]
    split <;> rfl
theorem pad_end (n i : Nat) (h : i < 8) : gl (pad n) (gap n + i) = lenByte n i := by
  have hg := gap_le n
  obtain ⟨g, hgg⟩ : ∃ g, gap n = g + 1 := ⟨gap n - 1, by omega⟩
  rw [hgg, show g + 1 + i = (g + i) + 1 by omega]
  simp only [gl, pad, List.getD_eq_getElem?_getD, List.getElem?_cons_succ, hgg]
  rw [List.getElem?_append_right (by simp)]
  simp [h]
end Go.Proofs.YtdmnhgbdeifpbaaDoor
namespace Go.Proofs.YtdmnhgbdeifpbaaDoor
open Go.RowKit
def Tables (w : World) : Prop := (∀ i < 8, w.cell? ⟨0, i, none⟩ = some (W (firstSt.at i))) ∧ Roots w
theorem Tables.grown {w w' : World} (h : Tables w) {b : Nat} (hg : w.grownBy w' (some b)) (h0 : b ≠ 0) (h1 : b ≠ 1) : Tables w' :=
  ⟨fun i hi => hg.cell (h.1 i hi) (by simp; omega), fun i hi => hg.cell (h.2 i hi) (by simp; omega)⟩
theorem Tables.below {w w' : World} (h : Tables w) (hg : Below w.heap.size w w') : Tables w' :=
  ⟨fun i hi => (hg.cell (p := ⟨0, i, none⟩) (block_lt_of_cell (h.1 i hi))).trans (h.1 i hi), fun i hi => (hg.cell (p := ⟨1, i, none⟩) (block_lt_of_cell (h.2 i hi))).trans (h.2 i hi)⟩
def WriteEnd (w : World) (b : Nat) (l m : List (BitVec 8)) (e : Ending) (w' : World) : Prop :=
  e = .returned (.int .i64 (m.length : Int)) ∧ ∃ c', w'.heap[b]? = some (.cells c' 109 (0, 0)) ∧ HashS c' (l ++ m) ∧ w.grownBy w' (some b)
def WRel (w : World) (b : Nat) (l m : List (BitVec 8)) (left : Value) (wr : World) : Prop :=
  ∃ (k : Nat) (a : Option Addr) (n cap : Nat) (c : Array Value), k + n = m.length ∧ left = .slice a n cap ∧ n ≤ cap ∧ cap ≤ 9223372036854775807 ∧ Src w b a n m k ∧
    wr.heap[b]? = some (.cells c 109 (0, 0)) ∧ HashS c (l ++ m.take k) ∧ w.grownBy wr (some b)
theorem strong_first {c : Array Value} {l : List (BitVec 8)} (h : HashW c l) (hl : l = []) :
    HashS ((c.toList.take 0 ++ [W firstSt.a, W firstSt.b, W firstSt.c, W firstSt.d, W firstSt.e, W firstSt.f, W firstSt.g, W firstSt.h] ++ c.toList.drop 8).toArray) l := by
  subst hl; obtain ⟨h1, h2, _, f, h4, h5⟩ := h
  have hz : c.toList.length = 73 := by simpa using h1
  refine ⟨by simp [h1], ?_, fun i hi => ?_, f, fun j hj => ?_, h5⟩
  · rw [← h2]; simp [List.getElem?_drop]
  · have := St.cell firstSt i hi; simp only [List.getElem?_toArray] at this ⊢
    rw [List.getElem?_append_left (by simp; omega)]
    exact this
  · rw [← h4 j hj]; simp only [List.getElem?_toArray]
    rw [List.getElem?_append_right (by simp)]
    simp [List.getElem?_drop]
set_option maxRecDepth 100000 in
set_option maxHeartbeats 4000000 in
theorem write_any (w : World) (b : Nat) (c : Array Value) (l m : List (BitVec 8)) (a : Option Addr) (cap : Nat) (hb : w.heap[b]? = some (.cells c 109 (0, 0))) (hH : HashW c l)
    (hT : Tables w) (hb0 : b ≠ 0) (hb1 : b ≠ 1) (hcap : m.length ≤ cap) (hmax : cap ≤ 9223372036854775807) (hS : Src w b a m.length m 0) (hlen : l.length + m.length < 4611686018427387904) :
    Calls Tryd.prog 73 #[.pointer (some ⟨b, 0, none⟩), .slice a m.length cap] w (WriteEnd w b l m) := by
  have hbl : b < w.heap.size := (Array.getElem?_eq_some_iff.1 hb).1; have hn : w.cell? ⟨b, 72, none⟩ = some (.int .i64 (l.length : Int)) := (cell_of_row w b 72 c _ _ hb).trans hH.2.1; have HB := Lib.hid hb; have HH := Lib.hid hH; have HT := Lib.hid hT; have HS := Lib.hid hS; clear hb hH hT hS
  go_enter Tryd.func73, Tryd.ntmps73
  go_upto_if 13 with (fail)
  go_cut [] from 14 to 17 (fun wx => ∃ c0, wx.heap[b]? = some (.cells c0 109 (0, 0)) ∧ HashS c0 l ∧ w.grownBy wx (some b))
  case first =>
    by_cases hl : l = []
    · have HL := Lib.hid hl
      have e0 : ((l.length : Int) == 0) = true := by rw [hl]; rfl
      clear hl
      have h0 : w.cell? ⟨0, 0, none⟩ = some (W firstSt.a) := HT.out.1 0 (by omega)
      have h1 : w.cell? ⟨0, 1, none⟩ = some (W firstSt.b) := HT.out.1 1 (by omega)
      have h2 : w.cell? ⟨0, 2, none⟩ = some (W firstSt.c) := HT.out.1 2 (by omega)
      have h3 : w.cell? ⟨0, 3, none⟩ = some (W firstSt.d) := HT.out.1 3 (by omega)
      have h4 : w.cell? ⟨0, 4, none⟩ = some (W firstSt.e) := HT.out.1 4 (by omega)
      have h5 : w.cell? ⟨0, 5, none⟩ = some (W firstSt.f) := HT.out.1 5 (by omega)
      have h6 : w.cell? ⟨0, 6, none⟩ = some (W firstSt.g) := HT.out.1 6 (by omega)
      have h7 : w.cell? ⟨0, 7, none⟩ = some (W firstSt.h) := HT.out.1 7 (by omega)
      go_upto_region 4 with (fail)
      refine wp_region_lit ?_
      iterate 12 go_step
      refine wpList_store_at rfl _ _ _ rfl b 0 [W firstSt.a, W firstSt.b, W firstSt.c, W firstSt.d, W firstSt.e, W firstSt.f, W firstSt.g, W firstSt.h] rfl rfl _ c HB.out (by kernel_rfl) (by simp [HH.out.1]) (by simp [W_oneCell]) ?_
      go_wp2_with (fail)
      go_meet
      refine ⟨_, setRow_heap _ _ c _ _ _ HB.out, strong_first HH.out HL.out, ⟨rfl, rfl, rfl, by simp, fun k hk hne => setRow_other _ _ _ _ (fun e => hne (by rw [e]))⟩⟩
    · have e0 : ((l.length : Int) == 0) = false := by
        have : 0 < l.length := List.length_pos_iff.2 hl; simp; omega
      go_wp2_with (fail)
      go_meet
      exact ⟨c, HB.out, HH.out.strong hl, ⟨rfl, rfl, rfl, Nat.le_refl _, fun _ _ _ => rfl⟩⟩
  case rest =>
    obtain ⟨c0, hb0', hH0, hg0⟩ := hcut; have HB0 := Lib.hid hb0'; have HH0 := Lib.hid hH0; have HG0 := Lib.hid hg0; clear hb0' hH0 hg0 hn HB HH; go_wp2_with (fail)
    go_loopw [5] (WRel w b l m) (fun v _ => lenOf v)
    case atStart => exact ⟨0, a, m.length, cap, c0, by omega, rfl, hcap, hmax, HS.out, HB0.out, by simpa using HH0.out, HG0.out⟩
    case round =>
      clear HB0 HH0 HG0 HS hcap hmax; obtain ⟨k, a', n, cap', c1, hk, rfl, hcap, hmax, hS, hb, hH, hg⟩ := hrel
      by_cases hlt : 0 < n
      · obtain ⟨lk, hlk⟩ : ∃ lk, lk = l ++ m.take k := ⟨_, rfl⟩; rw [← hlk] at hH
        have hkl : lk.length = l.length + k := by rw [hlk]; simp; omega
        obtain ⟨r, hr⟩ : ∃ r, r = lk.length % 64 := ⟨_, rfl⟩; obtain ⟨q, hq⟩ : ∃ q, q = Nat.min n (64 - r) := ⟨_, rfl⟩
        have hr64 : r < 64 := by omega
        have hq0 : 0 < q := by rw [hq]; exact Nat.lt_min.2 ⟨hlt, by omega⟩
        have hqn : q ≤ n := by rw [hq]; exact Nat.min_le_left _ _
        have hqr : r + q ≤ 64 := by have : q ≤ 64 - r := by rw [hq]; exact Nat.min_le_right _ _
                                    omega
        obtain ⟨x, hx⟩ : ∃ x, x = (m.drop k).take q := ⟨_, rfl⟩
        have hxl : x.length = q := by rw [hx]; simp; omega
        have hxg : ∀ i < q, gl x i = gl m (k + i) := fun i hi => by rw [hx]; simp [gl, hi]
        have hlx : l ++ m.take (k + q) = lk ++ x := by rw [hlk, hx, List.append_assoc, List.take_add]
        rcases hS with hS | ⟨ab, off, rfl, hab, hS⟩
        · omega
        have hN : wr.cell? ⟨b, 72, none⟩ = some (.int .i64 (lk.length : Int)) := (cell_of_row wr b 72 c1 _ _ hb).trans hH.2.1; obtain ⟨N, hNe⟩ : ∃ N, N = lk.length := ⟨_, rfl⟩; rw [← hNe] at hN
        have et : (N : Int).tmod 64 = r := by rw [hr, ← hNe]; exact (Int.tmod_eq_emod_of_nonneg (by omega)).trans (by omega)
        have em : (N : Int) % 64 = r := by rw [hr, ← hNe]; omega
        have hN62 : (N : Int) < 4611686018427387904 := by omega
        have hNq : (N : Int) + q < 4611686018427387904 := by omega
        have hn0 : (0 : Int) < (n : Int) := by omega
        have hsl1 : ∀ W', (Instr.sliceAt 107 (.pointer (some ⟨b, 8, none⟩)) (some (.int .i64 (r : Int))) none none).run Tryd.prog W' = .ok (.slice (some ⟨b, 8 + r, none⟩) (64 - r) (64 - r)) W' := fun W' =>
          run_slice_arr_l _ _ 64 Tryd.underlying107 Tryd.sizeOf5 b 8 r hr64 W'
        have HQ := Lib.hid (And.intro hq (And.intro hr (And.intro hx (And.intro hxl (And.intro hxg (And.intro hlx (And.intro hlk (And.intro hkl hNe)))))))); have HB1 := Lib.hid hb; have HH1 := Lib.hid hH; have HG1 := Lib.hid hg; have HS1 := Lib.hid hS; clear hq hr hx hxl hxg hlx hlk hkl hNe hb hH hg hS; go_wp2_with (fail)
        refine wp_region_quiet_tail 10 (by kernel_rfl) (by kernel_rfl) ?_
        simp only [List.take_succ_cons, List.take_zero, List.drop_succ_cons, List.drop_zero]
        repeat (quiet_step (fail))
        refine wpQuiet_nil ?_; intro _ hw'; obtain ⟨nq, hw''⟩ := hw'; subst hw''
        refine wpList_copy_own rfl (.tmp 30) (.tmp 31) 26 26 rfl 5 Tryd.underlying26 (by kernel_rfl) b (8 + r) (64 - r) (64 - r) ⟨ab, off, none⟩ n cap' rfl rfl c1 109 HB1.out (x.map B)
          (by rw [List.length_map, HQ.out.2.2.2.1]; exact HQ.out.1) (fun j v hv => ?_) (by rw [List.length_map, HQ.out.2.2.2.1, HH1.out.1]; omega) (fun v hv => ?_) ?_
        · rw [List.getElem?_map] at hv
          cases hxj : x[j]? with
          | none => rw [hxj] at hv; cases hv
          | some y =>
            rw [hxj] at hv; simp only [Option.map_some, Option.some.injEq] at hv
            have hj : j < q := by rw [← HQ.out.2.2.2.1]; exact (List.getElem?_eq_some_iff.1 hxj).1
            have e1 := HG1.out.cell (HS1.out j (by omega)) (by simpa using hab)
            have e2 := HQ.out.2.2.2.2.1 j hj
            have e3 : gl x j = y := by simp [gl, hxj]
            rw [addr_add, ← hv, ← e3, e2]; exact e1
        · obtain ⟨y, _, rfl⟩ := List.mem_map.1 hv; rfl
        rw [show goInt (x.map B).length = .int .i64 (q : Int) from by rw [List.length_map, HQ.out.2.2.2.1]; rfl]
        obtain ⟨cc, hcc⟩ : ∃ cc, cc = (c1.toList.take (8 + r) ++ (x.map B ++ c1.toList.drop (8 + r + (x.map B).length))).toArray := ⟨_, rfl⟩; rw [← hcc]; obtain ⟨W1, hW1⟩ : ∃ W1, W1 = (wr.drewN nq).setRow b cc := ⟨_, rfl⟩; rw [← hW1]
        have hsp := Spl_copy c1 r (N + q) x HH1.out.1 (by rw [HQ.out.2.2.2.1]; exact hqr)
        rw [← hcc] at hsp
        have hb1w : W1.heap[b]? = some (.cells cc 109 (0, 0)) := by rw [hW1]; exact setRow_heap _ _ c1 _ _ _ HB1.out
        have hg1 : w.grownBy W1 (some b) := by
          have hg := HG1.out; rw [hW1]
          exact ⟨hg.os, hg.tape, hg.output, by simp only [setRow_size]; exact hg.size, fun i hi hne => (setRow_other _ _ _ _ (fun e => hne (by rw [e]))).trans (hg.block i hi hne)⟩
        have hN1 : W1.cell? ⟨b, 72, none⟩ = some (.int .i64 (N : Int)) := by
          rw [cell_of_row W1 b 72 cc _ _ hb1w, hcc, copy72 c1 r x HH1.out.1 (by rw [HQ.out.2.2.2.1]; exact hqr), HQ.out.2.2.2.2.2.2.2.2]
          exact HH1.out.2.1
        have hF1 : W1.frozen? ⟨b, 72, none⟩ = false := frozen_of_row W1 b 72 cc _ hb1w
        obtain ⟨A2, hA2⟩ : ∃ A2 : Option Addr, A2 = if cap' = q then some ⟨ab, off, none⟩ else some ⟨ab, off + q, none⟩ := ⟨_, rfl⟩
        have hsl2 : ∀ W', (Instr.slice 26 (.slice (some ⟨ab, off, none⟩) n cap') (some (.int .i64 (q : Int))) none none).run Tryd.prog W' = .ok (.slice A2 (n - q) (cap' - q)) W' := fun W' => by
          rw [hA2]; exact run_slice_sl_l _ _ Tryd.underlying26 Tryd.sizeOf5 ab off n cap' q hqn W'
        have hsl3 : ∀ W', (Instr.sliceAt 26 (.slice (some ⟨ab, off, none⟩) n cap') (some (.int .i64 (q : Int))) none none).run Tryd.prog W' = .ok (.slice A2 (n - q) (cap' - q)) W' := fun W' => by
          rw [run_sliceAt_sl _ _ Tryd.underlying26]; exact hsl2 W'
        have hS2 : Src w b A2 (n - q) m (k + q) := by
          by_cases h0 : n - q = 0
          · exact .inl h0
          · refine .inr ⟨ab, off + q, by rw [hA2, if_neg (by omega)], hab, fun i hi => ?_⟩
            rw [Nat.add_assoc, Nat.add_assoc]
            exact HS1.out (q + i) (by omega)
        have HX := Lib.hid (And.intro hsp (And.intro hb1w (And.intro hg1 hS2))); clear hsp hb1w hg1 hS2 hW1 hA2 hcc hsl1
        go_upto_region 9 with (fail)
        obtain ⟨M, hM⟩ : ∃ M : Nat, M = N + q := ⟨_, rfl⟩
        have hMi : (N : Int) + (q : Int) = (M : Int) := by omega
        have hMb : (M : Int) < 4611686018427387904 := by omega
        have hMw : IntKind.i64.wrap (M : Int) = M := IntWalk.i64_in _ (by omega)
        have HM := Lib.hid hM; clear hM
        go_upto_region 10 with (fail)
        obtain ⟨W2, hW2⟩ : ∃ W2, W2 = W1.setCell ⟨b, 72, none⟩ (.int .i64 (M : Int)) := ⟨_, rfl⟩; rw [← hW2]; obtain ⟨c2, hc2⟩ : ∃ c2, c2 = cc.setIfInBounds 72 (.int .i64 (M : Int)) := ⟨_, rfl⟩; obtain ⟨hsp, hb1w, hg1, hS2⟩ := HX.out
        have hb2 : W2.heap[b]? = some (.cells c2 109 (0, 0)) := by rw [hW2, hc2]; exact heap_setCell_same W1 b 72 cc _ _ hb1w
        have hg2 : w.grownBy W2 (some b) := by rw [hW2]; exact grown_trans hg1 (grown_setCell W1 b 72 _)
        rw [← HM.out, ← hc2] at hsp; obtain ⟨hq, hr, hx, hxl, hxg, hlx, hlk, hkl, hNe⟩ := HQ.out
        have hn2 : W2.cell? ⟨b, 72, none⟩ = some (.int .i64 (M : Int)) := by rw [cell_of_row W2 b 72 c2 _ _ hb2]; exact hsp.2.1
        obtain ⟨h73, _, hst, f, hf, hfr⟩ := HH1.out; rw [HM.out, hNe, ← hxl, hr] at hsp
        have hrl : lk.length % 64 + x.length = r + q := by rw [← hr, hxl]
        have HE := Lib.hid (And.intro hsp (And.intro hb2 (And.intro hg2 (And.intro hS2 (And.intro hlx (And.intro h73 (And.intro hst (And.intro hf (And.intro hfr hrl)))))))))
        have hM64 : M % 64 = (r + q) % 64 := by rw [HM.out, hNe, hr]; omega
        have HM64 := Lib.hid hM64
        have hqk : k + q + (n - q) = m.length := by omega
        have HK := Lib.hid hqk; clear hM64 hqk hsp hb2 hg2 hS2 hlx h73 hst hf hfr hrl hq hr hx hxl hxg hlk hkl hNe hb1w hg1 hW2 hc2 HX hN1 hF1 hsl2 hsl3 hN et em hMi
        by_cases hfull : r + q = 64
        · have m1 : (M : Int).tmod 64 = 0 := by
            have := HM64.out
            exact (Int.tmod_eq_emod_of_nonneg (by omega)).trans (by omega)
          have m2 : (M : Int) % 64 = 0 := by have := HM64.out; omega
          have HU := Lib.hid hfull; clear hfull; go_wp2_with (fail); obtain ⟨hsp, hb2, hg2, hS2, hlx, h73, hst, hf, hfr, hrl⟩ := HE.out; refine (fold_any W2 b c2 (laidF f (lk.length % 64) x) (chain (gl lk) (lk.length / 64)) hb2 (fun i hi => (hsp.2.2.1 i hi).trans (hst i hi)) (laid_cells hf hsp) (HT.out.grown hg2 hb0 hb1).2).mono ?_; rintro e w' ⟨rfl, c3, hb3, hF, hg3⟩; have HF3 := Lib.hid (And.intro hb3 (And.intro hF hg3)); clear hsp hb2 hg2 hS2 hlx h73 hst hf hfr hrl hb3 hF hg3; dsimp only; go_wp2_with (fail); obtain ⟨hsp, hb2, hg2, hS2, hlx, h73, hst, hf, hfr, hrl⟩ := HE.out; obtain ⟨hb3, hF, hg3⟩ := HF3.out
          refine ⟨⟨k + q, A2, n - q, cap' - q, c3, HK.out, rfl, by omega, by omega, hS2, hb3, ?_, grown_trans hg2 hg3⟩, ?_⟩
          · rw [hlx]; exact HashS.full h73 hfr hf hsp (hrl.trans HU.out) hF.1 hF.2.1 hF.2.2
          · show n - q < n
            omega
        · obtain ⟨p, hp⟩ : ∃ p, p = r + q := ⟨_, rfl⟩
          have m1 : (M : Int).tmod 64 = p := by
            have := HM64.out
            exact (Int.tmod_eq_emod_of_nonneg (by omega)).trans (by omega)
          have m2 : (M : Int) % 64 = p := by have := HM64.out; omega
          have m3 : ((p : Int) == 0) = false := by
            have : 0 < p := by omega
            simp; omega
          have hp64 : p < 64 := by omega
          have HU := Lib.hid (And.intro hp hp64); clear hfull hp hp64; go_wp2_with (fail); obtain ⟨hsp, hb2, hg2, hS2, hlx, h73, hst, hf, hfr, hrl⟩ := HE.out
          refine ⟨⟨k + q, A2, n - q, cap' - q, c2, HK.out, rfl, by omega, by omega, hS2, hb2, ?_, hg2⟩, ?_⟩
          · rw [hlx]
            exact HashS.more HH1.out hsp (by rw [hrl, ← HU.out.1]; exact HU.out.2)
          · show n - q < n
            omega
      · obtain rfl : n = 0 := by omega
        have HF := Lib.hid (And.intro hb (And.intro hH hg)); clear hb hH hg hS; go_wp2_with (fail); go_ret; obtain ⟨hb, hH, hg⟩ := HF.out; refine ⟨rfl, c1, hb, ?_, hg⟩
        rw [List.take_of_length_le (by omega)] at hH
        exact hH
end Go.Proofs.YtdmnhgbdeifpbaaDoor
namespace Go.Proofs.YtdmnhgbdeifpbaaDoor
open Go.RowKit
def FinEnd (w : World) (b : Nat) (l : List (BitVec 8)) (e : Ending) (w' : World) : Prop :=
  e = .returned (.tuple #[]) ∧ ∃ c', w'.heap[b]? = some (.cells c' 109 (0, 0)) ∧ HashS c' (l ++ pad l.length) ∧ w.grownBy w' (some b)
def FinRel (w : World) (n : Nat) (k : Value) (wr : World) : Prop :=
  ∃ (t : Nat) (c : Array Value), t ≤ 8 ∧ k = .int .i64 t ∧ wr = w.alloc (.cells c 135) ∧ c.size = 72 ∧ ∀ j < gap n + t, c[j]? = some (B (gl (pad n) j))
theorem tail_start (n : Nat) : ((Array.replicate 72 (Value.int .u8 0)).setIfInBounds 0 (.int .u8 128)).size = 72 ∧ ∀ j < gap n + 0, ((Array.replicate 72 (Value.int .u8 0)).setIfInBounds 0 (.int .u8 128))[j]? = some (B (gl (pad n) j)) := by
  refine ⟨by simp, fun j hj => ?_⟩
  have hg := gap_le n; rw [Array.getElem?_setIfInBounds]
  by_cases h : 0 = j
  · subst h
    rw [if_pos rfl, if_pos (by simp), pad_0]
    rfl
  · rw [if_neg h, pad_mid n j (by omega) hj, Array.getElem?_replicate, if_pos (by omega)]
    rfl
theorem tail_step (n t : Nat) (c : Array Value) (h : c.size = 72) (hc : ∀ j < gap n + t, c[j]? = some (B (gl (pad n) j))) (ht : t < 8) :
    (c.setIfInBounds (gap n + t) (B (lenByte n t))).size = 72 ∧ ∀ j < gap n + (t + 1), (c.setIfInBounds (gap n + t) (B (lenByte n t)))[j]? = some (B (gl (pad n) j)) := by
  refine ⟨by simp [h], fun j hj => ?_⟩
  have hg := gap_le n; rw [Array.getElem?_setIfInBounds]
  split
  · rename_i e
    subst e
    rw [if_pos (by omega), pad_end n t ht]
  · exact hc j (by omega)
set_option maxRecDepth 100000 in
set_option maxHeartbeats 1000000 in
theorem finish_any (w : World) (b : Nat) (c : Array Value) (l : List (BitVec 8)) (hb : w.heap[b]? = some (.cells c 109 (0, 0))) (hH : HashW c l)
    (hT : Tables w) (hb0 : b ≠ 0) (hb1 : b ≠ 1) (hlen : l.length < 1152921504606846976) :
    Calls Tryd.prog 86 #[.pointer (some ⟨b, 0, none⟩)] w (FinEnd w b l) := by
  have hz : ∀ w, (zeroValue 135).run Tryd.prog w = .ok (.agg (Array.replicate 72 (.int .u8 0))) w := (zero_of_info (n := 72) (by kernel_rfl)).1
  have hbl : b < w.heap.size := (Array.getElem?_eq_some_iff.1 hb).1; have hn : w.cell? ⟨b, 72, none⟩ = some (.int .i64 (l.length : Int)) := (cell_of_row w b 72 c _ _ hb).trans hH.2.1; have HB := Lib.hid (And.intro hb (And.intro hH hT)); clear hb hH hT; obtain ⟨N, hN⟩ : ∃ N, N = l.length := ⟨_, rfl⟩; rw [← hN] at hn hlen; obtain ⟨r, hr⟩ : ∃ r, r = N % 64 := ⟨_, rfl⟩; obtain ⟨g1, hg1⟩ : ∃ g1, g1 = (119 - r) % 64 := ⟨_, rfl⟩
  have hr64 : r < 64 := by omega
  have hg64 : g1 < 64 := by omega
  have et : (N : Int).tmod 64 = r := (Int.tmod_eq_emod_of_nonneg (by omega)).trans (by omega)
  have em : (N : Int) % 64 = r := by omega
  have ft : (119 - (r : Int)).tmod 64 = g1 := (Int.tmod_eq_emod_of_nonneg (by omega)).trans (by omega)
  have fm : (119 - (r : Int)) % 64 = g1 := by omega
  obtain ⟨g, hg⟩ : ∃ g : Nat, g = g1 + 1 := ⟨_, rfl⟩
  have hgi : (g1 : Int) + 1 = g := by omega
  have hgg : g = gap N := by rw [hg, hg1, hr]; rfl
  have HG := Lib.hid (And.intro hN (And.intro hr (And.intro hg1 (And.intro hg hgg))))
  have hgw : IntKind.i64.wrap (g : Int) = g := IntWalk.i64_in _ (by omega)
  have hg65 : (g : Int) < 65 := by omega
  have h8 : IntKind.u64.wrap (N : Int) = N := by
    simp [IntKind.wrap, IntKind.bits, IntKind.signed]; omega
  obtain ⟨N8, hN8⟩ : ∃ N8, N8 = 8 * N := ⟨_, rfl⟩
  have h9 : IntKind.u64.wrap ((N : Int) * 8) = N8 := by
    simp [IntKind.wrap, IntKind.bits, IntKind.signed]; omega
  have HN8 := Lib.hid hN8; clear hN hr hg1 hg hgg hN8
  go_enter Tryd.func86, Tryd.ntmps86
  go_wp2_with (fail)
  go_loopw [21] (FinRel w N) (fun k _ => 8 - (intOf k).toNat)
  case atStart => exact ⟨0, _, by omega, rfl, rfl, (tail_start N).1, (tail_start N).2⟩
  case round =>
    obtain ⟨t, c2, ht, rfl, rfl, hc, hj⟩ := hrel
    by_cases hlt : t < 8
    · obtain ⟨sh, hsh⟩ : ∃ sh : Nat, (56 : Int) - 8 * (t : Int) = sh := ⟨56 - 8 * t, by omega⟩
      have hshw : IntKind.i64.wrap (sh : Int) = sh := IntWalk.i64_in _ (by omega)
      obtain ⟨gt, hgt⟩ : ∃ gt : Nat, (g : Int) + (t : Int) = gt := ⟨g + t, by omega⟩
      have hgtw : IntKind.i64.wrap (gt : Int) = gt := IntWalk.i64_in _ (by omega)
      have i0 : (0 : Int) ≤ (gt : Int) ∧ (gt : Int) < 72 := by omega
      have hval : Value.int .u8 ((N8 : Int) / 2 ^ sh % 256) = B (lenByte N t) := by
        rw [lenByte, ← HN8.out, show 56 - 8 * t = sh by omega]
        simp [B]
      have HV := Lib.hid hval; clear hval
      obtain ⟨d, hd⟩ : ∃ d, c2[gt]? = some d := ⟨c2[gt]'(by omega), Array.getElem?_eq_getElem (by omega)⟩
      have hgt2 : gt = gap N + t := by rw [← HG.out.2.2.2.2]; omega
      have HC := Lib.hid (And.intro hc (And.intro hj hgt2)); clear hc hj hgt2
      go_upto_region 7 with (fail)
      refine wp_region_lit ?_
      iterate 30 go_step
      refine wpList_store1 rfl _ _ _ rfl ⟨w.heap.size, gt, none⟩ (B (lenByte N t)) d rfl HV.out rfl rfl Tryd.sizeOf5 (by go_simp) (by go_simp) ?_
      rw [setCell_1]; go_wp2_with (fail); obtain ⟨hc, hj, hgt2⟩ := HC.out; have hst := tail_step N t c2 hc hj hlt; rw [← hgt2] at hst
      exact ⟨⟨t + 1, c2.setIfInBounds gt (B (lenByte N t)), by omega, by go_num, rfl, hst.1, hst.2⟩, by simp [intOf]; omega⟩
    · obtain rfl : t = 8 := by omega
      obtain ⟨hb, hH, hT⟩ := HB.out; have hgg := HG.out.2.2.2.2; obtain ⟨p, hp⟩ : ∃ p, p = pad N := ⟨_, rfl⟩
      have hpl : p.length = g + 8 := by rw [hp, pad_length, hgg]
      have hsl : ∀ W', (Instr.sliceAt 135 (.pointer (some ⟨w.heap.size, 0, none⟩)) none (some (.int .i64 ((g : Int) + 8))) none).run Tryd.prog W' = .ok (.slice (some ⟨w.heap.size, 0, none⟩) p.length 72) W' := fun W' =>
        run_slice_arr_h _ _ 72 Tryd.underlying135 Tryd.sizeOf5 w.heap.size 0 p.length (by omega) W' _ (by omega)
      obtain ⟨W1, hW1⟩ : ∃ W1, W1 = w.alloc (.cells c2 135) := ⟨_, rfl⟩; rw [← hW1]
      have hB1 : Below w.heap.size w W1 := by rw [hW1]; exact (Below.refl _ w).alloc (Nat.le_refl _) _
      have hS : Src W1 b (some ⟨w.heap.size, 0, none⟩) p.length p 0 := by
        refine .inr ⟨w.heap.size, 0, rfl, by omega, fun i hi => ?_⟩
        have e : W1.heap[w.heap.size]? = some (.cells c2 135 (0, 0)) := by rw [hW1]; exact heap_alloc_new w _
        rw [cell_of_row W1 _ _ c2 _ _ e, Nat.zero_add, hp]
        exact hj i (by omega)
      have hb1w : W1.heap[b]? = some (.cells c 109 (0, 0)) := by rw [hB1.block b hbl]; exact hb
      have HX := Lib.hid (And.intro hb1w (And.intro hS (And.intro hpl (And.intro hp hB1)))); clear hb hH hT hgg hp hpl hW1 hB1 hS hb1w hc hj; go_wp2_with (fail); obtain ⟨hb1w, hS, hpl, hp, hB1⟩ := HX.out; obtain ⟨hb, hH, hT⟩ := HB.out
      refine (write_any W1 b c l p (some ⟨w.heap.size, 0, none⟩) 72 hb1w hH (hT.below hB1) hb0 hb1 (by omega) (by omega) hS (by rw [← HG.out.1]; omega)).mono ?_
      rintro e w' ⟨rfl, c', hc', hHS, hg⟩; have HY := Lib.hid (And.intro hc' (And.intro hHS hg)); clear hb1w hS hpl hp hB1 hb hH hT hc' hHS hg; dsimp only; go_wp2_with (fail)
      go_end0
      obtain ⟨hb1w, hS, hpl, hp, hB1⟩ := HX.out; obtain ⟨hc', hHS, hg⟩ := HY.out; rw [hp, HG.out.1] at hHS; refine ⟨rfl, c', hc', hHS, hg.os.trans hB1.os, hg.tape.trans hB1.tape, hg.output.trans hB1.output, Nat.le_trans hB1.size hg.size, fun k hk hne => (hg.block k (Nat.lt_of_lt_of_le hk hB1.size) hne).trans (hB1.block k hk)⟩
end Go.Proofs.YtdmnhgbdeifpbaaDoor
namespace Go.Proofs.YtdmnhgbdeifpbaaDoor
open Go.RowKit
def SpRel (w : World) (S Z : Array Value) (s : St) (k : Value) (wr : World) : Prop :=
  ∃ (t : Nat) (c : Array Value), t ≤ 8 ∧ k = .int .i64 t ∧ wr = ((w.alloc (.cells S 106)).alloc (.cells Z 23)).alloc (.cells c 23) ∧ c.size = 32 ∧ ∀ j < 4 * t, c[j]? = some (B (byteAt s j))
theorem setCell_3 (w : World) (o1 o2 : Obj) (c : Array Value) (t : TypeId) (i : Nat) (v : Value) :
    (((w.alloc o1).alloc o2).alloc (.cells c t)).setCell ⟨w.heap.size + 1 + 1, i, none⟩ v = ((w.alloc o1).alloc o2).alloc (.cells (c.setIfInBounds i v) t) :=
  World.setCell_alloc_at (w := (w.alloc o1).alloc o2) c t (w.heap.size + 1 + 1) i v (by simp)
theorem byte_step {c : Array Value} {s : St} {k : Nat} (h : c.size = 32) (hc : ∀ j < k, c[j]? = some (B (byteAt s j))) (hk : k < 32) (x : BitVec 8) (hx : x = byteAt s k) :
    (c.setIfInBounds k (B x)).size = 32 ∧ ∀ j < k + 1, (c.setIfInBounds k (B x))[j]? = some (B (byteAt s j)) := by
  refine ⟨by simp [h], fun j hj => ?_⟩
  rw [Array.getElem?_setIfInBounds]
  split
  · rename_i e
    subst e
    rw [if_pos (by omega), hx]
  · exact hc j (by omega)
theorem byteAt0 (s : St) (t : Nat) : (s.at t >>> 24).setWidth 8 = byteAt s (4 * t) := by simp [byteAt, show 4 * t / 4 = t by omega]
theorem byteAt1 (s : St) (t : Nat) : (s.at t >>> 16).setWidth 8 = byteAt s (4 * t + 1) := by simp [byteAt, show (4 * t + 1) / 4 = t by omega, show (4 * t + 1) % 4 = 1 by omega]
theorem byteAt2 (s : St) (t : Nat) : (s.at t >>> 8).setWidth 8 = byteAt s (4 * t + 2) := by simp [byteAt, show (4 * t + 2) / 4 = t by omega, show (4 * t + 2) % 4 = 2 by omega]
theorem byteAt3 (s : St) (t : Nat) : (s.at t).setWidth 8 = byteAt s (4 * t + 3) := by simp [byteAt, show (4 * t + 3) / 4 = t by omega, show (4 * t + 3) % 4 = 3 by omega]
theorem Spell_all (s : St) (c : Array Value) (h : c.size = 32) (hc : ∀ j < 32, c[j]? = some (B (byteAt s j))) : c = Spell s := by
  apply Array.ext
  · simp [Spell, h]
  · intro i h1 h2
    have := hc i (by omega)
    rw [Array.getElem?_eq_getElem h1] at this; simp only [Option.some.injEq] at this; rw [this]; simp [Spell]
theorem Spell_one (s : St) : (Spell s).all (·.oneCell') = true := by
  rw [Array.all_eq_true]; intro i hi; simp [Spell, B_oneCell]
set_option maxRecDepth 100000 in
set_option maxHeartbeats 1000000 in
theorem spell_any (w : World) (s : St) :
    Calls Tryd.prog 87 #[.agg #[W s.a, W s.b, W s.c, W s.d, W s.e, W s.f, W s.g, W s.h]] w (Below0 w (.agg (Spell s))) := by
  have cW : ∀ w (x : BitVec 32), (convert 105 5 (W x)).run Tryd.prog w = .ok (B (x.setWidth 8)) w := fun w x => run_conv_W_B w _ _ x Tryd.underlying105 Tryd.underlying5; have hix : ∀ (t : Nat) (ht : t < 8) W', (Instr.index 106 (.agg #[W s.a, W s.b, W s.c, W s.d, W s.e, W s.f, W s.g, W s.h]) (.int .i64 (t : Int))).run Tryd.prog W' = .ok (W (s.at t)) W' := fun t ht W' =>
    run_index_arr _ 105 8 Tryd.underlying106 Tryd.sizeOf105 Tryd.isAgg105 _ t ht _ (s.cell t ht) W'
  have HIX := Lib.hid hix; clear hix
  go_enter Tryd.func87, Tryd.ntmps87
  go_upto_region 2 with (fail)
  refine gen2 (fun Z hZ => ?_); have hZ' : Z.size = 32 := hZ.trans rfl; have HZ := Lib.hid hZ'; clear hZ hZ'; go_wp2_with (fail)
  go_loopw [7] (SpRel w #[W s.a, W s.b, W s.c, W s.d, W s.e, W s.f, W s.g, W s.h] Z s) (fun k _ => 8 - (intOf k).toNat)
  case atStart => exact ⟨0, Z, by omega, rfl, rfl, HZ.out, fun j hj => by omega⟩
  case round =>
    obtain ⟨t, c, ht, rfl, rfl, hc, hj⟩ := hrel
    by_cases hlt : t < 8
    · have hx1 := HIX.out t hlt
      have i0 : (0 : Int) ≤ 4 * (t : Int) ∧ 4 * (t : Int) < 32 := by omega
      have i1 : (0 : Int) ≤ 4 * (t : Int) + 1 ∧ 4 * (t : Int) + 1 < 32 := by omega
      have i2 : (0 : Int) ≤ 4 * (t : Int) + 2 ∧ 4 * (t : Int) + 2 < 32 := by omega
      have i3 : (0 : Int) ≤ 4 * (t : Int) + 3 ∧ 4 * (t : Int) + 3 < 32 := by omega
      have HC0 := Lib.hid (And.intro hc hj); clear hc hj
      go_upto_region 5 with (fail)
      refine wp_region_lit ?_
      iterate 18 go_step
      obtain ⟨d0, e0⟩ : ∃ d, c[4 * t]? = some d := ⟨c[4 * t]'(by have := HC0.out.1; omega), Array.getElem?_eq_getElem (by have := HC0.out.1; omega)⟩
      refine wpList_store1 rfl _ _ _ rfl ⟨w.heap.size + 1 + 1, 4 * t, none⟩ (B (byteAt s (4 * t))) d0 rfl (by rw [← byteAt0]; rfl) rfl rfl Tryd.sizeOf5 (by go_simp) (by go_simp) ?_
      rw [setCell_3]
      have HC1 := Lib.hid (byte_step HC0.out.1 HC0.out.2 (by omega) _ rfl)
      obtain ⟨c1, hc1⟩ : ∃ c1, c1 = c.setIfInBounds (4 * t) (B (byteAt s (4 * t))) := ⟨_, rfl⟩; rw [← hc1] at HC1 ⊢; clear hc1 HC0 e0
      go_upto_region 6 with (fail)
      refine wp_region_lit ?_
      iterate 21 go_step
      obtain ⟨d1, e1⟩ : ∃ d, c1[4 * t + 1]? = some d := ⟨c1[4 * t + 1]'(by have := HC1.out.1; omega), Array.getElem?_eq_getElem (by have := HC1.out.1; omega)⟩
      refine wpList_store1 rfl _ _ _ rfl ⟨w.heap.size + 1 + 1, 4 * t + 1, none⟩ (B (byteAt s (4 * t + 1))) d1 rfl (by rw [← byteAt1]; rfl) rfl rfl Tryd.sizeOf5 (by go_simp) (by go_simp) ?_
      rw [setCell_3]
      have HC2 := Lib.hid (byte_step HC1.out.1 HC1.out.2 (by omega) _ rfl)
      obtain ⟨c2, hc2⟩ : ∃ c2, c2 = c1.setIfInBounds (4 * t + 1) (B (byteAt s (4 * t + 1))) := ⟨_, rfl⟩; rw [← hc2] at HC2 ⊢; clear hc2 HC1 e1
      go_upto_region 7 with (fail)
      refine wp_region_lit ?_
      iterate 21 go_step
      obtain ⟨d2, e2⟩ : ∃ d, c2[4 * t + 2]? = some d := ⟨c2[4 * t + 2]'(by have := HC2.out.1; omega), Array.getElem?_eq_getElem (by have := HC2.out.1; omega)⟩
      refine wpList_store1 rfl _ _ _ rfl ⟨w.heap.size + 1 + 1, 4 * t + 2, none⟩ (B (byteAt s (4 * t + 2))) d2 rfl (by rw [← byteAt2]; rfl) rfl rfl Tryd.sizeOf5 (by go_simp) (by go_simp) ?_
      rw [setCell_3]
      have HC3 := Lib.hid (byte_step HC2.out.1 HC2.out.2 (by omega) _ rfl)
      obtain ⟨c3, hc3⟩ : ∃ c3, c3 = c2.setIfInBounds (4 * t + 2) (B (byteAt s (4 * t + 2))) := ⟨_, rfl⟩; rw [← hc3] at HC3 ⊢; clear hc3 HC2 e2
      go_upto_region 8 with (fail)
      refine wp_region_lit ?_
      iterate 18 go_step
      obtain ⟨d3, e3⟩ : ∃ d, c3[4 * t + 3]? = some d := ⟨c3[4 * t + 3]'(by have := HC3.out.1; omega), Array.getElem?_eq_getElem (by have := HC3.out.1; omega)⟩
      refine wpList_store1 rfl _ _ _ rfl ⟨w.heap.size + 1 + 1, 4 * t + 3, none⟩ (B (byteAt s (4 * t + 3))) d3 rfl (by rw [← byteAt3]; rfl) rfl rfl Tryd.sizeOf5 (by go_simp) (by go_simp) ?_
      rw [setCell_3]
      have HC4 := Lib.hid (byte_step HC3.out.1 HC3.out.2 (by omega) _ rfl)
      obtain ⟨c4, hc4⟩ : ∃ c4, c4 = c3.setIfInBounds (4 * t + 3) (B (byteAt s (4 * t + 3))) := ⟨_, rfl⟩; rw [← hc4] at HC4 ⊢; clear hc4 HC3 e3; go_wp2_with (fail)
      refine ⟨⟨t + 1, c4, by omega, by go_num, rfl, HC4.out.1, fun j hj => HC4.out.2 j (by omega)⟩, by simp [intOf]; omega⟩
    · obtain rfl : t = 8 := by omega
      obtain rfl : c = Spell s := Spell_all s c hc hj
      have hi : (Tryd.prog.info? 23).map (·.size) = some (Spell s).size := by rw [show (Spell s).size = 32 by simp [Spell]]; kernel_rfl
      obtain ⟨wX, hwX⟩ : ∃ wX, wX = w.alloc (.cells #[W s.a, W s.b, W s.c, W s.d, W s.e, W s.f, W s.g, W s.h] 106) := ⟨_, rfl⟩
      have hsz : wX.heap.size = w.heap.size + 1 := by rw [hwX]; simp
      have hBx : Below w.heap.size w wX := by rw [hwX]; exact (Below.refl _ w).alloc (Nat.le_refl _) _
      have hlast : ∀ o1 o2 : Obj, ((wX.alloc o1).alloc o2).heap[w.heap.size + 1 + 1]? = some o2 := fun o1 o2 => by rw [← hsz]; exact heap_alloc2_new wX o1 o2
      have hfirst : ∀ o1 o2 : Obj, ((wX.alloc o1).alloc o2).heap[w.heap.size + 1]? = some o1 := fun o1 o2 => by rw [← hsz]; exact heap_alloc2_old wX o1 o2
      clear hc hj
      go_upto_region 10 with (fail)
      rw [← hwX]; refine wp_region_lit ?_; refine wpList_load_row rfl _ _ rfl (w.heap.size + 1 + 1) rfl 23 (Spell s) (0, 0) _ (hlast _ _) Tryd.underlying23 rfl hi ?_
      refine wpList_store_row rfl _ _ _ rfl (w.heap.size + 1) (Spell s) rfl rfl 23 Z (hfirst _ _) hi (by rw [HZ.out]; simp [Spell]) (Spell_one s) ?_
      have HI := Lib.hid (And.intro hi (And.intro hsz (And.intro hBx (And.intro hfirst hlast)))); clear hi hsz hBx hfirst hlast hwX; go_wp2_with (fail); obtain ⟨hi, hsz, hBx, hfirst, hlast⟩ := HI.out
      have hset : (((wX.alloc (.cells Z 23)).alloc (.cells (Spell s) 23)).setRow (w.heap.size + 1) (Spell s)).heap[w.heap.size + 1]? = some (.cells (Spell s) 23 (0, 0)) :=
        setRow_heap _ _ Z _ _ _ (hfirst _ _)
      refine bodyPost_ret (v := .agg (Spell s)) (results_cell_row rfl _ _ (w.heap.size + 1) 23 (Spell s) (0, 0) _ rfl hset Tryd.underlying23 rfl hi) rfl ⟨rfl, ?_⟩
      exact (((hBx.alloc (by omega) _).alloc (by simp; omega) _).trans ⟨rfl, rfl, rfl, by simp, fun k hk => setRow_other _ _ _ _ (by omega)⟩)
end Go.Proofs.YtdmnhgbdeifpbaaDoor
namespace Go.Proofs.YtdmnhgbdeifpbaaDoor
open Go.RowKit
def zeroHash : Array Value := Array.replicate 8 (.int .u32 0) ++ Array.replicate 64 (.int .u8 0) ++ #[.int .i64 0]
theorem zeroHash_is : HashW zeroHash [] := by
  refine ⟨by simp [zeroHash], rfl, ⟨⟨0, 0, 0, 0, 0, 0, 0, 0⟩, fun i hi => ?_, fun h => absurd rfl h⟩, fun _ => 0, fun j hj => ?_, fun j hj => by simp at hj⟩
  · have e : (St.at ⟨0, 0, 0, 0, 0, 0, 0, 0⟩ i) = 0 := by
      match i, hi with
      | 0, _ => rfl
      | 1, _ => rfl
      | 2, _ => rfl
      | 3, _ => rfl
      | 4, _ => rfl
      | 5, _ => rfl
      | 6, _ => rfl
      | 7, _ => rfl
    rw [e, zeroHash, Array.getElem?_append_left (by simp; omega), Array.getElem?_append_left (by simp; omega), Array.getElem?_replicate, if_pos hi]
    rfl
  · rw [zeroHash, Array.getElem?_append_left (by simp; omega), Array.getElem?_append_right (by simp), Array.getElem?_replicate, if_pos (by simp; omega)]
    rfl
theorem zero_hash : (∀ w, (zeroValue 109).run Tryd.prog w = .ok (.agg zeroHash) w) ∧ (Tryd.prog.info? 109).map (·.size) = some 73 := zero_of_info (by kernel_rfl)
def shaSt (l : List (BitVec 8)) : St := chain (gl (l ++ pad l.length)) ((l ++ pad l.length).length / 64)
def ShaA (l : List (BitVec 8)) : Array Value := Spell (shaSt l)
theorem HashW.one {c : Array Value} {l : List (BitVec 8)} (h : HashW c l) : c.all (·.oneCell') = true := by
  obtain ⟨h1, h2, ⟨s, h3, _⟩, f, h4, _⟩ := h; rw [Array.all_eq_true]; intro i hi; have e : c[i]? = some c[i] := Array.getElem?_eq_getElem hi
  by_cases a : i < 8
  · rw [h3 i a] at e; simp only [Option.some.injEq] at e; rw [← e]; rfl
  · by_cases a2 : i < 72
    · have := h4 (i - 8) (by omega)
      rw [show 8 + (i - 8) = i by omega, e] at this
      simp only [Option.some.injEq] at this; rw [this]; rfl
    · have : i = 72 := by omega
      subst this; rw [h2] at e; simp only [Option.some.injEq] at e; rw [← e]; rfl
def CloneEnd (w : World) (c : Array Value) (e : Ending) (w' : World) : Prop := e = .returned (.pointer (some ⟨w.heap.size, 0, none⟩)) ∧ w' = w.alloc (.cells c 109)
set_option maxRecDepth 100000 in
theorem new_any (w : World) : Calls Tryd.prog 100 #[] w (CloneEnd w zeroHash) := by
  have hz := zero_hash.1
  go_enter Tryd.func100, Tryd.ntmps100
  go_wp2_with (fail); go_ret; exact ⟨rfl, rfl⟩
set_option maxRecDepth 100000 in
theorem clone_any (w : World) (b : Nat) (c : Array Value) (l : List (BitVec 8)) (hb : w.heap[b]? = some (.cells c 109 (0, 0))) (hH : HashW c l) :
    Calls Tryd.prog 94 #[.pointer (some ⟨b, 0, none⟩)] w (CloneEnd w c) := by
  have hz := zero_hash.1
  go_enter Tryd.func94, Tryd.ntmps94
  go_upto_region 3 with (fail)
  refine wp_region_lit ?_
  iterate 6 go_step
  have hi : (Tryd.prog.info? 109).map (·.size) = some c.size := by rw [hH.1]; exact zero_hash.2
  refine wpList_load_row rfl _ _ rfl b rfl 109 c (0, 0) _ hb Tryd.underlying109 rfl hi ?_; have HH := Lib.hid (And.intro hi (And.intro hH hb)); clear hi hb hH; go_step; go_step; go_step
  refine wpList_store_row rfl _ _ _ rfl w.heap.size c rfl rfl 109 zeroHash (heap_alloc_new w _) HH.out.1 (by rw [HH.out.2.1.1]; exact zeroHash_is.1) HH.out.2.1.one ?_
  rw [World.setRow_alloc_new]; go_wp2_with (fail); go_ret; exact ⟨rfl, rfl⟩
theorem St.ofAt (s : St) {w : World} {b : Nat} {c : Array Value} {t : TypeId} (hb : w.heap[b]? = some (.cells c t (0, 0))) (h : ∀ i < 8, c[i]? = some (W (s.at i))) :
    w.cell? ⟨b, 0, none⟩ = some (W s.a) ∧ w.cell? ⟨b, 1, none⟩ = some (W s.b) ∧ w.cell? ⟨b, 2, none⟩ = some (W s.c) ∧ w.cell? ⟨b, 3, none⟩ = some (W s.d) ∧
    w.cell? ⟨b, 4, none⟩ = some (W s.e) ∧ w.cell? ⟨b, 5, none⟩ = some (W s.f) ∧ w.cell? ⟨b, 6, none⟩ = some (W s.g) ∧ w.cell? ⟨b, 7, none⟩ = some (W s.h) :=
  ⟨(cell_of_row w b 0 c _ _ hb).trans (h 0 (by omega)), (cell_of_row w b 1 c _ _ hb).trans (h 1 (by omega)), (cell_of_row w b 2 c _ _ hb).trans (h 2 (by omega)), (cell_of_row w b 3 c _ _ hb).trans (h 3 (by omega)),
   (cell_of_row w b 4 c _ _ hb).trans (h 4 (by omega)), (cell_of_row w b 5 c _ _ hb).trans (h 5 (by omega)), (cell_of_row w b 6 c _ _ hb).trans (h 6 (by omega)), (cell_of_row w b 7 c _ _ hb).trans (h 7 (by omega))⟩
def HashAt (w : World) (a : Option Addr) (l : List (BitVec 8)) : Prop :=
  (a = none ∧ l = []) ∨ ∃ b c, a = some ⟨b, 0, none⟩ ∧ w.heap[b]? = some (.cells c 109 (0, 0)) ∧ HashW c l
set_option maxRecDepth 100000 in
set_option maxHeartbeats 1000000 in
theorem sum_any (w : World) (a : Option Addr) (l : List (BitVec 8)) (hA : HashAt w a l) (hT : Tables w) (hgl : 0 < w.heap.size ∧ 1 < w.heap.size) (hlen : l.length < 1152921504606846976) :
    Calls Tryd.prog 74 #[.pointer a] w (Below0 w (.agg (ShaA l))) := by
  have hz := zero_hash.1; obtain ⟨Z, hZ⟩ : ∃ Z : Array Value, Z = Array.replicate 32 (.int .u8 0) := ⟨_, rfl⟩
  have hz2 : ∀ w, (zeroValue 23).run Tryd.prog w = .ok (.agg Z) w := by rw [hZ]; exact (zero_of_info (n := 32) (by kernel_rfl)).1
  have HZ := Lib.hid hZ; clear hZ
  go_enter Tryd.func74, Tryd.ntmps74
  go_upto_if 5 with (fail)
  go_cut [5] from 6 to 8 (fun _ wx => ∃ c0, wx = (w.alloc (.cells Z 23)).alloc (.cells c0 109) ∧ HashW c0 l)
  case first =>
    rcases hA with ⟨rfl, rfl⟩ | ⟨b, c, rfl, hb, hH⟩
    · go_wp2_with (fail)
      go_meet
      exact ⟨zeroHash, rfl, zeroHash_is⟩
    · have hbl : b < w.heap.size := (Array.getElem?_eq_some_iff.1 hb).1
      have hi : (Tryd.prog.info? 109).map (·.size) = some c.size := by rw [hH.1]; exact zero_hash.2
      have hb2 : ((w.alloc (.cells Z 23)).alloc (.cells zeroHash 109)).heap[b]? = some (.cells c 109 (0, 0)) := by
        rw [Below.heap_alloc _ _ _ (by simp; omega), Below.heap_alloc _ _ _ hbl]
        exact hb
      have HH := Lib.hid (And.intro hi (And.intro hH (And.intro hb hb2))); clear hi hH hb hb2
      go_upto_region 3 with (fail)
      refine wp_region_lit ?_
      iterate 6 go_step
      refine wpList_load_row rfl _ _ rfl b rfl 109 c (0, 0) _ HH.out.2.2.2 Tryd.underlying109 rfl HH.out.1 ?_
      refine wpList_store_row rfl _ _ _ rfl (w.heap.size + 1) c rfl rfl 109 zeroHash (heap_alloc2_new w _ _) HH.out.1 (by rw [HH.out.2.1.1]; exact zeroHash_is.1) HH.out.2.1.one ?_
      have hsr : ((w.alloc (.cells Z 23)).alloc (.cells zeroHash 109)).setRow (w.heap.size + 1) c = (w.alloc (.cells Z 23)).alloc (.cells c 109) := by
        have := World.setRow_alloc_new (w.alloc (.cells Z 23)) zeroHash c 109
        rwa [show (w.alloc (.cells Z 23)).heap.size = w.heap.size + 1 by simp] at this
      rw [hsr]; clear hsr; go_wp2_with (fail)
      go_meet
      exact ⟨c, rfl, HH.out.2.1⟩
  case rest =>
    obtain ⟨c0, hwc, hH⟩ := hcut; clear hA hz hz2
    have hB : Below w.heap.size w wc := by rw [hwc]; exact ((Below.refl _ w).alloc (Nat.le_refl _) _).alloc (by simp) _
    have hb : wc.heap[w.heap.size + 1]? = some (.cells c0 109 (0, 0)) := by rw [hwc]; exact heap_alloc2_new w _ _
    have hr : wc.heap[w.heap.size]? = some (.cells Z 23 (0, 0)) := by rw [hwc]; exact heap_alloc2_old w _ _
    have HX := Lib.hid (And.intro hB (And.intro hb (And.intro hr (And.intro hH (And.intro hT hgl))))); clear hwc hB hb hr hH hT hgl; go_wp2_with (fail); obtain ⟨hB, hb, hr, hH, hT, hgl⟩ := HX.out
    refine (finish_any wc (w.heap.size + 1) c0 l hb hH (hT.below hB) (by omega) (by omega) hlen).mono ?_
    rintro e w1 ⟨rfl, c1, hb1, hS, hg1⟩
    have hB1 : Below w.heap.size w w1 := hB.trans ⟨hg1.os, hg1.tape, hg1.output, hg1.size, fun k hk => hg1.block k (Nat.lt_of_lt_of_le hk hB.size) (by simp; omega)⟩
    have hr1 : w1.heap[w.heap.size]? = some (.cells Z 23 (0, 0)) := by rw [hg1.block _ (Array.getElem?_eq_some_iff.1 hr).1 (by simp)]; exact hr
    obtain ⟨s, hs⟩ : ∃ s, s = shaSt l := ⟨_, rfl⟩
    obtain ⟨h0, h1, h2, h3, h4, h5, h6, h7⟩ := St.ofAt s hb1 (by rw [hs]; exact hS.2.2.1)
    have HY := Lib.hid (And.intro hB1 (And.intro hr1 hs)); clear hB hb hr hH hT hgl HX hb1 hS hg1 hB1 hr1 hs; dsimp only; go_wp2_with (fail); refine (spell_any w1 s).mono ?_; rintro e w2 ⟨rfl, hB2⟩; obtain ⟨hB1, hr1, hs⟩ := HY.out
    have hr2 : w2.heap[w.heap.size]? = some (.cells Z 23 (0, 0)) := by rw [hB2.block _ (Array.getElem?_eq_some_iff.1 hr1).1]; exact hr1
    have hB3 : Below w.heap.size w w2 := hB1.trans (hB2.mono hB1.size)
    have hi : (Tryd.prog.info? 23).map (·.size) = some (Spell s).size := by rw [show (Spell s).size = 32 by simp [Spell]]; kernel_rfl
    have HW := Lib.hid (And.intro hr2 (And.intro hB3 (And.intro hs hi))); clear h0 h1 h2 h3 h4 h5 h6 h7 hB1 hr1 hs hr2 hB3 hi hB2; dsimp only; go_step
    refine wpList_store_row rfl _ _ _ rfl w.heap.size (Spell s) rfl rfl 23 Z HW.out.1 HW.out.2.2.2 (by rw [HZ.out]; simp [Spell]) (Spell_one s) ?_
    go_wp2_with (fail); obtain ⟨hr2, hB3, hs, hi⟩ := HW.out
    refine bodyPost_ret (v := .agg (Spell s)) (results_cell_row rfl _ _ w.heap.size 23 (Spell s) (0, 0) _ rfl (setRow_heap _ _ Z _ _ _ hr2) Tryd.underlying23 rfl hi) rfl ⟨by rw [hs]; rfl, ?_⟩
    exact hB3.trans ⟨rfl, rfl, rfl, by simp, fun k hk => setRow_other _ _ _ _ (by omega)⟩
end Go.Proofs.YtdmnhgbdeifpbaaDoor
namespace Go.Proofs.YtdmnhgbdeifpbaaDoor
open Go.RowKit
def SameRel (w : World) (m1 m2 : List (BitVec 8)) (d k : Value) (wr : World) : Prop :=
  ∃ (t n : Nat) (x : BitVec 8), t ≤ m1.length ∧ k = .int .i64 t ∧ d = B x ∧ wr = w.drewN n ∧ (x = 0 ↔ ∀ i < t, gl m1 i = gl m2 i)
def SameEnd (w : World) (m1 m2 : List (BitVec 8)) (e : Ending) (w' : World) : Prop := e = .returned (.bool (decide (m1 = m2))) ∧ ∃ n, w' = w.drewN n
set_option maxRecDepth 100000 in
set_option maxHeartbeats 1000000 in
theorem same_any (w : World) (a1 a2 : Option Addr) (m1 m2 : List (BitVec 8)) (c1 c2 : Nat) (h1 : SrcP w a1 m1.length m1) (h2 : SrcP w a2 m2.length m2)
    (hl1 : m1.length ≤ 9223372036854775807) (_hl2 : m2.length ≤ 9223372036854775807) :
    Calls Tryd.prog 80 #[.slice a1 m1.length c1, .slice a2 m2.length c2] w (SameEnd w m1 m2) := by
  by_cases hl : m1.length = m2.length
  · have HL := Lib.hid hl
    have e0 : ((m1.length : Int) != (m2.length : Int)) = false := by rw [hl]; simp
    obtain ⟨L1, hL1⟩ : ∃ L, L = m1.length := ⟨_, rfl⟩; obtain ⟨L2, hL2⟩ : ∃ L, L = m2.length := ⟨_, rfl⟩; rw [← hL1] at h1 hl1 e0 ⊢; rw [← hL2] at h2 e0 ⊢; have HX := Lib.hid (And.intro hL1 hL2); have HS := Lib.hid (And.intro h1 h2); clear hl hL1 hL2 h1 h2
    go_enter Tryd.func80, Tryd.ntmps80
    go_wp2_with (fail)
    go_loopw [5, 14] (SameRel w m1 m2) (fun _ k _ => L1 - (intOf k).toNat)
    case atStart => exact ⟨0, 0, 0, by omega, rfl, rfl, rfl, by simp⟩
    case round =>
      obtain ⟨t, n, x, ht, rfl, rfl, rfl, hx⟩ := hrel; rw [← HX.out.1] at ht; have HR := Lib.hid hx; clear hx
      by_cases hlt : t < L1
      · obtain ⟨s1, s2⟩ := HS.out
        rcases s1 with s1 | ⟨b1, o1, rfl, s1⟩
        · omega
        rcases s2 with s2 | ⟨b2, o2, rfl, s2⟩
        · have := HL.out; have := HX.out; omega
        have k1 := s1 t hlt
        have hlt2 : t < L2 := by have := HL.out; have := HX.out; omega
        have k2 := s2 t hlt2
        have i1 : (0 : Int) ≤ (t : Int) ∧ (t : Int) < (L1 : Int) := by omega
        have i2 : (0 : Int) ≤ (t : Int) ∧ (t : Int) < (L2 : Int) := by omega
        clear s1 s2; go_wp2_with (fail)
        go_quiet (fail)
        go_wp2_with (fail)
        refine ⟨⟨t + 1, n + nq, x ||| (gl m1 t ^^^ gl m2 t), by rw [← HX.out.1]; omega, by go_num, rfl, rfl, ?_⟩, by simp [intOf]; omega⟩
        rw [or_zero, HR.out]
        refine ⟨fun h i hi => ?_, fun h => ⟨fun i hi => h i (by omega), ?_⟩⟩
        · by_cases e : i = t
          · subst e; exact BitVec.xor_eq_zero_iff.1 h.2
          · exact h.1 i (by omega)
        · exact BitVec.xor_eq_zero_iff.2 (h t (by omega))
      · obtain rfl : t = L1 := by omega
        have hgd : ∀ (o1 o2 : Operand) w, (eqGuard .eql 5 o1 o2 (B x) (.int .u8 0)).run Tryd.prog w = .ok () w := fun _ _ _ => rfl; go_wp2_with (fail); go_ret; refine ⟨?_, n, rfl⟩
        have e : (x = 0#8) ↔ m1 = m2 := by
          have h := HR.out; rw [list_eq_gl HL.out, ← HX.out.1]; exact h
        show Ending.returned (.bool (decide (x = 0#8))) = .returned (.bool (decide (m1 = m2)))
        congr 2
        exact decide_eq_decide.2 e
  · have e0 : ((m1.length : Int) != (m2.length : Int)) = true := by simp; omega
    have hd : decide (m1 = m2) = false := by
      have : m1 ≠ m2 := fun e => hl (by rw [e])
      simpa using this
    unfold SameEnd; rw [hd]; clear hl h1 h2 hd
    go_enter Tryd.func80, Tryd.ntmps80
    go_wp2_with (fail); go_ret; exact ⟨rfl, 0, rfl⟩
end Go.Proofs.YtdmnhgbdeifpbaaDoor
namespace Go.Proofs.YtdmnhgbdeifpbaaDoor
open Go.RowKit
def SumRel (w0 : World) (b : Nat) (ps : List Part) (k : Value) (wr : World) : Prop :=
  ∃ (t : Nat) (c : Array Value), t ≤ ps.length ∧ k = .int .i64 t ∧ wr.heap[b]? = some (.cells c 109 (0, 0)) ∧ HashW c (flat (ps.take t)) ∧ w0.grownBy wr (some b)
set_option maxRecDepth 100000 in
set_option maxHeartbeats 1000000 in
theorem sumF_any (w : World) (a : Option Addr) (cap : Nat) (ps : List Part) (hP : PartsAt w a ps) (hok : ∀ p ∈ ps, p.ok w) (hT : Tables w) (hgl : 0 < w.heap.size ∧ 1 < w.heap.size)
    (hlen : (flat ps).length < 1152921504606846976) (hps : ps.length ≤ 9223372036854775807) :
    Calls Tryd.prog 50 #[.slice a ps.length cap] w (Below0 w (.agg (ShaA (flat ps)))) := by
  have hz := zero_hash.1; obtain ⟨Z, hZ⟩ : ∃ Z : Array Value, Z = Array.replicate 32 (.int .u8 0) := ⟨_, rfl⟩
  have hz2 : ∀ w, (zeroValue 23).run Tryd.prog w = .ok (.agg Z) w := by rw [hZ]; exact (zero_of_info (n := 32) (by kernel_rfl)).1
  have HZ := Lib.hid hZ; obtain ⟨K, hK⟩ : ∃ K, K = ps.length := ⟨_, rfl⟩; rw [← hK] at hps ⊢; have HK := Lib.hid hK; have HP := Lib.hid (And.intro hP (And.intro hok (And.intro hT hgl))); clear hZ hK hP hok hT hgl
  go_enter Tryd.func50, Tryd.ntmps50
  go_upto_region 2 with (fail)
  obtain ⟨w0, hw0⟩ : ∃ w0, w0 = (w.alloc (.cells Z 23)).alloc (.cells zeroHash 109) := ⟨_, rfl⟩; rw [← hw0]
  have hB : Below w.heap.size w w0 := by rw [hw0]; exact ((Below.refl _ w).alloc (Nat.le_refl _) _).alloc (by simp) _
  have hb : w0.heap[w.heap.size + 1]? = some (.cells zeroHash 109 (0, 0)) := by rw [hw0]; exact heap_alloc2_new w _ _
  have hr : w0.heap[w.heap.size]? = some (.cells Z 23 (0, 0)) := by rw [hw0]; exact heap_alloc2_old w _ _
  have HX := Lib.hid (And.intro hB (And.intro hb hr)); clear hB hb hr hw0 hz hz2; go_wp2_with (fail)
  go_loopw [8] (SumRel w0 (w.heap.size + 1) ps) (fun k _ => K - (intOf k).toNat)
  case atStart => exact ⟨0, zeroHash, by omega, rfl, HX.out.2.1, zeroHash_is, ⟨rfl, rfl, rfl, Nat.le_refl _, fun _ _ _ => rfl⟩⟩
  case round =>
    obtain ⟨t, c, ht, rfl, hb, hH, hg⟩ := hrel; rw [← HK.out] at ht; have HR := Lib.hid (And.intro hb (And.intro hH hg)); clear hb hH hg
    by_cases hlt : t < K
    · obtain ⟨p, hp⟩ : ∃ p, ps[t]? = some p := ⟨ps[t]'(by rw [← HK.out]; exact hlt), List.getElem?_eq_getElem (by rw [← HK.out]; exact hlt)⟩
      have hpm : p ∈ ps := List.mem_of_getElem? hp
      rcases HP.out.1 with hP | ⟨pb, po, rfl, hP⟩
      · rw [hP] at hp
        cases hp
      have i0 : (0 : Int) ≤ (t : Int) ∧ (t : Int) < (K : Int) := by omega
      have hcell : wr.cell? ⟨pb, po + t, none⟩ = some (.slice p.a p.m.length p.cap) := by
        have h1 := hP t p hp; have h2 := block_lt_of_cell h1; have h3 := (HX.out.1.cell (p := ⟨pb, po + t, none⟩) h2).trans h1
        exact HR.out.2.2.cell h3 (by simp at h2 ⊢; omega)
      have HY := Lib.hid (And.intro hp hpm); clear hp hpm hP; go_wp2_with (fail); obtain ⟨hb, hH, hg⟩ := HR.out; obtain ⟨hP, hok, hT, hgl⟩ := HP.out; obtain ⟨hp, hpm⟩ := HY.out; have hpo := hok p hpm; have hfs := flat_step ps t p hp; have hfl := flat_take_length ps (t + 1)
      refine (write_any wr (w.heap.size + 1) c (flat (ps.take t)) p.m p.a p.cap hb hH ((hT.below HX.out.1).grown hg (by omega) (by omega)) (by omega) (by omega) hpo.1 hpo.2.1
        (((hpo.2.2.src (b := w.heap.size + 1) (by omega)).belowS HX.out.1).grown hg) (by rw [hfs] at hfl; simp at hfl; omega)).mono ?_
      rintro e w' ⟨rfl, c', hb', hH', hg'⟩; rw [← hfs] at hH'; have HW := Lib.hid (And.intro hb' (And.intro hH' (grown_trans hg hg'))); clear hb hH hg hP hok hT hgl hp hpm hpo hfs hfl hb' hH' hg'; dsimp only; go_wp2_with (fail)
      exact ⟨⟨t + 1, c', by rw [← HK.out]; omega, by go_num, HW.out.1, HW.out.2.1.weak, HW.out.2.2⟩, by simp [intOf]; omega⟩
    · obtain rfl : t = K := by omega
      obtain ⟨hb, hH, hg⟩ := HR.out; rw [HK.out, List.take_length] at hH; have hT := HP.out.2.2.1; have hgl := HP.out.2.2.2; have hB := HX.out.1
      have hT2 : Tables wr := (hT.below hB).grown hg (by omega) (by omega)
      have hgl2 : 0 < wr.heap.size ∧ 1 < wr.heap.size := by have := hg.size; have := hB.size; omega
      have HA := Lib.hid (And.intro hb (And.intro hH (And.intro hT2 hgl2))); clear hb hH hg hT hgl hB hT2 hgl2; go_wp2_with (fail); obtain ⟨hb, hH, hT2, hgl2⟩ := HA.out; refine (sum_any wr (some ⟨w.heap.size + 1, 0, none⟩) (flat ps) (.inr ⟨_, c, rfl, hb, hH⟩) hT2 hgl2 hlen).mono ?_; rintro e w2 ⟨rfl, hB2⟩; obtain ⟨hbX, _, hrX⟩ := HX.out; have hgr := HR.out.2.2
      have hr1 : wr.heap[w.heap.size]? = some (.cells Z 23 (0, 0)) := by rw [hgr.block _ (Array.getElem?_eq_some_iff.1 hrX).1 (by simp)]; exact hrX
      have hr2 : w2.heap[w.heap.size]? = some (.cells Z 23 (0, 0)) := by rw [hB2.block _ (Array.getElem?_eq_some_iff.1 hr1).1]; exact hr1
      have hB3 : Below w.heap.size w w2 := (hbX.trans ⟨hgr.os, hgr.tape, hgr.output, hgr.size, fun k hk => hgr.block k (Nat.lt_of_lt_of_le hk hbX.size) (by simp; omega)⟩).trans (hB2.mono (Nat.le_trans hbX.size hgr.size))
      have hi : (Tryd.prog.info? 23).map (·.size) = some (ShaA (flat ps)).size := by rw [show (ShaA (flat ps)).size = 32 by simp [ShaA, Spell]]; kernel_rfl
      have HW := Lib.hid (And.intro hr2 (And.intro hB3 hi)); clear hb hH hT2 hgl2 hbX hrX hgr hr1 hr2 hB3 hi hB2; dsimp only; go_step
      refine wpList_store_row rfl _ _ _ rfl w.heap.size (ShaA (flat ps)) rfl rfl 23 Z HW.out.1 HW.out.2.2 (by rw [HZ.out]; simp [ShaA, Spell]) (Spell_one _) ?_
      go_wp2_with (fail); obtain ⟨hr2, hB3, hi⟩ := HW.out; refine bodyPost_ret (v := .agg (ShaA (flat ps))) (results_cell_row rfl _ _ w.heap.size 23 (ShaA (flat ps)) (0, 0) _ rfl (setRow_heap _ _ Z _ _ _ hr2) Tryd.underlying23 rfl hi) rfl ⟨rfl, ?_⟩
      exact hB3.trans ⟨rfl, rfl, rfl, by simp, fun k hk => setRow_other _ _ _ _ (by omega)⟩
end Go.Proofs.YtdmnhgbdeifpbaaDoor
namespace Go.Proofs.YtdmnhgbdeifpbaaDoor
open Go.RowKit
def shaL (l : List (BitVec 8)) : List (BitVec 8) := (List.range 32).map (byteAt (shaSt l))
theorem shaL_length (l : List (BitVec 8)) : (shaL l).length = 32 := by simp [shaL]
theorem Spell_is (s : St) : Spell s = (((List.range 32).map (byteAt s)).map B).toArray := by
  apply Array.ext
  · simp [Spell]
  · intro i h1 h2; simp [Spell]
theorem ShaA_is (l : List (BitVec 8)) : ShaA l = ((shaL l).map B).toArray := Spell_is (shaSt l)
theorem ShaA_size (l : List (BitVec 8)) : (ShaA l).size = 32 := by simp [ShaA, Spell]
def shortL (k : List (BitVec 8)) : List (BitVec 8) := if 64 < k.length then shaL k else k
theorem shortL_long {k : List (BitVec 8)} (h : 64 < k.length) : shortL k = shaL k := if_pos h
theorem shortL_short {k : List (BitVec 8)} (h : k.length ≤ 64) : shortL k = k := if_neg (by omega)
theorem shortL_length (k : List (BitVec 8)) : (shortL k).length ≤ 64 := by
  unfold shortL
  split
  · rw [shaL_length]; omega
  · omega
def keyL (k : List (BitVec 8)) : List (BitVec 8) := shortL k ++ List.replicate (64 - (shortL k).length) 0
theorem keyL_length (k : List (BitVec 8)) : (keyL k).length = 64 := by
  have := shortL_length k; simp [keyL]; omega
def xorL (x : BitVec 8) (l : List (BitVec 8)) : List (BitVec 8) := l.map (· ^^^ x)
theorem xorL_length (x : BitVec 8) (l : List (BitVec 8)) : (xorL x l).length = l.length := by simp [xorL]
def ipad (k : List (BitVec 8)) : List (BitVec 8) := xorL 0x36 (keyL k)
def opad (k : List (BitVec 8)) : List (BitVec 8) := xorL 0x5c (keyL k)
theorem ipad_length (k : List (BitVec 8)) : (ipad k).length = 64 := by rw [ipad, xorL_length, keyL_length]
theorem opad_length (k : List (BitVec 8)) : (opad k).length = 64 := by rw [opad, xorL_length, keyL_length]
def outerL (ik ok m : List (BitVec 8)) : List (BitVec 8) := ok ++ shaL (ik ++ m)
def macL (k m : List (BitVec 8)) : List (BitVec 8) := outerL (ipad k) (opad k) m
end Go.Proofs.YtdmnhgbdeifpbaaDoor
