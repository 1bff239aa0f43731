/-
  The contract of fold.
-/
import Derived.Test.YtmdacfbhfacniaaDoorShaSched
namespace Go.Proofs.YtmdacfbhfacniaaDoor
open Go.RowKit

/-- A callee that leaves the world alone, met in a world that is already some draws behind. -/
theorem quiet_same2 {P : Program} {f : FuncId} {args : Array Value} {w : World} {n m : Nat} {v : Value}
    (h : Calls P f args (w.drewN (n + m)) fun e w' => e = .returned v ∧ w' = w.drewN (n + m)) : Calls P f args (w.drewN (n + m)) fun e w'' => e = .returned v ∧ ∃ k, w'' = w.drewN (n + k) :=
  h.mono fun _ _ ⟨he, hk⟩ => ⟨he, m, hk⟩

def FoldRel (f : Nat → BitVec 8) (s : St) (W2 : World) (a b c d e g h i k : Value) (wr : World) : Prop :=
  ∃ (t n : Nat), t ≤ 64 ∧ k = .int .i64 t ∧ wr = W2.drewN n ∧ a = W (rnds f s t).a ∧ b = W (rnds f s t).b ∧ c = W (rnds f s t).c ∧ d = W (rnds f s t).d ∧
    e = W (rnds f s t).e ∧ g = W (rnds f s t).f ∧ h = W (rnds f s t).g ∧ i = W (rnds f s t).h

/-- The table of the rounds' words lies in a world. -/
def Roots (w : World) : Prop := ∀ i < 64, w.cell? ⟨1, i, none⟩ = some (W (kAt i))

/-- What fold leaves: the first eight cells turned. -/
def Folded (f : Nat → BitVec 8) (s : St) (k : Nat) (c c' : Array Value) : Prop :=
  c'.size = c.size ∧ (∀ i < k, c'[i]? = some (W ((compress f s).at i))) ∧ ∀ i, k ≤ i → c'[i]? = c[i]?
theorem Folded_step {f : Nat → BitVec 8} {s : St} {k : Nat} {c c' : Array Value} (h : Folded f s k c c') (hk : k < c.size) : Folded f s (k + 1) c (c'.setIfInBounds k (W ((compress f s).at k))) := by
  refine ⟨by simp [h.1], fun i hi => ?_, fun i hi => ?_⟩
  · rw [Array.getElem?_setIfInBounds]
    split
    · rename_i e
      subst e
      rw [if_pos (by rw [h.1]; exact hk)]
    · exact h.2.1 i (by omega)
  · rw [Array.getElem?_setIfInBounds, if_neg (by omega)]
    exact h.2.2 i (by omega)
theorem setCell_row (w : World) (b i n : Nat) (c c' : Array Value) (t : TypeId) (v : Value) (hb : w.heap[b]? = some (.cells c t (0, 0))) :
    ((w.setRow b c').drewN n).setCell ⟨b, i, none⟩ v = (w.setRow b (c'.setIfInBounds i v)).drewN n := by
  show World.drewN (World.setCell (w.setRow b c') ⟨b, i, none⟩ v) n = _
  rw [setCell_eq_setRow (w.setRow b c') b i c' t (0, 0) v (setRow_heap w b c c' t _ hb), setRow_setRow]
theorem setRow_self (w : World) (b : Nat) (c : Array Value) (t : TypeId) (hb : w.heap[b]? = some (.cells c t (0, 0))) : w.setRow b c = w := by
  unfold World.setRow
  cases w with
  | mk heap tape drawn os output =>
    congr 1
    apply Array.ext_getElem?
    intro i
    rw [Array.getElem?_modify]
    split
    · rename_i e
      subst e
      have hb' : heap[b]? = some (.cells c t (0, 0)) := hb
      rw [hb']
      rfl
    · rfl
def FoldRel2 (f : Nat → BitVec 8) (s : St) (W2 : World) (b : Nat) (c : Array Value) (k : Value) (wr : World) : Prop :=
  ∃ (t n : Nat) (c' : Array Value), t ≤ 8 ∧ k = .int .i64 t ∧ wr = (W2.setRow b c').drewN n ∧ Folded f s t c c'
def FoldEnd (f : Nat → BitVec 8) (s : St) (w : World) (b : Nat) (c : Array Value) (e : Ending) (w' : World) : Prop :=
  e = .returned (.tuple #[]) ∧ ∃ c', w'.heap[b]? = some (.cells c' 57 (0, 0)) ∧ Folded f s 8 c c' ∧ w.grownBy w' (some b)

theorem built8 (x0 x1 x2 x3 x4 x5 x6 x7 : BitVec 32) :
    Tryd.prog.built 55 [(0, W x0), (1, W x1), (2, W x2), (3, W x3), (4, W x4), (5, W x5), (6, W x6), (7, W x7)] = some #[W x0, W x1, W x2, W x3, W x4, W x5, W x6, W x7] := by kernel_rfl
theorem run_build8 (x0 x1 x2 x3 x4 x5 x6 x7 : BitVec 32) (w : World) :
    (Instr.build 55 #[(0, W x0), (1, W x1), (2, W x2), (3, W x3), (4, W x4), (5, W x5), (6, W x6), (7, W x7)]).run Tryd.prog w = .ok (.agg #[W x0, W x1, W x2, W x3, W x4, W x5, W x6, W x7]) w :=
  run_build w _ _ _ (built8 x0 x1 x2 x3 x4 x5 x6 x7)

set_option maxRecDepth 100000 in
set_option maxHeartbeats 4000000 in
theorem fold_any (w : World) (b : Nat) (c : Array Value) (f : Nat → BitVec 8) (s : St) (hb : w.heap[b]? = some (.cells c 57 (0, 0)))
    (hs : ∀ i < 8, c[i]? = some (W (s.at i))) (hf : ∀ j < 64, c[8 + j]? = some (B (f j))) (hr : Roots w) :
    Calls Tryd.prog 25 #[.pointer (some ⟨b, 0, none⟩)] w (FoldEnd f s w b c) := by
  have hbl : b < w.heap.size := (Array.getElem?_eq_some_iff.1 hb).1
  have h0 : w.cell? ⟨b, 0, none⟩ = some (W s.a) := (cell_of_row w b 0 c _ _ hb).trans (hs 0 (by omega))
  have h1 : w.cell? ⟨b, 1, none⟩ = some (W s.b) := (cell_of_row w b 1 c _ _ hb).trans (hs 1 (by omega))
  have h2 : w.cell? ⟨b, 2, none⟩ = some (W s.c) := (cell_of_row w b 2 c _ _ hb).trans (hs 2 (by omega))
  have h3 : w.cell? ⟨b, 3, none⟩ = some (W s.d) := (cell_of_row w b 3 c _ _ hb).trans (hs 3 (by omega))
  have h4 : w.cell? ⟨b, 4, none⟩ = some (W s.e) := (cell_of_row w b 4 c _ _ hb).trans (hs 4 (by omega))
  have h5 : w.cell? ⟨b, 5, none⟩ = some (W s.f) := (cell_of_row w b 5 c _ _ hb).trans (hs 5 (by omega))
  have h6 : w.cell? ⟨b, 6, none⟩ = some (W s.g) := (cell_of_row w b 6 c _ _ hb).trans (hs 6 (by omega))
  have h7 : w.cell? ⟨b, 7, none⟩ = some (W s.h) := (cell_of_row w b 7 c _ _ hb).trans (hs 7 (by omega))
  go_enter Tryd.func25, Tryd.ntmps25
  go_wp2_with (fail)
  refine (schedule_any w b c f hb hf).mono ?_
  rintro e w1 ⟨rfl, hw1⟩
  have hR : ∀ i < 64, w1.cell? ⟨1, i, none⟩ = some (W (kAt i)) := fun i hi =>
    (hw1.cell (p := ⟨1, i, none⟩) (block_lt_of_cell (hr i hi))).trans (hr i hi)
  have hgl : 1 < w.heap.size := block_lt_of_cell (hr 0 (by omega))
  have hgl1 : 1 < w1.heap.size := by have := hw1.size; omega
  have HK := Lib.hid hR
  have HG := Lib.hid hgl
  clear hR hr hgl
  have hbl1 : b < w1.heap.size := by have := hw1.size; omega
  have g : ∀ i, w1.cell? ⟨b, i, none⟩ = w.cell? ⟨b, i, none⟩ := fun i => hw1.cell (p := ⟨b, i, none⟩) hbl
  rw [← g] at h0 h1 h2 h3 h4 h5 h6 h7
  clear g
  dsimp only
  go_step
  go_step
  go_step
  go_step
  have hi : (Tryd.prog.info? 64).map (·.size) = some (Sched f).size := by rw [show (Sched f).size = 64 by simp [Sched]]; kernel_rfl
  refine wpList_store_row rfl _ _ _ rfl w1.heap.size (Sched f) rfl rfl 64 _ (heap_alloc_new w1 _) hi (by simp [Sched]) (Sched_one f) ?_
  rw [World.setRow_alloc_new]
  have hS : ∀ j < 64, (Sched f)[j]? = some (W (sched f j)) := fun j hj => by simp [Sched, hj]
  generalize Sched f = C at hS ⊢
  have HS := Lib.hid hS
  have HB := Lib.hid hb
  have HF := Lib.hid hf
  have HC := Lib.hid hs
  have H1 := Lib.hid hw1
  clear hS hi hb hf hs hw1
  go_wp2_with (fail)
  go_quiet (fail)
  obtain ⟨W2, hW2⟩ : ∃ W2, W2 = (w1.alloc (.cells C 64)).alloc (.cells #[W s.a, W s.b, W s.c, W s.d, W s.e, W s.f, W s.g, W s.h] 55) := ⟨_, rfl⟩
  rw [← hW2]
  have HW2 := Lib.hid hW2
  clear hW2 h0 h1 h2 h3 h4 h5 h6 h7
  go_wp2_with (fail)
  go_loopw [4, 5, 6, 7, 8, 9, 10, 11, 39] (FoldRel f s W2) (fun _ _ _ _ _ _ _ _ k _ => 64 - (intOf k).toNat)
  case atStart => exact ⟨0, nq, by omega, rfl, rfl, rfl, rfl, rfl, rfl, rfl, rfl, rfl, rfl⟩
  case round =>
    obtain ⟨t, n, ht, rfl, rfl, rfl, rfl, rfl, rfl, rfl, rfl, rfl, rfl⟩ := hrel
    by_cases hlt : t < 64
    · obtain ⟨r, hr⟩ : ∃ r, r = rnds f s t := ⟨_, rfl⟩
      rw [← hr]
      have HR := Lib.hid hr
      clear hr
      have i0 : (0 : Int) ≤ (t : Int) ∧ (t : Int) < 64 := by omega
      have cS : W2.cell? ⟨w1.heap.size, t, none⟩ = some (W (sched f t)) := by
        have e : W2.heap[w1.heap.size]? = some (.cells C 64 (0, 0)) := by rw [HW2.out]; exact heap_alloc2_old w1 _ _
        rw [cell_of_row W2 _ t C _ _ e]
        exact HS.out t hlt
      have cR : W2.cell? ⟨1, t, none⟩ = some (W (kAt t)) := by
        have e : W2.heap[1]? = w1.heap[1]? := by rw [HW2.out, Below.heap_alloc _ _ _ (by simp; omega), Below.heap_alloc _ _ _ hgl1]
        have e2 : W2.cell? ⟨1, t, none⟩ = w1.cell? ⟨1, t, none⟩ := World.cell?_of_block e
        rw [e2]
        exact HK.out t hlt
      go_wp2_with (fail)
      refine wp_region_quiet_lit (by kernel_rfl) (by kernel_rfl) ?_
      repeat (quiet_step (fail))
      refine wpQuiet_step (fun K hK => ?_)
      go_simp
      apply Exists.intro
      refine ⟨fun _ => ?_, hK _ ?_⟩
      · exact quiet_same2 (turns1 _ _)
      clear hK K
      repeat (quiet_step (fail))
      refine wpQuiet_nil ?_
      intro _ hw'
      obtain ⟨nq, hw''⟩ := hw'
      subst hw''
      go_wp2_with (fail)
      refine (turns0 _ _).mono ?_
      rintro e w' ⟨rfl, rfl⟩
      dsimp only
      go_wp2_with (fail)
      refine ⟨⟨t + 1, n + nq, by omega, by go_num, rfl, ?_⟩, by simp [intOf]; omega⟩
      rw [show rnds f s (t + 1) = rstep (rnds f s t) (kAt t) (sched f t) from rfl, ← HR.out]
      exact ⟨rfl, rfl, rfl, rfl, rfl, rfl, rfl, rfl⟩
    · obtain rfl : t = 64 := by omega
      obtain ⟨r, hr⟩ : ∃ r, r = rnds f s 64 := ⟨_, rfl⟩
      rw [← hr]
      have HR := Lib.hid hr
      clear hr ht hlt
      have hbW : W2.heap[b]? = some (.cells c 57 (0, 0)) := by
        rw [HW2.out, Below.heap_alloc _ _ _ (by simp; omega), Below.heap_alloc _ _ _ hbl1, H1.out.block b hbl]
        exact HB.out
      have hg : w.grownBy W2 (some b) := by
        rw [HW2.out]
        exact ⟨H1.out.os, H1.out.tape, H1.out.output, by have := H1.out.size; simp; omega, fun k hk _ => by
          have := H1.out.size
          rw [Below.heap_alloc _ _ _ (by simp; omega), Below.heap_alloc _ _ _ (by omega), H1.out.block k hk]⟩
      have hs8 : 8 ≤ c.size := by
        have := HC.out 7 (by omega)
        have := (Array.getElem?_eq_some_iff.1 this).1
        omega
      have HBW := Lib.hid hbW
      have HGR := Lib.hid hg
      have HC8 := Lib.hid hs8
      clear hbW hg hs8
      go_upto_region 10 with (fail)
      refine wp_region_lit ?_
      iterate 24 go_step
      refine wpList_plain rfl fun K hK => ?_
      unfold Oper.wp execOp
      simp only [Sem.run_bind, List.map_toArray, List.map_cons, List.map_nil, Act.eval]
      show Oper.upon _ _ _ _ _ (Result.andThen (Sem.run Tryd.prog (Instr.build 55 #[(0, W r.a), (1, W r.b), (2, W r.c), (3, W r.d), (4, W r.e), (5, W r.f), (6, W r.g), (7, W r.h)]) (W2.drewN n)) _)
      rw [run_build8]
      refine hK _ _ ?_
      clear hK K
      go_wp2_with (fail)
      try rw [show ((64 : Nat) : Int) = 64 from rfl]
      go_loopw [99] (FoldRel2 f s W2 b c) (fun k _ => 8 - (intOf k).toNat)
      case atStart => exact ⟨0, n, c, by omega, rfl, by rw [setRow_self _ _ _ _ HBW.out], rfl, fun i hi => by omega, fun i _ => rfl⟩
      case round =>
        clear n
        obtain ⟨t, n, c', ht, rfl, rfl, hF⟩ := hrel
        by_cases hlt : t < 8
        · have i0 : (0 : Int) ≤ (t : Int) ∧ (t : Int) < 8 := by omega
          have hix : ∀ W', (Instr.index 55 (.agg #[W r.a, W r.b, W r.c, W r.d, W r.e, W r.f, W r.g, W r.h]) (.int .i64 (t : Int))).run Tryd.prog W' = .ok (W (r.at t)) W' := fun W' =>
            run_index_arr _ 54 8 Tryd.underlying55 Tryd.sizeOf54 Tryd.isAgg54 _ t hlt _ (r.cell t hlt) W'
          have hrow : ((W2.setRow b c').drewN n).heap[b]? = some (.cells c' 57 (0, 0)) := setRow_heap W2 b c c' _ _ HBW.out
          have hval : ((W2.setRow b c').drewN n).cell? ⟨b, t, none⟩ = some (W (s.at t)) := by
            rw [cell_of_row _ b t c' _ _ hrow, hF.2.2 t (Nat.le_refl _)]
            exact HC.out t hlt
          have hfro : ((W2.setRow b c').drewN n).frozen? ⟨b, t, none⟩ = false := frozen_of_row _ b t c' _ hrow
          obtain ⟨W3, hW3⟩ : ∃ W3, W3 = (W2.setRow b c').drewN n := ⟨_, rfl⟩
          rw [← hW3] at hval hfro ⊢
          have HW3 := Lib.hid hW3
          have HF2 := Lib.hid hF
          clear hW3 hrow hF
          go_wp2_with (fail)
          refine wp_region_quiet_tail 11 (by kernel_rfl) (by kernel_rfl) ?_
          simp only [List.take_succ_cons, List.take_zero, List.drop_succ_cons, List.drop_zero]
          repeat (quiet_step (fail))
          refine wpQuiet_nil ?_
          intro _ hw'
          obtain ⟨nq, hw''⟩ := hw'
          subst hw''
          refine wpList_store1 rfl _ _ _ rfl ⟨b, t, none⟩ (W (s.at t + r.at t)) (W (s.at t)) rfl rfl rfl rfl Tryd.sizeOf54 hval hfro ?_
          go_wp2_with (fail)
          have hval2 : W (s.at t + r.at t) = W ((compress f s).at t) := by rw [compress, at_add _ _ _ hlt, HR.out]
          refine ⟨⟨t + 1, n + nq, c'.setIfInBounds t (W (s.at t + r.at t)), by omega, by go_num, ?_, ?_⟩, by simp [intOf]; omega⟩
          · rw [HW3.out]
            show World.drewN (World.setCell ((W2.setRow b c').drewN n) ⟨b, t, none⟩ _) nq = _
            rw [setCell_row W2 b t n c c' _ _ HBW.out, World.drewN_drewN]
          · rw [hval2]
            exact Folded_step HF2.out (by have := HC8.out; omega)
        · obtain rfl : t = 8 := by omega
          go_wp2_with (fail)
          go_end0
          refine ⟨rfl, c', setRow_heap W2 b c c' _ _ HBW.out, hF, ?_⟩
          have hg := HGR.out
          exact ⟨hg.os, hg.tape, hg.output, by have := hg.size; show _ ≤ (W2.setRow b c').heap.size; rw [setRow_size]; exact this, fun k hk hne => by
            have : k ≠ b := fun e => hne (by rw [e])
            show (W2.setRow b c').heap[k]? = _
            rw [setRow_other _ _ _ _ this]
            exact hg.block k hk hne⟩
end Go.Proofs.YtmdacfbhfacniaaDoor
