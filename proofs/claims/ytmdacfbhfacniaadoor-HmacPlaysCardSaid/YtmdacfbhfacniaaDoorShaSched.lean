/-
  The contract of schedule.
-/
import Derived.Test.YtmdacfbhfacniaaDoorShaWords
import Derived.Test.YtmdacfbhfacniaaDoorQuietTail
import Derived.Deep.WholeRow
import Derived.Deep.Cut
import Derived.Lib.Hide
namespace Go.Proofs.YtmdacfbhfacniaaDoor
open Go.RowKit

def Sched (f : Nat → BitVec 8) : Array Value := Array.ofFn (n := 64) fun i => W (sched f i)

theorem below_draws {B : Nat} {a w : World} (h : Below B a w) (n : Nat) : Below B a (w.drewN n) := h.trans ⟨rfl, rfl, rfl, Nat.le_refl _, fun _ _ => rfl⟩
def Below0 (w : World) (x : Value) (e : Ending) (w' : World) : Prop := e = .returned x ∧ Below w.heap.size w w'

def S1 (f : Nat → BitVec 8) (t : Nat) (c : Array Value) : Prop := c.size = 64 ∧ ∀ j < t, c[j]? = some (W (sched f j))


theorem S1_step (f : Nat → BitVec 8) (t : Nat) (c : Array Value) (h : S1 f t c) (ht : t < 64) : S1 f (t + 1) (c.setIfInBounds t (W (sched f t))) := by
  refine ⟨by simp [h.1], fun j hj => ?_⟩
  rw [Array.getElem?_setIfInBounds]
  split
  · rename_i e
    subst e
    rw [if_pos (by rw [h.1]; exact ht)]
  · exact h.2 j (by omega)

theorem S1_all (f : Nat → BitVec 8) (c : Array Value) (h : S1 f 64 c) : c = Sched f := by
  apply Array.ext
  · simp [Sched, h.1]
  · intro i h1 h2
    have h3 : i < 64 := by rw [← h.1]; exact h1
    have := h.2 i h3
    rw [Array.getElem?_eq_getElem h1] at this
    simp only [Option.some.injEq] at this
    rw [this]
    simp [Sched]
theorem Sched_one (f : Nat → BitVec 8) : (Sched f).all (·.oneCell') = true := by
  rw [Array.all_eq_true]
  intro i hi
  simp [Sched, W_oneCell]

theorem gen2 {P : Program} {c : Code} {Q : Exit → Act → World → Prop} {a : Act} {w : World} {t : TypeId} {Z : Array Value}
    (h : ∀ Z', Z'.size = Z.size → c.wp P Q a ((w.alloc (.cells Z' t)).alloc (.cells Z' t))) : c.wp P Q a ((w.alloc (.cells Z t)).alloc (.cells Z t)) := h Z rfl

set_option maxRecDepth 100000 in
set_option maxHeartbeats 400000 in
theorem schedule_any (w : World) (b : Nat) (hc : Array Value) (f : Nat → BitVec 8) (hb : w.heap[b]? = some (.cells hc 57 (0, 0)))
    (hf : ∀ j < 64, hc[8 + j]? = some (B (f j))) :
    Calls Tryd.prog 31 #[.pointer (some ⟨b, 0, none⟩)] w (Below0 w (.agg (Sched f))) := by
  have cB : ∀ w (x : BitVec 8), (convert 5 54 (B x)).run Tryd.prog w = .ok (W (x.setWidth 32)) w := fun w x => run_conv_B_W w _ _ x Tryd.underlying5 Tryd.underlying54
  go_enter Tryd.func31, Tryd.ntmps31
  go_upto_region 2 with (fail)
  refine gen2 (fun Z hZ => ?_)
  have hZ' : Z.size = 64 := hZ.trans rfl
  clear hZ
  have hbl : b < w.heap.size := (Array.getElem?_eq_some_iff.1 hb).1
  have hcell : ∀ j < 64, w.cell? ⟨b, 8 + j, none⟩ = some (B (f j)) := fun j hj => by rw [cell_of_row w b (8 + j) hc _ _ hb]; exact hf j hj
  have HC := Lib.hid hcell
  have HB := Lib.hid hb
  have HF := Lib.hid hf
  have HZ := Lib.hid hZ'
  clear hcell hb hf hZ'
  go_wp2_with (fail)
  go_loopw [7] (fun k wr => ∃ (t n : Nat) (c : Array Value), t ≤ 16 ∧ k = .int .i64 t ∧ wr = ((w.alloc (.cells Z 64)).alloc (.cells c 64)).drewN n ∧ S1 f t c) (fun k _ => 16 - (intOf k).toNat)
  case atStart => exact ⟨0, 0, Z, by omega, rfl, rfl, HZ.out, fun j hj => by omega⟩
  case round =>
    obtain ⟨t, n, c, ht, rfl, rfl, hS⟩ := hrel
    by_cases hlt : t < 16
    · have c0 := HC.out (4 * t) (by omega)
      have c1 := HC.out (4 * t + 1) (by omega)
      have c2 := HC.out (4 * t + 2) (by omega)
      have c3 := HC.out (4 * t + 3) (by omega)
      rw [← Nat.add_assoc] at c1 c2 c3
      have hi : (0 : Int) ≤ (t : Int) ∧ (t : Int) < 64 := by omega
      obtain ⟨v, hct⟩ : ∃ v, c[t]? = some v := ⟨c[t]'(by rw [hS.1]; omega), Array.getElem?_eq_getElem (by rw [hS.1]; omega)⟩
      have HS := Lib.hid hS
      clear hS
      have hsl : ∀ W', (Instr.sliceAt 42 (.pointer (some ⟨b, 8, none⟩)) (some (.int .i64 (4 * (t : Int)))) (some (.int .i64 (4 * (t : Int) + 4))) none).run Tryd.prog W' = .ok (.slice (some ⟨b, 8 + 4 * t, none⟩) 4 (64 - 4 * t)) W' := fun W' => by
        have := run_slice_arr 42 5 64 Tryd.underlying42 Tryd.sizeOf5 b 8 (4 * t) (4 * t + 4) (by omega) (by omega) (by omega) W' (4 * (t : Int)) (4 * (t : Int) + 4) (by omega) (by omega)
        rw [this]
        rw [show 4 * t + 4 - 4 * t = 4 by omega]
      go_wp2_with (fail)
      refine wp_region_quiet_tail 24 (by kernel_rfl) (by kernel_rfl) ?_
      simp only [List.take_succ_cons, List.take_zero, List.drop_succ_cons, List.drop_zero]
      repeat (quiet_step (fail))
      refine wpQuiet_nil ?_
      intro _ hw'
      obtain ⟨nq, hw''⟩ := hw'
      subst hw''
      refine wpList_store1 rfl _ _ _ rfl ⟨w.heap.size + 1, t, none⟩ (W (sched f t)) v rfl (by rw [sched_lo f t hlt]; rfl) rfl rfl Tryd.sizeOf54 (by go_simp) (by go_simp) ?_
      go_wp2_with (fail)
      refine ⟨⟨t + 1, n + nq, c.setIfInBounds t (W (sched f t)), by omega, by go_num, setCell_last w _ c _ _ t _, S1_step f t c HS.out (by omega)⟩, by simp [intOf]; omega⟩
    · obtain rfl : t = 16 := by omega
      have HS := Lib.hid hS
      clear hS ht hlt
      go_wp2_with (fail)
      rw [show ((16 : Nat) : Int) = 16 from rfl]
      go_loopw [6] (fun k wr => ∃ (t n : Nat) (c : Array Value), 16 ≤ t ∧ t ≤ 64 ∧ k = .int .i64 t ∧ wr = ((w.alloc (.cells Z 64)).alloc (.cells c 64)).drewN n ∧ S1 f t c) (fun k _ => 64 - (intOf k).toNat)
      case atStart => exact ⟨16, n, c, by omega, by omega, rfl, rfl, HS.out⟩
      case round =>
        clear HS c n
        obtain ⟨t, n, c, ht, hl, rfl, rfl, hS⟩ := hrel
        by_cases hlt : t < 64
        · have HS := Lib.hid hS
          clear hS
          obtain ⟨a2, e2⟩ : ∃ a2 : Nat, (t : Int) - 2 = a2 := ⟨t - 2, by omega⟩
          obtain ⟨a7, e7⟩ : ∃ a7 : Nat, (t : Int) - 7 = a7 := ⟨t - 7, by omega⟩
          obtain ⟨a15, e15⟩ : ∃ a15 : Nat, (t : Int) - 15 = a15 := ⟨t - 15, by omega⟩
          obtain ⟨a16, e16⟩ : ∃ a16 : Nat, (t : Int) - 16 = a16 := ⟨t - 16, by omega⟩
          have g2 := HS.out.2 a2 (by omega)
          have g7 := HS.out.2 a7 (by omega)
          have g15 := HS.out.2 a15 (by omega)
          have g16 := HS.out.2 a16 (by omega)
          have i0 : (0 : Int) ≤ (t : Int) ∧ (t : Int) < 64 := by omega
          have i2 : (0 : Int) ≤ (a2 : Int) ∧ (a2 : Int) < 64 := by omega
          have i7 : (0 : Int) ≤ (a7 : Int) ∧ (a7 : Int) < 64 := by omega
          have i15 : (0 : Int) ≤ (a15 : Int) ∧ (a15 : Int) < 64 := by omega
          have i16 : (0 : Int) ≤ (a16 : Int) ∧ (a16 : Int) < 64 := by omega
          have w2 : IntKind.i64.wrap (a2 : Int) = a2 := IntWalk.i64_in _ (by omega)
          have w7 : IntKind.i64.wrap (a7 : Int) = a7 := IntWalk.i64_in _ (by omega)
          have w15 : IntKind.i64.wrap (a15 : Int) = a15 := IntWalk.i64_in _ (by omega)
          have w16 : IntKind.i64.wrap (a16 : Int) = a16 := IntWalk.i64_in _ (by omega)
          have HE : Hid (sched f t = sp (sched f a2) 17 19 10 + sched f a7 + sp (sched f a15) 7 18 3 + sched f a16) := by
            show sched f t = _
            rw [sched_hi f t ht, show a2 = t - 2 by omega, show a7 = t - 7 by omega, show a15 = t - 15 by omega, show a16 = t - 16 by omega]
          go_wp2_with (fail)
          refine wp_region_quiet_tail 23 (by kernel_rfl) (by kernel_rfl) ?_
          simp only [List.take_succ_cons, List.take_zero, List.drop_succ_cons, List.drop_zero]
          repeat (quiet_step (fail))
          refine wpQuiet_step (fun K hK => ?_)
          go_simp
          apply Exists.intro
          refine ⟨fun _ => ?_, hK _ ?_⟩
          · exact quiet_of2 (spread1 _ _)
          clear hK K
          repeat (quiet_step (fail))
          refine wpQuiet_step (fun K hK => ?_)
          go_simp
          apply Exists.intro
          refine ⟨fun _ => ?_, hK _ ?_⟩
          · exact quiet_of2 (spread0 _ _)
          clear hK K
          repeat (quiet_step (fail))
          refine wpQuiet_nil ?_
          intro _ hw'
          obtain ⟨nq, hw''⟩ := hw'
          subst hw''
          obtain ⟨v, hct⟩ : ∃ v, c[t]? = some v := ⟨c[t]'(by rw [HS.out.1]; omega), Array.getElem?_eq_getElem (by rw [HS.out.1]; omega)⟩
          refine wpList_store1 rfl _ _ _ rfl ⟨w.heap.size + 1, t, none⟩ (W (sched f t)) v rfl (by rw [HE.out]; rfl) rfl rfl Tryd.sizeOf54 (by go_simp) (by go_simp) ?_
          go_wp2_with (fail)
          go_roundw
          case rel => exact ⟨t + 1, n + nq, c.setIfInBounds t (W (sched f t)), by omega, by omega, by go_num, setCell_last w _ c _ _ t _, S1_step f t c HS.out (by omega)⟩
          case measure => simp [intOf]; omega
        · obtain rfl : t = 64 := by omega
          have HS := Lib.hid hS
          clear hS ht hlt hl
          have hlast : ∀ o1 o2 : Obj, (((w.alloc o1).alloc o2).drewN n).heap[w.heap.size + 1]? = some o2 := fun o1 o2 => heap_alloc2_new w o1 o2
          have hfirst : ∀ o1 o2 : Obj, (((w.alloc o1).alloc o2).drewN n).heap[w.heap.size]? = some o1 := fun o1 o2 => heap_alloc2_old w o1 o2
          have hc : c = Sched f := S1_all f c HS.out
          subst hc
          have hi : (Tryd.prog.info? 64).map (·.size) = some (Sched f).size := by rw [show (Sched f).size = 64 by simp [Sched]]; kernel_rfl
          go_upto_region 12 with (fail)
          refine wp_region_lit ?_
          refine wpList_load_row rfl _ _ rfl (w.heap.size + 1) rfl 64 (Sched f) (0, 0) _ (hlast _ _) Tryd.underlying64 rfl hi ?_
          refine wpList_store_row rfl _ _ _ rfl w.heap.size (Sched f) rfl rfl 64 Z (hfirst _ _) hi (by rw [HZ.out]; simp [Sched]) (Sched_one f) ?_
          go_wp2_with (fail)
          have hset : ((((w.alloc (.cells Z 64)).alloc (.cells (Sched f) 64)).drewN n).setRow w.heap.size (Sched f)).heap[w.heap.size]? = some (.cells (Sched f) 64 (0, 0)) :=
            setRow_heap _ _ Z _ _ _ (hfirst _ _)
          refine bodyPost_ret (v := .agg (Sched f)) (results_cell_row rfl _ _ w.heap.size 64 (Sched f) (0, 0) _ rfl hset Tryd.underlying64 rfl hi) rfl ⟨rfl, ?_⟩
          exact ((((Below.refl _ w).alloc (Nat.le_refl _) _).alloc (by simp) _).trans ⟨rfl, rfl, rfl, by simp, fun k hk => rfl⟩).trans ⟨rfl, rfl, rfl, by simp, fun k hk => setRow_other _ _ _ _ (by omega)⟩
end Go.Proofs.YtmdacfbhfacniaaDoor
