/-
  The contract of spell.
-/
import Derived.Test.YtmdacfbhfacniaaDoorShaSched
namespace Go.Proofs.YtmdacfbhfacniaaDoor
open Go.RowKit

def SpRel (w : World) (S Z : Array Value) (s : St) (k : Value) (wr : World) : Prop :=
  ∃ (t : Nat) (c : Array Value), t ≤ 8 ∧ k = .int .i64 t ∧ wr = ((w.alloc (.cells S 55)).alloc (.cells Z 25)).alloc (.cells c 25) ∧ c.size = 32 ∧ ∀ j < 4 * t, c[j]? = some (B (byteAt s j))
theorem setCell_3 (w : World) (o1 o2 : Obj) (c : Array Value) (t : TypeId) (i : Nat) (v : Value) :
    (((w.alloc o1).alloc o2).alloc (.cells c t)).setCell ⟨w.heap.size + 1 + 1, i, none⟩ v = ((w.alloc o1).alloc o2).alloc (.cells (c.setIfInBounds i v) t) :=
  World.setCell_alloc_at (w := (w.alloc o1).alloc o2) c t (w.heap.size + 1 + 1) i v (by simp)
theorem byte_step {c : Array Value} {s : St} {k : Nat} (h : c.size = 32) (hc : ∀ j < k, c[j]? = some (B (byteAt s j))) (hk : k < 32) (x : BitVec 8) (hx : x = byteAt s k) :
    (c.setIfInBounds k (B x)).size = 32 ∧ ∀ j < k + 1, (c.setIfInBounds k (B x))[j]? = some (B (byteAt s j)) := by
  refine ⟨by simp [h], fun j hj => ?_⟩
  rw [Array.getElem?_setIfInBounds]
  split
  · rename_i e
    subst e
    rw [if_pos (by omega), hx]
  · exact hc j (by omega)

theorem byteAt0 (s : St) (t : Nat) : (s.at t >>> 24).setWidth 8 = byteAt s (4 * t) := by simp [byteAt, show 4 * t / 4 = t by omega]
theorem byteAt1 (s : St) (t : Nat) : (s.at t >>> 16).setWidth 8 = byteAt s (4 * t + 1) := by simp [byteAt, show (4 * t + 1) / 4 = t by omega, show (4 * t + 1) % 4 = 1 by omega]
theorem byteAt2 (s : St) (t : Nat) : (s.at t >>> 8).setWidth 8 = byteAt s (4 * t + 2) := by simp [byteAt, show (4 * t + 2) / 4 = t by omega, show (4 * t + 2) % 4 = 2 by omega]
theorem byteAt3 (s : St) (t : Nat) : (s.at t).setWidth 8 = byteAt s (4 * t + 3) := by simp [byteAt, show (4 * t + 3) / 4 = t by omega, show (4 * t + 3) % 4 = 3 by omega]
theorem Spell_all (s : St) (c : Array Value) (h : c.size = 32) (hc : ∀ j < 32, c[j]? = some (B (byteAt s j))) : c = Spell s := by
  apply Array.ext
  · simp [Spell, h]
  · intro i h1 h2
    have := hc i (by omega)
    rw [Array.getElem?_eq_getElem h1] at this
    simp only [Option.some.injEq] at this
    rw [this]
    simp [Spell]
theorem Spell_one (s : St) : (Spell s).all (·.oneCell') = true := by
  rw [Array.all_eq_true]
  intro i hi
  simp [Spell, B_oneCell]

set_option maxRecDepth 100000 in
set_option maxHeartbeats 1000000 in
theorem spell_any (w : World) (s : St) :
    Calls Tryd.prog 27 #[.agg #[W s.a, W s.b, W s.c, W s.d, W s.e, W s.f, W s.g, W s.h]] w (Below0 w (.agg (Spell s))) := by
  have cW : ∀ w (x : BitVec 32), (convert 54 5 (W x)).run Tryd.prog w = .ok (B (x.setWidth 8)) w := fun w x => run_conv_W_B w _ _ x Tryd.underlying54 Tryd.underlying5
  have hix : ∀ (t : Nat) (ht : t < 8) W', (Instr.index 55 (.agg #[W s.a, W s.b, W s.c, W s.d, W s.e, W s.f, W s.g, W s.h]) (.int .i64 (t : Int))).run Tryd.prog W' = .ok (W (s.at t)) W' := fun t ht W' =>
    run_index_arr _ 54 8 Tryd.underlying55 Tryd.sizeOf54 Tryd.isAgg54 _ t ht _ (s.cell t ht) W'
  have HIX := Lib.hid hix
  clear hix
  go_enter Tryd.func27, Tryd.ntmps27
  go_upto_region 2 with (fail)
  refine gen2 (fun Z hZ => ?_)
  have hZ' : Z.size = 32 := hZ.trans rfl
  have HZ := Lib.hid hZ'
  clear hZ hZ'
  go_wp2_with (fail)
  go_loopw [7] (SpRel w #[W s.a, W s.b, W s.c, W s.d, W s.e, W s.f, W s.g, W s.h] Z s) (fun k _ => 8 - (intOf k).toNat)
  case atStart => exact ⟨0, Z, by omega, rfl, rfl, HZ.out, fun j hj => by omega⟩
  case round =>
    obtain ⟨t, c, ht, rfl, rfl, hc, hj⟩ := hrel
    by_cases hlt : t < 8
    · have hx1 := HIX.out t hlt
      have i0 : (0 : Int) ≤ 4 * (t : Int) ∧ 4 * (t : Int) < 32 := by omega
      have i1 : (0 : Int) ≤ 4 * (t : Int) + 1 ∧ 4 * (t : Int) + 1 < 32 := by omega
      have i2 : (0 : Int) ≤ 4 * (t : Int) + 2 ∧ 4 * (t : Int) + 2 < 32 := by omega
      have i3 : (0 : Int) ≤ 4 * (t : Int) + 3 ∧ 4 * (t : Int) + 3 < 32 := by omega
      have HC0 := Lib.hid (And.intro hc hj)
      clear hc hj
      go_upto_region 5 with (fail)
      refine wp_region_lit ?_
      iterate 18 go_step
      obtain ⟨d0, e0⟩ : ∃ d, c[4 * t]? = some d := ⟨c[4 * t]'(by have := HC0.out.1; omega), Array.getElem?_eq_getElem (by have := HC0.out.1; omega)⟩
      refine wpList_store1 rfl _ _ _ rfl ⟨w.heap.size + 1 + 1, 4 * t, none⟩ (B (byteAt s (4 * t))) d0 rfl (by rw [← byteAt0]; rfl) rfl rfl Tryd.sizeOf5 (by go_simp) (by go_simp) ?_
      rw [setCell_3]
      have HC1 := Lib.hid (byte_step HC0.out.1 HC0.out.2 (by omega) _ rfl)
      obtain ⟨c1, hc1⟩ : ∃ c1, c1 = c.setIfInBounds (4 * t) (B (byteAt s (4 * t))) := ⟨_, rfl⟩
      rw [← hc1] at HC1 ⊢
      clear hc1 HC0 e0
      go_upto_region 6 with (fail)
      refine wp_region_lit ?_
      iterate 21 go_step
      obtain ⟨d1, e1⟩ : ∃ d, c1[4 * t + 1]? = some d := ⟨c1[4 * t + 1]'(by have := HC1.out.1; omega), Array.getElem?_eq_getElem (by have := HC1.out.1; omega)⟩
      refine wpList_store1 rfl _ _ _ rfl ⟨w.heap.size + 1 + 1, 4 * t + 1, none⟩ (B (byteAt s (4 * t + 1))) d1 rfl (by rw [← byteAt1]; rfl) rfl rfl Tryd.sizeOf5 (by go_simp) (by go_simp) ?_
      rw [setCell_3]
      have HC2 := Lib.hid (byte_step HC1.out.1 HC1.out.2 (by omega) _ rfl)
      obtain ⟨c2, hc2⟩ : ∃ c2, c2 = c1.setIfInBounds (4 * t + 1) (B (byteAt s (4 * t + 1))) := ⟨_, rfl⟩
      rw [← hc2] at HC2 ⊢
      clear hc2 HC1 e1
      go_upto_region 7 with (fail)
      refine wp_region_lit ?_
      iterate 21 go_step
      obtain ⟨d2, e2⟩ : ∃ d, c2[4 * t + 2]? = some d := ⟨c2[4 * t + 2]'(by have := HC2.out.1; omega), Array.getElem?_eq_getElem (by have := HC2.out.1; omega)⟩
      refine wpList_store1 rfl _ _ _ rfl ⟨w.heap.size + 1 + 1, 4 * t + 2, none⟩ (B (byteAt s (4 * t + 2))) d2 rfl (by rw [← byteAt2]; rfl) rfl rfl Tryd.sizeOf5 (by go_simp) (by go_simp) ?_
      rw [setCell_3]
      have HC3 := Lib.hid (byte_step HC2.out.1 HC2.out.2 (by omega) _ rfl)
      obtain ⟨c3, hc3⟩ : ∃ c3, c3 = c2.setIfInBounds (4 * t + 2) (B (byteAt s (4 * t + 2))) := ⟨_, rfl⟩
      rw [← hc3] at HC3 ⊢
      clear hc3 HC2 e2
      go_upto_region 8 with (fail)
      refine wp_region_lit ?_
      iterate 18 go_step
      obtain ⟨d3, e3⟩ : ∃ d, c3[4 * t + 3]? = some d := ⟨c3[4 * t + 3]'(by have := HC3.out.1; omega), Array.getElem?_eq_getElem (by have := HC3.out.1; omega)⟩
      refine wpList_store1 rfl _ _ _ rfl ⟨w.heap.size + 1 + 1, 4 * t + 3, none⟩ (B (byteAt s (4 * t + 3))) d3 rfl (by rw [← byteAt3]; rfl) rfl rfl Tryd.sizeOf5 (by go_simp) (by go_simp) ?_
      rw [setCell_3]
      have HC4 := Lib.hid (byte_step HC3.out.1 HC3.out.2 (by omega) _ rfl)
      obtain ⟨c4, hc4⟩ : ∃ c4, c4 = c3.setIfInBounds (4 * t + 3) (B (byteAt s (4 * t + 3))) := ⟨_, rfl⟩
      rw [← hc4] at HC4 ⊢
      clear hc4 HC3 e3
      go_wp2_with (fail)
      refine ⟨⟨t + 1, c4, by omega, by go_num, rfl, HC4.out.1, fun j hj => HC4.out.2 j (by omega)⟩, by simp [intOf]; omega⟩
    · obtain rfl : t = 8 := by omega
      obtain rfl : c = Spell s := Spell_all s c hc hj
      have hi : (Tryd.prog.info? 25).map (·.size) = some (Spell s).size := by rw [show (Spell s).size = 32 by simp [Spell]]; kernel_rfl
      obtain ⟨wX, hwX⟩ : ∃ wX, wX = w.alloc (.cells #[W s.a, W s.b, W s.c, W s.d, W s.e, W s.f, W s.g, W s.h] 55) := ⟨_, rfl⟩
      have hsz : wX.heap.size = w.heap.size + 1 := by rw [hwX]; simp
      have hBx : Below w.heap.size w wX := by rw [hwX]; exact (Below.refl _ w).alloc (Nat.le_refl _) _
      have hlast : ∀ o1 o2 : Obj, ((wX.alloc o1).alloc o2).heap[w.heap.size + 1 + 1]? = some o2 := fun o1 o2 => by rw [← hsz]; exact heap_alloc2_new wX o1 o2
      have hfirst : ∀ o1 o2 : Obj, ((wX.alloc o1).alloc o2).heap[w.heap.size + 1]? = some o1 := fun o1 o2 => by rw [← hsz]; exact heap_alloc2_old wX o1 o2
      clear hc hj
      go_upto_region 10 with (fail)
      rw [← hwX]
      refine wp_region_lit ?_
      refine wpList_load_row rfl _ _ rfl (w.heap.size + 1 + 1) rfl 25 (Spell s) (0, 0) _ (hlast _ _) Tryd.underlying25 rfl hi ?_
      refine wpList_store_row rfl _ _ _ rfl (w.heap.size + 1) (Spell s) rfl rfl 25 Z (hfirst _ _) hi (by rw [HZ.out]; simp [Spell]) (Spell_one s) ?_
      have HI := Lib.hid (And.intro hi (And.intro hsz (And.intro hBx (And.intro hfirst hlast))))
      clear hi hsz hBx hfirst hlast hwX
      go_wp2_with (fail)
      obtain ⟨hi, hsz, hBx, hfirst, hlast⟩ := HI.out
      have hset : (((wX.alloc (.cells Z 25)).alloc (.cells (Spell s) 25)).setRow (w.heap.size + 1) (Spell s)).heap[w.heap.size + 1]? = some (.cells (Spell s) 25 (0, 0)) :=
        setRow_heap _ _ Z _ _ _ (hfirst _ _)
      refine bodyPost_ret (v := .agg (Spell s)) (results_cell_row rfl _ _ (w.heap.size + 1) 25 (Spell s) (0, 0) _ rfl hset Tryd.underlying25 rfl hi) rfl ⟨rfl, ?_⟩
      exact (((hBx.alloc (by omega) _).alloc (by simp; omega) _).trans ⟨rfl, rfl, rfl, by simp, fun k hk => setRow_other _ _ _ _ (by omega)⟩)
end Go.Proofs.YtmdacfbhfacniaaDoor
