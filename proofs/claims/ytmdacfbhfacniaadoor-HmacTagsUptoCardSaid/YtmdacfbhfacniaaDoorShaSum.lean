/-
  The contracts of New, Len, Clone and Sum.
-/
import Derived.Test.YtmdacfbhfacniaaDoorShaFinish
import Derived.Test.YtmdacfbhfacniaaDoorShaSpell
namespace Go.Proofs.YtmdacfbhfacniaaDoor
open Go.RowKit

def zeroHash : Array Value := Array.replicate 8 (.int .u32 0) ++ Array.replicate 64 (.int .u8 0) ++ #[.int .i64 0]
theorem zeroHash_is : HashW zeroHash [] := by
  refine ⟨by simp [zeroHash], rfl, ⟨⟨0, 0, 0, 0, 0, 0, 0, 0⟩, fun i hi => ?_, fun h => absurd rfl h⟩, fun _ => 0, fun j hj => ?_, fun j hj => by simp at hj⟩
  · have e : (St.at ⟨0, 0, 0, 0, 0, 0, 0, 0⟩ i) = 0 := by
      match i, hi with
      | 0, _ => rfl
      | 1, _ => rfl
      | 2, _ => rfl
      | 3, _ => rfl
      | 4, _ => rfl
      | 5, _ => rfl
      | 6, _ => rfl
      | 7, _ => rfl
    rw [e, zeroHash, Array.getElem?_append_left (by simp; omega), Array.getElem?_append_left (by simp; omega), Array.getElem?_replicate, if_pos hi]
    rfl
  · rw [zeroHash, Array.getElem?_append_left (by simp; omega), Array.getElem?_append_right (by simp), Array.getElem?_replicate, if_pos (by simp; omega)]
    rfl
theorem zero_hash : (∀ w, (zeroValue 57).run Tryd.prog w = .ok (.agg zeroHash) w) ∧ (Tryd.prog.info? 57).map (·.size) = some 73 := zero_of_info (by kernel_rfl)

def shaSt (l : List (BitVec 8)) : St := chain (gl (l ++ pad l.length)) ((l ++ pad l.length).length / 64)
/-- The sum of some bytes, as an array of Go. -/
def ShaA (l : List (BitVec 8)) : Array Value := Spell (shaSt l)

theorem HashW.one {c : Array Value} {l : List (BitVec 8)} (h : HashW c l) : c.all (·.oneCell') = true := by
  obtain ⟨h1, h2, ⟨s, h3, _⟩, f, h4, _⟩ := h
  rw [Array.all_eq_true]
  intro i hi
  have e : c[i]? = some c[i] := Array.getElem?_eq_getElem hi
  by_cases a : i < 8
  · rw [h3 i a] at e
    simp only [Option.some.injEq] at e
    rw [← e]
    rfl
  · by_cases a2 : i < 72
    · have := h4 (i - 8) (by omega)
      rw [show 8 + (i - 8) = i by omega, e] at this
      simp only [Option.some.injEq] at this
      rw [this]
      rfl
    · have : i = 72 := by omega
      subst this
      rw [h2] at e
      simp only [Option.some.injEq] at e
      rw [← e]
      rfl

def CloneEnd (w : World) (c : Array Value) (e : Ending) (w' : World) : Prop := e = .returned (.pointer (some ⟨w.heap.size, 0, none⟩)) ∧ w' = w.alloc (.cells c 57)

set_option maxRecDepth 100000 in
theorem new_any (w : World) : Calls Tryd.prog 24 #[] w (CloneEnd w zeroHash) := by
  have hz := zero_hash.1
  go_enter Tryd.func24, Tryd.ntmps24
  go_wp2_with (fail)
  go_ret
  exact ⟨rfl, rfl⟩

set_option maxRecDepth 100000 in
theorem clone_any (w : World) (b : Nat) (c : Array Value) (l : List (BitVec 8)) (hb : w.heap[b]? = some (.cells c 57 (0, 0))) (hH : HashW c l) :
    Calls Tryd.prog 18 #[.pointer (some ⟨b, 0, none⟩)] w (CloneEnd w c) := by
  have hz := zero_hash.1
  go_enter Tryd.func18, Tryd.ntmps18
  go_upto_region 3 with (fail)
  refine wp_region_lit ?_
  iterate 6 go_step
  have hi : (Tryd.prog.info? 57).map (·.size) = some c.size := by rw [hH.1]; exact zero_hash.2
  refine wpList_load_row rfl _ _ rfl b rfl 57 c (0, 0) _ hb Tryd.underlying57 rfl hi ?_
  have HH := Lib.hid (And.intro hi (And.intro hH hb))
  clear hi hb hH
  go_step
  go_step
  go_step
  refine wpList_store_row rfl _ _ _ rfl w.heap.size c rfl rfl 57 zeroHash (heap_alloc_new w _) HH.out.1 (by rw [HH.out.2.1.1]; exact zeroHash_is.1) HH.out.2.1.one ?_
  rw [World.setRow_alloc_new]
  go_wp2_with (fail)
  go_ret
  exact ⟨rfl, rfl⟩
theorem clone_nil (w : World) : Calls Tryd.prog 18 #[.pointer none] w fun e w' => e = .returned (.pointer none) ∧ w' = w := by
  go_enter Tryd.func18, Tryd.ntmps18
  go_wp2_with (fail)
  go_ret
  exact ⟨rfl, rfl⟩
theorem write_nil (w : World) (v : Value) : Calls Tryd.prog 19 #[.pointer none, v] w fun e w' => e = .returned (.int .i64 0) ∧ w' = w := by
  go_enter Tryd.func19, Tryd.ntmps19
  go_wp2_with (fail)
  go_ret
  exact ⟨rfl, rfl⟩

theorem St.ofAt (s : St) {w : World} {b : Nat} {c : Array Value} {t : TypeId} (hb : w.heap[b]? = some (.cells c t (0, 0))) (h : ∀ i < 8, c[i]? = some (W (s.at i))) :
    w.cell? ⟨b, 0, none⟩ = some (W s.a) ∧ w.cell? ⟨b, 1, none⟩ = some (W s.b) ∧ w.cell? ⟨b, 2, none⟩ = some (W s.c) ∧ w.cell? ⟨b, 3, none⟩ = some (W s.d) ∧
    w.cell? ⟨b, 4, none⟩ = some (W s.e) ∧ w.cell? ⟨b, 5, none⟩ = some (W s.f) ∧ w.cell? ⟨b, 6, none⟩ = some (W s.g) ∧ w.cell? ⟨b, 7, none⟩ = some (W s.h) :=
  ⟨(cell_of_row w b 0 c _ _ hb).trans (h 0 (by omega)), (cell_of_row w b 1 c _ _ hb).trans (h 1 (by omega)), (cell_of_row w b 2 c _ _ hb).trans (h 2 (by omega)), (cell_of_row w b 3 c _ _ hb).trans (h 3 (by omega)),
   (cell_of_row w b 4 c _ _ hb).trans (h 4 (by omega)), (cell_of_row w b 5 c _ _ hb).trans (h 5 (by omega)), (cell_of_row w b 6 c _ _ hb).trans (h 6 (by omega)), (cell_of_row w b 7 c _ _ hb).trans (h 7 (by omega))⟩

/-- The address of a hash that holds the bytes l, or no hash at all and no bytes. -/
def HashAt (w : World) (a : Option Addr) (l : List (BitVec 8)) : Prop :=
  (a = none ∧ l = []) ∨ ∃ b c, a = some ⟨b, 0, none⟩ ∧ w.heap[b]? = some (.cells c 57 (0, 0)) ∧ HashW c l

set_option maxRecDepth 100000 in
set_option maxHeartbeats 1000000 in
theorem sum_any (w : World) (a : Option Addr) (l : List (BitVec 8)) (hA : HashAt w a l) (hT : Tables w) (hgl : 0 < w.heap.size ∧ 1 < w.heap.size) (hlen : l.length < 1152921504606846976) :
    Calls Tryd.prog 20 #[.pointer a] w (Below0 w (.agg (ShaA l))) := by
  have hz := zero_hash.1
  obtain ⟨Z, hZ⟩ : ∃ Z : Array Value, Z = Array.replicate 32 (.int .u8 0) := ⟨_, rfl⟩
  have hz2 : ∀ w, (zeroValue 25).run Tryd.prog w = .ok (.agg Z) w := by rw [hZ]; exact (zero_of_info (n := 32) (by kernel_rfl)).1
  have HZ := Lib.hid hZ
  clear hZ
  go_enter Tryd.func20, Tryd.ntmps20
  go_upto_if 5 with (fail)
  go_cut [5] from 6 to 8 (fun _ wx => ∃ c0, wx = (w.alloc (.cells Z 25)).alloc (.cells c0 57) ∧ HashW c0 l)
  case first =>
    rcases hA with ⟨rfl, rfl⟩ | ⟨b, c, rfl, hb, hH⟩
    · go_wp2_with (fail)
      go_meet
      exact ⟨zeroHash, rfl, zeroHash_is⟩
    · have hbl : b < w.heap.size := (Array.getElem?_eq_some_iff.1 hb).1
      have hi : (Tryd.prog.info? 57).map (·.size) = some c.size := by rw [hH.1]; exact zero_hash.2
      have hb2 : ((w.alloc (.cells Z 25)).alloc (.cells zeroHash 57)).heap[b]? = some (.cells c 57 (0, 0)) := by
        rw [Below.heap_alloc _ _ _ (by simp; omega), Below.heap_alloc _ _ _ hbl]
        exact hb
      have HH := Lib.hid (And.intro hi (And.intro hH (And.intro hb hb2)))
      clear hi hH hb hb2
      go_upto_region 3 with (fail)
      refine wp_region_lit ?_
      iterate 6 go_step
      refine wpList_load_row rfl _ _ rfl b rfl 57 c (0, 0) _ HH.out.2.2.2 Tryd.underlying57 rfl HH.out.1 ?_
      refine wpList_store_row rfl _ _ _ rfl (w.heap.size + 1) c rfl rfl 57 zeroHash (heap_alloc2_new w _ _) HH.out.1 (by rw [HH.out.2.1.1]; exact zeroHash_is.1) HH.out.2.1.one ?_
      have hsr : ((w.alloc (.cells Z 25)).alloc (.cells zeroHash 57)).setRow (w.heap.size + 1) c = (w.alloc (.cells Z 25)).alloc (.cells c 57) := by
        have := World.setRow_alloc_new (w.alloc (.cells Z 25)) zeroHash c 57
        rwa [show (w.alloc (.cells Z 25)).heap.size = w.heap.size + 1 by simp] at this
      rw [hsr]
      clear hsr
      go_wp2_with (fail)
      go_meet
      exact ⟨c, rfl, HH.out.2.1⟩
  case rest =>
    obtain ⟨c0, hwc, hH⟩ := hcut
    clear hA hz hz2
    have hB : Below w.heap.size w wc := by rw [hwc]; exact ((Below.refl _ w).alloc (Nat.le_refl _) _).alloc (by simp) _
    have hb : wc.heap[w.heap.size + 1]? = some (.cells c0 57 (0, 0)) := by rw [hwc]; exact heap_alloc2_new w _ _
    have hr : wc.heap[w.heap.size]? = some (.cells Z 25 (0, 0)) := by rw [hwc]; exact heap_alloc2_old w _ _
    have HX := Lib.hid (And.intro hB (And.intro hb (And.intro hr (And.intro hH (And.intro hT hgl)))))
    clear hwc hB hb hr hH hT hgl
    go_wp2_with (fail)
    obtain ⟨hB, hb, hr, hH, hT, hgl⟩ := HX.out
    refine (finish_any wc (w.heap.size + 1) c0 l hb hH (hT.below hB) (by omega) (by omega) hlen).mono ?_
    rintro e w1 ⟨rfl, c1, hb1, hS, hg1⟩
    have hB1 : Below w.heap.size w w1 := hB.trans ⟨hg1.os, hg1.tape, hg1.output, hg1.size, fun k hk => hg1.block k (Nat.lt_of_lt_of_le hk hB.size) (by simp; omega)⟩
    have hr1 : w1.heap[w.heap.size]? = some (.cells Z 25 (0, 0)) := by rw [hg1.block _ (Array.getElem?_eq_some_iff.1 hr).1 (by simp)]; exact hr
    obtain ⟨s, hs⟩ : ∃ s, s = shaSt l := ⟨_, rfl⟩
    obtain ⟨h0, h1, h2, h3, h4, h5, h6, h7⟩ := St.ofAt s hb1 (by rw [hs]; exact hS.2.2.1)
    have HY := Lib.hid (And.intro hB1 (And.intro hr1 hs))
    clear hB hb hr hH hT hgl HX hb1 hS hg1 hB1 hr1 hs
    dsimp only
    go_wp2_with (fail)
    refine (spell_any w1 s).mono ?_
    rintro e w2 ⟨rfl, hB2⟩
    obtain ⟨hB1, hr1, hs⟩ := HY.out
    have hr2 : w2.heap[w.heap.size]? = some (.cells Z 25 (0, 0)) := by rw [hB2.block _ (Array.getElem?_eq_some_iff.1 hr1).1]; exact hr1
    have hB3 : Below w.heap.size w w2 := hB1.trans (hB2.mono hB1.size)
    have hi : (Tryd.prog.info? 25).map (·.size) = some (Spell s).size := by rw [show (Spell s).size = 32 by simp [Spell]]; kernel_rfl
    have HW := Lib.hid (And.intro hr2 (And.intro hB3 (And.intro hs hi)))
    clear h0 h1 h2 h3 h4 h5 h6 h7 hB1 hr1 hs hr2 hB3 hi hB2
    dsimp only
    go_step
    refine wpList_store_row rfl _ _ _ rfl w.heap.size (Spell s) rfl rfl 25 Z HW.out.1 HW.out.2.2.2 (by rw [HZ.out]; simp [Spell]) (Spell_one s) ?_
    go_wp2_with (fail)
    obtain ⟨hr2, hB3, hs, hi⟩ := HW.out
    refine bodyPost_ret (v := .agg (Spell s)) (results_cell_row rfl _ _ w.heap.size 25 (Spell s) (0, 0) _ rfl (setRow_heap _ _ Z _ _ _ hr2) Tryd.underlying25 rfl hi) rfl ⟨by rw [hs]; rfl, ?_⟩
    exact hB3.trans ⟨rfl, rfl, rfl, by simp, fun k hk => setRow_other _ _ _ _ (by omega)⟩
end Go.Proofs.YtmdacfbhfacniaaDoor
