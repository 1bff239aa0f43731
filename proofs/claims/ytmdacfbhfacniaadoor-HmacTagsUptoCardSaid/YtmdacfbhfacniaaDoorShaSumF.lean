/-
  The contract of Sum over any parts.
-/
import Derived.Test.YtmdacfbhfacniaaDoorShaSame
namespace Go.Proofs.YtmdacfbhfacniaaDoor
open Go.RowKit

/-- A slice of bytes: where it lies, its capacity, its bytes. -/
structure Part where
  a : Option Addr
  cap : Nat
  m : List (BitVec 8)
def Part.val (p : Part) : Value := .slice p.a p.m.length p.cap
def Part.ok (w : World) (p : Part) : Prop := p.m.length ≤ p.cap ∧ p.cap ≤ 9223372036854775807 ∧ SrcP w p.a p.m.length p.m
def flat (ps : List Part) : List (BitVec 8) := ps.flatMap (·.m)
/-- The slices of a list, one behind the other in memory. -/
def PartsAt (w : World) (a : Option Addr) (ps : List Part) : Prop :=
  ps = [] ∨ ∃ b o, a = some ⟨b, o, none⟩ ∧ ∀ i p, ps[i]? = some p → w.cell? ⟨b, o + i, none⟩ = some p.val

theorem Part.ok.below {w w' : World} {p : Part} (h : p.ok w) (hB : Below w.heap.size w w') : p.ok w' := ⟨h.1, h.2.1, h.2.2.below hB⟩
theorem flat_take_length (ps : List Part) (t : Nat) : (flat (ps.take t)).length ≤ (flat ps).length := by
  have : flat ps = flat (ps.take t) ++ flat (ps.drop t) := by
    rw [flat, flat, flat, ← List.flatMap_append, List.take_append_drop]
  rw [this]
  simp
theorem flat_step (ps : List Part) (t : Nat) (p : Part) (h : ps[t]? = some p) : flat (ps.take (t + 1)) = flat (ps.take t) ++ p.m := by
  have ht : t < ps.length := (List.getElem?_eq_some_iff.1 h).1
  have e : ps.take (t + 1) = ps.take t ++ [p] := by
    rw [List.take_succ_eq_append_getElem ht]
    rw [List.getElem?_eq_getElem ht] at h
    simp only [Option.some.injEq] at h
    rw [h]
  rw [e, flat, flat, List.flatMap_append]
  simp

def SumRel (w0 : World) (b : Nat) (ps : List Part) (k : Value) (wr : World) : Prop :=
  ∃ (t : Nat) (c : Array Value), t ≤ ps.length ∧ k = .int .i64 t ∧ wr.heap[b]? = some (.cells c 57 (0, 0)) ∧ HashW c (flat (ps.take t)) ∧ w0.grownBy wr (some b)

set_option maxRecDepth 100000 in
set_option maxHeartbeats 1000000 in
theorem sumF_any (w : World) (a : Option Addr) (cap : Nat) (ps : List Part) (hP : PartsAt w a ps) (hok : ∀ p ∈ ps, p.ok w) (hT : Tables w) (hgl : 0 < w.heap.size ∧ 1 < w.heap.size)
    (hlen : (flat ps).length < 1152921504606846976) (hps : ps.length ≤ 9223372036854775807) :
    Calls Tryd.prog 23 #[.slice a ps.length cap] w (Below0 w (.agg (ShaA (flat ps)))) := by
  have hz := zero_hash.1
  obtain ⟨Z, hZ⟩ : ∃ Z : Array Value, Z = Array.replicate 32 (.int .u8 0) := ⟨_, rfl⟩
  have hz2 : ∀ w, (zeroValue 25).run Tryd.prog w = .ok (.agg Z) w := by rw [hZ]; exact (zero_of_info (n := 32) (by kernel_rfl)).1
  have HZ := Lib.hid hZ
  obtain ⟨K, hK⟩ : ∃ K, K = ps.length := ⟨_, rfl⟩
  rw [← hK] at hps ⊢
  have HK := Lib.hid hK
  have HP := Lib.hid (And.intro hP (And.intro hok (And.intro hT hgl)))
  clear hZ hK hP hok hT hgl
  go_enter Tryd.func23, Tryd.ntmps23
  go_upto_region 2 with (fail)
  obtain ⟨w0, hw0⟩ : ∃ w0, w0 = (w.alloc (.cells Z 25)).alloc (.cells zeroHash 57) := ⟨_, rfl⟩
  rw [← hw0]
  have hB : Below w.heap.size w w0 := by rw [hw0]; exact ((Below.refl _ w).alloc (Nat.le_refl _) _).alloc (by simp) _
  have hb : w0.heap[w.heap.size + 1]? = some (.cells zeroHash 57 (0, 0)) := by rw [hw0]; exact heap_alloc2_new w _ _
  have hr : w0.heap[w.heap.size]? = some (.cells Z 25 (0, 0)) := by rw [hw0]; exact heap_alloc2_old w _ _
  have HX := Lib.hid (And.intro hB (And.intro hb hr))
  clear hB hb hr hw0 hz hz2
  go_wp2_with (fail)
  go_loopw [8] (SumRel w0 (w.heap.size + 1) ps) (fun k _ => K - (intOf k).toNat)
  case atStart => exact ⟨0, zeroHash, by omega, rfl, HX.out.2.1, zeroHash_is, ⟨rfl, rfl, rfl, Nat.le_refl _, fun _ _ _ => rfl⟩⟩
  case round =>
    obtain ⟨t, c, ht, rfl, hb, hH, hg⟩ := hrel
    rw [← HK.out] at ht
    have HR := Lib.hid (And.intro hb (And.intro hH hg))
    clear hb hH hg
    by_cases hlt : t < K
    · obtain ⟨p, hp⟩ : ∃ p, ps[t]? = some p := ⟨ps[t]'(by rw [← HK.out]; exact hlt), List.getElem?_eq_getElem (by rw [← HK.out]; exact hlt)⟩
      have hpm : p ∈ ps := List.mem_of_getElem? hp
      rcases HP.out.1 with hP | ⟨pb, po, rfl, hP⟩
      · rw [hP] at hp
        cases hp
      have i0 : (0 : Int) ≤ (t : Int) ∧ (t : Int) < (K : Int) := by omega
      have hcell : wr.cell? ⟨pb, po + t, none⟩ = some (.slice p.a p.m.length p.cap) := by
        have h1 := hP t p hp
        have h2 := block_lt_of_cell h1
        have h3 := (HX.out.1.cell (p := ⟨pb, po + t, none⟩) h2).trans h1
        exact HR.out.2.2.cell h3 (by simp at h2 ⊢; omega)
      have HY := Lib.hid (And.intro hp hpm)
      clear hp hpm hP
      go_wp2_with (fail)
      obtain ⟨hb, hH, hg⟩ := HR.out
      obtain ⟨hP, hok, hT, hgl⟩ := HP.out
      obtain ⟨hp, hpm⟩ := HY.out
      have hpo := hok p hpm
      have hfs := flat_step ps t p hp
      have hfl := flat_take_length ps (t + 1)
      refine (write_any wr (w.heap.size + 1) c (flat (ps.take t)) p.m p.a p.cap hb hH ((hT.below HX.out.1).grown hg (by omega) (by omega)) (by omega) (by omega) hpo.1 hpo.2.1
        (((hpo.2.2.src (b := w.heap.size + 1) (by omega)).belowS HX.out.1).grown hg) (by rw [hfs] at hfl; simp at hfl; omega)).mono ?_
      rintro e w' ⟨rfl, c', hb', hH', hg'⟩
      rw [← hfs] at hH'
      have HW := Lib.hid (And.intro hb' (And.intro hH' (grown_trans hg hg')))
      clear hb hH hg hP hok hT hgl hp hpm hpo hfs hfl hb' hH' hg'
      dsimp only
      go_wp2_with (fail)
      exact ⟨⟨t + 1, c', by rw [← HK.out]; omega, by go_num, HW.out.1, HW.out.2.1.weak, HW.out.2.2⟩, by simp [intOf]; omega⟩
    · obtain rfl : t = K := by omega
      obtain ⟨hb, hH, hg⟩ := HR.out
      rw [HK.out, List.take_length] at hH
      have hT := HP.out.2.2.1
      have hgl := HP.out.2.2.2
      have hB := HX.out.1
      have hT2 : Tables wr := (hT.below hB).grown hg (by omega) (by omega)
      have hgl2 : 0 < wr.heap.size ∧ 1 < wr.heap.size := by have := hg.size; have := hB.size; omega
      have HA := Lib.hid (And.intro hb (And.intro hH (And.intro hT2 hgl2)))
      clear hb hH hg hT hgl hB hT2 hgl2
      go_wp2_with (fail)
      obtain ⟨hb, hH, hT2, hgl2⟩ := HA.out
      refine (sum_any wr (some ⟨w.heap.size + 1, 0, none⟩) (flat ps) (.inr ⟨_, c, rfl, hb, hH⟩) hT2 hgl2 hlen).mono ?_
      rintro e w2 ⟨rfl, hB2⟩
      obtain ⟨hbX, _, hrX⟩ := HX.out
      have hgr := HR.out.2.2
      have hr1 : wr.heap[w.heap.size]? = some (.cells Z 25 (0, 0)) := by rw [hgr.block _ (Array.getElem?_eq_some_iff.1 hrX).1 (by simp)]; exact hrX
      have hr2 : w2.heap[w.heap.size]? = some (.cells Z 25 (0, 0)) := by rw [hB2.block _ (Array.getElem?_eq_some_iff.1 hr1).1]; exact hr1
      have hB3 : Below w.heap.size w w2 := (hbX.trans ⟨hgr.os, hgr.tape, hgr.output, hgr.size, fun k hk => hgr.block k (Nat.lt_of_lt_of_le hk hbX.size) (by simp; omega)⟩).trans (hB2.mono (Nat.le_trans hbX.size hgr.size))
      have hi : (Tryd.prog.info? 25).map (·.size) = some (ShaA (flat ps)).size := by rw [show (ShaA (flat ps)).size = 32 by simp [ShaA, Spell]]; kernel_rfl
      have HW := Lib.hid (And.intro hr2 (And.intro hB3 hi))
      clear hb hH hT2 hgl2 hbX hrX hgr hr1 hr2 hB3 hi hB2
      dsimp only
      go_step
      refine wpList_store_row rfl _ _ _ rfl w.heap.size (ShaA (flat ps)) rfl rfl 25 Z HW.out.1 HW.out.2.2 (by rw [HZ.out]; simp [ShaA, Spell]) (Spell_one _) ?_
      go_wp2_with (fail)
      obtain ⟨hr2, hB3, hi⟩ := HW.out
      refine bodyPost_ret (v := .agg (ShaA (flat ps))) (results_cell_row rfl _ _ w.heap.size 25 (ShaA (flat ps)) (0, 0) _ rfl (setRow_heap _ _ Z _ _ _ hr2) Tryd.underlying25 rfl hi) rfl ⟨rfl, ?_⟩
      exact hB3.trans ⟨rfl, rfl, rfl, by simp, fun k hk => setRow_other _ _ _ _ (by omega)⟩
end Go.Proofs.YtmdacfbhfacniaaDoor
