/-
  A mac in memory, and the contracts of Reset, Write and Sum.
-/
import Derived.Test.YtmdacfbhfacniaaDoorHmacBegin
namespace Go.Proofs.YtmdacfbhfacniaaDoor
open Go.RowKit

def HashIn (w : World) (g : Nat) (l : List (BitVec 8)) : Prop := ∃ c, w.heap[g]? = some (.cells c 57 (0, 0)) ∧ HashW c l
theorem HashIn.lt {w : World} {g : Nat} {l : List (BitVec 8)} (h : HashIn w g l) : g < w.heap.size := by
  obtain ⟨c, hc, _⟩ := h
  exact (Array.getElem?_eq_some_iff.1 hc).1
theorem HashIn.below {w w' : World} {B g : Nat} {l : List (BitVec 8)} (h : HashIn w g l) (hB : Below B w w') (hg : g < B) : HashIn w' g l := by
  obtain ⟨c, hc, hH⟩ := h
  exact ⟨c, (hB.block g hg).trans hc, hH⟩
theorem HashIn.grown {w w' : World} {g b : Nat} {l : List (BitVec 8)} (h : HashIn w g l) (hg : w.grownBy w' (some b)) (hne : g ≠ b) : HashIn w' g l := by
  obtain ⟨c, hc, hH⟩ := h
  exact ⟨c, (hg.block g (Array.getElem?_eq_some_iff.1 hc).1 (by simpa using hne)).trans hc, hH⟩

def macCells (bi bo bw : Nat) : Array Value := #[.pointer (some ⟨bi, 0, none⟩), .pointer (some ⟨bo, 0, none⟩), .pointer (some ⟨bw, 0, none⟩)]
/-- A mac whose key's two blocks are ik and ok, behind the bytes l; its own blocks lie from B0 on. -/
def MacAt (B0 : Nat) (w : World) (b : Nat) (ik ok l : List (BitVec 8)) : Prop :=
  ∃ bi bo bw, w.heap[b]? = some (.cells (macCells bi bo bw) 47 (0, 0)) ∧ HashIn w bi ik ∧ HashIn w bo ok ∧ HashIn w bw (ik ++ l) ∧
    B0 ≤ b ∧ B0 ≤ bi ∧ B0 ≤ bo ∧ B0 ≤ bw ∧ bw ≠ bi ∧ bw ≠ bo
theorem MacAt.lt {B0 b : Nat} {w : World} {ik ok l : List (BitVec 8)} (h : MacAt B0 w b ik ok l) : B0 < w.heap.size ∧ b < w.heap.size := by
  obtain ⟨bi, bo, bw, hb, _, _, _, h0, _⟩ := h
  have := (Array.getElem?_eq_some_iff.1 hb).1
  omega
theorem MacAt.below {B0 b : Nat} {w w' : World} {ik ok l : List (BitVec 8)} (h : MacAt B0 w b ik ok l) (hB : Below w.heap.size w w') : MacAt B0 w' b ik ok l := by
  obtain ⟨bi, bo, bw, hb, hi, ho, hw, hr⟩ := h
  exact ⟨bi, bo, bw, (hB.block _ (Array.getElem?_eq_some_iff.1 hb).1).trans hb, hi.below hB hi.lt, ho.below hB ho.lt, hw.below hB hw.lt, hr⟩
theorem MacAt.lay {B0 b : Nat} {w : World} {ik ok l : List (BitVec 8)} (h : MacAt B0 w b ik ok l) {B1 : Nat} (h1 : B1 ≤ B0) : MacAt B1 w b ik ok l := by
  obtain ⟨bi, bo, bw, hb, hi, ho, hw, h2, h3, h4, h5, h6⟩ := h
  exact ⟨bi, bo, bw, hb, hi, ho, hw, by omega, by omega, by omega, by omega, h6⟩

/-- What a mac's methods leave as it was: all below B0, and all rows that are neither a hash nor a mac. -/
def Kept (B0 : Nat) (w w' : World) : Prop :=
  Below B0 w w' ∧ ∀ (k : Nat) (c : Array Value) (t : TypeId) (fr : Nat × Nat), w.heap[k]? = some (Obj.cells c t fr) → t ≠ 57 → t ≠ 47 → w'.heap[k]? = some (Obj.cells c t fr)
theorem Kept.refl (B0 : Nat) (w : World) : Kept B0 w w := ⟨Below.refl _ _, fun _ _ _ _ h _ _ => h⟩
theorem Kept.trans {B0 : Nat} {a b c : World} (h : Kept B0 a b) (k : Kept B0 b c) : Kept B0 a c := ⟨h.1.trans k.1, fun i x t fr hx h1 h2 => k.2 i x t fr (h.2 i x t fr hx h1 h2) h1 h2⟩
theorem Kept.of_below {B0 : Nat} {w w' : World} (h : Below w.heap.size w w') (h0 : B0 ≤ w.heap.size) : Kept B0 w w' :=
  ⟨h.mono h0, fun k _ _ _ hk _ _ => (h.block k (Array.getElem?_eq_some_iff.1 hk).1).trans hk⟩
theorem Kept.of_grown {B0 b : Nat} {w w' : World} {c : Array Value} {t : TypeId} {fr : Nat × Nat} (h : w.grownBy w' (some b)) (hb : B0 ≤ b) (h0 : B0 ≤ w.heap.size) (hr : w.heap[b]? = some (.cells c t fr))
    (ht : t = 57 ∨ t = 47) : Kept B0 w w' := by
  refine ⟨⟨h.os, h.tape, h.output, h.size, fun k hk => h.block k (by omega) (by simp; omega)⟩, fun k c' t' fr' hk h1 h2 => ?_⟩
  have hne : k ≠ b := by
    intro e
    subst e
    rw [hr] at hk
    injection hk with hk
    injection hk with _ e2
    subst e2
    rcases ht with ht | ht
    · exact h1 ht
    · exact h2 ht
  exact (h.block k (Array.getElem?_eq_some_iff.1 hk).1 (by simpa using hne)).trans hk
theorem Kept.cell {B0 : Nat} {w w' : World} (h : Kept B0 w w') {k : Nat} {c : Array Value} {t : TypeId} {fr : Nat × Nat} (hk : w.heap[k]? = some (.cells c t fr)) (h1 : t ≠ 57) (h2 : t ≠ 47)
    (i : Nat) : w'.cell? ⟨k, i, none⟩ = c[i]? := cell_of_row w' k i c t fr (h.2 k c t fr hk h1 h2)
theorem Tables.from {B : Nat} {w w' : World} (h : Tables w) (hB : Below B w w') (h0 : 0 < B) (h1 : 1 < B) : Tables w' :=
  ⟨fun i hi => (hB.cell (p := ⟨0, i, none⟩) h0).trans (h.1 i hi), fun i hi => (hB.cell (p := ⟨1, i, none⟩) h1).trans (h.2 i hi)⟩
theorem SrcP.from {B : Nat} {w w' : World} {a : Option Addr} {n : Nat} {m : List (BitVec 8)} (h : SrcP w a n m) (hw : w.heap.size ≤ B) (hB : Below B w w') : SrcP w' a n m := h.below (hB.mono hw)

theorem mreset_nil (w : World) : Calls Tryd.prog 10 #[.pointer none] w fun e w' => e = .returned (.tuple #[]) ∧ w' = w := by
  go_enter Tryd.func10, Tryd.ntmps10
  go_wp2_with (fail)
  exact bodyPost_ret (v := .tuple #[]) (results_none rfl _ _ _) rfl ⟨rfl, rfl⟩
theorem mwrite_nil (w : World) (v : Value) : Calls Tryd.prog 11 #[.pointer none, v] w fun e w' => e = .returned (.int .i64 0) ∧ w' = w := by
  go_enter Tryd.func11, Tryd.ntmps11
  go_wp2_with (fail)
  go_ret
  exact ⟨rfl, rfl⟩

def noughts32 : Array Value := Array.replicate 32 (.int .u8 0)
theorem noughts32_one : noughts32.all (·.oneCell') = true := by decide +kernel
set_option maxRecDepth 100000 in
theorem msum_nil (w : World) : Calls Tryd.prog 12 #[.pointer none] w (Below0 w (.agg noughts32)) := by
  obtain ⟨Y, hY⟩ : ∃ Y : Array Value, Y = noughts32 := ⟨_, rfl⟩
  have hz2 : ∀ w, (zeroValue 25).run Tryd.prog w = .ok (.agg Y) w := by rw [hY]; exact zero32.1
  have hi : (Tryd.prog.info? 25).map (·.size) = some Y.size := by rw [hY]; exact zero32.2
  rw [← hY]
  have HY := Lib.hid (And.intro hY hi)
  clear hY hi
  go_enter Tryd.func12, Tryd.ntmps12
  go_upto_region 2 with (fail)
  refine wp_region_lit ?_
  iterate 3 go_step
  refine wpList_store_row rfl _ _ _ rfl w.heap.size Y rfl rfl 25 Y (heap_alloc_new w _) HY.out.2 rfl (by rw [HY.out.1]; exact noughts32_one) ?_
  rw [World.setRow_alloc_new]
  go_wp2_with (fail)
  refine bodyPost_ret (v := .agg Y) (results_cell_row rfl _ _ w.heap.size 25 Y (0, 0) _ rfl (heap_alloc_new w _) Tryd.underlying25 rfl HY.out.2) rfl ⟨rfl, ?_⟩
  exact (Below.refl _ w).alloc (Nat.le_refl _) _

def MWriteEnd (B0 : Nat) (w : World) (b n : Nat) (ik ok l m : List (BitVec 8)) (e : Ending) (w' : World) : Prop :=
  e = .returned (.int .i64 (n : Int)) ∧ MacAt B0 w' b ik ok (l ++ m) ∧ Kept B0 w w'
theorem mac_cell {w : World} {b bi bo bw : Nat} (hb : w.heap[b]? = some (.cells (macCells bi bo bw) 47 (0, 0))) :
    w.cell? ⟨b, 0, none⟩ = some (.pointer (some ⟨bi, 0, none⟩)) ∧ w.cell? ⟨b, 1, none⟩ = some (.pointer (some ⟨bo, 0, none⟩)) ∧ w.cell? ⟨b, 2, none⟩ = some (.pointer (some ⟨bw, 0, none⟩)) := by
  refine ⟨?_, ?_, ?_⟩ <;> (rw [cell_of_row _ _ _ _ _ _ hb]; rfl)

set_option maxRecDepth 100000 in
theorem mwrite_any (w : World) (B0 b n : Nat) (ik ok l m : List (BitVec 8)) (a : Option Addr) (cap : Nat) (hM : MacAt B0 w b ik ok l) (hT : Tables w) (h0 : 0 < B0 ∧ 1 < B0)
    (hn : n = m.length) (hcap : n ≤ cap) (hmax : cap ≤ 9223372036854775807) (hS : ∀ (g : Nat) (c : Array Value), B0 ≤ g → w.heap[g]? = some (Obj.cells c 57 (0, 0)) → Src w g a m.length m 0)
    (hlen : ik.length + l.length + m.length < 4611686018427387904) :
    Calls Tryd.prog 11 #[.pointer (some ⟨b, 0, none⟩), .slice a n cap] w (MWriteEnd B0 w b n ik ok l m) := by
  obtain ⟨bi, bo, bw, hb, hi, ho, ⟨c, hc, hH⟩, k0, k1, k2, k3, k4, k5⟩ := hM
  obtain ⟨c0, c1, c2⟩ := mac_cell hb
  have hwr := write_any w bw c (ik ++ l) m a cap hc hH hT (by omega) (by omega) (by omega) hmax (hS bw c k3 hc) (by rw [List.length_append]; omega)
  rw [← hn] at hwr
  have HX := Lib.hid (And.intro hb (And.intro hi (And.intro ho (And.intro hc (And.intro k0 (And.intro k1 (And.intro k2 (And.intro k3 (And.intro k4 (And.intro k5 hn))))))))))
  have HW := Lib.hid hwr
  clear hb hi ho hc hH k0 k1 k2 k3 k4 k5 hn hwr hS hT h0 hcap hmax hlen
  go_enter Tryd.func11, Tryd.ntmps11
  go_wp2_with (fail)
  refine HW.out.mono ?_
  rintro e w1 ⟨rfl, c', hc', hH', hg⟩
  have HY := Lib.hid (And.intro hc' (And.intro hH'.weak hg))
  clear hc' hH' hg
  dsimp only
  go_wp2_with (fail)
  go_ret
  obtain ⟨hb, hi, ho, hc, k0, k1, k2, k3, k4, k5, hn⟩ := HX.out
  obtain ⟨hc', hH', hg⟩ := HY.out
  have hbl := (Array.getElem?_eq_some_iff.1 hb).1
  have hne : b ≠ bw := by
    intro e
    subst e
    rw [hb] at hc
    injection hc with hc
    injection hc with _ e2
    exact absurd e2 (by decide)
  refine ⟨by rw [hn]; rfl, ⟨bi, bo, bw, (hg.block b hbl (by simpa using hne)).trans hb, hi.grown hg (Ne.symm k4), ho.grown hg (Ne.symm k5), ⟨c', hc', by rw [← List.append_assoc]; exact hH'⟩, k0, k1, k2, k3, k4, k5⟩, Kept.of_grown hg k3 (by omega) hc (.inl rfl)⟩

def MResetEnd (B0 : Nat) (w : World) (b : Nat) (ik ok : List (BitVec 8)) (e : Ending) (w' : World) : Prop :=
  e = .returned (.tuple #[]) ∧ MacAt B0 w' b ik ok [] ∧ Kept B0 w w'
set_option maxRecDepth 100000 in
theorem mreset_row (w : World) (B0 b bi bo : Nat) (v : Value) (ik ok : List (BitVec 8)) (hb : w.heap[b]? = some (.cells #[.pointer (some ⟨bi, 0, none⟩), .pointer (some ⟨bo, 0, none⟩), v] 47 (0, 0)))
    (hi : HashIn w bi ik) (ho : HashIn w bo ok) (k0 : B0 ≤ b) (k1 : B0 ≤ bi) (k2 : B0 ≤ bo) :
    Calls Tryd.prog 10 #[.pointer (some ⟨b, 0, none⟩)] w (MResetEnd B0 w b ik ok) := by
  have c0 : w.cell? ⟨b, 0, none⟩ = some (.pointer (some ⟨bi, 0, none⟩)) := by rw [cell_of_row _ _ _ _ _ _ hb]; rfl
  obtain ⟨c, hc, hH⟩ := hi
  have hcl := clone_any w bi c ik hc hH
  have HX := Lib.hid (And.intro hb (And.intro hc (And.intro hH (And.intro ho (And.intro k0 (And.intro k1 k2))))))
  have HC := Lib.hid hcl
  clear hb hc hH ho k0 k1 k2 hcl
  go_enter Tryd.func10, Tryd.ntmps10
  go_wp2_with (fail)
  refine HC.out.mono ?_
  rintro e w1 ⟨rfl, hw1⟩
  obtain ⟨hb, hc, hH, ho, k0, k1, k2⟩ := HX.out
  have hbl := (Array.getElem?_eq_some_iff.1 hb).1
  have hB1 : Below w.heap.size w w1 := by rw [hw1]; exact (Below.refl _ w).alloc (Nat.le_refl _) _
  have hn1 : w1.heap[w.heap.size]? = some (.cells c 57 (0, 0)) := by rw [hw1]; exact heap_alloc_new w _
  have hb1 := (hB1.block b hbl).trans hb
  have d2 : w1.cell? ⟨b, 2, none⟩ = some v := by rw [cell_of_row _ _ _ _ _ _ hb1]; rfl
  have f2 : w1.frozen? ⟨b, 2, none⟩ = false := frozen_of_row w1 b 2 _ _ hb1
  have HY := Lib.hid (And.intro hB1 (And.intro hn1 (And.intro hb1 hbl)))
  clear hw1 hb hc hH ho k0 k1 k2 hB1 hn1 hb1 hbl c0
  dsimp only
  go_wp2_with (fail)
  go_end0
  obtain ⟨hb, hc, hH, ho, k0, k1, k2⟩ := HX.out
  obtain ⟨hB1, hn1, hb1, hbl⟩ := HY.out
  have hcl := (Array.getElem?_eq_some_iff.1 hc).1
  have hol := ho.lt
  have hne : ∀ {g : Nat} {c : Array Value}, w.heap[g]? = some (.cells c 57 (0, 0)) → g ≠ b := by
    intro g c hg e
    subst e
    rw [hb] at hg
    injection hg with hg
    injection hg with _ e2
    exact absurd e2 (by decide)
  have hg := grown_setCell w1 b 2 (.pointer (some ⟨w.heap.size, 0, none⟩))
  have hb2 := heap_setCell_same w1 b 2 _ _ (.pointer (some ⟨w.heap.size, 0, none⟩)) hb1
  have hs1 := hB1.size
  have hnl := (Array.getElem?_eq_some_iff.1 hn1).1
  have h1 : HashIn (w1.setCell ⟨b, 2, none⟩ (.pointer (some ⟨w.heap.size, 0, none⟩))) bi ik := HashIn.grown ⟨c, (hB1.block bi hcl).trans hc, hH⟩ hg (hne hc)
  have h2 : HashIn (w1.setCell ⟨b, 2, none⟩ (.pointer (some ⟨w.heap.size, 0, none⟩))) bo ok := (ho.below hB1 hol).grown hg (by obtain ⟨c', hc', _⟩ := ho; exact hne hc')
  have h3 : HashIn (w1.setCell ⟨b, 2, none⟩ (.pointer (some ⟨w.heap.size, 0, none⟩))) w.heap.size ik := HashIn.grown ⟨c, hn1, hH⟩ hg (by omega)
  refine ⟨rfl, ⟨bi, bo, w.heap.size, hb2, h1, h2, by rw [List.append_nil]; exact h3, k0, k1, k2, by omega, by omega, by omega⟩, ?_⟩
  exact (Kept.of_below hB1 (by omega)).trans (Kept.of_grown hg k0 (by omega) hb1 (.inr rfl))
theorem mreset_any (w : World) (B0 b : Nat) (ik ok l : List (BitVec 8)) (hM : MacAt B0 w b ik ok l) :
    Calls Tryd.prog 10 #[.pointer (some ⟨b, 0, none⟩)] w (MResetEnd B0 w b ik ok) := by
  obtain ⟨bi, bo, bw, hb, hi, ho, _, k0, k1, k2, _⟩ := hM
  exact mreset_row w B0 b bi bo _ ik ok hb hi ho k0 k1 k2

set_option maxRecDepth 100000 in
set_option maxHeartbeats 1000000 in
theorem msum_any (w : World) (B0 b : Nat) (ik ok l : List (BitVec 8)) (hM : MacAt B0 w b ik ok l) (hT : Tables w) (hgl : 0 < w.heap.size ∧ 1 < w.heap.size)
    (h1 : ik.length + l.length < 1152921504606846976) (h2 : ok.length ≤ 1000) :
    Calls Tryd.prog 12 #[.pointer (some ⟨b, 0, none⟩)] w (Below0 w (.agg (ShaA (outerL ik ok l)))) := by
  obtain ⟨Y, hY⟩ : ∃ Y : Array Value, Y = noughts32 := ⟨_, rfl⟩
  have hz2 : ∀ w, (zeroValue 25).run Tryd.prog w = .ok (.agg Y) w := by rw [hY]; exact zero32.1
  have HY := Lib.hid hY
  obtain ⟨w0, hw0⟩ : ∃ w0, w0 = w.alloc (.cells Y 25) := ⟨_, rfl⟩
  have hB0 : Below w.heap.size w w0 := by rw [hw0]; exact (Below.refl _ w).alloc (Nat.le_refl _) _
  have hr0 : w0.heap[w.heap.size]? = some (.cells Y 25 (0, 0)) := by rw [hw0]; exact heap_alloc_new w _
  have H0 := Lib.hid (And.intro hB0 hr0)
  have HM := Lib.hid (And.intro (hM.below hB0) (And.intro (hT.below hB0) (And.intro hgl (And.intro h1 h2))))
  clear hY hB0 hr0 hM hT hgl h1 h2
  go_enter Tryd.func12, Tryd.ntmps12
  go_upto_region 3 with (fail)
  rw [← hw0]
  clear hw0
  obtain ⟨⟨bi, bo, bw, hb, hi, ho, ⟨cw, hcw, hHw⟩, hr⟩, hT, hgl, h1, h2⟩ := HM.out
  obtain ⟨co, hco, hHo⟩ := ho
  obtain ⟨m0, m1, m2⟩ := mac_cell hb
  have hgl0 : 0 < w0.heap.size ∧ 1 < w0.heap.size := by have := H0.out.1.size; omega
  have hsum := sum_any w0 (some ⟨bw, 0, none⟩) (ik ++ l) (.inr ⟨bw, cw, rfl, hcw, hHw⟩) hT hgl0 (by rw [List.length_append]; exact h1)
  have HS := Lib.hid hsum
  have HB := Lib.hid (And.intro hb (And.intro hco (And.intro hHo (And.intro hT hgl0))))
  have HM2 := Lib.hid h2
  clear hb hi hcw hHw hr hT hgl h1 h2 hco hHo hgl0 hsum HM
  go_wp2_with (fail)
  refine HS.out.mono ?_
  rintro e w1 ⟨rfl, hB1⟩
  obtain ⟨x, hx⟩ : ∃ x, x = shaL (ik ++ l) := ⟨_, rfl⟩
  obtain ⟨sx, hsx⟩ : ∃ sx, sx = ShaA (ik ++ l) := ⟨_, rfl⟩
  rw [← hsx]
  have hsz : sx.size = 32 := by rw [hsx, ShaA_size]
  have hi : (Tryd.prog.info? 25).map (·.size) = some sx.size := by rw [hsz]; exact zero32.2
  have H1 := Lib.hid (And.intro hB1 (And.intro hx (And.intro hsx (And.intro hsz hi))))
  clear hB1 hx hsx hsz hi m0 m2 m1
  dsimp only
  iterate 4 go_step
  refine wpList_store_row rfl _ _ _ rfl w1.heap.size sx rfl rfl 25 Y (heap_alloc_new w1 _) H1.out.2.2.2.2 (by rw [HY.out, H1.out.2.2.2.1]; simp [noughts32]) (by rw [H1.out.2.2.1]; exact Spell_one _) ?_
  rw [World.setRow_alloc_new]
  obtain ⟨W1, hW1⟩ : ∃ W1, W1 = w1.alloc (.cells sx 25) := ⟨_, rfl⟩
  rw [← hW1]
  have hB2 : Below w0.heap.size w0 W1 := by rw [hW1]; exact H1.out.1.alloc H1.out.1.size _
  have hr2 : W1.heap[w1.heap.size]? = some (.cells sx 25 (0, 0)) := by rw [hW1]; exact heap_alloc_new w1 _
  have hb2 := (hB2.block b (Array.getElem?_eq_some_iff.1 HB.out.1).1).trans HB.out.1
  have hco2 := (hB2.block bo (Array.getElem?_eq_some_iff.1 HB.out.2.1).1).trans HB.out.2.1
  obtain ⟨m0, m1, m2⟩ := mac_cell hb2
  have hcl := clone_any W1 bo co ok hco2 HB.out.2.2.1
  have H2 := Lib.hid (And.intro hB2 hr2)
  have HC := Lib.hid hcl
  clear hW1 hB2 hr2 hb2 hco2 hcl hz2 m0 m2
  go_wp2_with (fail)
  refine HC.out.mono ?_
  rintro e W2 ⟨rfl, hW2⟩
  dsimp only
  have hB3 : Below W1.heap.size W1 W2 := by rw [hW2]; exact (Below.refl _ W1).alloc (Nat.le_refl _) _
  have hl3 : W2.heap[W1.heap.size]? = some (.cells co 57 (0, 0)) := by rw [hW2]; exact heap_alloc_new W1 _
  have hr3 := (hB3.block _ (Array.getElem?_eq_some_iff.1 H2.out.2).1).trans H2.out.2
  have hs2 := H2.out.1.size
  have hs1 := (Array.getElem?_eq_some_iff.1 H2.out.2).1
  have hgl := HB.out.2.2.2.2
  have hT3 := (HB.out.2.2.2.1.below H2.out.1).below hB3
  have hok := HB.out.2.2.1
  have hwr := write_any W2 W1.heap.size co ok x (some ⟨w1.heap.size, 0, none⟩) 32 hl3 hok hT3 (by omega) (by omega) (by rw [H1.out.2.1, shaL_length]; omega) (by omega)
    (.inr ⟨w1.heap.size, 0, rfl, by omega, fun i hi => by
      rw [H1.out.2.1, shaL_length] at hi
      rw [cell_of_row _ _ _ _ _ _ hr3, H1.out.2.2.1, ShaA_is, Nat.zero_add, list_map_at _ _ (by rw [shaL_length]; exact hi), H1.out.2.1]⟩) (by rw [H1.out.2.1, shaL_length]; have := HM2.out; omega)
  rw [show x.length = 32 by rw [H1.out.2.1, shaL_length]] at hwr
  have H3 := Lib.hid (And.intro hB3 (And.intro hT3 (And.intro hs2 hs1)))
  have HW := Lib.hid hwr
  clear hB3 hl3 hr3 hs2 hs1 hgl hT3 hok hwr hW2 m1
  go_wp2_with (fail)
  refine HW.out.mono ?_
  rintro e W3 ⟨rfl, c3, hc3, hS3, hg3⟩
  dsimp only
  have hT3 := H3.out.2.1
  have hgl := HB.out.2.2.2.2
  have hs := H3.out.2.2
  have hs4 := H3.out.1.size
  have hs5 := hg3.size
  have hsum := sum_any W3 (some ⟨W1.heap.size, 0, none⟩) (ok ++ x) (.inr ⟨_, c3, rfl, hc3, hS3.weak⟩) (hT3.grown hg3 (by omega) (by omega)) (by omega) (by rw [List.length_append, H1.out.2.1, shaL_length]; have := HM2.out; omega)
  have hB4 : Below w0.heap.size w0 W3 := (H2.out.1.trans (H3.out.1.mono hs.1)).trans ⟨hg3.os, hg3.tape, hg3.output, hg3.size, fun k hk => hg3.block k (by omega) (by simp; omega)⟩
  have H4 := Lib.hid hB4
  have HS3 := Lib.hid hsum
  clear hc3 hS3 hg3 hT3 hgl hs hs4 hs5 hsum hB4
  go_wp2_with (fail)
  refine HS3.out.mono ?_
  rintro e w5 ⟨rfl, hB5⟩
  obtain ⟨z, hz⟩ : ∃ z, z = ShaA (ok ++ x) := ⟨_, rfl⟩
  rw [← hz]
  have hzz : z = ShaA (outerL ik ok l) := by rw [hz, H1.out.2.1]; rfl
  have hzs : z.size = 32 := by rw [hz, ShaA_size]
  have hi : (Tryd.prog.info? 25).map (·.size) = some z.size := by rw [hzs]; exact zero32.2
  have hz1 : z.all (·.oneCell') = true := by rw [hz]; exact Spell_one _
  have hB6 : Below w.heap.size w w5 := H0.out.1.trans ((H4.out.trans (hB5.mono H4.out.size)).mono H0.out.1.size)
  have hr5 : w5.heap[w.heap.size]? = some (.cells Y 25 (0, 0)) := ((H4.out.trans (hB5.mono H4.out.size)).block _ (Array.getElem?_eq_some_iff.1 H0.out.2).1).trans H0.out.2
  have H5 := Lib.hid (And.intro hzz (And.intro hzs (And.intro hi (And.intro hz1 (And.intro hB6 hr5)))))
  clear hz hzz hzs hi hz1 hB6 hr5 hB5
  dsimp only
  go_step
  refine wpList_store_row rfl _ _ _ rfl w.heap.size z rfl rfl 25 Y H5.out.2.2.2.2.2 H5.out.2.2.1 (by rw [HY.out, H5.out.2.1]; simp [noughts32]) H5.out.2.2.2.1 ?_
  go_wp2_with (fail)
  obtain ⟨hzz, hzs, hi, hz1, hB6, hr5⟩ := H5.out
  refine bodyPost_ret (v := .agg z) (results_cell_row rfl _ _ w.heap.size 25 z (0, 0) _ rfl (setRow_heap _ _ Y _ _ _ hr5) Tryd.underlying25 rfl hi) rfl ⟨by rw [hzz], ?_⟩
  exact hB6.trans ⟨rfl, rfl, rfl, by simp, fun k hk => setRow_other _ _ _ _ (by omega)⟩
end Go.Proofs.YtmdacfbhfacniaaDoor
