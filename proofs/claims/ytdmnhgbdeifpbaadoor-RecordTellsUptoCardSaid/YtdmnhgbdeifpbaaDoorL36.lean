/-
  Part 36 of 39 of what the proof leans on.
-/
import Derived.Test.YtdmnhgbdeifpbaaDoorL26
import Derived.Test.YtdmnhgbdeifpbaaDoorL33
import Derived.Test.YtdmnhgbdeifpbaaDoorL35
namespace Go.Proofs.YtdmnhgbdeifpbaaDoor
open Go Go.RowKit
theorem readR_items (m : List (BitVec 8)) : (readR m).1.items.length ≤ 64 := by
  obtain ⟨x, t, h⟩ : ∃ x t, rec0 ⟨m, 0⟩ = (x, t) := ⟨_, _, rfl⟩
  by_cases he : t.e = 0
  · cases hx : x.rightB with
    | false => rw [read_bad h hx he]; exact Nat.zero_le _
    | true =>
      have hp : x.items.length ≤ 64 := by
        obtain ⟨_, hp⟩ := right_parts hx
        rcases hp with ⟨_, _, _, h4, _⟩ | ⟨_, _, _, h4⟩
        · exact h4
        · rw [h4]; decide
      by_cases hd : t.done = 0
      · rw [read_ok h hx hd]; exact hp
      · rw [read_dn h hx rfl hd]; exact Nat.zero_le _
  · rw [read_err h he]; exact Nat.zero_le _
def TellCut (w : World) (x : RecL) (s7 s8 _s9 _s10 : Value) (wx : World) : Prop := s7 = Sv x.told ∧ s8 = .int .i64 (x.blocks : Int) ∧ Below w.heap.size w wx
set_option maxRecDepth 100000 in
set_option maxHeartbeats 8000000 in
theorem recordTells_law (w : World) (x y : RecL) (ia ja : Option Addr) (ic jc : Nat) (m : List (BitVec 8)) (ma : Option Addr) (mc : Nat) (hW : ShaOk w) (hI : ItemsAt w ia x.items) (hr : x.root.length = 32) (hq : greatL x.items ≤ 1152921504606846976)
    (hJ : ItemsAt w ja y.items) (hry : y.root.length = 32) (hqy : greatL y.items ≤ 1152921504606846976) (hM : SrcP w ma m.length m) (hmc : m.length ≤ mc) (hmm : mc ≤ 9223372036854775807) (hm0 : ma = none → mc = 0) :
    Calls Tryd.prog 3 #[.agg (recC x.kind x.seq (.slice ia x.items.length ic) x.area x.root), .agg (recC y.kind y.seq (.slice ja y.items.length jc) y.area y.root), .slice ma m.length mc] w (Below0 w (.bool true)) := by
  obtain ⟨P, hP⟩ : ∃ P : Ending → World → Prop, P = Below0 w (.bool true) := ⟨_, rfl⟩; rw [← hP]; obtain ⟨ZR, hZR⟩ : ∃ z, z = zeroC := ⟨_, rfl⟩; have hzr := zero_rec.1; rw [← hZR] at hzr; obtain ⟨ZT, hZT⟩ : ∃ z, z = byA zeroH := ⟨_, rfl⟩; have hzt := zero_root.1; rw [← hZT] at hzt; obtain ⟨XC, hXC⟩ : ∃ z, z = recC x.kind x.seq (.slice ia x.items.length ic) x.area x.root := ⟨_, rfl⟩; obtain ⟨YC, hYC⟩ : ∃ z, z = recC y.kind y.seq (.slice ja y.items.length jc) y.area y.root := ⟨_, rfl⟩; obtain ⟨MN, hMN⟩ : ∃ n, n = m.length := ⟨_, rfl⟩; rw [← hXC, ← hYC, ← hMN]; obtain ⟨w1, hw1⟩ : ∃ W, W = (w.alloc (.cells XC 25)).alloc (.cells YC 25) := ⟨_, rfl⟩; obtain ⟨xb, hxb⟩ : ∃ b, b = w.heap.size := ⟨_, rfl⟩; obtain ⟨yb, hyb⟩ : ∃ b, b = w.heap.size + 1 := ⟨_, rfl⟩
  have hs1 : (w.alloc (.cells XC 25)).heap.size = w.heap.size + 1 := by simp
  have hB1 : Below w.heap.size w w1 := by
    rw [hw1]
    exact ((Below.refl _ w).alloc (Nat.le_refl _) _).alloc (by rw [hs1]; omega) _
  have hrx : w1.heap[xb]? = some (.cells XC 25 (0, 0)) := by
    rw [hw1, hxb, heap_alloc_old _ _ (by rw [hs1]; omega)]
    exact heap_alloc_new w _
  have hryw : w1.heap[yb]? = some (.cells YC 25 (0, 0)) := by
    rw [hw1, hyb, ← hs1]; exact heap_alloc_new _ _
  obtain ⟨Gx, hGx⟩ : ∃ G : Nat, G = 50 + greatL x.items := ⟨_, rfl⟩; obtain ⟨Gy, hGy⟩ : ∃ G : Nat, G = 50 + greatL y.items := ⟨_, rfl⟩
  have hGw : IntKind.i64.wrap ((Gx : Int) + (Gy : Int)) = ((Gx + Gy : Nat) : Int) := by
    rw [← Int.natCast_add]
    exact IntWalk.i64_in _ (by omega)
  have HN := Lib.hid (And.intro hP (And.intro hZR (And.intro hZT (And.intro hXC (And.intro hYC hMN))))); have HA := Lib.hid (And.intro hr (And.intro hry (And.intro hmc (And.intro hmm hm0))))
  have HW : Hid (∀ w', Below w1.heap.size w1 w' → (loadVar 25 ⟨xb, 0, none⟩).run Tryd.prog w' = .ok (.agg XC) w' ∧ (loadVar 25 ⟨yb, 0, none⟩).run Tryd.prog w' = .ok (.agg YC) w' ∧ (loadVar 23 ⟨xb, 4, none⟩).run Tryd.prog w' = .ok (.agg (byA x.root)) w' ∧
      ShaOk w' ∧ ItemsAt w' ia x.items ∧ ItemsAt w' ja y.items ∧ SrcP w' ma m.length m ∧ Below w.heap.size w w') := by
    refine Lib.hid fun w' h => ?_; have hB := hB1.trans (h.mono hB1.size)
    have h1 : RowR w' xb x.kind x.seq (.slice ia x.items.length ic) x.area x.root := ⟨hr, by rw [← hXC]; exact (h.block _ (Array.getElem?_eq_some_iff.1 hrx).1).trans hrx⟩
    have h2 : RowR w' yb y.kind y.seq (.slice ja y.items.length jc) y.area y.root := ⟨hry, by rw [← hYC]; exact (h.block _ (Array.getElem?_eq_some_iff.1 hryw).1).trans hryw⟩
    have l1 := rec_load h1; have l2 := rec_load h2; rw [← hXC] at l1; rw [← hYC] at l2; exact ⟨l1, l2, h1.d5.2.2.2.2.1, hW.below hB, hI.below hB, hJ.below hB, hM.below hB, hB⟩
  have HE : Hid (∀ w', Below w1.heap.size w1 w' → P (.returned (.bool true)) w') := by
    rw [hP]; exact Lib.hid fun w' h => ⟨rfl, (HW.out w' h).2.2.2.2.2.2.2⟩
  have HGx : Hid (∀ w', Below w1.heap.size w1 w' → Calls Tryd.prog 7 #[.agg XC] w' (Below0 w' (.int .i64 (Gx : Int)))) := by
    rw [hXC, hGx]; exact Lib.hid fun w' h => rgreat_any w' x ia ic (HW.out w' h).2.2.2.2.1 hr hq
  have HGy : Hid (∀ w', Below w1.heap.size w1 w' → Calls Tryd.prog 7 #[.agg YC] w' (Below0 w' (.int .i64 (Gy : Int)))) := by
    rw [hYC, hGy]; exact Lib.hid fun w' h => rgreat_any w' y ja jc (HW.out w' h).2.2.2.2.2.1 hry hqy
  have HG := Lib.hid (And.intro hGx hGy); have HF := Lib.hid (rfirst14_any w1 (hW.below hB1)); have HGw := Lib.hid hGw; clear hP hZR hZT hXC hYC hMN hr hry hmc hmm hm0 hW hI hJ hM hq hqy hB1 hrx hryw hGx hGy hGw
  go_enter Tryd.func3, Tryd.ntmps3
  go_upto_region 1 with (fail)
  try rw [hs1]
  rw [← hw1, ← hyb, ← hxb]; clear hw1 hyb hxb hs1; go_wp2_with (fail); refine HF.out.mono ?_; rintro e w2 ⟨rfl, hB2⟩; have H2 := Lib.hid hB2; clear hB2 HF; dsimp only
  go_upto_region 3 with (fail)
  have hdr : Below w1.heap.size w1 w2.drew := H2.out.drew; have hGw := HGw.out; obtain ⟨G, hG⟩ : ∃ G, G = Gx + Gy := ⟨_, rfl⟩; rw [← hG] at hGw; have HGe := Lib.hid hG; clear hG
  by_cases hg : (2500 : Int) < (G : Int)
  · refine wp_region_held_drew (S := fun w' => Below w1.heap.size w1 w') (by kernel_rfl) hdr (fun hHeld => ?_)
    clear hdr
    refine tkFree (i := 0) (v := .agg XC) rfl (by kernel_rfl) (by kernel_rfl) (by kernel_rfl) (fun _ _ _ h => h) (yieldsIf_load_at (by rfl) 25 _ rfl ⟨xb, 0, none⟩ rfl (fun w hS => (HW.out w hS).1)) hHeld ?_
    simp only [Act.put, List.setIfInBounds_toArray, List.set_cons_zero, List.set_cons_succ]
    refine tkFree (i := 2) (v := .agg YC) rfl (by kernel_rfl) (by kernel_rfl) (by kernel_rfl) (fun _ _ _ h => h) (yieldsIf_load_at (by rfl) 25 _ rfl ⟨yb, 0, none⟩ rfl (fun w hS => (HW.out w hS).2.1)) hHeld ?_
    simp only [Act.put, List.setIfInBounds_toArray, List.set_cons_zero, List.set_cons_succ]
    refine tkOne 1 rfl (by kernel_rfl) rfl (fun K hK => ?_)
    go_simp
    refine (HGx.out _ hHeld).mono ?_; rintro e w3_ ⟨rfl, hB⟩; have hH := hHeld.trans (hB.mono hHeld.size); refine hK _ _ hH ?_; clear hK hB hHeld; have hHeld := hH; clear hH
    try simp only [Act.put, List.setIfInBounds_toArray, List.set_cons_zero, List.set_cons_succ]
    refine tkOne 3 rfl (by kernel_rfl) rfl (fun K hK => ?_)
    go_simp
    refine (HGy.out _ hHeld).mono ?_; rintro e w3_ ⟨rfl, hB⟩; have hH := hHeld.trans (hB.mono hHeld.size); refine hK _ _ hH ?_; clear hK hB hHeld; have hHeld := hH; clear hH
    try simp only [Act.put, List.setIfInBounds_toArray, List.set_cons_zero, List.set_cons_succ]
    refine tkFree (i := 4) rfl (by kernel_rfl) (by kernel_rfl) (by kernel_rfl) (fun _ _ _ h => h) (.inl ⟨by rfl, fun w hSw => by go_simp; rfl⟩) hHeld ?_
    simp only [Act.put, List.setIfInBounds_toArray, List.set_cons_zero, List.set_cons_succ]
    refine tkFree (i := 5) rfl (by kernel_rfl) (by kernel_rfl) (by kernel_rfl) (fun _ _ _ h => h) (.inl ⟨by rfl, fun w hSw => by go_simp; rfl⟩) hHeld ?_
    simp only [Act.put, List.setIfInBounds_toArray, List.set_cons_zero, List.set_cons_succ]
    refine tkFree (i := 6) rfl (by kernel_rfl) (by kernel_rfl) (by kernel_rfl) (fun _ _ _ h => h) (.inl ⟨by rfl, fun w hSw => by go_simp; rfl⟩) hHeld ?_
    simp only [Act.put, List.setIfInBounds_toArray, List.set_cons_zero, List.set_cons_succ]
    refine tkFree (i := 7) (v := undef) rfl (by kernel_rfl) (by kernel_rfl) (by kernel_rfl) (fun _ _ _ h => h) (.inr ⟨by rfl, rfl⟩) hHeld ?_
    simp only [Act.put, List.setIfInBounds_toArray, List.set_cons_zero, List.set_cons_succ]
    refine tkFree (i := 8) (v := undef) rfl (by kernel_rfl) (by kernel_rfl) (by kernel_rfl) (fun _ _ _ h => h) (.inr ⟨by rfl, rfl⟩) hHeld ?_
    simp only [Act.put, List.setIfInBounds_toArray, List.set_cons_zero, List.set_cons_succ]
    refine tkFree (i := 9) (v := undef) rfl (by kernel_rfl) (by kernel_rfl) (by kernel_rfl) (fun _ _ _ h => h) (.inr ⟨by rfl, rfl⟩) hHeld ?_
    simp only [Act.put, List.setIfInBounds_toArray, List.set_cons_zero, List.set_cons_succ]
    refine tkFree (i := 10) rfl (by kernel_rfl) (by kernel_rfl) (by kernel_rfl) (fun _ _ _ h => h) (.inl ⟨by rfl, fun w hSw => by go_simp; rfl⟩) hHeld ?_
    simp only [Act.put, List.setIfInBounds_toArray, List.set_cons_zero, List.set_cons_succ]
    refine wpAnyH_done (by kernel_rfl) ?_ _
    have HQ := Lib.hid (HE.out _ hHeld); clear hHeld; go_wp2_with (fail); exact HQ.out
  by_cases hm : (2500 : Int) < (MN : Int)
  · refine wp_region_held_drew (S := fun w' => Below w1.heap.size w1 w') (by kernel_rfl) hdr (fun hHeld => ?_)
    clear hdr
    refine tkFree (i := 0) (v := .agg XC) rfl (by kernel_rfl) (by kernel_rfl) (by kernel_rfl) (fun _ _ _ h => h) (yieldsIf_load_at (by rfl) 25 _ rfl ⟨xb, 0, none⟩ rfl (fun w hS => (HW.out w hS).1)) hHeld ?_
    simp only [Act.put, List.setIfInBounds_toArray, List.set_cons_zero, List.set_cons_succ]
    refine tkFree (i := 2) (v := .agg YC) rfl (by kernel_rfl) (by kernel_rfl) (by kernel_rfl) (fun _ _ _ h => h) (yieldsIf_load_at (by rfl) 25 _ rfl ⟨yb, 0, none⟩ rfl (fun w hS => (HW.out w hS).2.1)) hHeld ?_
    simp only [Act.put, List.setIfInBounds_toArray, List.set_cons_zero, List.set_cons_succ]
    refine tkOne 1 rfl (by kernel_rfl) rfl (fun K hK => ?_)
    go_simp
    refine (HGx.out _ hHeld).mono ?_; rintro e w3_ ⟨rfl, hB⟩; have hH := hHeld.trans (hB.mono hHeld.size); refine hK _ _ hH ?_; clear hK hB hHeld; have hHeld := hH; clear hH
    try simp only [Act.put, List.setIfInBounds_toArray, List.set_cons_zero, List.set_cons_succ]
    refine tkOne 3 rfl (by kernel_rfl) rfl (fun K hK => ?_)
    go_simp
    refine (HGy.out _ hHeld).mono ?_; rintro e w3_ ⟨rfl, hB⟩; have hH := hHeld.trans (hB.mono hHeld.size); refine hK _ _ hH ?_; clear hK hB hHeld; have hHeld := hH; clear hH
    try simp only [Act.put, List.setIfInBounds_toArray, List.set_cons_zero, List.set_cons_succ]
    refine tkFree (i := 4) rfl (by kernel_rfl) (by kernel_rfl) (by kernel_rfl) (fun _ _ _ h => h) (.inl ⟨by rfl, fun w hSw => by go_simp; rfl⟩) hHeld ?_
    simp only [Act.put, List.setIfInBounds_toArray, List.set_cons_zero, List.set_cons_succ]
    refine tkFree (i := 5) rfl (by kernel_rfl) (by kernel_rfl) (by kernel_rfl) (fun _ _ _ h => h) (.inl ⟨by rfl, fun w hSw => by go_simp; rfl⟩) hHeld ?_
    simp only [Act.put, List.setIfInBounds_toArray, List.set_cons_zero, List.set_cons_succ]
    refine tkFree (i := 6) rfl (by kernel_rfl) (by kernel_rfl) (by kernel_rfl) (fun _ _ _ h => h) (.inl ⟨by rfl, fun w hSw => by go_simp; rfl⟩) hHeld ?_
    simp only [Act.put, List.setIfInBounds_toArray, List.set_cons_zero, List.set_cons_succ]
    refine tkFree (i := 7) rfl (by kernel_rfl) (by kernel_rfl) (by kernel_rfl) (fun _ _ _ h => h) (.inl ⟨by rfl, fun w hSw => by go_simp; rfl⟩) hHeld ?_
    simp only [Act.put, List.setIfInBounds_toArray, List.set_cons_zero, List.set_cons_succ]
    refine tkFree (i := 8) rfl (by kernel_rfl) (by kernel_rfl) (by kernel_rfl) (fun _ _ _ h => h) (.inl ⟨by rfl, fun w hSw => by go_simp; rfl⟩) hHeld ?_
    simp only [Act.put, List.setIfInBounds_toArray, List.set_cons_zero, List.set_cons_succ]
    refine tkFree (i := 9) rfl (by kernel_rfl) (by kernel_rfl) (by kernel_rfl) (fun _ _ _ h => h) (.inl ⟨by rfl, fun w hSw => by go_simp; rfl⟩) hHeld ?_
    simp only [Act.put, List.setIfInBounds_toArray, List.set_cons_zero, List.set_cons_succ]
    refine tkFree (i := 10) rfl (by kernel_rfl) (by kernel_rfl) (by kernel_rfl) (fun _ _ _ h => h) (.inl ⟨by rfl, fun w hSw => by go_simp; rfl⟩) hHeld ?_
    simp only [Act.put, List.setIfInBounds_toArray, List.set_cons_zero, List.set_cons_succ]
    refine wpAnyH_done (by kernel_rfl) ?_ _
    have HQ := Lib.hid (HE.out _ hHeld); clear hHeld; go_wp2_with (fail); exact HQ.out
  refine wp_region_held_drew (S := fun w' => Below w1.heap.size w1 w') (by kernel_rfl) hdr (fun hHeld => ?_)
  clear hdr
  refine tkFree (i := 0) (v := .agg XC) rfl (by kernel_rfl) (by kernel_rfl) (by kernel_rfl) (fun _ _ _ h => h) (yieldsIf_load_at (by rfl) 25 _ rfl ⟨xb, 0, none⟩ rfl (fun w hS => (HW.out w hS).1)) hHeld ?_
  simp only [Act.put, List.setIfInBounds_toArray, List.set_cons_zero, List.set_cons_succ]
  refine tkFree (i := 2) (v := .agg YC) rfl (by kernel_rfl) (by kernel_rfl) (by kernel_rfl) (fun _ _ _ h => h) (yieldsIf_load_at (by rfl) 25 _ rfl ⟨yb, 0, none⟩ rfl (fun w hS => (HW.out w hS).2.1)) hHeld ?_
  simp only [Act.put, List.setIfInBounds_toArray, List.set_cons_zero, List.set_cons_succ]
  refine tkOne 1 rfl (by kernel_rfl) rfl (fun K hK => ?_)
  go_simp
  refine (HGx.out _ hHeld).mono ?_; rintro e w3_ ⟨rfl, hB⟩; have hH := hHeld.trans (hB.mono hHeld.size); refine hK _ _ hH ?_; clear hK hB hHeld; have hHeld := hH; clear hH
  try simp only [Act.put, List.setIfInBounds_toArray, List.set_cons_zero, List.set_cons_succ]
  refine tkOne 3 rfl (by kernel_rfl) rfl (fun K hK => ?_)
  go_simp
  refine (HGy.out _ hHeld).mono ?_; rintro e w3_ ⟨rfl, hB⟩; have hH := hHeld.trans (hB.mono hHeld.size); refine hK _ _ hH ?_; clear hK hB hHeld; have hHeld := hH; clear hH
  try simp only [Act.put, List.setIfInBounds_toArray, List.set_cons_zero, List.set_cons_succ]
  refine tkFree (i := 4) rfl (by kernel_rfl) (by kernel_rfl) (by kernel_rfl) (fun _ _ _ h => h) (.inl ⟨by rfl, fun w hSw => by go_simp; rfl⟩) hHeld ?_
  simp only [Act.put, List.setIfInBounds_toArray, List.set_cons_zero, List.set_cons_succ]
  refine tkFree (i := 5) rfl (by kernel_rfl) (by kernel_rfl) (by kernel_rfl) (fun _ _ _ h => h) (.inl ⟨by rfl, fun w hSw => by go_simp; rfl⟩) hHeld ?_
  simp only [Act.put, List.setIfInBounds_toArray, List.set_cons_zero, List.set_cons_succ]
  refine tkFree (i := 6) rfl (by kernel_rfl) (by kernel_rfl) (by kernel_rfl) (fun _ _ _ h => h) (.inl ⟨by rfl, fun w hSw => by go_simp; rfl⟩) hHeld ?_
  simp only [Act.put, List.setIfInBounds_toArray, List.set_cons_zero, List.set_cons_succ]
  refine tkFree (i := 7) rfl (by kernel_rfl) (by kernel_rfl) (by kernel_rfl) (fun _ _ _ h => h) (.inl ⟨by rfl, fun w hSw => by go_simp; rfl⟩) hHeld ?_
  simp only [Act.put, List.setIfInBounds_toArray, List.set_cons_zero, List.set_cons_succ]
  refine tkFree (i := 8) rfl (by kernel_rfl) (by kernel_rfl) (by kernel_rfl) (fun _ _ _ h => h) (.inl ⟨by rfl, fun w hSw => by go_simp; rfl⟩) hHeld ?_
  simp only [Act.put, List.setIfInBounds_toArray, List.set_cons_zero, List.set_cons_succ]
  refine tkFree (i := 9) rfl (by kernel_rfl) (by kernel_rfl) (by kernel_rfl) (fun _ _ _ h => h) (.inl ⟨by rfl, fun w hSw => by go_simp; rfl⟩) hHeld ?_
  simp only [Act.put, List.setIfInBounds_toArray, List.set_cons_zero, List.set_cons_succ]
  refine tkFree (i := 10) rfl (by kernel_rfl) (by kernel_rfl) (by kernel_rfl) (fun _ _ _ h => h) (.inl ⟨by rfl, fun w hSw => by go_simp; rfl⟩) hHeld ?_
  simp only [Act.put, List.setIfInBounds_toArray, List.set_cons_zero, List.set_cons_succ]
  refine wpAnyH_done (by kernel_rfl) ?_ _
  obtain ⟨w4, rfl⟩ : ∃ x, x = w3_ := ⟨w3_, rfl⟩; have H4 := Lib.hid hHeld
  have HKs : Hid (MN ≤ 2500 ∧ (∀ i ∈ x.items, i.key.length ≤ 1000000) ∧ x.items.length ≤ 1000000 ∧ y.items.length ≤ 1000000) := by
    have h1 := HGe.out; have h2 := HG.out.1; have h3 := HG.out.2
    refine Lib.hid ⟨by omega, fun i hi => ?_, ?_, ?_⟩
    · have := greatL_mem hi; omega
    · have := greatL_length x.items; omega
    · have := greatL_length y.items; omega
  clear hHeld hg hm hGw HGw HGe HG HGx HGy H2
  go_upto_region 6 with (fail)
  have HRr : Hid (Calls Tryd.prog 8 #[.agg XC] w4 (Below0 w4 (.bool x.rightB))) := by
    have hw := HW.out w4 H4.out; rw [HN.out.2.2.2.1]; exact Lib.hid (rrright_any w4 x ia ic hw.2.2.2.2.1 HKs.out.2.1 HKs.out.2.2.1 HA.out.1)
  refine wp_region_lit ?_; refine wpList_load_at rfl 25 _ rfl ⟨xb, 0, none⟩ rfl (.agg XC) (HW.out w4 H4.out).1 ?_
  iterate 2 go_step
  refine HRr.out.mono ?_; rintro e w5 ⟨rfl, hB5⟩; have H5 : Hid (Below w4.heap.size w4 w5 ∧ Below w1.heap.size w1 w5) := Lib.hid ⟨hB5, H4.out.trans (hB5.mono H4.out.size)⟩; clear hB5 HRr; dsimp only
  go_upto_if 29 with (fail)
  go_cut [7, 8, 9, 10] from 29 to 41 (TellCut w4 x)
  case first =>
    cases hrb : x.rightB with
    | false =>
      have HX : Hid (x.told = [] ∧ x.blocks = 0) := by
        unfold RecL.told RecL.blocks; rw [hrb]; exact Lib.hid ⟨rfl, rfl⟩
      clear hrb; go_wp2_with (fail)
      go_meet
      case rel => exact ⟨by rw [HX.out.1]; rfl, by rw [HX.out.2]; rfl, H5.out.1⟩
    | true =>
      have hbl : x.body.length ≤ 70000 := body_len hrb HA.out.1
      have htx : (textL x.body).length ≤ 10 + 70000 := by
        have h1 := wordL_length x.body.length; rw [textL, List.length_append]; omega
      have HX : Hid (x.told = x.body ∧ x.blocks = (sealB [] zeroH x.body).length / 128 ∧ (sealB [] zeroH x.body).length ≤ 80000 ∧ (headL zeroH x.body).length = 32) := by
        refine Lib.hid ⟨?_, blocks_seal [] zeroH hrb, ?_, headL_len _ _⟩
        · unfold RecL.told; rw [hrb]; rfl
        · rw [sealB, List.length_append, List.length_append, macL_tag_len, List.length_replicate]; have h2 := noughtN_lt ((textL x.body).length + 32); omega
      have HBo : Hid (∀ w', Below w1.heap.size w1 w' → Calls Tryd.prog 9 #[.agg XC] w' (Below0 w' (Sv x.body))) := by
        rw [HN.out.2.2.2.1]
        exact Lib.hid fun w' h => rrbody_any w' x ia ic (HW.out w' h).2.2.2.2.1 HKs.out.2.1 HA.out.1 hrb (by omega)
      obtain ⟨sb, hsb⟩ : ∃ s, s = sealB [] zeroH x.body := ⟨_, rfl⟩; obtain ⟨hh, hhh⟩ : ∃ s, s = headL zeroH x.body := ⟨_, rfl⟩
      have HSe : Hid (∀ w', Below w1.heap.size w1 w' → Calls Tryd.prog 10 #[.string ⟨#[]⟩, .agg ZT, .agg XC] w' (Below0 w' (.tuple #[Sv sb, .agg (byA hh)]))) := by
        rw [HN.out.2.2.2.1, HN.out.2.2.1, hsb, hhh]
        exact Lib.hid fun w' h => rrseal_any w' [] zeroH x ia ic (by decide) zeroH_len (HW.out w' h).2.2.2.2.1 HKs.out.2.1 HA.out.1 hrb (by omega)
      rw [← hsb, ← hhh] at HX; obtain ⟨bd, hbd⟩ : ∃ b, b = x.body := ⟨_, rfl⟩; rw [← hbd] at HBo HX; clear hrb hbl htx hsb hhh hbd
      go_upto_region 7 with (fail)
      refine wp_region_lit ?_; refine wpList_load_at rfl 25 _ rfl ⟨xb, 0, none⟩ rfl (.agg XC) (HW.out w5 H5.out.2).1 ?_
      iterate 2 go_step
      refine (HBo.out w5 H5.out.2).mono ?_; rintro e w6 ⟨rfl, hB6⟩; have H6 : Hid (Below w4.heap.size w4 w6 ∧ Below w1.heap.size w1 w6) := Lib.hid ⟨H5.out.1.trans (hB6.mono H5.out.1.size), H5.out.2.trans (hB6.mono H5.out.2.size)⟩; clear hB6 HBo; dsimp only
      go_upto_region 8 with (fail)
      refine wp_region_lit ?_
      refine wpList_built_at rfl 23 _ rfl (cs := ZT) (by rw [HN.out.2.2.1]; simpa using zero_root.2) ?_
      refine wpList_load_at rfl 25 _ rfl ⟨xb, 0, none⟩ rfl (.agg XC) (HW.out w6 H6.out.2).1 ?_
      iterate 2 go_step
      refine (HSe.out w6 H6.out.2).mono ?_; rintro e w7 ⟨rfl, hB7⟩; have H7 : Hid (Below w4.heap.size w4 w7) := Lib.hid (H6.out.1.trans (hB7.mono H6.out.1.size)); clear hB7 HSe; dsimp only
      iterate 16 go_step
      refine wpList_store_row rfl _ (.tmp 10) (.tmp 37) rfl w7.heap.size (byA hh) rfl rfl 23 ZT (heap_alloc_new w7 _) (arr_size _ HX.out.2.2.2) (by rw [HN.out.2.2.1, byA_size, byA_size, HX.out.2.2.2]; rfl) (byA_one _) ?_
      obtain ⟨hb, hhb⟩ : ∃ b, b = w7.heap.size := ⟨_, rfl⟩; obtain ⟨w8, hw8⟩ : ∃ W, W = (w7.alloc (.cells ZT 23)).setRow w7.heap.size (byA hh) := ⟨_, rfl⟩
      have H8 : Hid (Below w4.heap.size w4 w8) := by
        have k : Below w7.heap.size w7 w8 := by
          rw [hw8]; have h1 := (Below.refl _ w7).alloc (Nat.le_refl _) (.cells ZT 23)
          exact h1.trans ⟨rfl, rfl, rfl, by simp, fun k hk => setRow_other _ _ _ _ (by omega)⟩
        exact Lib.hid (H7.out.trans (k.mono H7.out.size))
      rw [← hw8, ← hhb]; clear hw8 hhb; obtain ⟨SN, hSN⟩ : ∃ n, n = sb.length := ⟨_, rfl⟩
      have lu : ∀ w ty, (Builtin.len_ #[9] ty #[Sv sb]).run Tryd.prog w = .ok (.int .i64 (SN : Int)) w := fun w ty => by rw [run_len_Sv w ty sb, hSN]
      obtain ⟨BL, hBL⟩ : ∃ n, n = x.blocks := ⟨_, rfl⟩
      have hq : Int.tdiv (SN : Int) 128 = (BL : Int) := by
        rw [Int.tdiv_eq_ediv_of_nonneg (by omega), hBL, HX.out.2.1, hSN]
        rfl
      have hqw : IntKind.i64.wrap (BL : Int) = (BL : Int) := IntWalk.i64_in _ (by have := HX.out.2.1; have := HX.out.2.2.1; omega)
      have HBL := Lib.hid hBL; clear hSN hBL; go_wp2_with (fail)
      go_meet
      case rel => exact ⟨by rw [HX.out.1], by rw [HBL.out], H8.out⟩
  case rest =>
    obtain ⟨rfl, rfl, hcB⟩ := hcut; obtain ⟨w9, rfl⟩ : ∃ x, x = wc := ⟨wc, rfl⟩; have H9 : Hid (Below w1.heap.size w1 w9) := Lib.hid (H4.out.trans (hcB.mono H4.out.size)); clear hcB H4; obtain ⟨gr, hgr⟩ : ∃ p, p = readR m := ⟨_, rfl⟩
    have HRd : Hid (Calls Tryd.prog 11 #[.slice ma MN mc] w9 (RecEnd w9 gr)) := by
      have hw := HW.out w9 H9.out; rw [HN.out.2.2.2.2.2, hgr]
      exact Lib.hid (rread14_any w9 m ma mc hw.2.2.2.2.2.2.1 HA.out.2.2.2.2 (by have := HKs.out.1; have := HN.out.2.2.2.2.2; omega))
    have HRr : Hid (∀ w', Calls Tryd.prog 12 #[Sv m] w' (RecEnd w' gr)) := by
      rw [hgr]; exact Lib.hid fun w' => rrread14_any w' m
    have HGr : Hid (gr.1.items.length ≤ 64) := by
      rw [hgr]; exact Lib.hid (readR_items m)
    clear hgr
    go_upto_region 10 with (fail)
    refine wp_region_lit ?_
    iterate 5 go_step
    refine HRd.out.mono ?_; rintro e w10 ⟨ga, gc, rfl, h1, h2, h3⟩; have H10 : Hid (Below w1.heap.size w1 w10 ∧ ItemsAt w10 ga gr.1.items ∧ gr.1.root.length = 32) := Lib.hid ⟨H9.out.trans (h3.mono H9.out.size), h1, h2⟩; obtain ⟨GC, hGC⟩ : ∃ z, z = recC gr.1.kind gr.1.seq (.slice ga gr.1.items.length gc) gr.1.area gr.1.root := ⟨_, rfl⟩; obtain ⟨ge, hge⟩ : ∃ z, z = gr.2 := ⟨_, rfl⟩; rw [← hGC, ← hge]; have HGC := Lib.hid hGC; clear hGC h1 h2 h3 HRd; dsimp only
    iterate 13 go_step
    obtain ⟨z1, z2⟩ := one_new w10 ZR GC
    refine wpList_store_row rfl _ (.tmp 11) (.tmp 44) rfl w10.heap.size GC rfl rfl 25 ZR (heap_alloc_new w10 _) (by rw [HGC.out]; exact rec_size _ _ _ _ _ H10.out.2.2) (by rw [HGC.out, HN.out.2.1, zeroC_size, recC_size H10.out.2.2]) (by rw [HGC.out]; exact recC_one _ rfl) ?_
    obtain ⟨gb, hgb⟩ : ∃ b, b = w10.heap.size := ⟨_, rfl⟩; obtain ⟨w11, hw11⟩ : ∃ W, W = (w10.alloc (.cells ZR 25)).setRow w10.heap.size GC := ⟨_, rfl⟩; rw [← hw11] at z1 z2; rw [← hgb] at z1; have H11 : Hid (Below w1.heap.size w1 w11 ∧ ItemsAt w11 ga gr.1.items ∧ w11.heap[gb]? = some (.cells GC 25 (0, 0))) := Lib.hid ⟨H10.out.1.trans (z2.mono H10.out.1.size), H10.out.2.1.below z2, z1⟩; rw [← hw11, ← hgb]; clear hw11 hgb z1 z2
    iterate 3 go_step
    have hcv : (convert 26 9 (.slice ma MN mc)).run Tryd.prog w11 = .ok (Sv m) w11 := by
      have h := run_conv_str w11 ma mc m (HW.out w11 H11.out.1).2.2.2.2.2.2.1
      rwa [← HN.out.2.2.2.2.2] at h
    go_upto_region 11 with (fail)
    refine wp_region_lit ?_
    iterate 8 go_step
    refine (HRr.out w11).mono ?_; rintro e w12 ⟨ea, ec, rfl, h1, h2, h3⟩; have H12 : Hid (Below w1.heap.size w1 w12 ∧ Below w11.heap.size w11 w12 ∧ ItemsAt w12 ea gr.1.items) := Lib.hid ⟨H11.out.1.trans (h3.mono H11.out.1.size), h3, h1⟩; obtain ⟨EC, hEC⟩ : ∃ z, z = recC gr.1.kind gr.1.seq (.slice ea gr.1.items.length ec) gr.1.area gr.1.root := ⟨_, rfl⟩; rw [← hEC, ← hge]; have HEC := Lib.hid hEC; clear hEC hge h1 h2 h3 HRr hcv; dsimp only
    iterate 13 go_step
    obtain ⟨z1, z2⟩ := one_new w12 ZR EC
    refine wpList_store_row rfl _ (.tmp 13) (.tmp 50) rfl w12.heap.size EC rfl rfl 25 ZR (heap_alloc_new w12 _) (by rw [HEC.out]; exact rec_size _ _ _ _ _ H10.out.2.2) (by rw [HEC.out, HN.out.2.1, zeroC_size, recC_size H10.out.2.2]) (by rw [HEC.out]; exact recC_one _ rfl) ?_
    obtain ⟨eb, heb⟩ : ∃ b, b = w12.heap.size := ⟨_, rfl⟩; obtain ⟨w13, hw13⟩ : ∃ W, W = (w12.alloc (.cells ZR 25)).setRow w12.heap.size EC := ⟨_, rfl⟩; rw [← hw13] at z1 z2; rw [← heb] at z1
    have H13 : Hid (Below w1.heap.size w1 w13 ∧ ItemsAt w13 ga gr.1.items ∧ w13.heap[gb]? = some (.cells GC 25 (0, 0)) ∧ ItemsAt w13 ea gr.1.items ∧ w13.heap[eb]? = some (.cells EC 25 (0, 0))) := by
      have h11 := H12.out.2.1.trans (z2.mono H12.out.2.1.size); exact Lib.hid ⟨H12.out.1.trans (z2.mono H12.out.1.size), H11.out.2.1.below h11, (h11.block _ (Array.getElem?_eq_some_iff.1 H11.out.2.2).1).trans H11.out.2.2, H12.out.2.2.below z2, z1⟩
    rw [← hw13, ← heb]; clear hw13 heb z1 z2 H11 H12 H9
    iterate 3 go_step
    obtain ⟨rb, hrb⟩ : ∃ b, b = x.rightB := ⟨_, rfl⟩; obtain ⟨sm, hsm⟩ : ∃ b, b = sameR x y := ⟨_, rfl⟩; obtain ⟨td, htd⟩ : ∃ b, b = x.told := ⟨_, rfl⟩; obtain ⟨BL, hBL⟩ : ∃ b, b = x.blocks := ⟨_, rfl⟩; obtain ⟨rt, hrt⟩ : ∃ b, b = x.root := ⟨_, rfl⟩; obtain ⟨HD, hHD⟩ : ∃ b, b = headL rt m := ⟨_, rfl⟩; rw [← htd, ← hBL]; have HV : Hid (∀ w', Below w13.heap.size w13 w' → Below w1.heap.size w1 w') := Lib.hid fun w' h => H13.out.1.trans (h.mono H13.out.1.size)
    have HLg : Hid (∀ w', Below w13.heap.size w13 w' → (loadVar 25 ⟨gb, 0, none⟩).run Tryd.prog w' = .ok (.agg GC) w') := by
      have hg := H13.out.2.2.1; rw [HGC.out] at hg ⊢; exact Lib.hid fun w' h => rec_load (RowR.below ⟨H10.out.2.2, hg⟩ h)
    have HLe : Hid (∀ w', Below w13.heap.size w13 w' → (loadVar 25 ⟨eb, 0, none⟩).run Tryd.prog w' = .ok (.agg EC) w') := by
      have hg := H13.out.2.2.2.2; rw [HEC.out] at hg ⊢; exact Lib.hid fun w' h => rec_load (RowR.below ⟨H10.out.2.2, hg⟩ h)
    have HCv : Hid (∀ w', Below w13.heap.size w13 w' → (convert 26 9 (.slice ma MN mc)).run Tryd.prog w' = .ok (Sv m) w') := by
      refine Lib.hid fun w' h => ?_; have h := run_conv_str w' ma mc m (HW.out w' (HV.out w' h)).2.2.2.2.2.2.1
      rwa [← HN.out.2.2.2.2.2] at h
    have HRi : Hid (∀ w', Below w13.heap.size w13 w' → Calls Tryd.prog 13 #[.agg XC] w' (Below0 w' (.bool rb))) := by
      rw [HN.out.2.2.2.1, hrb]; exact Lib.hid fun w' h => rright_any w' x ia ic (HW.out w' (HV.out w' h)).2.2.2.2.1 HKs.out.2.1 HKs.out.2.2.1 HA.out.1
    have HRj : Hid (∀ w', Below w13.heap.size w13 w' → Calls Tryd.prog 8 #[.agg XC] w' (Below0 w' (.bool rb))) := by
      rw [HN.out.2.2.2.1, hrb]; exact Lib.hid fun w' h => rrright_any w' x ia ic (HW.out w' (HV.out w' h)).2.2.2.2.1 HKs.out.2.1 HKs.out.2.2.1 HA.out.1
    have HBy : Hid (∀ w', Below w13.heap.size w13 w' → Calls Tryd.prog 14 #[.agg XC] w' (BytesEnd w' td)) := by
      rw [HN.out.2.2.2.1, htd]; exact Lib.hid fun w' h => rbody_any w' x ia ic (HW.out w' (HV.out w' h)).2.2.2.2.1 HKs.out.2.1 HKs.out.2.2.1 HA.out.1
    have HSi : Hid (∀ w', Below w13.heap.size w13 w' → Calls Tryd.prog 15 #[.agg XC] w' (Below0 w' (.int .i64 (BL : Int)))) := by
      rw [HN.out.2.2.2.1, hBL]; exact Lib.hid fun w' h => rsize_any w' x ia ic (HW.out w' (HV.out w' h)).2.2.2.2.1 HKs.out.2.1 HKs.out.2.2.1 HA.out.1
    have HSa : Hid (∀ w', Below w13.heap.size w13 w' → Calls Tryd.prog 16 #[.agg XC, .agg YC] w' (Below0 w' (.bool sm))) := by
      rw [HN.out.2.2.2.1, HN.out.2.2.2.2.1, hsm]
      exact Lib.hid fun w' h => rsame_any w' x y ia ja ic jc (HW.out w' (HV.out w' h)).2.2.2.2.1 (HW.out w' (HV.out w' h)).2.2.2.2.2.1 HA.out.1 HA.out.2.1 (by have := HKs.out.2.2.1; omega)
    have HSb : Hid (∀ w', Below w13.heap.size w13 w' → Calls Tryd.prog 17 #[.agg XC, .agg YC] w' (Below0 w' (.bool sm))) := by
      rw [HN.out.2.2.2.1, HN.out.2.2.2.2.1, hsm]
      exact Lib.hid fun w' h => rrsame_any w' x y ia ja ic jc (HW.out w' (HV.out w' h)).2.2.2.2.1 (HW.out w' (HV.out w' h)).2.2.2.2.2.1 HA.out.1 HA.out.2.1 (by have := HKs.out.2.2.1; omega)
    have HSg : Hid (∀ w', Below w13.heap.size w13 w' → Calls Tryd.prog 16 #[.agg GC, .agg EC] w' (Below0 w' (.bool true))) := by
      rw [HGC.out, HEC.out]; refine Lib.hid fun w' h => ?_
      have h9 := rsame_any w' gr.1 gr.1 ga ea gc ec (H13.out.2.1.below h) (H13.out.2.2.2.1.below h) H10.out.2.2 H10.out.2.2 (by have := HGr.out; omega)
      rwa [sameR_iff.2 rfl] at h9
    have HHe : Hid (∀ w', Below w13.heap.size w13 w' → Calls Tryd.prog 18 #[.agg (byA rt), .slice ma MN mc] w' (Below0 w' (.agg (byA HD)))) := by
      rw [HN.out.2.2.2.2.2, hHD, hrt]
      exact Lib.hid fun w' h => rhead_any w' x.root m ma mc HA.out.1 (HW.out w' (HV.out w' h)).2.2.2.2.2.2.1 HA.out.2.2.1 HA.out.2.2.2.1 (by have := HKs.out.1; have := HN.out.2.2.2.2.2; omega) (HW.out w' (HV.out w' h)).2.2.2.1
    have HHr : Hid (∀ w', Below w13.heap.size w13 w' → Calls Tryd.prog 19 #[.agg (byA rt), Sv m] w' (Below0 w' (.agg (byA HD)))) := by
      rw [hHD, hrt]
      exact Lib.hid fun w' h => rrhead_any w' x.root m HA.out.1 (by have := HKs.out.1; have := HN.out.2.2.2.2.2; omega)
    have HLr : Hid (∀ w', Below w13.heap.size w13 w' → (loadVar 23 ⟨xb, 4, none⟩).run Tryd.prog w' = .ok (.agg (byA rt)) w') := by
      rw [hrt]; exact Lib.hid fun w' h => (HW.out w' (HV.out w' h)).2.2.1
    have HHl : Hid (HD.length = 32) := by rw [hHD]; exact Lib.hid (headL_len _ _)
    clear hrb hsm htd hBL hrt hHD; have hdr : Below w13.heap.size w13 w13.drew := (Below.refl _ w13).drew
    go_upto_region 12 with (fail)
    refine wp_region_held_drew (S := fun w' => Below w13.heap.size w13 w') (by kernel_rfl) hdr (fun hHeld => ?_)
    clear hdr
    refine tkFree (i := 0) (v := .agg XC) rfl (by kernel_rfl) (by kernel_rfl) (by kernel_rfl) (fun _ _ _ h => h) (yieldsIf_load_at (by rfl) 25 _ rfl ⟨xb, 0, none⟩ rfl (fun w hS => (HW.out w (HV.out w hS)).1)) hHeld ?_
    simp only [Act.put, List.setIfInBounds_toArray, List.set_cons_zero, List.set_cons_succ]
    refine tkFree (i := 2) (v := .agg XC) rfl (by kernel_rfl) (by kernel_rfl) (by kernel_rfl) (fun _ _ _ h => h) (yieldsIf_load_at (by rfl) 25 _ rfl ⟨xb, 0, none⟩ rfl (fun w hS => (HW.out w (HV.out w hS)).1)) hHeld ?_
    simp only [Act.put, List.setIfInBounds_toArray, List.set_cons_zero, List.set_cons_succ]
    refine tkOne 1 rfl (by kernel_rfl) rfl (fun K hK => ?_)
    go_simp
    refine (HRi.out _ hHeld).mono ?_; rintro e w3_ ⟨rfl, hB⟩; have hH := hHeld.trans (hB.mono hHeld.size); refine hK _ _ hH ?_; clear hK hB hHeld; have hHeld := hH; clear hH
    try simp only [Act.put, List.setIfInBounds_toArray, List.set_cons_zero, List.set_cons_succ]
    refine tkOne 3 rfl (by kernel_rfl) rfl (fun K hK => ?_)
    go_simp
    refine (HRj.out _ hHeld).mono ?_; rintro e w3_ ⟨rfl, hB⟩; have hH := hHeld.trans (hB.mono hHeld.size); refine hK _ _ hH ?_; clear hK hB hHeld; have hHeld := hH; clear hH
    try simp only [Act.put, List.setIfInBounds_toArray, List.set_cons_zero, List.set_cons_succ]
    refine tkFree (i := 4) rfl (by kernel_rfl) (by kernel_rfl) (by kernel_rfl) (fun _ _ _ h => h) (.inl ⟨by rfl, fun w hSw => by go_simp; rfl⟩) hHeld ?_
    simp only [Act.put, List.setIfInBounds_toArray, List.set_cons_zero, List.set_cons_succ]
    refine tkFree (i := 5) rfl (by kernel_rfl) (by kernel_rfl) (by kernel_rfl) (fun _ _ _ h => h) (.inl ⟨by rfl, fun w hSw => by go_simp; rfl⟩) hHeld ?_
    simp only [Act.put, List.setIfInBounds_toArray, List.set_cons_zero, List.set_cons_succ]
    refine tkFree (i := 6) (v := .agg XC) rfl (by kernel_rfl) (by kernel_rfl) (by kernel_rfl) (fun _ _ _ h => h) (yieldsIf_load_at (by rfl) 25 _ rfl ⟨xb, 0, none⟩ rfl (fun w hS => (HW.out w (HV.out w hS)).1)) hHeld ?_
    simp only [Act.put, List.setIfInBounds_toArray, List.set_cons_zero, List.set_cons_succ]
    refine tkFree (i := 9) rfl (by kernel_rfl) (by kernel_rfl) (by kernel_rfl) (fun _ _ _ h => h) (.inl ⟨by rfl, fun w hSw => by go_simp; rfl⟩) hHeld ?_
    simp only [Act.put, List.setIfInBounds_toArray, List.set_cons_zero, List.set_cons_succ]
    refine tkWant 7 rfl (by kernel_rfl) rfl (fun K hK => ?_)
    go_simp
    refine (HBy.out _ hHeld).mono ?_; rintro e w3_ ⟨da, dc, rfl, h1, h2, h3, h4, hB⟩; have hcd := run_conv_str w3_ da dc td h4.srcP; obtain ⟨TN, hTN⟩ : ∃ n, n = td.length := ⟨_, rfl⟩; rw [← hTN] at hcd ⊢; have hH := hHeld.trans (hB.mono hHeld.size); refine hK _ _ hH ?_; clear hK hB hHeld h1 h2 h3 h4 hTN; have hHeld := hH; clear hH
    try simp only [Act.put, List.setIfInBounds_toArray, List.set_cons_zero, List.set_cons_succ]
    refine tkWant 8 rfl (by kernel_rfl) rfl (fun K hK => ?_)
    go_simp
    refine hK _ _ hHeld ?_; clear hK hcd
    try simp only [Act.put, List.setIfInBounds_toArray, List.set_cons_zero, List.set_cons_succ]
    refine tkFree (i := 10) rfl (by kernel_rfl) (by kernel_rfl) (by kernel_rfl) (fun _ _ _ h => h) (.inl ⟨by rfl, fun w hSw => by go_simp; rfl⟩) hHeld ?_
    simp only [Act.put, List.setIfInBounds_toArray, List.set_cons_zero, List.set_cons_succ]
    refine tkFree (i := 11) rfl (by kernel_rfl) (by kernel_rfl) (by kernel_rfl) (fun _ _ _ h => h) (.inl ⟨by rfl, fun w hSw => by go_simp; rfl⟩) hHeld ?_
    simp only [Act.put, List.setIfInBounds_toArray, List.set_cons_zero, List.set_cons_succ]
    refine tkFree (i := 12) rfl (by kernel_rfl) (by kernel_rfl) (by kernel_rfl) (fun _ _ _ h => h) (.inl ⟨by rfl, fun w hSw => by go_simp; rfl⟩) hHeld ?_
    simp only [Act.put, List.setIfInBounds_toArray, List.set_cons_zero, List.set_cons_succ]
    refine tkFree (i := 13) (v := .agg XC) rfl (by kernel_rfl) (by kernel_rfl) (by kernel_rfl) (fun _ _ _ h => h) (yieldsIf_load_at (by rfl) 25 _ rfl ⟨xb, 0, none⟩ rfl (fun w hS => (HW.out w (HV.out w hS)).1)) hHeld ?_
    simp only [Act.put, List.setIfInBounds_toArray, List.set_cons_zero, List.set_cons_succ]
    refine tkFree (i := 15) rfl (by kernel_rfl) (by kernel_rfl) (by kernel_rfl) (fun _ _ _ h => h) (.inl ⟨by rfl, fun w hSw => by go_simp; rfl⟩) hHeld ?_
    simp only [Act.put, List.setIfInBounds_toArray, List.set_cons_zero, List.set_cons_succ]
    refine tkWant 14 rfl (by kernel_rfl) rfl (fun K hK => ?_)
    go_simp
    refine (HSi.out _ hHeld).mono ?_; rintro e w3_ ⟨rfl, hB⟩; have hH := hHeld.trans (hB.mono hHeld.size); refine hK _ _ hH ?_; clear hK hB hHeld; have hHeld := hH; clear hH
    try simp only [Act.put, List.setIfInBounds_toArray, List.set_cons_zero, List.set_cons_succ]
    refine tkFree (i := 16) rfl (by kernel_rfl) (by kernel_rfl) (by kernel_rfl) (fun _ _ _ h => h) (.inl ⟨by rfl, fun w hSw => by go_simp; rfl⟩) hHeld ?_
    simp only [Act.put, List.setIfInBounds_toArray, List.set_cons_zero, List.set_cons_succ]
    refine tkFree (i := 17) rfl (by kernel_rfl) (by kernel_rfl) (by kernel_rfl) (fun _ _ _ h => h) (.inl ⟨by rfl, fun w hSw => by go_simp; rfl⟩) hHeld ?_
    simp only [Act.put, List.setIfInBounds_toArray, List.set_cons_zero, List.set_cons_succ]
    refine tkFree (i := 18) rfl (by kernel_rfl) (by kernel_rfl) (by kernel_rfl) (fun _ _ _ h => h) (.inl ⟨by rfl, fun w hSw => by go_simp; rfl⟩) hHeld ?_
    simp only [Act.put, List.setIfInBounds_toArray, List.set_cons_zero, List.set_cons_succ]
    refine tkFree (i := 19) (v := .agg XC) rfl (by kernel_rfl) (by kernel_rfl) (by kernel_rfl) (fun _ _ _ h => h) (yieldsIf_load_at (by rfl) 25 _ rfl ⟨xb, 0, none⟩ rfl (fun w hS => (HW.out w (HV.out w hS)).1)) hHeld ?_
    simp only [Act.put, List.setIfInBounds_toArray, List.set_cons_zero, List.set_cons_succ]
    refine tkFree (i := 20) (v := .agg YC) rfl (by kernel_rfl) (by kernel_rfl) (by kernel_rfl) (fun _ _ _ h => h) (yieldsIf_load_at (by rfl) 25 _ rfl ⟨yb, 0, none⟩ rfl (fun w hS => (HW.out w (HV.out w hS)).2.1)) hHeld ?_
    simp only [Act.put, List.setIfInBounds_toArray, List.set_cons_zero, List.set_cons_succ]
    refine tkFree (i := 22) (v := .agg XC) rfl (by kernel_rfl) (by kernel_rfl) (by kernel_rfl) (fun _ _ _ h => h) (yieldsIf_load_at (by rfl) 25 _ rfl ⟨xb, 0, none⟩ rfl (fun w hS => (HW.out w (HV.out w hS)).1)) hHeld ?_
    simp only [Act.put, List.setIfInBounds_toArray, List.set_cons_zero, List.set_cons_succ]
    refine tkFree (i := 23) (v := .agg YC) rfl (by kernel_rfl) (by kernel_rfl) (by kernel_rfl) (fun _ _ _ h => h) (yieldsIf_load_at (by rfl) 25 _ rfl ⟨yb, 0, none⟩ rfl (fun w hS => (HW.out w (HV.out w hS)).2.1)) hHeld ?_
    simp only [Act.put, List.setIfInBounds_toArray, List.set_cons_zero, List.set_cons_succ]
    refine tkWant 21 rfl (by kernel_rfl) rfl (fun K hK => ?_)
    go_simp
    refine (HSa.out _ hHeld).mono ?_; rintro e w3_ ⟨rfl, hB⟩; have hH := hHeld.trans (hB.mono hHeld.size); refine hK _ _ hH ?_; clear hK hB hHeld; have hHeld := hH; clear hH
    try simp only [Act.put, List.setIfInBounds_toArray, List.set_cons_zero, List.set_cons_succ]
    refine tkWant 24 rfl (by kernel_rfl) rfl (fun K hK => ?_)
    go_simp
    refine (HSb.out _ hHeld).mono ?_; rintro e w3_ ⟨rfl, hB⟩; have hH := hHeld.trans (hB.mono hHeld.size); refine hK _ _ hH ?_; clear hK hB hHeld; have hHeld := hH; clear hH
    try simp only [Act.put, List.setIfInBounds_toArray, List.set_cons_zero, List.set_cons_succ]
    refine tkFree (i := 25) rfl (by kernel_rfl) (by kernel_rfl) (by kernel_rfl) (fun _ _ _ h => h) (.inl ⟨by rfl, fun w hSw => by go_simp; rfl⟩) hHeld ?_
    simp only [Act.put, List.setIfInBounds_toArray, List.set_cons_zero, List.set_cons_succ]
    refine tkFree (i := 26) rfl (by kernel_rfl) (by kernel_rfl) (by kernel_rfl) (fun _ _ _ h => h) (.inl ⟨by rfl, fun w hSw => by go_simp; rfl⟩) hHeld ?_
    simp only [Act.put, List.setIfInBounds_toArray, List.set_cons_zero, List.set_cons_succ]
    refine tkFree (i := 27) rfl (by kernel_rfl) (by kernel_rfl) (by kernel_rfl) (fun _ _ _ h => h) (.inl ⟨by rfl, fun w hSw => by go_simp; rfl⟩) hHeld ?_
    simp only [Act.put, List.setIfInBounds_toArray, List.set_cons_zero, List.set_cons_succ]
    refine tkFree (i := 28) (v := .agg GC) rfl (by kernel_rfl) (by kernel_rfl) (by kernel_rfl) (fun _ _ _ h => h) (yieldsIf_load_at (by rfl) 25 _ rfl ⟨gb, 0, none⟩ rfl (fun w hS => HLg.out w hS)) hHeld ?_
    simp only [Act.put, List.setIfInBounds_toArray, List.set_cons_zero, List.set_cons_succ]
    refine tkFree (i := 29) (v := .agg EC) rfl (by kernel_rfl) (by kernel_rfl) (by kernel_rfl) (fun _ _ _ h => h) (yieldsIf_load_at (by rfl) 25 _ rfl ⟨eb, 0, none⟩ rfl (fun w hS => HLe.out w hS)) hHeld ?_
    simp only [Act.put, List.setIfInBounds_toArray, List.set_cons_zero, List.set_cons_succ]
    refine tkWant 30 rfl (by kernel_rfl) rfl (fun K hK => ?_)
    go_simp
    refine (HSg.out _ hHeld).mono ?_; rintro e w3_ ⟨rfl, hB⟩; have hH := hHeld.trans (hB.mono hHeld.size); refine hK _ _ hH ?_; clear hK hB hHeld; have hHeld := hH; clear hH
    try simp only [Act.put, List.setIfInBounds_toArray, List.set_cons_zero, List.set_cons_succ]
    refine tkFree (i := 31) rfl (by kernel_rfl) (by kernel_rfl) (by kernel_rfl) (fun _ _ _ h => h) (.inl ⟨by rfl, fun w hSw => by go_simp; rfl⟩) hHeld ?_
    simp only [Act.put, List.setIfInBounds_toArray, List.set_cons_zero, List.set_cons_succ]
    refine tkFree (i := 32) rfl (by kernel_rfl) (by kernel_rfl) (by kernel_rfl) (fun _ _ _ h => h) (.inl ⟨by rfl, fun w hSw => by go_simp; rfl⟩) hHeld ?_
    simp only [Act.put, List.setIfInBounds_toArray, List.set_cons_zero, List.set_cons_succ]
    refine tkFree (i := 33) rfl (by kernel_rfl) (by kernel_rfl) (by kernel_rfl) (fun _ _ _ h => h) (.inl ⟨by rfl, fun w hSw => by go_simp; rfl⟩) hHeld ?_
    simp only [Act.put, List.setIfInBounds_toArray, List.set_cons_zero, List.set_cons_succ]
    refine tkFree (i := 34) rfl (by kernel_rfl) (by kernel_rfl) (by kernel_rfl) (fun _ _ _ h => h) (.inl ⟨by rfl, fun w hSw => by go_simp; rfl⟩) hHeld ?_
    simp only [Act.put, List.setIfInBounds_toArray, List.set_cons_zero, List.set_cons_succ]
    refine tkFree (i := 35) rfl (by kernel_rfl) (by kernel_rfl) (by kernel_rfl) (fun _ _ _ h => h) (.inl ⟨by rfl, fun w hSw => by go_simp; rfl⟩) hHeld ?_
    simp only [Act.put, List.setIfInBounds_toArray, List.set_cons_zero, List.set_cons_succ]
    refine tkFree (i := 36) rfl (by kernel_rfl) (by kernel_rfl) (by kernel_rfl) (fun _ _ _ h => h) (.inl ⟨by rfl, fun w hSw => by go_simp; rfl⟩) hHeld ?_
    simp only [Act.put, List.setIfInBounds_toArray, List.set_cons_zero, List.set_cons_succ]
    refine tkFree (i := 37) rfl (by kernel_rfl) (by kernel_rfl) (by kernel_rfl) (fun _ _ _ h => h) (.inl ⟨by rfl, fun w hSw => by go_simp; rfl⟩) hHeld ?_
    simp only [Act.put, List.setIfInBounds_toArray, List.set_cons_zero, List.set_cons_succ]
    refine tkFree (i := 38) rfl (by kernel_rfl) (by kernel_rfl) (by kernel_rfl) (fun _ _ _ h => h) (.inl ⟨by rfl, fun w hSw => by go_simp; rfl⟩) hHeld ?_
    simp only [Act.put, List.setIfInBounds_toArray, List.set_cons_zero, List.set_cons_succ]
    refine tkFree (i := 39) (v := .agg (byA rt)) rfl (by kernel_rfl) (by kernel_rfl) (by kernel_rfl) (fun _ _ _ h => h) (yieldsIf_load_at (by rfl) 23 _ rfl ⟨xb, 4, none⟩ rfl (fun w hS => HLr.out w hS)) hHeld ?_
    simp only [Act.put, List.setIfInBounds_toArray, List.set_cons_zero, List.set_cons_succ]
    refine tkFree (i := 40) rfl (by kernel_rfl) (by kernel_rfl) (by kernel_rfl) (fun _ _ _ h => h) (.inl ⟨by rfl, fun w hSw => by go_simp; rfl⟩) hHeld ?_
    simp only [Act.put, List.setIfInBounds_toArray, List.set_cons_zero, List.set_cons_succ]
    refine tkFree (i := 42) rfl (by kernel_rfl) (by kernel_rfl) (by kernel_rfl) (fun _ _ _ h => h) (.inl ⟨by rfl, fun w hSw => by go_simp; rfl⟩) hHeld ?_
    simp only [Act.put, List.setIfInBounds_toArray, List.set_cons_zero, List.set_cons_succ]
    refine tkFree (i := 43) (v := .agg (byA rt)) rfl (by kernel_rfl) (by kernel_rfl) (by kernel_rfl) (fun _ _ _ h => h) (yieldsIf_load_at (by rfl) 23 _ rfl ⟨xb, 4, none⟩ rfl (fun w hS => HLr.out w hS)) hHeld ?_
    simp only [Act.put, List.setIfInBounds_toArray, List.set_cons_zero, List.set_cons_succ]
    refine tkFree (i := 44) rfl (by kernel_rfl) (by kernel_rfl) (by kernel_rfl) (fun _ _ _ h => h) (.inl ⟨by rfl, fun w hSw => by go_simp; rfl⟩) hHeld ?_
    simp only [Act.put, List.setIfInBounds_toArray, List.set_cons_zero, List.set_cons_succ]
    refine tkFree (i := 45) rfl (by kernel_rfl) (by kernel_rfl) (by kernel_rfl) (fun _ _ _ h => h) (.inl ⟨by rfl, fun w hSw => by have hcv := HCv.out w hSw; go_simp; rfl⟩) hHeld ?_
    simp only [Act.put, List.setIfInBounds_toArray, List.set_cons_zero, List.set_cons_succ]
    refine tkWant 41 rfl (by kernel_rfl) rfl (fun K hK => ?_)
    go_simp
    refine (HHe.out _ hHeld).mono ?_; rintro e w3_ ⟨rfl, hB⟩; have hH := hHeld.trans (hB.mono hHeld.size); refine hK _ _ hH ?_; clear hK hB hHeld; have hHeld := hH; clear hH
    try simp only [Act.put, List.setIfInBounds_toArray, List.set_cons_zero, List.set_cons_succ]
    refine tkWant 46 rfl (by kernel_rfl) rfl (fun K hK => ?_)
    go_simp
    refine (HHr.out _ hHeld).mono ?_; rintro e w3_ ⟨rfl, hB⟩; have hH := hHeld.trans (hB.mono hHeld.size); refine hK _ _ hH ?_; clear hK hB hHeld; have hHeld := hH; clear hH
    try simp only [Act.put, List.setIfInBounds_toArray, List.set_cons_zero, List.set_cons_succ]
    refine tkFree (i := 47) (v := .bool true) rfl (by kernel_rfl) (by kernel_rfl) (by kernel_rfl) (fun _ _ _ h => h) (yieldsIf_eql_root (by rfl) (.tmp 93) (.tmp 98) _ rfl HD HHl.out rfl rfl) hHeld ?_
    simp only [Act.put, List.setIfInBounds_toArray, List.set_cons_zero, List.set_cons_succ]
    refine tkFree (i := 48) rfl (by kernel_rfl) (by kernel_rfl) (by kernel_rfl) (fun _ _ _ h => h) (.inl ⟨by rfl, fun w hSw => by go_simp; rfl⟩) hHeld ?_
    simp only [Act.put, List.setIfInBounds_toArray, List.set_cons_zero, List.set_cons_succ]
    refine tkFree (i := 49) rfl (by kernel_rfl) (by kernel_rfl) (by kernel_rfl) (fun _ _ _ h => h) (.inl ⟨by rfl, fun w hSw => by go_simp; rfl⟩) hHeld ?_
    simp only [Act.put, List.setIfInBounds_toArray, List.set_cons_zero, List.set_cons_succ]
    refine wpAnyH_done (by kernel_rfl) ?_ _
    have HZ := Lib.hid (HE.out _ (HV.out _ hHeld)); clear hHeld; go_wp2_with (fail); exact HZ.out
end Go.Proofs.YtdmnhgbdeifpbaaDoor
