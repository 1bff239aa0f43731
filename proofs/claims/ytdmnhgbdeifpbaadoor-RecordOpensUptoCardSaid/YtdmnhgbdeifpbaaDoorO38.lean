/-
  Part 38 of 42 of what the proof leans on.
-/
import Derived.Test.YtdmnhgbdeifpbaaDoorO28
import Derived.Test.YtdmnhgbdeifpbaaDoorO37
namespace Go.Proofs.YtdmnhgbdeifpbaaDoor
open Go Go.RowKit
theorem openB_items (key ahead s : List (BitVec 8)) (seq : Int) : (openB key ahead seq s).1.items.length ≤ 64 := by
  unfold openB
  split
  · exact Nat.zero_le _
  · split
    · exact Nat.zero_le _
    · split
      · exact Nat.zero_le _
      · split
        · exact Nat.zero_le _
        · exact readR_items _
def OpenCut (w : World) (sb hh : List (BitVec 8)) (tb : Nat) (s9 : Value) (wx : World) : Prop := s9 = Sv sb ∧ wx.heap[tb]? = some (.cells (byA hh) 23 (0, 0)) ∧ Below w.heap.size w wx
set_option maxRecDepth 100000 in
set_option maxHeartbeats 8000000 in
theorem recordOpens_law (w : World) (x : RecL) (key ahead other : List (BitVec 8)) (ia ka oa : Option Addr) (ic kc oc : Nat) (hW : ShaOk w) (hI : ItemsAt w ia x.items) (hr : x.root.length = 32) (hq : greatL x.items ≤ 1152921504606846976)
    (ha : ahead.length = 32) (hK : SrcP w ka key.length key) (hkc : key.length ≤ kc) (hkm : kc ≤ 9223372036854775807) (hO : SrcP w oa other.length other) (hoc : other.length ≤ oc) (hom : oc ≤ 9223372036854775807) (ho0 : oa = none → oc = 0) :
    Calls Tryd.prog 4 #[.agg (caseC (recC x.kind x.seq (.slice ia x.items.length ic) x.area x.root) (.slice ka key.length kc) ahead (.slice oa other.length oc))] w (Below0 w (.bool true)) := by
  obtain ⟨P, hP⟩ : ∃ P : Ending → World → Prop, P = Below0 w (.bool true) := ⟨_, rfl⟩
  rw [← hP]
  obtain ⟨ZR, hZR⟩ : ∃ z, z = zeroC := ⟨_, rfl⟩
  have hzr := zero_rec.1
  rw [← hZR] at hzr
  obtain ⟨ZT, hZT⟩ : ∃ z, z = byA zeroH := ⟨_, rfl⟩
  have hzt := zero_root.1
  rw [← hZT] at hzt
  obtain ⟨C, hC⟩ : ∃ z, z = recC x.kind x.seq (.slice ia x.items.length ic) x.area x.root := ⟨_, rfl⟩
  obtain ⟨KN, hKN⟩ : ∃ n, n = key.length := ⟨_, rfl⟩
  obtain ⟨ON, hON⟩ : ∃ n, n = other.length := ⟨_, rfl⟩
  rw [← hC, ← hKN, ← hON]
  obtain ⟨CC, hCC⟩ : ∃ z, z = caseC C (.slice ka KN kc) ahead (.slice oa ON oc) := ⟨_, rfl⟩
  rw [← hCC]
  obtain ⟨w1, hw1⟩ : ∃ W, W = w.alloc (.cells CC 44) := ⟨_, rfl⟩
  obtain ⟨cb, hb⟩ : ∃ b, b = w.heap.size := ⟨_, rfl⟩
  have hB1 : Below w.heap.size w w1 := by rw [hw1]; exact (Below.refl _ w).alloc (Nat.le_refl _) _
  have hrow : RowK w1 cb C (.slice ka KN kc) ahead (.slice oa ON oc) := ⟨by rw [hC]; exact recC_size hr, ha, by rw [hw1, hb, ← hCC]; exact heap_alloc_new w _⟩
  have HF := Lib.hid (rfirst14_any w1 (hW.below hB1))
  have HN := Lib.hid (And.intro hP (And.intro hZR (And.intro hZT (And.intro hC (And.intro hKN hON)))))
  have H1 := Lib.hid (And.intro hB1 (And.intro hrow (And.intro hW (And.intro hI (And.intro hr (And.intro hq (And.intro ha trivial)))))))
  have HK := Lib.hid (And.intro hK (And.intro hkc (And.intro hkm trivial)))
  have HO := Lib.hid (And.intro hO (And.intro hoc (And.intro hom ho0)))
  clear ho0 hP hZR hZT hC hKN hON hCC hB1 hrow hW hI hr hq ha hK hkc hkm hO hoc hom
  go_enter Tryd.func4, Tryd.ntmps4
  go_upto_region 1 with (fail)
  rw [← hw1, ← hb]
  clear hw1 hb
  go_wp2_with (fail)
  refine HF.out.mono ?_
  rintro e w2 ⟨rfl, hB2⟩
  have H2 := Lib.hid hB2
  clear hB2 HF
  dsimp only
  go_upto_region 3 with (fail)
  -- region 3
  go_cut [3, 4, 5, 6] from 21 to 28 (BackCut w C (.slice ka KN kc) ahead (.slice oa ON oc))
  case first =>
    have hdr : RowK w2.drew cb C (.slice ka KN kc) ahead (.slice oa ON oc) := by
      have h := H1.out.2.1.below H2.out
      exact ⟨h.1, h.2.1, h.2.2⟩
    have HS : Hid (C.size = 36 ∧ ZR.size = 36 ∧ C.all (·.oneCell') = true ∧ (byA ahead).size = 32 ∧ ZT.size = 32 ∧ (byA ahead).all (·.oneCell') = true) := by
      rw [HN.out.2.1, HN.out.2.2.1, HN.out.2.2.2.1]
      exact Lib.hid ⟨recC_size H1.out.2.2.2.2.1, zeroC_size, recC_one _ rfl, by rw [byA_size]; exact H1.out.2.2.2.2.2.2.1, by rw [byA_size, zeroH_len], byA_one _⟩
    refine wp_region_held_drew (S := fun w' => RowK w' cb C (.slice ka KN kc) ahead (.slice oa ON oc)) (by kernel_rfl) hdr (fun hHeld => ?_)
    clear hdr
    refine tkFree (i := 0) rfl (by kernel_rfl) (by kernel_rfl) (by kernel_rfl) (fun _ _ _ h => h) (.inl ⟨by rfl, fun w hSw => by go_simp; rfl⟩) hHeld ?_
    simp only [Act.put, List.setIfInBounds_toArray, List.set_cons_zero, List.set_cons_succ]
    refine tkFree (i := 1) (v := .agg C) rfl (by kernel_rfl) (by kernel_rfl) (by kernel_rfl) (fun _ _ _ h => h) (yieldsIf_load_at (by rfl) 25 _ rfl ⟨cb, 0, none⟩ rfl (fun w hS => hS.d4.1)) hHeld ?_
    simp only [Act.put, List.setIfInBounds_toArray, List.set_cons_zero, List.set_cons_succ]
    refine tkFree (i := 2) rfl (by kernel_rfl) (by kernel_rfl) (by kernel_rfl) (fun _ _ _ h => h) (.inl ⟨by rfl, fun w hSw => by go_simp; rfl⟩) hHeld ?_
    simp only [Act.put, List.setIfInBounds_toArray, List.set_cons_zero, List.set_cons_succ]
    refine tkFree (i := 3) rfl (by kernel_rfl) (by kernel_rfl) (by kernel_rfl) (fun _ _ _ h => h) (.inl ⟨by rfl, fun w hSw => by have d := hSw.d4.2.1; go_simp; rfl⟩) hHeld ?_
    simp only [Act.put, List.setIfInBounds_toArray, List.set_cons_zero, List.set_cons_succ]
    refine tkFree (i := 4) rfl (by kernel_rfl) (by kernel_rfl) (by kernel_rfl) (fun _ _ _ h => h) (.inl ⟨by rfl, fun w hSw => by go_simp; rfl⟩) hHeld ?_
    simp only [Act.put, List.setIfInBounds_toArray, List.set_cons_zero, List.set_cons_succ]
    refine tkFree (i := 5) (v := .agg (byA ahead)) rfl (by kernel_rfl) (by kernel_rfl) (by kernel_rfl) (fun _ _ _ h => h) (yieldsIf_load_at (by rfl) 23 _ rfl ⟨cb, 37, none⟩ rfl (fun w hS => hS.d4.2.2.1)) hHeld ?_
    simp only [Act.put, List.setIfInBounds_toArray, List.set_cons_zero, List.set_cons_succ]
    refine tkFree (i := 6) rfl (by kernel_rfl) (by kernel_rfl) (by kernel_rfl) (fun _ _ _ h => h) (.inl ⟨by rfl, fun w hSw => by go_simp; rfl⟩) hHeld ?_
    simp only [Act.put, List.setIfInBounds_toArray, List.set_cons_zero, List.set_cons_succ]
    refine tkFree (i := 7) rfl (by kernel_rfl) (by kernel_rfl) (by kernel_rfl) (fun _ _ _ h => h) (.inl ⟨by rfl, fun w hSw => by have d := hSw.d4.2.2.2; go_simp; rfl⟩) hHeld ?_
    simp only [Act.put, List.setIfInBounds_toArray, List.set_cons_zero, List.set_cons_succ]
    refine tkTwo 8 9 rfl rfl (by decide +kernel) rfl rfl (fun K hK => ?_) (fun K hK => ?_)
    · go_simp
      obtain ⟨w3, hWw3⟩ : ∃ W, W = (w2.alloc (.cells ZR 25)).drew := ⟨_, rfl⟩
      obtain ⟨xb, hbxb⟩ : ∃ b, b = w2.heap.size := ⟨_, rfl⟩
      rw [← hWw3, ← hbxb]
      have hrxb : w3.heap[xb]? = some (.cells ZR 25 (0, 0)) := by rw [hWw3, hbxb]; exact heap_alloc_new w2 _
      have hBw3 : Below w2.heap.size w2 w3 := by rw [hWw3]; exact ((Below.refl _ w2).alloc (Nat.le_refl _) _).drew
      have hgxb : w2.heap.size ≤ xb := by rw [hbxb]; exact Nat.le_refl _
      clear hWw3 hbxb
      refine hK _ _ (H1.out.2.1.below (H2.out.trans (hBw3.mono H2.out.size))) ?_
      try simp only [Act.put, List.setIfInBounds_toArray, List.set_cons_zero, List.set_cons_succ]
      refine tkOne 9 rfl (by decide +kernel) rfl (fun K hK => ?_)
      go_simp
      obtain ⟨w4, hWw4⟩ : ∃ W, W = (w3.alloc (.cells ZT 23)) := ⟨_, rfl⟩
      obtain ⟨hb, hbhb⟩ : ∃ b, b = w3.heap.size := ⟨_, rfl⟩
      rw [← hWw4, ← hbhb]
      have hrhb : w4.heap[hb]? = some (.cells ZT 23 (0, 0)) := by rw [hWw4, hbhb]; exact heap_alloc_new w3 _
      have hBw4 : Below w3.heap.size w3 w4 := by rw [hWw4]; exact ((Below.refl _ w3).alloc (Nat.le_refl _) _)
      have hghb : w2.heap.size ≤ hb := by rw [hbhb]; exact hBw3.size
      clear hWw4 hbhb
      have hB24 : Below w2.heap.size w2 w4 := hBw3.trans (hBw4.mono hBw3.size)
      have hr2xb : w4.heap[xb]? = _ := (hBw4.block _ (Array.getElem?_eq_some_iff.1 hrxb).1).trans hrxb
      refine hK _ _ (H1.out.2.1.below (H2.out.trans (hB24.mono H2.out.size))) ?_
      try simp only [Act.put, List.setIfInBounds_toArray, List.set_cons_zero, List.set_cons_succ]
      have hne : xb ≠ hb := row_ne14 hr2xb hrhb
      have hG4 : w2.heap.size ≤ xb ∧ w2.heap.size ≤ hb := ⟨hgxb, hghb⟩
      obtain ⟨hE5, hr5, hr5h⟩ := back_set hr2xb hrhb hG4.1 hne C
      obtain ⟨hE6, hr6, hr6h⟩ := back_set hr5h hr5 hG4.2 hne.symm (byA ahead)
      refine tkOne 10 rfl (by decide +kernel) rfl (fun K hK => ?_)
      refine wp_store_row 25 (.tmp 3) (.tmp 22) rfl xb C rfl rfl 25 ZR hr2xb (by rw [HS.out.1]; kernel_rfl) (by rw [HS.out.1, HS.out.2.1]) HS.out.2.2.1 ?_
      refine hK _ _ (H1.out.2.1.below (H2.out.trans ((hB24.trans hE5).mono H2.out.size))) ?_
      try simp only [Act.put]
      refine tkFree (i := 11) rfl (by kernel_rfl) (by kernel_rfl) (by kernel_rfl) (fun _ _ _ h => h) (.inl ⟨by rfl, fun w hSw => by go_simp; rfl⟩) (H1.out.2.1.below (H2.out.trans ((hB24.trans hE5).mono H2.out.size))) ?_
      simp only [Act.put, List.setIfInBounds_toArray, List.set_cons_zero, List.set_cons_succ]
      refine tkOne 12 rfl (by decide +kernel) rfl (fun K hK => ?_)
      refine wp_store_row 23 (.tmp 5) (.tmp 26) rfl hb (byA ahead) rfl rfl 23 ZT hr5h (by rw [HS.out.2.2.2.1]; kernel_rfl) (by rw [HS.out.2.2.2.1, HS.out.2.2.2.2.1]) HS.out.2.2.2.2.2 ?_
      refine hK _ _ (H1.out.2.1.below (H2.out.trans (((hB24.trans hE5).trans hE6).mono H2.out.size))) ?_
      try simp only [Act.put]
      refine tkFree (i := 13) rfl (by kernel_rfl) (by kernel_rfl) (by kernel_rfl) (fun _ _ _ h => h) (.inl ⟨by rfl, fun w hSw => by go_simp; rfl⟩) (H1.out.2.1.below (H2.out.trans (((hB24.trans hE5).trans hE6).mono H2.out.size))) ?_
      simp only [Act.put, List.setIfInBounds_toArray, List.set_cons_zero, List.set_cons_succ]
      have HC : Hid (Below w.heap.size w ((w4.setRow xb C).setRow hb (byA ahead)) ∧ ((w4.setRow xb C).setRow hb (byA ahead)).heap[xb]? = some (.cells C 25 (0, 0)) ∧ ((w4.setRow xb C).setRow hb (byA ahead)).heap[hb]? = some (.cells (byA ahead) 23 (0, 0))) :=
        ⟨H1.out.1.trans ((H2.out.trans (((hB24.trans hE5).trans hE6).mono H2.out.size)).mono H1.out.1.size), hr6h, hr6⟩
      obtain ⟨w6, hw6⟩ : ∃ W, W = (w4.setRow xb C).setRow hb (byA ahead) := ⟨_, rfl⟩
      rw [← hw6] at HC ⊢
      refine wpAnyH_done (by kernel_rfl) ?_ _
      clear hgxb hghb hrxb hrhb hBw3 hBw4 hB24 hr2xb hne hG4 hE5 hr5 hr5h hE6 hr6 hr6h hw6 hHeld
      go_wp2_with (fail)
      go_meet
      case rel => exact ⟨xb, hb, rfl, rfl, rfl, rfl, HC.out⟩
    · go_simp
      obtain ⟨w3, hWw3⟩ : ∃ W, W = (w2.alloc (.cells ZT 23)).drew := ⟨_, rfl⟩
      obtain ⟨hb, hbhb⟩ : ∃ b, b = w2.heap.size := ⟨_, rfl⟩
      rw [← hWw3, ← hbhb]
      have hrhb : w3.heap[hb]? = some (.cells ZT 23 (0, 0)) := by rw [hWw3, hbhb]; exact heap_alloc_new w2 _
      have hBw3 : Below w2.heap.size w2 w3 := by rw [hWw3]; exact ((Below.refl _ w2).alloc (Nat.le_refl _) _).drew
      have hghb : w2.heap.size ≤ hb := by rw [hbhb]; exact Nat.le_refl _
      clear hWw3 hbhb
      refine hK _ _ (H1.out.2.1.below (H2.out.trans (hBw3.mono H2.out.size))) ?_
      try simp only [Act.put, List.setIfInBounds_toArray, List.set_cons_zero, List.set_cons_succ]
      refine tkOne 8 rfl (by decide +kernel) rfl (fun K hK => ?_)
      go_simp
      obtain ⟨w4, hWw4⟩ : ∃ W, W = (w3.alloc (.cells ZR 25)) := ⟨_, rfl⟩
      obtain ⟨xb, hbxb⟩ : ∃ b, b = w3.heap.size := ⟨_, rfl⟩
      rw [← hWw4, ← hbxb]
      have hrxb : w4.heap[xb]? = some (.cells ZR 25 (0, 0)) := by rw [hWw4, hbxb]; exact heap_alloc_new w3 _
      have hBw4 : Below w3.heap.size w3 w4 := by rw [hWw4]; exact ((Below.refl _ w3).alloc (Nat.le_refl _) _)
      have hgxb : w2.heap.size ≤ xb := by rw [hbxb]; exact hBw3.size
      clear hWw4 hbxb
      have hB24 : Below w2.heap.size w2 w4 := hBw3.trans (hBw4.mono hBw3.size)
      have hr2hb : w4.heap[hb]? = _ := (hBw4.block _ (Array.getElem?_eq_some_iff.1 hrhb).1).trans hrhb
      refine hK _ _ (H1.out.2.1.below (H2.out.trans (hB24.mono H2.out.size))) ?_
      try simp only [Act.put, List.setIfInBounds_toArray, List.set_cons_zero, List.set_cons_succ]
      have hne : xb ≠ hb := row_ne14 hrxb hr2hb
      have hG4 : w2.heap.size ≤ xb ∧ w2.heap.size ≤ hb := ⟨hgxb, hghb⟩
      obtain ⟨hE5, hr5, hr5h⟩ := back_set hrxb hr2hb hG4.1 hne C
      obtain ⟨hE6, hr6, hr6h⟩ := back_set hr5h hr5 hG4.2 hne.symm (byA ahead)
      refine tkOne 10 rfl (by decide +kernel) rfl (fun K hK => ?_)
      refine wp_store_row 25 (.tmp 3) (.tmp 22) rfl xb C rfl rfl 25 ZR hrxb (by rw [HS.out.1]; kernel_rfl) (by rw [HS.out.1, HS.out.2.1]) HS.out.2.2.1 ?_
      refine hK _ _ (H1.out.2.1.below (H2.out.trans ((hB24.trans hE5).mono H2.out.size))) ?_
      try simp only [Act.put]
      refine tkFree (i := 11) rfl (by kernel_rfl) (by kernel_rfl) (by kernel_rfl) (fun _ _ _ h => h) (.inl ⟨by rfl, fun w hSw => by go_simp; rfl⟩) (H1.out.2.1.below (H2.out.trans ((hB24.trans hE5).mono H2.out.size))) ?_
      simp only [Act.put, List.setIfInBounds_toArray, List.set_cons_zero, List.set_cons_succ]
      refine tkOne 12 rfl (by decide +kernel) rfl (fun K hK => ?_)
      refine wp_store_row 23 (.tmp 5) (.tmp 26) rfl hb (byA ahead) rfl rfl 23 ZT hr5h (by rw [HS.out.2.2.2.1]; kernel_rfl) (by rw [HS.out.2.2.2.1, HS.out.2.2.2.2.1]) HS.out.2.2.2.2.2 ?_
      refine hK _ _ (H1.out.2.1.below (H2.out.trans (((hB24.trans hE5).trans hE6).mono H2.out.size))) ?_
      try simp only [Act.put]
      refine tkFree (i := 13) rfl (by kernel_rfl) (by kernel_rfl) (by kernel_rfl) (fun _ _ _ h => h) (.inl ⟨by rfl, fun w hSw => by go_simp; rfl⟩) (H1.out.2.1.below (H2.out.trans (((hB24.trans hE5).trans hE6).mono H2.out.size))) ?_
      simp only [Act.put, List.setIfInBounds_toArray, List.set_cons_zero, List.set_cons_succ]
      have HC : Hid (Below w.heap.size w ((w4.setRow xb C).setRow hb (byA ahead)) ∧ ((w4.setRow xb C).setRow hb (byA ahead)).heap[xb]? = some (.cells C 25 (0, 0)) ∧ ((w4.setRow xb C).setRow hb (byA ahead)).heap[hb]? = some (.cells (byA ahead) 23 (0, 0))) :=
        ⟨H1.out.1.trans ((H2.out.trans (((hB24.trans hE5).trans hE6).mono H2.out.size)).mono H1.out.1.size), hr6h, hr6⟩
      obtain ⟨w6, hw6⟩ : ∃ W, W = (w4.setRow xb C).setRow hb (byA ahead) := ⟨_, rfl⟩
      rw [← hw6] at HC ⊢
      refine wpAnyH_done (by kernel_rfl) ?_ _
      clear hgxb hghb hrxb hrhb hBw3 hBw4 hB24 hr2hb hne hG4 hE5 hr5 hr5h hE6 hr6 hr6h hw6 hHeld
      go_wp2_with (fail)
      go_meet
      case rel => exact ⟨xb, hb, rfl, rfl, rfl, rfl, HC.out⟩
  case rest =>
    obtain ⟨xb, hb, rfl, rfl, rfl, rfl, hBc, hrx, hrh⟩ := hcut
    obtain ⟨wd, rfl⟩ : ∃ x, x = wc := ⟨wc, rfl⟩
    have HW : Hid (∀ w', Below wd.heap.size wd w' → (loadVar 25 ⟨xb, 0, none⟩).run Tryd.prog w' = .ok (.agg C) w' ∧ (loadVar 23 ⟨hb, 0, none⟩).run Tryd.prog w' = .ok (.agg (byA ahead)) w' ∧ w'.cell? ⟨xb, 1, none⟩ = some (.int .i64 x.seq) ∧
        ShaOk w' ∧ ItemsAt w' ia x.items ∧ SrcP w' ka key.length key ∧ SrcP w' oa other.length other ∧ Below w.heap.size w w') := by
      refine Lib.hid fun w' h => ?_
      have hB := hBc.trans (h.mono hBc.size)
      have hr : RowR w' xb x.kind x.seq (.slice ia x.items.length ic) x.area x.root := ⟨H1.out.2.2.2.2.1, by rw [← HN.out.2.2.2.1]; exact (h.block _ (Array.getElem?_eq_some_iff.1 hrx).1).trans hrx⟩
      have hd := hr.d5
      have hl := rec_load hr
      rw [← HN.out.2.2.2.1] at hl
      exact ⟨hl, load_row32 H1.out.2.2.2.2.2.2.1 ((h.block _ (Array.getElem?_eq_some_iff.1 hrh).1).trans hrh), hd.2.1, H1.out.2.2.1.below hB, H1.out.2.2.2.1.below hB, HK.out.1.below hB, HO.out.1.below hB, hB⟩
    have HE : Hid (∀ w', Below wd.heap.size wd w' → P (.returned (.bool true)) w') := by
      rw [HN.out.1]
      exact Lib.hid fun w' h => ⟨rfl, (HW.out w' h).2.2.2.2.2.2.2⟩
    clear hBc hrx hrh
    obtain ⟨G, hG⟩ : ∃ G : Nat, G = 50 + greatL x.items := ⟨_, rfl⟩
    have HGr : Hid (Calls Tryd.prog 7 #[.agg C] wd (Below0 wd (.int .i64 (G : Int)))) := by
      rw [HN.out.2.2.2.1, hG]
      exact Lib.hid (rgreat_any wd x ia ic (HW.out wd (Below.refl _ _)).2.2.2.2.1 H1.out.2.2.2.2.1 H1.out.2.2.2.2.2.1)
    have HGe := Lib.hid hG
    clear hG
    go_upto_region 4 with (fail)
    refine wp_region_lit ?_
    refine wpList_load_at rfl 25 _ rfl ⟨xb, 0, none⟩ rfl (.agg C) (HW.out wd (Below.refl _ _)).1 ?_
    iterate 2 go_step
    refine HGr.out.mono ?_
    rintro e w3 ⟨rfl, hB3⟩
    have H3 := Lib.hid hB3
    clear hB3 HGr
    by_cases h0 : 2000 < (G : Int)
    · have HQ := Lib.hid (HE.out w3 H3.out)
      dsimp only
      go_wp2_with (fail)
      exact HQ.out
    by_cases h1 : 100 < (KN : Int)
    · have HQ := Lib.hid (HE.out w3 H3.out)
      dsimp only
      go_wp2_with (fail)
      exact HQ.out
    by_cases h2 : 2500 < (ON : Int)
    · have HQ := Lib.hid (HE.out w3 H3.out)
      dsimp only
      go_wp2_with (fail)
      exact HQ.out
    dsimp only
    go_upto_region 6 with (fail)
    have HKs : Hid (KN ≤ 100 ∧ ON ≤ 2500 ∧ G ≤ 2000 ∧ (∀ y ∈ x.items, y.key.length ≤ 1000000) ∧ x.items.length ≤ 1000000) := by
      have hg := HGe.out
      refine Lib.hid ⟨by omega, by omega, by omega, fun y hy => ?_, ?_⟩
      · have := greatL_mem hy
        omega
      · have := greatL_length x.items
        omega
    clear h0 h1 h2
    obtain ⟨p, hp⟩ : ∃ p, p = x.sealed key ahead := ⟨_, rfl⟩
    have hp2 : p.2.length = 32 := by
      rw [hp]
      unfold RecL.sealed
      split
      · exact headL_len _ _
      · exact H1.out.2.2.2.2.2.2.1
    have HSl : Hid (Calls Tryd.prog 20 #[.slice ka KN kc, .agg (byA ahead), .agg C] w3 (SealEnd w3 p)) := by
      have hw := HW.out w3 H3.out
      rw [HN.out.2.2.2.1, HN.out.2.2.2.2.1, hp]
      refine Lib.hid (rseal_any w3 x key ahead ka kc ia ic hw.2.2.2.2.2.1 HK.out.2.1 HK.out.2.2.1 ?_ H1.out.2.2.2.2.2.2.1 hw.2.2.2.2.1 HKs.out.2.2.2.1 HKs.out.2.2.2.2 H1.out.2.2.2.2.1 hw.2.2.2.1)
      have := HKs.out.1
      have := HN.out.2.2.2.2.1
      omega
    have Hp := Lib.hid (And.intro hp hp2)
    clear hp hp2
    refine wp_region_lit ?_
    iterate 3 go_step
    refine wpList_load_at rfl 23 _ rfl ⟨hb, 0, none⟩ rfl (.agg (byA ahead)) (HW.out w3 H3.out).2.1 ?_
    refine wpList_load_at rfl 25 _ rfl ⟨xb, 0, none⟩ rfl (.agg C) (HW.out w3 H3.out).1 ?_
    iterate 2 go_step
    refine HSl.out.mono ?_
    rintro e w4 ⟨sa, sc, rfl, h1, h2, h3, h4, h5⟩
    obtain ⟨sb, hh⟩ := p
    dsimp only at h1 h4
    obtain ⟨SN, hSN⟩ : ∃ n, n = sb.length := ⟨_, rfl⟩
    have H4 : Hid (Below wd.heap.size wd w4 ∧ SrcP w4 sa sb.length sb) := Lib.hid ⟨H3.out.trans (h5.mono H3.out.size), h4.srcP⟩
    dsimp only
    rw [← hSN]
    have HSN := Lib.hid hSN
    clear h1 h2 h3 h4 h5 HSl hSN
    iterate 16 go_step
    refine wpList_store_row rfl _ (.tmp 8) (.tmp 48) rfl w4.heap.size (byA hh) rfl rfl 23 ZT (heap_alloc_new w4 _) (arr_size _ Hp.out.2) (by rw [HN.out.2.2.1, byA_size, byA_size, Hp.out.2]; rfl) (byA_one _) ?_
    obtain ⟨gb, hgb⟩ : ∃ b, b = w4.heap.size := ⟨_, rfl⟩
    obtain ⟨w5, hw5⟩ : ∃ W, W = (w4.alloc (.cells ZT 23)).setRow w4.heap.size (byA hh) := ⟨_, rfl⟩
    have H5 : Hid (Below wd.heap.size wd w5 ∧ w5.heap[gb]? = some (.cells (byA hh) 23 (0, 0)) ∧ SrcP w5 sa sb.length sb) := by
      have k : Below w4.heap.size w4 w5 := by
        rw [hw5]
        have h1 := (Below.refl _ w4).alloc (Nat.le_refl _) (.cells ZT 23)
        exact h1.trans ⟨rfl, rfl, rfl, by simp, fun k hk => setRow_other _ _ _ _ (by omega)⟩
      refine Lib.hid ⟨H4.out.1.trans (k.mono H4.out.1.size), ?_, H4.out.2.below k⟩
      rw [hw5, hgb]
      exact setRow_heap _ _ ZT _ _ _ (heap_alloc_new w4 _)
    rw [← hw5, ← hgb]
    clear hw5 hgb H4
    have HG5 : Hid (∀ w', Below w5.heap.size w5 w' → Below wd.heap.size wd w') := Lib.hid fun w' h => H5.out.1.trans (h.mono H5.out.1.size)
    have hdr : Below w5.heap.size w5 w5.drew := (Below.refl _ w5).drew
    go_upto_region 7 with (fail)
    refine wp_region_held_drew (S := fun w' => Below w5.heap.size w5 w') (by kernel_rfl) hdr (fun hHeld => ?_)
    refine tkFree (i := 0) (v := .agg (byA ahead)) rfl (by kernel_rfl) (by kernel_rfl) (by kernel_rfl) (fun _ _ _ h => h) (yieldsIf_load_at (by rfl) 23 _ rfl ⟨hb, 0, none⟩ rfl (fun w hS => (HW.out w (HG5.out w hS)).2.1)) hHeld ?_
    simp only [Act.put, List.setIfInBounds_toArray, List.set_cons_zero, List.set_cons_succ]
    refine tkOne 1 rfl (by decide +kernel) rfl (fun K hK => ?_)
    refine wp_alloc_of 23 rfl hzt ?_
    have hH := hHeld.trans (((Below.refl _ w5.drew).alloc (Nat.le_refl _) (.cells ZT 23)).mono hHeld.size)
    refine hK _ _ hH ?_
    obtain ⟨tb, htb⟩ : ∃ b, b = w5.drew.heap.size := ⟨_, rfl⟩
    obtain ⟨w6, hw6⟩ : ∃ W, W = w5.drew.alloc (.cells ZT 23) := ⟨_, rfl⟩
    have hrt : w6.heap[tb]? = some (.cells ZT 23 (0, 0)) := by
      rw [hw6, htb]
      exact heap_alloc_new _ _
    have htl : w5.heap.size ≤ tb := by rw [htb]; exact hHeld.size
    rw [← hw6] at hH ⊢
    rw [← htb]
    clear hK hw6 htb hHeld hdr
    try simp only [Act.put, List.setIfInBounds_toArray, List.set_cons_zero, List.set_cons_succ]
    refine tkFree (i := 2) rfl (by kernel_rfl) (by kernel_rfl) (by kernel_rfl) (fun _ _ _ h => h) (.inl ⟨by rfl, fun w hSw => by go_simp; rfl⟩) hH ?_
    simp only [Act.put, List.setIfInBounds_toArray, List.set_cons_zero, List.set_cons_succ]
    refine tkOne 3 rfl (by decide +kernel) rfl (fun K hK => ?_)
    refine wp_store_row _ (.tmp 10) (.tmp 49) rfl tb (byA ahead) rfl rfl 23 ZT hrt (arr_size _ H1.out.2.2.2.2.2.2.1) (by rw [HN.out.2.2.1, byA_size, byA_size, H1.out.2.2.2.2.2.2.1]; rfl) (byA_one _) ?_
    obtain ⟨w7, hw7⟩ : ∃ W, W = w6.setRow tb (byA ahead) := ⟨_, rfl⟩
    have H7 : Hid (Below w5.heap.size w5 w7 ∧ w7.heap[tb]? = some (.cells (byA ahead) 23 (0, 0)) ∧ w5.heap.size ≤ tb) := by
      rw [hw7]
      exact Lib.hid ⟨hH.trans ⟨rfl, rfl, rfl, by simp, fun k hk => setRow_other _ _ _ _ (by omega)⟩, setRow_heap _ _ ZT _ _ _ hrt, htl⟩
    rw [← hw7]
    refine hK _ _ H7.out.1 ?_
    clear hK hw7 hrt htl hH
    try simp only [Act.put]
    refine wpAnyH_done (by kernel_rfl) ?_ _
    have HRr : Hid (Calls Tryd.prog 8 #[.agg C] w7 (Below0 w7 (.bool x.rightB))) := by
      have hw := HW.out w7 (HG5.out w7 H7.out.1)
      rw [HN.out.2.2.2.1]
      exact Lib.hid (rrright_any w7 x ia ic hw.2.2.2.2.1 HKs.out.2.2.2.1 HKs.out.2.2.2.2 H1.out.2.2.2.2.1)
    go_upto_region 8 with (fail)
    refine wp_region_lit ?_
    refine wpList_load_at rfl 25 _ rfl ⟨xb, 0, none⟩ rfl (.agg C) (HW.out w7 (HG5.out w7 H7.out.1)).1 ?_
    iterate 2 go_step
    refine HRr.out.mono ?_
    rintro e w8 ⟨rfl, hB8⟩
    have H8 : Hid (Below w5.heap.size w5 w8 ∧ w8.heap[tb]? = some (.cells (byA ahead) 23 (0, 0))) := Lib.hid ⟨H7.out.1.trans (hB8.mono H7.out.1.size), (hB8.block _ (Array.getElem?_eq_some_iff.1 H7.out.2.1).1).trans H7.out.2.1⟩
    clear hB8 HRr
    dsimp only
    go_upto_if 51 with (fail)
    go_cut [9] from 51 to 60 (OpenCut w5 sb hh tb)
    case first =>
      cases hrb : x.rightB with
      | false =>
        have he : sb = [] ∧ hh = ahead := by
          have h := Hp.out.1
          unfold RecL.sealed at h
          rw [if_neg (by rw [hrb]; decide)] at h
          exact ⟨congrArg Prod.fst h, congrArg Prod.snd h⟩
        have HX := Lib.hid he
        clear hrb he
        go_wp2_with (fail)
        go_meet
        case rel => exact ⟨by rw [HX.out.1]; rfl, by rw [HX.out.2]; exact H8.out.2, H8.out.1⟩
      | true =>
        have hbd := body_small hrb H1.out.2.2.2.2.1 (by have := HGe.out; have := HKs.out.2.2.1; omega)
        have he : sb = sealB key ahead x.body ∧ hh = headL ahead x.body := by
          have h := Hp.out.1
          unfold RecL.sealed at h
          rw [if_pos hrb] at h
          exact ⟨congrArg Prod.fst h, congrArg Prod.snd h⟩
        have hkey : key.length ≤ 100 := by
          have := HKs.out.1
          have := HN.out.2.2.2.2.1
          omega
        have HSe : Hid (Calls Tryd.prog 10 #[Sv key, .agg (byA ahead), .agg C] w8 (Below0 w8 (.tuple #[Sv sb, .agg (byA hh)]))) := by
          have hw := HW.out w8 (HG5.out w8 H8.out.1)
          rw [HN.out.2.2.2.1, he.1, he.2]
          exact Lib.hid (rrseal_any w8 key ahead x ia ic (by omega) H1.out.2.2.2.2.2.2.1 hw.2.2.2.2.1 HKs.out.2.2.2.1 H1.out.2.2.2.2.1 hrb (by omega))
        have hcv : (convert 26 9 (.slice ka KN kc)).run Tryd.prog w8 = .ok (Sv key) w8 := by
          have h := run_conv_str w8 ka kc key (HW.out w8 (HG5.out w8 H8.out.1)).2.2.2.2.2.1
          rwa [← HN.out.2.2.2.2.1] at h
        clear hrb hbd he hkey
        go_upto_region 9 with (fail)
        refine wp_region_lit ?_
        iterate 6 go_step
        refine wpList_load_at rfl 23 _ rfl ⟨hb, 0, none⟩ rfl (.agg (byA ahead)) (HW.out w8 (HG5.out w8 H8.out.1)).2.1 ?_
        refine wpList_load_at rfl 25 _ rfl ⟨xb, 0, none⟩ rfl (.agg C) (HW.out w8 (HG5.out w8 H8.out.1)).1 ?_
        iterate 2 go_step
        refine HSe.out.mono ?_
        rintro e w9 ⟨rfl, hB9⟩
        have H9 : Hid (Below w5.heap.size w5 w9 ∧ w9.heap[tb]? = some (.cells (byA ahead) 23 (0, 0))) := Lib.hid ⟨H8.out.1.trans (hB9.mono H8.out.1.size), (hB9.block _ (Array.getElem?_eq_some_iff.1 H8.out.2).1).trans H8.out.2⟩
        clear hB9 HSe hcv
        dsimp only
        iterate 13 go_step
        refine wpList_store_row rfl _ (.tmp 10) (.tmp 59) rfl tb (byA hh) rfl rfl 23 (byA ahead) H9.out.2 (arr_size _ Hp.out.2) (by rw [byA_size, byA_size, Hp.out.2, H1.out.2.2.2.2.2.2.1]) (byA_one _) ?_
        obtain ⟨w10, hw10⟩ : ∃ W, W = w9.setRow tb (byA hh) := ⟨_, rfl⟩
        have H10 : Hid (Below w5.heap.size w5 w10 ∧ w10.heap[tb]? = some (.cells (byA hh) 23 (0, 0))) := by
          rw [hw10]
          exact Lib.hid ⟨H9.out.1.trans ⟨rfl, rfl, rfl, by simp, fun k hk => setRow_other _ _ _ _ (by have := H7.out.2.2; have := H9.out.1.size; omega)⟩, setRow_heap _ _ _ _ _ _ H9.out.2⟩
        rw [← hw10]
        clear hw10
        go_wp2_with (fail)
        go_meet
        case rel => exact ⟨rfl, H10.out.2, H10.out.1⟩
    case rest =>
      obtain ⟨rfl, hcr, hcB⟩ := hcut
      obtain ⟨w9, rfl⟩ : ∃ x, x = wc := ⟨wc, rfl⟩
      have H9 : Hid (Below w5.heap.size w5 w9 ∧ w9.heap[tb]? = some (.cells (byA hh) 23 (0, 0))) := Lib.hid ⟨hcB, hcr⟩
      clear hcB hcr H7 H8
      have HG9 : Hid (∀ w', Below w9.heap.size w9 w' → Below wd.heap.size wd w') := Lib.hid fun w' h => HG5.out w' (H9.out.1.trans (h.mono H9.out.1.size))
      obtain ⟨op, hop⟩ : ∃ p, p = openB key ahead x.seq other := ⟨_, rfl⟩
      have hlen : key.length ≤ 100 ∧ other.length ≤ 2500 := by
        have := HKs.out
        have := HN.out.2.2.2.2.1
        have := HN.out.2.2.2.2.2
        omega
      have HOa : Hid (Calls Tryd.prog 21 #[.slice ka KN kc, .agg (byA ahead), .int .i64 x.seq, .slice oa ON oc] w9 (OpenEnd w9 op)) := by
        have hw := HW.out w9 (HG9.out w9 (Below.refl _ _))
        rw [HN.out.2.2.2.2.1, HN.out.2.2.2.2.2, hop]
        exact Lib.hid (ropen_any w9 key ahead other x.seq ka kc oa oc hw.2.2.2.2.2.1 HK.out.2.1 HK.out.2.2.1 (by omega) H1.out.2.2.2.2.2.2.1 hw.2.2.2.2.2.2.1 HO.out.2.1 HO.out.2.2.2 (by omega) hw.2.2.2.1)
      have HOb : Hid (∀ w', Calls Tryd.prog 22 #[Sv key, .agg (byA ahead), .int .i64 x.seq, Sv other] w' (OpenEnd w' op)) := by
        rw [hop]
        exact Lib.hid fun w' => rropen_any w' key ahead other x.seq (by omega) H1.out.2.2.2.2.2.2.1 (by omega)
      have HIt : Hid (op.1.items.length ≤ 64) := by
        rw [hop]
        exact Lib.hid (openB_items key ahead other x.seq)
      clear hop hlen
      obtain ⟨XR, OH, OK, OE⟩ := op
      dsimp only at HIt
      obtain ⟨sq, hsq⟩ : ∃ q, q = x.seq := ⟨_, rfl⟩
      have HSq : Hid (∀ w', Below w9.heap.size w9 w' → w'.cell? ⟨xb, 1, none⟩ = some (.int .i64 sq)) := by
        rw [hsq]
        exact Lib.hid fun w' h => (HW.out w' (HG9.out w' h)).2.2.1
      rw [← hsq] at HOa HOb
      clear hsq
      have hc := HSq.out w9 (Below.refl _ _)
      go_upto_region 10 with (fail)
      refine wp_region_lit ?_
      iterate 3 go_step
      refine wpList_load_at rfl 23 _ rfl ⟨hb, 0, none⟩ rfl (.agg (byA ahead)) (HW.out w9 (HG9.out w9 (Below.refl _ _))).2.1 ?_
      iterate 11 go_step
      refine HOa.out.mono ?_
      rintro e w10 ⟨ya, yc, rfl, h1, h2, h3, h4⟩
      dsimp only at h1 h2 h3
      have H10 : Hid (Below w9.heap.size w9 w10 ∧ ItemsAt w10 ya XR.items ∧ XR.root.length = 32 ∧ OH.length = 32) := Lib.hid ⟨h4, h1, h2, h3⟩
      obtain ⟨YC, hYC⟩ : ∃ z, z = recC XR.kind XR.seq (.slice ya XR.items.length yc) XR.area XR.root := ⟨_, rfl⟩
      dsimp only
      rw [← hYC]
      have HYC := Lib.hid hYC
      clear hYC h1 h2 h3 h4 HOa hc
      iterate 22 go_step
      obtain ⟨z1, z2, z3, z4, z5⟩ := two_new w10 ZR ZT YC (byA OH)
      refine wpList_store_row rfl _ (.tmp 11) (.tmp 67) rfl w10.heap.size YC rfl rfl 25 ZR z1 (by rw [HYC.out]; exact rec_size _ _ _ _ _ H10.out.2.2.1) (by rw [HYC.out, HN.out.2.1, zeroC_size, recC_size H10.out.2.2.1]) (by rw [HYC.out]; exact recC_one _ rfl) ?_
      refine wpList_store_row rfl _ (.tmp 12) (.tmp 68) rfl (w10.heap.size + 1) (byA OH) rfl rfl 23 ZT z2 (arr_size _ H10.out.2.2.2) (by rw [HN.out.2.2.1, byA_size, byA_size, H10.out.2.2.2]; rfl) (byA_one _) ?_
      obtain ⟨yb, hyb⟩ : ∃ b, b = w10.heap.size := ⟨_, rfl⟩
      obtain ⟨qb, hqb⟩ : ∃ b, b = w10.heap.size + 1 := ⟨_, rfl⟩
      obtain ⟨w11, hw11⟩ : ∃ W, W = (((w10.alloc (.cells ZR 25)).alloc (.cells ZT 23)).setRow w10.heap.size YC).setRow (w10.heap.size + 1) (byA OH) := ⟨_, rfl⟩
      rw [← hw11] at z3 z4 z5
      rw [← hqb] at z4
      rw [← hyb] at z3
      have H11 : Hid (Below w9.heap.size w9 w11 ∧ w11.heap[yb]? = some (.cells YC 25 (0, 0)) ∧ w11.heap[qb]? = some (.cells (byA OH) 23 (0, 0)) ∧ ItemsAt w11 ya XR.items) := Lib.hid ⟨H10.out.1.trans (z5.mono H10.out.1.size), z3, z4, H10.out.2.1.below z5⟩
      rw [← hw11, ← hqb, ← hyb]
      clear hw11 hqb hyb z1 z2 z3 z4 z5
      iterate 6 go_step
      have hc := HSq.out w11 H11.out.1
      have hcv1 : (convert 26 9 (.slice ka KN kc)).run Tryd.prog w11 = .ok (Sv key) w11 := by
        have h := run_conv_str w11 ka kc key (HW.out w11 (HG9.out w11 H11.out.1)).2.2.2.2.2.1
        rwa [← HN.out.2.2.2.2.1] at h
      have hcv2 : (convert 26 9 (.slice oa ON oc)).run Tryd.prog w11 = .ok (Sv other) w11 := by
        have h := run_conv_str w11 oa oc other (HW.out w11 (HG9.out w11 H11.out.1)).2.2.2.2.2.2.1
        rwa [← HN.out.2.2.2.2.2] at h
      go_upto_region 11 with (fail)
      refine wp_region_lit ?_
      iterate 6 go_step
      refine wpList_load_at rfl 23 _ rfl ⟨hb, 0, none⟩ rfl (.agg (byA ahead)) (HW.out w11 (HG9.out w11 H11.out.1)).2.1 ?_
      iterate 14 go_step
      refine (HOb.out w11).mono ?_
      rintro e w12 ⟨va, vc, rfl, h1, h2, h3, h4⟩
      dsimp only at h1 h2 h3
      have H12 : Hid (Below w11.heap.size w11 w12 ∧ ItemsAt w12 va XR.items) := Lib.hid ⟨h4, h1⟩
      obtain ⟨VC, hVC⟩ : ∃ z, z = recC XR.kind XR.seq (.slice va XR.items.length vc) XR.area XR.root := ⟨_, rfl⟩
      dsimp only
      rw [← hVC]
      have HVC := Lib.hid hVC
      clear hVC h1 h2 h3 h4 HOb hc hcv1 hcv2
      iterate 22 go_step
      obtain ⟨z1, z2, z3, z4, z5⟩ := two_new w12 ZR ZT VC (byA OH)
      refine wpList_store_row rfl _ (.tmp 15) (.tmp 80) rfl w12.heap.size VC rfl rfl 25 ZR z1 (by rw [HVC.out]; exact rec_size _ _ _ _ _ H10.out.2.2.1) (by rw [HVC.out, HN.out.2.1, zeroC_size, recC_size H10.out.2.2.1]) (by rw [HVC.out]; exact recC_one _ rfl) ?_
      refine wpList_store_row rfl _ (.tmp 16) (.tmp 81) rfl (w12.heap.size + 1) (byA OH) rfl rfl 23 ZT z2 (arr_size _ H10.out.2.2.2) (by rw [HN.out.2.2.1, byA_size, byA_size, H10.out.2.2.2]; rfl) (byA_one _) ?_
      obtain ⟨vb, hvb⟩ : ∃ b, b = w12.heap.size := ⟨_, rfl⟩
      obtain ⟨ub, hub⟩ : ∃ b, b = w12.heap.size + 1 := ⟨_, rfl⟩
      obtain ⟨w13, hw13⟩ : ∃ W, W = (((w12.alloc (.cells ZR 25)).alloc (.cells ZT 23)).setRow w12.heap.size VC).setRow (w12.heap.size + 1) (byA OH) := ⟨_, rfl⟩
      rw [← hw13] at z3 z4 z5
      rw [← hub] at z4
      rw [← hvb] at z3
      have H13 : Hid (Below w9.heap.size w9 w13 ∧ w13.heap[yb]? = some (.cells YC 25 (0, 0)) ∧ w13.heap[qb]? = some (.cells (byA OH) 23 (0, 0)) ∧ ItemsAt w13 ya XR.items ∧ w13.heap[vb]? = some (.cells VC 25 (0, 0)) ∧ w13.heap[ub]? = some (.cells (byA OH) 23 (0, 0)) ∧ ItemsAt w13 va XR.items) := by
        have h11 := H12.out.1.trans (z5.mono H12.out.1.size)
        have f : ∀ {q : Nat} {o}, w11.heap[q]? = some o → w13.heap[q]? = some o := fun {q o} hq => (h11.block _ (Array.getElem?_eq_some_iff.1 hq).1).trans hq
        exact Lib.hid ⟨H11.out.1.trans (h11.mono H11.out.1.size), f H11.out.2.1, f H11.out.2.2.1, H11.out.2.2.2.below h11, z3, z4, H12.out.2.below z5⟩
      rw [← hw13, ← hub, ← hvb]
      clear hw13 hub hvb z1 z2 z3 z4 z5 H12
      iterate 6 go_step
      have HLg : Hid ((loadVar 23 ⟨gb, 0, none⟩).run Tryd.prog w13 = .ok (.agg (byA hh)) w13 ∧ (loadVar 23 ⟨tb, 0, none⟩).run Tryd.prog w13 = .ok (.agg (byA hh)) w13 ∧ SrcP w13 sa sb.length sb) := by
        have hB := H9.out.1.trans (H13.out.1.mono H9.out.1.size)
        exact Lib.hid ⟨load_row32 Hp.out.2 ((hB.block _ (Array.getElem?_eq_some_iff.1 H5.out.2.1).1).trans H5.out.2.1), load_row32 Hp.out.2 ((H13.out.1.block _ (Array.getElem?_eq_some_iff.1 H9.out.2).1).trans H9.out.2), H5.out.2.2.below hB⟩
      have hcs : (convert 26 9 (.slice sa SN sc)).run Tryd.prog w13 = .ok (Sv sb) w13 := by
        have h := run_conv_str w13 sa sc sb HLg.out.2.2
        rwa [← HSN.out] at h
      have HSm : Hid (Calls Tryd.prog 16 #[.agg YC, .agg VC] w13 (Below0 w13 (.bool true))) := by
        have h := rsame_any w13 XR XR ya va yc vc H13.out.2.2.2.1 H13.out.2.2.2.2.2.2 H10.out.2.2.1 H10.out.2.2.1 (by have := HIt.out; omega)
        rw [sameR_iff.2 rfl] at h
        rw [HYC.out, HVC.out]
        exact Lib.hid h
      have HLy : Hid ((loadVar 25 ⟨yb, 0, none⟩).run Tryd.prog w13 = .ok (.agg YC) w13 ∧ (loadVar 25 ⟨vb, 0, none⟩).run Tryd.prog w13 = .ok (.agg VC) w13) := by
        have h1 := H13.out.2.1
        have h2 := H13.out.2.2.2.2.1
        rw [HYC.out] at h1
        rw [HVC.out] at h2
        rw [HYC.out, HVC.out]
        exact Lib.hid ⟨rec_load ⟨H10.out.2.2.1, h1⟩, rec_load ⟨H10.out.2.2.1, h2⟩⟩
      have HLq : Hid (∀ w', Below w13.heap.size w13 w' → (loadVar 23 ⟨qb, 0, none⟩).run Tryd.prog w' = .ok (.agg (byA OH)) w' ∧ (loadVar 23 ⟨ub, 0, none⟩).run Tryd.prog w' = .ok (.agg (byA OH)) w') := Lib.hid fun w' h => ⟨load_row32 H10.out.2.2.2 ((h.block _ (Array.getElem?_eq_some_iff.1 H13.out.2.2.1).1).trans H13.out.2.2.1), load_row32 H10.out.2.2.2 ((h.block _ (Array.getElem?_eq_some_iff.1 H13.out.2.2.2.2.2.1).1).trans H13.out.2.2.2.2.2.1)⟩
      go_upto_region 12 with (fail)
      refine wp_region_lit ?_
      iterate 15 go_step
      refine wpList_load_at rfl 23 (.tmp 8) rfl ⟨gb, 0, none⟩ rfl (.agg (byA hh)) HLg.out.1 ?_
      refine wpList_load_at rfl 23 (.tmp 10) rfl ⟨tb, 0, none⟩ rfl (.agg (byA hh)) HLg.out.2.1 ?_
      refine wpList_eql_root rfl (.tmp 89) (.tmp 90) _ rfl hh Hp.out.2 rfl rfl ?_
      iterate 6 go_step
      refine wpList_load_at rfl 25 (.tmp 11) rfl ⟨yb, 0, none⟩ rfl (.agg YC) HLy.out.1 ?_
      refine wpList_load_at rfl 25 (.tmp 15) rfl ⟨vb, 0, none⟩ rfl (.agg VC) HLy.out.2 ?_
      go_step
      refine HSm.out.mono ?_
      rintro e w14 ⟨rfl, hB14⟩
      have H14 := Lib.hid hB14
      clear hB14 HSm hcs
      dsimp only
      iterate 7 go_step
      refine wpList_load_at rfl 23 (.tmp 12) rfl ⟨qb, 0, none⟩ rfl (.agg (byA OH)) (HLq.out w14 H14.out).1 ?_
      refine wpList_load_at rfl 23 (.tmp 16) rfl ⟨ub, 0, none⟩ rfl (.agg (byA OH)) (HLq.out w14 H14.out).2 ?_
      refine wpList_eql_root rfl (.tmp 99) (.tmp 100) _ rfl OH H10.out.2.2.2 rfl rfl ?_
      have HQ := Lib.hid (HE.out w14 (HG9.out w14 (H13.out.1.trans (H14.out.mono H13.out.1.size))))
      go_wp2_with (fail)
      exact HQ.out
end Go.Proofs.YtdmnhgbdeifpbaaDoor
