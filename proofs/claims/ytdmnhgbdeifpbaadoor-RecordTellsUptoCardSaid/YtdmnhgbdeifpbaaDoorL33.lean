/-
  Part 33 of 39 of what the proof leans on.
-/
import Derived.Test.YtdmnhgbdeifpbaaDoorL30
import Derived.Test.YtdmnhgbdeifpbaaDoorL31
import Derived.Test.YtdmnhgbdeifpbaaDoorL26
import Derived.Test.YtdmnhgbdeifpbaaDoorL32
import Derived.Test.YtdmnhgbdeifpbaaDoorL22
import Derived.Test.YtdmnhgbdeifpbaaDoorL20
namespace Go.Proofs.YtdmnhgbdeifpbaaDoor
open Go Go.RowKit
set_option maxRecDepth 100000 in
set_option maxHeartbeats 2000000 in
theorem rrbody_any (w : World) (x : RecL) (ia : Option Addr) (ic : Nat) (hI : ItemsAt w ia x.items) (hk : ∀ y ∈ x.items, y.key.length ≤ 1000000) (hr : x.root.length = 32) (h : x.rightB = true) (hbl : x.body.length ≤ 90000) :
    Calls Tryd.prog 9 #[.agg (recC x.kind x.seq (.slice ia x.items.length ic) x.area x.root)] w (Below0 w (Sv x.body)) := by
  obtain ⟨P, hP⟩ : ∃ P : Ending → World → Prop, P = Below0 w (Sv x.body) := ⟨_, rfl⟩; rw [← hP]; obtain ⟨hs, hkd⟩ := right_parts h
  have hi64 : x.items.length ≤ 64 := by
    rcases hkd with ⟨_, _, _, h4, _⟩ | ⟨_, _, _, h4⟩
    · exact h4
    · rw [h4]
      decide
  have hkk : x.kind = 1 ∨ x.kind = 2 := by
    rcases hkd with h' | h'
    · exact .inl h'.1
    · exact .inr h'.1
  have har : 0 ≤ x.area ∧ x.area ≤ 1 := by
    rcases hkd with ⟨_, h2, _⟩ | ⟨_, h', h2, _⟩
    · omega
    · exact ⟨h', h2⟩
  obtain ⟨C, hC⟩ : ∃ z, z = recC x.kind x.seq (.slice ia x.items.length ic) x.area x.root := ⟨_, rfl⟩; rw [← hC]; obtain ⟨w1, hw1⟩ : ∃ W, W = w.alloc (.cells C 25) := ⟨_, rfl⟩; obtain ⟨b, hb⟩ : ∃ b, b = w.heap.size := ⟨_, rfl⟩
  have hB1 : Below w.heap.size w w1 := by rw [hw1]; exact (Below.refl _ w).alloc (Nat.le_refl _) _
  have hrow : RowR w1 b x.kind x.seq (.slice ia x.items.length ic) x.area x.root := ⟨hr, by rw [hw1, hb, ← hC]; exact heap_alloc_new w _⟩
  obtain ⟨mk, hmk⟩ : ∃ m, m = wordL x.kind.toNat := ⟨_, rfl⟩; obtain ⟨ms, hms⟩ : ∃ m, m = wordL x.seq.toNat := ⟨_, rfl⟩; obtain ⟨ma, hma⟩ : ∃ m, m = wordL x.area.toNat := ⟨_, rfl⟩; obtain ⟨ml, hml⟩ : ∃ m, m = listL x.items := ⟨_, rfl⟩; obtain ⟨m1, hm1⟩ : ∃ m, m = mk ++ ms := ⟨_, rfl⟩; obtain ⟨m2, hm2⟩ : ∃ m, m = m1 ++ ml := ⟨_, rfl⟩; obtain ⟨m3, hm3⟩ : ∃ m, m = m1 ++ ma := ⟨_, rfl⟩; obtain ⟨m4, hm4⟩ : ∃ m, m = m3 ++ x.root := ⟨_, rfl⟩
  have hbody : x.body = if x.kind = 1 then m2 else m4 := by
    rw [RecL.body, hm2, hm4, hm3, hm1, hmk, hms, hma, hml]
    split <;> simp [List.append_assoc]
  have HNk : Hid (∀ w', Calls Tryd.prog 25 #[.int .i64 x.kind] w' (Below0 w' (Sv mk))) := by
    refine Lib.hid fun w' => ?_
    have := rpNumber_any w' x.kind.toNat (by omega)
    rw [Int.toNat_of_nonneg (by omega)] at this
    rw [hmk]; exact this
  have HNs : Hid (∀ w', Calls Tryd.prog 25 #[.int .i64 x.seq] w' (Below0 w' (Sv ms))) := by
    refine Lib.hid fun w' => ?_
    have := rpNumber_any w' x.seq.toNat (by omega)
    rw [Int.toNat_of_nonneg (by omega)] at this
    rw [hms]; exact this
  have HNa : Hid (∀ w', Calls Tryd.prog 25 #[.int .i64 x.area] w' (Below0 w' (Sv ma))) := by
    refine Lib.hid fun w' => ?_
    have := rpNumber_any w' x.area.toNat (by omega)
    rw [Int.toNat_of_nonneg (by omega)] at this
    rw [hma]; exact this
  have HTx : Hid (∀ w', Calls Tryd.prog 27 #[.agg (byA x.root)] w' (Below0 w' (Sv x.root))) := Lib.hid fun w' => rtext14_any w' x.root hr
  have HLs : Hid (∀ w', Below w1.heap.size w1 w' → Calls Tryd.prog 26 #[.slice ia x.items.length ic] w' (Below0 w' (Sv ml))) := by
    rw [hml]
    exact Lib.hid fun w' h' => erList_any w' ia ic x.items ((hI.below hB1).below h') hk (by omega)
  have hl1 := wordL_length x.kind.toNat; have hl2 := wordL_length x.seq.toNat; have hl3 := wordL_length x.area.toNat; rw [← hmk] at hl1; rw [← hms] at hl2; rw [← hma] at hl3
  have hb2 : x.kind = 1 → ml.length ≤ 90000 := fun h1 => by
    rw [hbody, if_pos h1, hm2, List.length_append] at hbl; omega
  have HA1 : Hid (∀ w, (binOp .add 9 (Sv mk) (Sv ms)).run Tryd.prog w = .ok (Sv m1) w) := by rw [hm1]; exact Lib.hid fun w => run_add_Sv w _ _ (by omega)
  have hl4 : m1.length ≤ 20 := by rw [hm1, List.length_append]; omega
  have HA2 : Hid (x.kind = 1 → ∀ w, (binOp .add 9 (Sv m1) (Sv ml)).run Tryd.prog w = .ok (Sv m2) w) := by rw [hm2]; exact Lib.hid fun h1 w => run_add_Sv w _ _ (by have := hb2 h1; omega)
  have HA3 : Hid (∀ w, (binOp .add 9 (Sv m1) (Sv ma)).run Tryd.prog w = .ok (Sv m3) w) := by rw [hm3]; exact Lib.hid fun w => run_add_Sv w _ _ (by omega)
  have hl5 : m3.length ≤ 30 := by rw [hm3, List.length_append]; omega
  have HA4 : Hid (∀ w, (binOp .add 9 (Sv m3) (Sv x.root)).run Tryd.prog w = .ok (Sv m4) w) := by rw [hm4]; exact Lib.hid fun w => run_add_Sv w _ _ (by omega)
  have HW : Hid (∀ w', Below w1.heap.size w1 w' → w'.cell? ⟨b, 0, none⟩ = some (.int .i64 x.kind) ∧ w'.cell? ⟨b, 1, none⟩ = some (.int .i64 x.seq) ∧ w'.cell? ⟨b, 2, none⟩ = some (.slice ia x.items.length ic) ∧ w'.cell? ⟨b, 3, none⟩ = some (.int .i64 x.area) ∧
      (loadVar 23 ⟨b, 4, none⟩).run Tryd.prog w' = .ok (.agg (byA x.root)) w') := Lib.hid fun w' h' => by
    obtain ⟨c0, c1, c2, c3, c4, _⟩ := (hrow.below h').d5; exact ⟨c0, c1, c2, c3, c4⟩
  have HE : Hid (∀ w', Below w1.heap.size w1 w' → P (.returned (Sv (if x.kind = 1 then m2 else m4))) w') := by
    rw [hP, hbody]; exact Lib.hid fun w' h' => ⟨rfl, hB1.trans (h'.mono hB1.size)⟩
  obtain ⟨LN, hLN⟩ : ∃ n, n = x.items.length := ⟨_, rfl⟩; obtain ⟨k, hkx⟩ : ∃ k, k = x.kind := ⟨_, rfl⟩; obtain ⟨s, hsx⟩ : ∃ k, k = x.seq := ⟨_, rfl⟩; obtain ⟨ar, hax⟩ : ∃ k, k = x.area := ⟨_, rfl⟩; obtain ⟨RT, hRT⟩ : ∃ z, z = byA x.root := ⟨_, rfl⟩; rw [← hLN] at HLs; rw [← hLN, ← hkx, ← hsx, ← hax, ← hRT] at HW; rw [← hkx] at HNk HA2 HE hkk; rw [← hsx] at HNs; rw [← hax] at HNa; rw [← hRT] at HTx; clear hP hI hk hr h hbl hs hkd hi64 har hC hB1 hrow hmk hms hma hml hm1 hm2 hm3 hm4 hbody hl1 hl2 hl3 hb2 hl4 hl5 hLN hkx hsx hax hRT
  go_enter Tryd.func9, Tryd.ntmps9
  go_upto_region 1 with (fail)
  rw [← hw1, ← hb]; clear hw1 hb; have hdr : Below w1.heap.size w1 w1.drew := (Below.refl _ w1).drew; have ha1 := HA1.out
  refine wp_region_held_drew (S := fun w' => Below w1.heap.size w1 w') (by kernel_rfl) hdr (fun hHeld => ?_)
  clear hdr
  refine tkFree (i := 0) rfl (by kernel_rfl) (by kernel_rfl) (by kernel_rfl) (fun _ _ _ h => h) (.inl ⟨by rfl, fun w hSw => by go_simp; rfl⟩) hHeld ?_
  simp only [Act.put, List.setIfInBounds_toArray, List.set_cons_zero, List.set_cons_succ]
  refine tkFree (i := 1) rfl (by kernel_rfl) (by kernel_rfl) (by kernel_rfl) (fun _ _ _ h => h) (.inl ⟨by rfl, fun w hSw => by have d := (HW.out w hSw).1; go_simp; rfl⟩) hHeld ?_
  simp only [Act.put, List.setIfInBounds_toArray, List.set_cons_zero, List.set_cons_succ]
  refine tkFree (i := 3) rfl (by kernel_rfl) (by kernel_rfl) (by kernel_rfl) (fun _ _ _ h => h) (.inl ⟨by rfl, fun w hSw => by go_simp; rfl⟩) hHeld ?_
  simp only [Act.put, List.setIfInBounds_toArray, List.set_cons_zero, List.set_cons_succ]
  refine tkFree (i := 4) rfl (by kernel_rfl) (by kernel_rfl) (by kernel_rfl) (fun _ _ _ h => h) (.inl ⟨by rfl, fun w hSw => by have d := (HW.out w hSw).2.1; go_simp; rfl⟩) hHeld ?_
  simp only [Act.put, List.setIfInBounds_toArray, List.set_cons_zero, List.set_cons_succ]
  refine tkOne 2 rfl (by decide +kernel) rfl (fun K hK => ?_)
  go_simp
  refine (HNk.out _).mono ?_; rintro e w3_ ⟨rfl, hB⟩; have hH := hHeld.trans (hB.mono hHeld.size); refine hK _ _ hH ?_; clear hK hB hHeld; have hHeld := hH; clear hH
  try simp only [Act.put, List.setIfInBounds_toArray, List.set_cons_zero, List.set_cons_succ]
  refine tkOne 5 rfl (by decide +kernel) rfl (fun K hK => ?_)
  go_simp
  refine (HNs.out _).mono ?_; rintro e w3_ ⟨rfl, hB⟩; have hH := hHeld.trans (hB.mono hHeld.size); refine hK _ _ hH ?_; clear hK hB hHeld; have hHeld := hH; clear hH
  try simp only [Act.put, List.setIfInBounds_toArray, List.set_cons_zero, List.set_cons_succ]
  refine tkFree (i := 6) rfl (by kernel_rfl) (by kernel_rfl) (by kernel_rfl) (fun _ _ _ h => h) (.inl ⟨by rfl, fun w hSw => by go_simp; rfl⟩) hHeld ?_
  simp only [Act.put, List.setIfInBounds_toArray, List.set_cons_zero, List.set_cons_succ]
  refine tkFree (i := 7) rfl (by kernel_rfl) (by kernel_rfl) (by kernel_rfl) (fun _ _ _ h => h) (.inl ⟨by rfl, fun w hSw => by go_simp; rfl⟩) hHeld ?_
  simp only [Act.put, List.setIfInBounds_toArray, List.set_cons_zero, List.set_cons_succ]
  refine wpAnyH_done (by kernel_rfl) ?_ _
  obtain ⟨wc, rfl⟩ : ∃ x, x = w3_ := ⟨w3_, rfl⟩; have HB := Lib.hid hHeld; clear hHeld ha1; obtain ⟨c0, c1, c2, c3, c4⟩ := HW.out wc HB.out; clear c1 c3 c4
  rcases hkk with rfl | rfl
  · have ha := HA2.out rfl; go_wp2_with (fail); refine (HLs.out wc HB.out).mono ?_; rintro e w5 ⟨rfl, hB5⟩; have HQ := Lib.hid (HE.out w5 (HB.out.trans (hB5.mono HB.out.size))); simp only [if_true] at HQ; clear hB5; dsimp only; go_wp2_with (fail); exact HQ.out
  · rw [if_neg (by decide)] at HE
    have ha3 := HA3.out; have ha4 := HA4.out
    go_upto_region 4 with (fail)
    have hdr : Below w1.heap.size w1 wc.drew := HB.out.drew
    refine wp_region_held_drew (S := fun w' => Below w1.heap.size w1 w') (by kernel_rfl) hdr (fun hHeld => ?_)
    clear hdr
    refine tkFree (i := 0) rfl (by kernel_rfl) (by kernel_rfl) (by kernel_rfl) (fun _ _ _ h => h) (.inl ⟨by rfl, fun w hSw => by go_simp; rfl⟩) hHeld ?_
    simp only [Act.put, List.setIfInBounds_toArray, List.set_cons_zero, List.set_cons_succ]
    refine tkFree (i := 1) rfl (by kernel_rfl) (by kernel_rfl) (by kernel_rfl) (fun _ _ _ h => h) (.inl ⟨by rfl, fun w hSw => by go_simp; rfl⟩) hHeld ?_
    simp only [Act.put, List.setIfInBounds_toArray, List.set_cons_zero, List.set_cons_succ]
    refine tkFree (i := 2) rfl (by kernel_rfl) (by kernel_rfl) (by kernel_rfl) (fun _ _ _ h => h) (.inl ⟨by rfl, fun w hSw => by have d := (HW.out w hSw).2.2.2.1; go_simp; rfl⟩) hHeld ?_
    simp only [Act.put, List.setIfInBounds_toArray, List.set_cons_zero, List.set_cons_succ]
    refine tkFree (i := 5) rfl (by kernel_rfl) (by kernel_rfl) (by kernel_rfl) (fun _ _ _ h => h) (.inl ⟨by rfl, fun w hSw => by go_simp; rfl⟩) hHeld ?_
    simp only [Act.put, List.setIfInBounds_toArray, List.set_cons_zero, List.set_cons_succ]
    refine tkFree (i := 6) (v := .agg RT) rfl (by kernel_rfl) (by kernel_rfl) (by kernel_rfl) (fun _ _ _ h => h) (yieldsIf_load_at (by rfl) 23 _ rfl ⟨b, 4, none⟩ rfl (fun w hS => (HW.out w hS).2.2.2.2)) hHeld ?_
    simp only [Act.put, List.setIfInBounds_toArray, List.set_cons_zero, List.set_cons_succ]
    refine tkOne 3 rfl (by decide +kernel) rfl (fun K hK => ?_)
    go_simp
    refine (HNa.out _).mono ?_; rintro e w3_ ⟨rfl, hB⟩; have hH := hHeld.trans (hB.mono hHeld.size); refine hK _ _ hH ?_; clear hK hB hHeld; have hHeld := hH; clear hH
    try simp only [Act.put, List.setIfInBounds_toArray, List.set_cons_zero, List.set_cons_succ]
    refine tkFree (i := 4) rfl (by kernel_rfl) (by kernel_rfl) (by kernel_rfl) (fun _ _ _ h => h) (.inl ⟨by rfl, fun w hSw => by go_simp; rfl⟩) hHeld ?_
    simp only [Act.put, List.setIfInBounds_toArray, List.set_cons_zero, List.set_cons_succ]
    refine tkOne 7 rfl (by decide +kernel) rfl (fun K hK => ?_)
    go_simp
    refine (HTx.out _).mono ?_; rintro e w3_ ⟨rfl, hB⟩; have hH := hHeld.trans (hB.mono hHeld.size); refine hK _ _ hH ?_; clear hK hB hHeld; have hHeld := hH; clear hH
    try simp only [Act.put, List.setIfInBounds_toArray, List.set_cons_zero, List.set_cons_succ]
    refine tkFree (i := 8) rfl (by kernel_rfl) (by kernel_rfl) (by kernel_rfl) (fun _ _ _ h => h) (.inl ⟨by rfl, fun w hSw => by go_simp; rfl⟩) hHeld ?_
    simp only [Act.put, List.setIfInBounds_toArray, List.set_cons_zero, List.set_cons_succ]
    refine tkFree (i := 9) rfl (by kernel_rfl) (by kernel_rfl) (by kernel_rfl) (fun _ _ _ h => h) (.inl ⟨by rfl, fun w hSw => by go_simp; rfl⟩) hHeld ?_
    simp only [Act.put, List.setIfInBounds_toArray, List.set_cons_zero, List.set_cons_succ]
    refine wpAnyH_done (by kernel_rfl) ?_ _
    have HQ := Lib.hid (HE.out _ hHeld); clear hHeld; go_wp2_with (fail); exact HQ.out
end Go.Proofs.YtdmnhgbdeifpbaaDoor
namespace Go.Proofs.YtdmnhgbdeifpbaaDoor
open Go Go.RowKit
theorem tagL_is (key head : List (BitVec 8)) : ShaA (macL key (76 :: head)) = byA (tagL key head) := by rw [ShaA_is]; rfl
theorem nought_whole (n i : Nat) (h : i ≤ noughtN n) (h0 : (n + i) % 128 = 0) : i = noughtN n := by
  unfold noughtN at h ⊢; omega
theorem nought_more (n i : Nat) (h : i ≤ noughtN n) (h0 : (n + i) % 128 ≠ 0) : i + 1 ≤ noughtN n := by
  unfold noughtN at h ⊢; omega
set_option maxRecDepth 100000 in
set_option maxHeartbeats 3000000 in
theorem rrseal_any (w : World) (key ahead : List (BitVec 8)) (x : RecL) (ia : Option Addr) (ic : Nat) (hkl : key.length ≤ 100000) (ha : ahead.length = 32) (hI : ItemsAt w ia x.items) (hk : ∀ y ∈ x.items, y.key.length ≤ 1000000) (hr : x.root.length = 32) (h : x.rightB = true) (hbl : x.body.length ≤ 80000) :
    Calls Tryd.prog 10 #[Sv key, .agg (byA ahead), .agg (recC x.kind x.seq (.slice ia x.items.length ic) x.area x.root)] w
      (Below0 w (.tuple #[Sv (sealB key ahead x.body), .agg (byA (headL ahead x.body))])) := by
  obtain ⟨P, hP⟩ : ∃ P : Ending → World → Prop, P = Below0 w (.tuple #[Sv (sealB key ahead x.body), .agg (byA (headL ahead x.body))]) := ⟨_, rfl⟩; rw [← hP]; obtain ⟨ZT, hZT⟩ : ∃ z, z = byA zeroH := ⟨_, rfl⟩; have hz := zero_root.1; rw [← hZT] at hz; obtain ⟨AT, hAT⟩ : ∃ z, z = byA ahead := ⟨_, rfl⟩; obtain ⟨C, hC⟩ : ∃ z, z = recC x.kind x.seq (.slice ia x.items.length ic) x.area x.root := ⟨_, rfl⟩; rw [← hC, ← hAT]; obtain ⟨w1, hw1⟩ : ∃ W, W = ((w.alloc (.cells AT 23)).alloc (.cells C 25)).alloc (.cells ZT 23) := ⟨_, rfl⟩; obtain ⟨ab, hab⟩ : ∃ b, b = w.heap.size := ⟨_, rfl⟩; obtain ⟨xb, hxb⟩ : ∃ b, b = w.heap.size + 1 := ⟨_, rfl⟩; obtain ⟨zb, hzb⟩ : ∃ b, b = w.heap.size + 1 + 1 := ⟨_, rfl⟩
  have hs1 : (w.alloc (.cells AT 23)).heap.size = w.heap.size + 1 := by simp
  have hs2 : ((w.alloc (.cells AT 23)).alloc (.cells C 25)).heap.size = w.heap.size + 1 + 1 := by simp
  have hB1 : Below w.heap.size w w1 := by
    rw [hw1]
    exact (((Below.refl _ w).alloc (Nat.le_refl _) _).alloc (by rw [hs1]; omega) _).alloc (by rw [hs2]; omega) _
  have hra : w1.heap[ab]? = some (.cells (byA ahead) 23 (0, 0)) := by
    rw [hw1, hab, heap_alloc_old _ _ (by rw [hs2]; omega), heap_alloc_old _ _ (by rw [hs1]; omega), ← hAT]
    exact heap_alloc_new w _
  have hrx : RowR w1 xb x.kind x.seq (.slice ia x.items.length ic) x.area x.root := ⟨hr, by
    rw [hw1, hxb, heap_alloc_old _ _ (by rw [hs2]; omega), ← hs1, ← hC]
    exact heap_alloc_new _ _⟩
  have hrz : w1.heap[zb]? = some (.cells ZT 23 (0, 0)) := by
    rw [hw1, hzb, ← hs2]; exact heap_alloc_new _ _
  obtain ⟨body, hbody⟩ : ∃ m, m = x.body := ⟨_, rfl⟩; obtain ⟨hd, hhd⟩ : ∃ m, m = headL ahead body := ⟨_, rfl⟩; obtain ⟨tg, htg⟩ : ∃ m, m = tagL key hd := ⟨_, rfl⟩; obtain ⟨mt, hmt⟩ : ∃ m, m = textL body := ⟨_, rfl⟩; obtain ⟨m4c, hm4c⟩ : ∃ m : List (BitVec 8), m = [76] ++ hd := ⟨_, rfl⟩; obtain ⟨s0, hs0⟩ : ∃ m, m = mt ++ tg := ⟨_, rfl⟩
  have hhl : hd.length = 32 := by rw [hhd]; exact headL_len _ _
  have htl : tg.length = 32 := by rw [htg]; exact macL_tag_len _ _
  rw [← hbody] at hbl
  have hml : mt.length ≤ 10 + 80000 := by
    rw [hmt, textL, List.length_append]; have := wordL_length body.length; omega
  have hsl : s0.length ≤ 90000 := by rw [hs0, List.length_append]; omega
  have hN := noughtN_lt s0.length
  have hseal : sealB key ahead body = s0 ++ List.replicate (noughtN s0.length) 0 := by
    rw [sealB, hs0, htg, hhd, hmt, List.length_append, macL_tag_len]
  have HBo : Hid (Calls Tryd.prog 9 #[.agg C] w1 (Below0 w1 (Sv body))) := by
    rw [hC, hbody]
    exact Lib.hid (rrbody_any w1 x ia ic (hI.below hB1) hk hr h (by rw [← hbody]; omega))
  have HHe : Hid (∀ w', Calls Tryd.prog 19 #[.agg AT, Sv body] w' (Below0 w' (.agg (byA hd)))) := by
    rw [hAT, hhd]
    exact Lib.hid fun w' => rrhead_any w' ahead body ha (by omega)
  have HTb : Hid (∀ w', Calls Tryd.prog 28 #[Sv body] w' (Below0 w' (Sv mt))) := by
    rw [hmt]
    exact Lib.hid fun w' => rpText_any w' body (by omega)
  have HTh : Hid (∀ w', Calls Tryd.prog 27 #[.agg (byA hd)] w' (Below0 w' (Sv hd))) := Lib.hid fun w' => rtext14_any w' hd hhl; have HTt : Hid (∀ w', Calls Tryd.prog 27 #[.agg (byA tg)] w' (Below0 w' (Sv tg))) := Lib.hid fun w' => rtext14_any w' tg htl
  have HTg : Hid (∀ w', Calls Tryd.prog 29 #[Sv key, Sv m4c] w' (Below0 w' (.agg (byA tg)))) := by
    refine Lib.hid fun w' => ?_
    have h9 := rtag_any w' key m4c hkl (by rw [hm4c, List.length_append]; simp; omega)
    have e9 : m4c = 76 :: hd := by rw [hm4c]; rfl
    rw [e9, tagL_is, ← htg, ← e9] at h9; exact h9
  have HA1 : Hid (∀ w, (binOp .add 9 (.string ⟨#[76]⟩) (Sv hd)).run Tryd.prog w = .ok (Sv m4c) w) := by rw [hm4c]; exact Lib.hid fun w => run_add_Sv w [76] hd (by simp; omega)
  have HA2 : Hid (∀ w, (binOp .add 9 (Sv mt) (Sv tg)).run Tryd.prog w = .ok (Sv s0) w) := by rw [hs0]; exact Lib.hid fun w => run_add_Sv w _ _ (by omega)
  have H1 : Hid (Below w.heap.size w w1 ∧ w1.heap[ab]? = some (.cells (byA ahead) 23 (0, 0)) ∧ RowR w1 xb x.kind x.seq (.slice ia x.items.length ic) x.area x.root ∧ w1.heap[zb]? = some (.cells ZT 23 (0, 0)) ∧ zb = w.heap.size + 1 + 1 ∧ ZT = byA zeroH ∧ AT = byA ahead ∧ C = recC x.kind x.seq (.slice ia x.items.length ic) x.area x.root ∧
      P = Below0 w (.tuple #[Sv (s0 ++ List.replicate (noughtN s0.length) 0), .agg (byA hd)])) := Lib.hid ⟨hB1, hra, hrx, hrz, hzb, hZT, hAT, hC, by rw [hP, ← hbody, hseal, hhd]⟩
  have HLen : Hid (hd.length = 32 ∧ ahead.length = 32 ∧ s0.length ≤ 90000 ∧ noughtN s0.length < 128) := Lib.hid ⟨hhl, ha, hsl, hN⟩; clear hP hkl ha hI hk hr h hbl hB1 hra hrx hrz hbody hhd htg hmt hm4c hs0 hhl htl hml hsl hN hseal hZT hAT hC
  go_enter Tryd.func10, Tryd.ntmps10
  go_upto_region 1 with (fail)
  try rw [hs2]
  try rw [hs1]
  rw [← hw1, ← hzb, ← hxb, ← hab]; clear hw1 hs1 hs2 hab hxb hzb; refine wp_region_lit ?_
  refine wpList_load_at rfl 25 _ rfl ⟨xb, 0, none⟩ rfl (.agg C) (by rw [H1.out.2.2.2.2.2.2.2.1]; exact rec_load H1.out.2.2.1) ?_
  iterate 2 go_step
  refine HBo.out.mono ?_; rintro e w2 ⟨rfl, hB2⟩; have H2 := Lib.hid hB2; clear hB2 HBo; dsimp only
  go_upto_region 2 with (fail)
  refine wp_region_lit ?_
  refine wpList_load_at rfl 23 _ rfl ⟨ab, 0, none⟩ rfl (.agg AT) (by rw [H1.out.2.2.2.2.2.2.1]; exact load_row32 HLen.out.2.1 ((H2.out.block _ (Array.getElem?_eq_some_iff.1 H1.out.2.1).1).trans H1.out.2.1)) ?_
  iterate 5 go_step
  refine (HHe.out w2).mono ?_; rintro e w3 ⟨rfl, hB3⟩; have H3 : Hid (Below w1.heap.size w1 w3) := Lib.hid (H2.out.trans (hB3.mono H2.out.size)); clear hB3; dsimp only
  iterate 4 go_step
  refine wpList_store_row rfl _ (.tmp 9) (.tmp 15) rfl w3.heap.size (byA hd) rfl rfl 23 ZT (heap_alloc_new w3 _) (arr_size _ HLen.out.1) (by rw [H1.out.2.2.2.2.2.1, byA_size, byA_size, HLen.out.1]; rfl) (byA_one _) ?_
  obtain ⟨hb, hhb⟩ : ∃ b, b = w3.heap.size := ⟨_, rfl⟩; obtain ⟨w4, hw4⟩ : ∃ W, W = (w3.alloc (.cells ZT 23)).setRow w3.heap.size (byA hd) := ⟨_, rfl⟩
  have H4 : Hid (Below w1.heap.size w1 w4 ∧ w4.heap[hb]? = some (.cells (byA hd) 23 (0, 0)) ∧ zb < hb) := by
    have k : Below w3.heap.size w3 w4 := by
      rw [hw4]; have h1 := (Below.refl _ w3).alloc (Nat.le_refl _) (.cells ZT 23)
      exact h1.trans ⟨rfl, rfl, rfl, by simp, fun k hk => setRow_other _ _ _ _ (by omega)⟩
    refine Lib.hid ⟨H3.out.trans (k.mono H3.out.size), ?_, ?_⟩
    · rw [hw4, hhb]; exact setRow_heap _ _ ZT _ _ _ (heap_alloc_new w3 _)
    · have h1 := (Array.getElem?_eq_some_iff.1 H1.out.2.2.2.1).1; have h2 := H3.out.size; omega
  rw [← hw4, ← hhb]; clear hw4 hhb
  go_upto_region 3 with (fail)
  have hdr : Below w4.heap.size w4 w4.drew := (Below.refl _ w4).drew; have ha1 := HA1.out; have ha2 := HA2.out
  refine wp_region_held_drew (S := fun w' => Below w4.heap.size w4 w') (by kernel_rfl) hdr (fun hHeld => ?_)
  clear hdr
  refine tkFree (i := 0) rfl (by kernel_rfl) (by kernel_rfl) (by kernel_rfl) (fun _ _ _ h => h) (.inl ⟨by rfl, fun w hSw => by go_simp; rfl⟩) hHeld ?_
  simp only [Act.put, List.setIfInBounds_toArray, List.set_cons_zero, List.set_cons_succ]
  refine tkFree (i := 2) rfl (by kernel_rfl) (by kernel_rfl) (by kernel_rfl) (fun _ _ _ h => h) (.inl ⟨by rfl, fun w hSw => by go_simp; rfl⟩) hHeld ?_
  simp only [Act.put, List.setIfInBounds_toArray, List.set_cons_zero, List.set_cons_succ]
  refine tkFree (i := 3) (v := .agg (byA hd)) rfl (by kernel_rfl) (by kernel_rfl) (by kernel_rfl) (fun _ _ _ h => h) (yieldsIf_load_at (by rfl) 23 _ rfl ⟨hb, 0, none⟩ rfl (fun w hS => load_row32 HLen.out.1 ((hS.block _ (Array.getElem?_eq_some_iff.1 H4.out.2.1).1).trans H4.out.2.1))) hHeld ?_
  simp only [Act.put, List.setIfInBounds_toArray, List.set_cons_zero, List.set_cons_succ]
  refine tkOne 1 rfl (by decide +kernel) rfl (fun K hK => ?_)
  go_simp
  refine (HTb.out _).mono ?_; rintro e w3_ ⟨rfl, hB⟩; have hH := hHeld.trans (hB.mono hHeld.size); refine hK _ _ hH ?_; clear hK hB hHeld; have hHeld := hH; clear hH
  try simp only [Act.put, List.setIfInBounds_toArray, List.set_cons_zero, List.set_cons_succ]
  refine tkOne 4 rfl (by decide +kernel) rfl (fun K hK => ?_)
  go_simp
  refine (HTh.out _).mono ?_; rintro e w3_ ⟨rfl, hB⟩; have hH := hHeld.trans (hB.mono hHeld.size); refine hK _ _ hH ?_; clear hK hB hHeld; have hHeld := hH; clear hH
  try simp only [Act.put, List.setIfInBounds_toArray, List.set_cons_zero, List.set_cons_succ]
  refine tkFree (i := 5) rfl (by kernel_rfl) (by kernel_rfl) (by kernel_rfl) (fun _ _ _ h => h) (.inl ⟨by rfl, fun w hSw => by go_simp; rfl⟩) hHeld ?_
  simp only [Act.put, List.setIfInBounds_toArray, List.set_cons_zero, List.set_cons_succ]
  refine tkOne 6 rfl (by decide +kernel) rfl (fun K hK => ?_)
  go_simp
  refine (HTg.out _).mono ?_; rintro e w3_ ⟨rfl, hB⟩; have hH := hHeld.trans (hB.mono hHeld.size); refine hK _ _ hH ?_; clear hK hB hHeld; have hHeld := hH; clear hH
  try simp only [Act.put, List.setIfInBounds_toArray, List.set_cons_zero, List.set_cons_succ]
  refine tkOne 7 rfl (by decide +kernel) rfl (fun K hK => ?_)
  go_simp
  refine (HTt.out _).mono ?_; rintro e w3_ ⟨rfl, hB⟩; have hH := hHeld.trans (hB.mono hHeld.size); refine hK _ _ hH ?_; clear hK hB hHeld; have hHeld := hH; clear hH
  try simp only [Act.put, List.setIfInBounds_toArray, List.set_cons_zero, List.set_cons_succ]
  refine tkFree (i := 8) rfl (by kernel_rfl) (by kernel_rfl) (by kernel_rfl) (fun _ _ _ h => h) (.inl ⟨by rfl, fun w hSw => by go_simp; rfl⟩) hHeld ?_
  simp only [Act.put, List.setIfInBounds_toArray, List.set_cons_zero, List.set_cons_succ]
  refine tkFree (i := 9) rfl (by kernel_rfl) (by kernel_rfl) (by kernel_rfl) (fun _ _ _ h => h) (.inl ⟨by rfl, fun w hSw => by go_simp; rfl⟩) hHeld ?_
  simp only [Act.put, List.setIfInBounds_toArray, List.set_cons_zero, List.set_cons_succ]
  refine wpAnyH_done (by kernel_rfl) ?_ _
  obtain ⟨w5, rfl⟩ : ∃ x, x = w3_ := ⟨w3_, rfl⟩; have H5 := Lib.hid hHeld; clear hHeld ha1 ha2; go_wp2_with (fail)
  go_loopw [10] (fun u wr => ∃ i : Nat, i ≤ noughtN s0.length ∧ u = Sv (s0 ++ List.replicate i 0) ∧ wr = w5) (fun u _ => s0.length + 128 - lenS u)
  case atStart => exact ⟨0, Nat.zero_le _, by simp, rfl⟩
  case round =>
    obtain ⟨i, hi, rfl, rfl⟩ := hrel; obtain ⟨u, hu⟩ : ∃ u, u = s0 ++ List.replicate i 0 := ⟨_, rfl⟩; rw [← hu]
    have hul : u.length = s0.length + i := by rw [hu]; simp
    obtain ⟨U, hU⟩ : ∃ U, U = s0.length + i := ⟨_, rfl⟩
    have lu : ∀ w ty, (Builtin.len_ #[9] ty #[Sv u]).run Tryd.prog w = .ok (.int .i64 (U : Int)) w := fun w ty => by rw [run_len_Sv w ty u, hul, hU]
    obtain ⟨q, hq⟩ : ∃ q : Nat, q = U % 128 := ⟨_, rfl⟩
    have htm : Int.tmod (U : Int) 128 = (q : Int) := by
      rw [Int.tmod_eq_emod_of_nonneg (by omega), hq]
      rfl
    have hqw : IntKind.i64.wrap (q : Int) = (q : Int) := IntWalk.i64_in _ (by omega)
    have HU : Hid (u = s0 ++ List.replicate i 0 ∧ u.length = s0.length + i ∧ U = s0.length + i ∧ q = U % 128 ∧ i ≤ noughtN s0.length) := Lib.hid ⟨hu, hul, hU, hq, hi⟩; clear hu hul hU hq hi
    by_cases hq0 : q = 0
    · subst hq0
      have hin := nought_whole s0.length i HU.out.2.2.2.2 (by have := HU.out.2.2.1; have := HU.out.2.2.2.1; omega)
      have hun : u = s0 ++ List.replicate (noughtN s0.length) 0 := by rw [HU.out.1, hin]
      have HUn := Lib.hid hun; clear hin hun
      go_upto_region 6 with (fail)
      obtain ⟨w5, rfl⟩ : ∃ x, x = wr := ⟨wr, rfl⟩
      have hne : zb ≠ hb := by have := H4.out.2.2; omega
      have hS0 : Below w.heap.size w w5.drew := H1.out.1.trans ((H4.out.1.trans (H5.out.drew.mono H4.out.1.size)).mono H1.out.1.size); have hh0 : w5.drew.heap[hb]? = some (.cells (byA hd) 23 (0, 0)) := (H5.out.drew.block _ (Array.getElem?_eq_some_iff.1 H4.out.2.1).1).trans H4.out.2.1; have hz5 : w5.drew.heap[zb]? = some (.cells ZT 23 (0, 0)) := ((H4.out.1.trans (H5.out.drew.mono H4.out.1.size)).block _ (Array.getElem?_eq_some_iff.1 H1.out.2.2.2.1).1).trans H1.out.2.2.2.1
      have hB6 : Below w.heap.size w (w5.drew.setRow zb (byA hd)) := hS0.trans ⟨rfl, rfl, rfl, by simp, fun k hk => setRow_other _ _ _ _ (by have := H1.out.2.2.2.2.1; omega)⟩
      have hh6 : (w5.drew.setRow zb (byA hd)).heap[hb]? = some (.cells (byA hd) 23 (0, 0)) := (setRow_other _ _ _ _ (fun h => hne h.symm)).trans hh0; have hz6 : (w5.drew.setRow zb (byA hd)).heap[zb]? = some (.cells (byA hd) 23 (0, 0)) := setRow_heap _ _ ZT _ _ _ hz5
      refine wp_region_held_drew (S := fun w' => Below w.heap.size w w' ∧ w'.heap[hb]? = some (.cells (byA hd) 23 (0, 0))) (by kernel_rfl) ⟨hS0, hh0⟩ (fun hHeld => ?_)
      refine tkFree (i := 0) rfl (by kernel_rfl) (by kernel_rfl) (by kernel_rfl) (fun _ _ _ h => h) (.inl ⟨by rfl, fun w hSw => by go_simp; rfl⟩) hHeld ?_
      simp only [Act.put, List.setIfInBounds_toArray, List.set_cons_zero, List.set_cons_succ]
      refine tkFree (i := 1) (v := .agg (byA hd)) rfl (by kernel_rfl) (by kernel_rfl) (by kernel_rfl) (fun _ _ _ h => h) (yieldsIf_load_at (by rfl) 23 _ rfl ⟨hb, 0, none⟩ rfl (fun w hS => load_row32 HLen.out.1 hS.2)) hHeld ?_
      simp only [Act.put, List.setIfInBounds_toArray, List.set_cons_zero, List.set_cons_succ]
      refine tkFree (i := 2) rfl (by kernel_rfl) (by kernel_rfl) (by kernel_rfl) (fun _ _ _ h => h) (.inl ⟨by rfl, fun w hSw => by go_simp; rfl⟩) hHeld ?_
      simp only [Act.put, List.setIfInBounds_toArray, List.set_cons_zero, List.set_cons_succ]
      refine tkOne 3 rfl (by decide +kernel) rfl (fun K hK => ?_)
      refine wp_store_row 23 (.tmp 7) (.tmp 32) rfl zb (byA hd) rfl rfl 23 ZT hz5 (arr_size _ HLen.out.1) (by rw [H1.out.2.2.2.2.2.1, byA_size, byA_size, HLen.out.1]; rfl) (byA_one _) ?_
      refine hK _ _ ⟨hB6, hh6⟩ ?_; clear hK hHeld
      try simp only [Act.put, ]
      refine wpAnyH_done (by kernel_rfl) ?_ _
      rename_i hk1 _ _
      refine hk1 _ _ ?_; go_wp2_with (fail); refine bodyPost_ret (v := .tuple #[Sv u, .agg (byA hd)]) ((results_tmp_cell (s := 6) (p := 7) rfl _ _ zb 23 (byA hd) (0, 0) _ rfl hz6 Tryd.underlying23 rfl (arr_size _ HLen.out.1)).trans rfl) rfl ?_; rw [H1.out.2.2.2.2.2.2.2.2, HUn.out]; exact ⟨rfl, hB6⟩
    · have hq1 : ((q : Int) != 0) = true := by simpa using hq0
      have ha : ∀ w, (binOp .add 9 (Sv u) (.string ⟨#[0]⟩)).run Tryd.prog w = .ok (Sv (u ++ [0])) w := fun w => run_add_S0 w u (by have := HU.out.2.1; have := HU.out.2.2.2.2; have := HLen.out.2.2; omega)
      go_wp2_with (fail)
      refine ⟨⟨i + 1, nought_more s0.length i HU.out.2.2.2.2 (by have := HU.out.2.2.1; have := HU.out.2.2.2.1; omega), ?_, by trivial⟩, ?_⟩
      · rw [HU.out.1, List.replicate_succ', ← List.append_assoc]; rfl
      · show s0.length + 128 - lenS (Sv (u ++ [0])) < s0.length + 128 - lenS (Sv u)
        rw [lenS_Sv, lenS_Sv, List.length_append, List.length_singleton]; have := HU.out.2.1; have := HU.out.2.2.2.2; have := HLen.out.2.2.2; omega
end Go.Proofs.YtdmnhgbdeifpbaaDoor
