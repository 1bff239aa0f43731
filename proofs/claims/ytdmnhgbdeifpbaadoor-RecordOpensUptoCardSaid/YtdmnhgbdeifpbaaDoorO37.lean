/-
  Part 37 of 42 of what the proof leans on.
-/
import Derived.Test.YtdmnhgbdeifpbaaDoorO36
import Derived.Test.YtdmnhgbdeifpbaaDoorO30
import Derived.Test.YtdmnhgbdeifpbaaDoorO26
import Derived.Test.YtdmnhgbdeifpbaaDoorO22
import Derived.Test.YtdmnhgbdeifpbaaDoorO20
import Derived.Test.YtdmnhgbdeifpbaaDoorO32
import Derived.Test.YtdmnhgbdeifpbaaDoorO28
namespace Go.Proofs.YtdmnhgbdeifpbaaDoor
open Go Go.RowKit
set_option maxRecDepth 100000 in
set_option maxHeartbeats 2000000 in
theorem rrbody_any (w : World) (x : RecL) (ia : Option Addr) (ic : Nat) (hI : ItemsAt w ia x.items) (hk : ∀ y ∈ x.items, y.key.length ≤ 1000000) (hr : x.root.length = 32) (h : x.rightB = true) (hbl : x.body.length ≤ 90000) :
    Calls Tryd.prog 9 #[.agg (recC x.kind x.seq (.slice ia x.items.length ic) x.area x.root)] w (Below0 w (Sv x.body)) := by
  obtain ⟨P, hP⟩ : ∃ P : Ending → World → Prop, P = Below0 w (Sv x.body) := ⟨_, rfl⟩; rw [← hP]; obtain ⟨hs, hkd⟩ := right_parts h
  have hi64 : x.items.length ≤ 64 := by
    rcases hkd with ⟨_, _, _, h4, _⟩ | ⟨_, _, _, h4⟩
    · exact h4
    · rw [h4]
      decide
  have hkk : x.kind = 1 ∨ x.kind = 2 := by
    rcases hkd with h' | h'
    · exact .inl h'.1
    · exact .inr h'.1
  have har : 0 ≤ x.area ∧ x.area ≤ 1 := by
    rcases hkd with ⟨_, h2, _⟩ | ⟨_, h', h2, _⟩
    · omega
    · exact ⟨h', h2⟩
  obtain ⟨C, hC⟩ : ∃ z, z = recC x.kind x.seq (.slice ia x.items.length ic) x.area x.root := ⟨_, rfl⟩; rw [← hC]; obtain ⟨w1, hw1⟩ : ∃ W, W = w.alloc (.cells C 25) := ⟨_, rfl⟩; obtain ⟨b, hb⟩ : ∃ b, b = w.heap.size := ⟨_, rfl⟩
  have hB1 : Below w.heap.size w w1 := by rw [hw1]; exact (Below.refl _ w).alloc (Nat.le_refl _) _
  have hrow : RowR w1 b x.kind x.seq (.slice ia x.items.length ic) x.area x.root := ⟨hr, by rw [hw1, hb, ← hC]; exact heap_alloc_new w _⟩
  obtain ⟨mk, hmk⟩ : ∃ m, m = wordL x.kind.toNat := ⟨_, rfl⟩; obtain ⟨ms, hms⟩ : ∃ m, m = wordL x.seq.toNat := ⟨_, rfl⟩; obtain ⟨ma, hma⟩ : ∃ m, m = wordL x.area.toNat := ⟨_, rfl⟩; obtain ⟨ml, hml⟩ : ∃ m, m = listL x.items := ⟨_, rfl⟩; obtain ⟨m1, hm1⟩ : ∃ m, m = mk ++ ms := ⟨_, rfl⟩; obtain ⟨m2, hm2⟩ : ∃ m, m = m1 ++ ml := ⟨_, rfl⟩; obtain ⟨m3, hm3⟩ : ∃ m, m = m1 ++ ma := ⟨_, rfl⟩; obtain ⟨m4, hm4⟩ : ∃ m, m = m3 ++ x.root := ⟨_, rfl⟩
  have hbody : x.body = if x.kind = 1 then m2 else m4 := by
    rw [RecL.body, hm2, hm4, hm3, hm1, hmk, hms, hma, hml]
    split <;> simp [List.append_assoc]
  have HNk : Hid (∀ w', Calls Tryd.prog 25 #[.int .i64 x.kind] w' (Below0 w' (Sv mk))) := by
    refine Lib.hid fun w' => ?_
    have := rpNumber_any w' x.kind.toNat (by omega)
    rw [Int.toNat_of_nonneg (by omega)] at this
    rw [hmk]; exact this
  have HNs : Hid (∀ w', Calls Tryd.prog 25 #[.int .i64 x.seq] w' (Below0 w' (Sv ms))) := by
    refine Lib.hid fun w' => ?_
    have := rpNumber_any w' x.seq.toNat (by omega)
    rw [Int.toNat_of_nonneg (by omega)] at this
    rw [hms]; exact this
  have HNa : Hid (∀ w', Calls Tryd.prog 25 #[.int .i64 x.area] w' (Below0 w' (Sv ma))) := by
    refine Lib.hid fun w' => ?_
    have := rpNumber_any w' x.area.toNat (by omega)
    rw [Int.toNat_of_nonneg (by omega)] at this
    rw [hma]; exact this
  have HTx : Hid (∀ w', Calls Tryd.prog 27 #[.agg (byA x.root)] w' (Below0 w' (Sv x.root))) := Lib.hid fun w' => rtext14_any w' x.root hr
  have HLs : Hid (∀ w', Below w1.heap.size w1 w' → Calls Tryd.prog 26 #[.slice ia x.items.length ic] w' (Below0 w' (Sv ml))) := by
    rw [hml]
    exact Lib.hid fun w' h' => erList_any w' ia ic x.items ((hI.below hB1).below h') hk (by omega)
  have hl1 := wordL_length x.kind.toNat; have hl2 := wordL_length x.seq.toNat; have hl3 := wordL_length x.area.toNat; rw [← hmk] at hl1; rw [← hms] at hl2; rw [← hma] at hl3
  have hb2 : x.kind = 1 → ml.length ≤ 90000 := fun h1 => by
    rw [hbody, if_pos h1, hm2, List.length_append] at hbl; omega
  have HA1 : Hid (∀ w, (binOp .add 9 (Sv mk) (Sv ms)).run Tryd.prog w = .ok (Sv m1) w) := by rw [hm1]; exact Lib.hid fun w => run_add_Sv w _ _ (by omega)
  have hl4 : m1.length ≤ 20 := by rw [hm1, List.length_append]; omega
  have HA2 : Hid (x.kind = 1 → ∀ w, (binOp .add 9 (Sv m1) (Sv ml)).run Tryd.prog w = .ok (Sv m2) w) := by rw [hm2]; exact Lib.hid fun h1 w => run_add_Sv w _ _ (by have := hb2 h1; omega)
  have HA3 : Hid (∀ w, (binOp .add 9 (Sv m1) (Sv ma)).run Tryd.prog w = .ok (Sv m3) w) := by rw [hm3]; exact Lib.hid fun w => run_add_Sv w _ _ (by omega)
  have hl5 : m3.length ≤ 30 := by rw [hm3, List.length_append]; omega
  have HA4 : Hid (∀ w, (binOp .add 9 (Sv m3) (Sv x.root)).run Tryd.prog w = .ok (Sv m4) w) := by rw [hm4]; exact Lib.hid fun w => run_add_Sv w _ _ (by omega)
  have HW : Hid (∀ w', Below w1.heap.size w1 w' → w'.cell? ⟨b, 0, none⟩ = some (.int .i64 x.kind) ∧ w'.cell? ⟨b, 1, none⟩ = some (.int .i64 x.seq) ∧ w'.cell? ⟨b, 2, none⟩ = some (.slice ia x.items.length ic) ∧ w'.cell? ⟨b, 3, none⟩ = some (.int .i64 x.area) ∧
      (loadVar 23 ⟨b, 4, none⟩).run Tryd.prog w' = .ok (.agg (byA x.root)) w') := Lib.hid fun w' h' => by
    obtain ⟨c0, c1, c2, c3, c4, _⟩ := (hrow.below h').d5; exact ⟨c0, c1, c2, c3, c4⟩
  have HE : Hid (∀ w', Below w1.heap.size w1 w' → P (.returned (Sv (if x.kind = 1 then m2 else m4))) w') := by
    rw [hP, hbody]; exact Lib.hid fun w' h' => ⟨rfl, hB1.trans (h'.mono hB1.size)⟩
  obtain ⟨LN, hLN⟩ : ∃ n, n = x.items.length := ⟨_, rfl⟩; obtain ⟨k, hkx⟩ : ∃ k, k = x.kind := ⟨_, rfl⟩; obtain ⟨s, hsx⟩ : ∃ k, k = x.seq := ⟨_, rfl⟩; obtain ⟨ar, hax⟩ : ∃ k, k = x.area := ⟨_, rfl⟩; obtain ⟨RT, hRT⟩ : ∃ z, z = byA x.root := ⟨_, rfl⟩; rw [← hLN] at HLs; rw [← hLN, ← hkx, ← hsx, ← hax, ← hRT] at HW; rw [← hkx] at HNk HA2 HE hkk; rw [← hsx] at HNs; rw [← hax] at HNa; rw [← hRT] at HTx; clear hP hI hk hr h hbl hs hkd hi64 har hC hB1 hrow hmk hms hma hml hm1 hm2 hm3 hm4 hbody hl1 hl2 hl3 hb2 hl4 hl5 hLN hkx hsx hax hRT
  go_enter Tryd.func9, Tryd.ntmps9
  go_upto_region 1 with (fail)
  rw [← hw1, ← hb]; clear hw1 hb; have hdr : Below w1.heap.size w1 w1.drew := (Below.refl _ w1).drew; have ha1 := HA1.out
  refine wp_region_held_drew (S := fun w' => Below w1.heap.size w1 w') (by kernel_rfl) hdr (fun hHeld => ?_)
  clear hdr
  refine tkFree (i := 0) rfl (by kernel_rfl) (by kernel_rfl) (by kernel_rfl) (fun _ _ _ h => h) (.inl ⟨by rfl, fun w hSw => by go_simp; rfl⟩) hHeld ?_
  simp only [Act.put, List.setIfInBounds_toArray, List.set_cons_zero, List.set_cons_succ]
  refine tkFree (i := 1) rfl (by kernel_rfl) (by kernel_rfl) (by kernel_rfl) (fun _ _ _ h => h) (.inl ⟨by rfl, fun w hSw => by have d := (HW.out w hSw).1; go_simp; rfl⟩) hHeld ?_
  simp only [Act.put, List.setIfInBounds_toArray, List.set_cons_zero, List.set_cons_succ]
  refine tkFree (i := 3) rfl (by kernel_rfl) (by kernel_rfl) (by kernel_rfl) (fun _ _ _ h => h) (.inl ⟨by rfl, fun w hSw => by go_simp; rfl⟩) hHeld ?_
  simp only [Act.put, List.setIfInBounds_toArray, List.set_cons_zero, List.set_cons_succ]
  refine tkFree (i := 4) rfl (by kernel_rfl) (by kernel_rfl) (by kernel_rfl) (fun _ _ _ h => h) (.inl ⟨by rfl, fun w hSw => by have d := (HW.out w hSw).2.1; go_simp; rfl⟩) hHeld ?_
  simp only [Act.put, List.setIfInBounds_toArray, List.set_cons_zero, List.set_cons_succ]
  refine tkOne 2 rfl (by decide +kernel) rfl (fun K hK => ?_)
  go_simp
  refine (HNk.out _).mono ?_; rintro e w3_ ⟨rfl, hB⟩; have hH := hHeld.trans (hB.mono hHeld.size); refine hK _ _ hH ?_; clear hK hB hHeld; have hHeld := hH; clear hH
  try simp only [Act.put, List.setIfInBounds_toArray, List.set_cons_zero, List.set_cons_succ]
  refine tkOne 5 rfl (by decide +kernel) rfl (fun K hK => ?_)
  go_simp
  refine (HNs.out _).mono ?_; rintro e w3_ ⟨rfl, hB⟩; have hH := hHeld.trans (hB.mono hHeld.size); refine hK _ _ hH ?_; clear hK hB hHeld; have hHeld := hH; clear hH
  try simp only [Act.put, List.setIfInBounds_toArray, List.set_cons_zero, List.set_cons_succ]
  refine tkFree (i := 6) rfl (by kernel_rfl) (by kernel_rfl) (by kernel_rfl) (fun _ _ _ h => h) (.inl ⟨by rfl, fun w hSw => by go_simp; rfl⟩) hHeld ?_
  simp only [Act.put, List.setIfInBounds_toArray, List.set_cons_zero, List.set_cons_succ]
  refine tkFree (i := 7) rfl (by kernel_rfl) (by kernel_rfl) (by kernel_rfl) (fun _ _ _ h => h) (.inl ⟨by rfl, fun w hSw => by go_simp; rfl⟩) hHeld ?_
  simp only [Act.put, List.setIfInBounds_toArray, List.set_cons_zero, List.set_cons_succ]
  refine wpAnyH_done (by kernel_rfl) ?_ _
  obtain ⟨wc, rfl⟩ : ∃ x, x = w3_ := ⟨w3_, rfl⟩; have HB := Lib.hid hHeld; clear hHeld ha1; obtain ⟨c0, c1, c2, c3, c4⟩ := HW.out wc HB.out; clear c1 c3 c4
  rcases hkk with rfl | rfl
  · have ha := HA2.out rfl; go_wp2_with (fail); refine (HLs.out wc HB.out).mono ?_; rintro e w5 ⟨rfl, hB5⟩; have HQ := Lib.hid (HE.out w5 (HB.out.trans (hB5.mono HB.out.size))); simp only [if_true] at HQ; clear hB5; dsimp only; go_wp2_with (fail); exact HQ.out
  · rw [if_neg (by decide)] at HE
    have ha3 := HA3.out; have ha4 := HA4.out
    go_upto_region 4 with (fail)
    have hdr : Below w1.heap.size w1 wc.drew := HB.out.drew
    refine wp_region_held_drew (S := fun w' => Below w1.heap.size w1 w') (by kernel_rfl) hdr (fun hHeld => ?_)
    clear hdr
    refine tkFree (i := 0) rfl (by kernel_rfl) (by kernel_rfl) (by kernel_rfl) (fun _ _ _ h => h) (.inl ⟨by rfl, fun w hSw => by go_simp; rfl⟩) hHeld ?_
    simp only [Act.put, List.setIfInBounds_toArray, List.set_cons_zero, List.set_cons_succ]
    refine tkFree (i := 1) rfl (by kernel_rfl) (by kernel_rfl) (by kernel_rfl) (fun _ _ _ h => h) (.inl ⟨by rfl, fun w hSw => by go_simp; rfl⟩) hHeld ?_
    simp only [Act.put, List.setIfInBounds_toArray, List.set_cons_zero, List.set_cons_succ]
    refine tkFree (i := 2) rfl (by kernel_rfl) (by kernel_rfl) (by kernel_rfl) (fun _ _ _ h => h) (.inl ⟨by rfl, fun w hSw => by have d := (HW.out w hSw).2.2.2.1; go_simp; rfl⟩) hHeld ?_
    simp only [Act.put, List.setIfInBounds_toArray, List.set_cons_zero, List.set_cons_succ]
    refine tkFree (i := 5) rfl (by kernel_rfl) (by kernel_rfl) (by kernel_rfl) (fun _ _ _ h => h) (.inl ⟨by rfl, fun w hSw => by go_simp; rfl⟩) hHeld ?_
    simp only [Act.put, List.setIfInBounds_toArray, List.set_cons_zero, List.set_cons_succ]
    refine tkFree (i := 6) (v := .agg RT) rfl (by kernel_rfl) (by kernel_rfl) (by kernel_rfl) (fun _ _ _ h => h) (yieldsIf_load_at (by rfl) 23 _ rfl ⟨b, 4, none⟩ rfl (fun w hS => (HW.out w hS).2.2.2.2)) hHeld ?_
    simp only [Act.put, List.setIfInBounds_toArray, List.set_cons_zero, List.set_cons_succ]
    refine tkOne 3 rfl (by decide +kernel) rfl (fun K hK => ?_)
    go_simp
    refine (HNa.out _).mono ?_; rintro e w3_ ⟨rfl, hB⟩; have hH := hHeld.trans (hB.mono hHeld.size); refine hK _ _ hH ?_; clear hK hB hHeld; have hHeld := hH; clear hH
    try simp only [Act.put, List.setIfInBounds_toArray, List.set_cons_zero, List.set_cons_succ]
    refine tkFree (i := 4) rfl (by kernel_rfl) (by kernel_rfl) (by kernel_rfl) (fun _ _ _ h => h) (.inl ⟨by rfl, fun w hSw => by go_simp; rfl⟩) hHeld ?_
    simp only [Act.put, List.setIfInBounds_toArray, List.set_cons_zero, List.set_cons_succ]
    refine tkOne 7 rfl (by decide +kernel) rfl (fun K hK => ?_)
    go_simp
    refine (HTx.out _).mono ?_; rintro e w3_ ⟨rfl, hB⟩; have hH := hHeld.trans (hB.mono hHeld.size); refine hK _ _ hH ?_; clear hK hB hHeld; have hHeld := hH; clear hH
    try simp only [Act.put, List.setIfInBounds_toArray, List.set_cons_zero, List.set_cons_succ]
    refine tkFree (i := 8) rfl (by kernel_rfl) (by kernel_rfl) (by kernel_rfl) (fun _ _ _ h => h) (.inl ⟨by rfl, fun w hSw => by go_simp; rfl⟩) hHeld ?_
    simp only [Act.put, List.setIfInBounds_toArray, List.set_cons_zero, List.set_cons_succ]
    refine tkFree (i := 9) rfl (by kernel_rfl) (by kernel_rfl) (by kernel_rfl) (fun _ _ _ h => h) (.inl ⟨by rfl, fun w hSw => by go_simp; rfl⟩) hHeld ?_
    simp only [Act.put, List.setIfInBounds_toArray, List.set_cons_zero, List.set_cons_succ]
    refine wpAnyH_done (by kernel_rfl) ?_ _
    have HQ := Lib.hid (HE.out _ hHeld); clear hHeld; go_wp2_with (fail); exact HQ.out
end Go.Proofs.YtdmnhgbdeifpbaaDoor
namespace Go.Proofs.YtdmnhgbdeifpbaaDoor
open Go Go.RowKit
theorem tagL_is (key head : List (BitVec 8)) : ShaA (macL key (76 :: head)) = byA (tagL key head) := by rw [ShaA_is]; rfl
theorem nought_whole (n i : Nat) (h : i ≤ noughtN n) (h0 : (n + i) % 128 = 0) : i = noughtN n := by
  unfold noughtN at h ⊢; omega
theorem nought_more (n i : Nat) (h : i ≤ noughtN n) (h0 : (n + i) % 128 ≠ 0) : i + 1 ≤ noughtN n := by
  unfold noughtN at h ⊢; omega
set_option maxRecDepth 100000 in
set_option maxHeartbeats 3000000 in
theorem rrseal_any (w : World) (key ahead : List (BitVec 8)) (x : RecL) (ia : Option Addr) (ic : Nat) (hkl : key.length ≤ 100000) (ha : ahead.length = 32) (hI : ItemsAt w ia x.items) (hk : ∀ y ∈ x.items, y.key.length ≤ 1000000) (hr : x.root.length = 32) (h : x.rightB = true) (hbl : x.body.length ≤ 80000) :
    Calls Tryd.prog 10 #[Sv key, .agg (byA ahead), .agg (recC x.kind x.seq (.slice ia x.items.length ic) x.area x.root)] w
      (Below0 w (.tuple #[Sv (sealB key ahead x.body), .agg (byA (headL ahead x.body))])) := by
  obtain ⟨P, hP⟩ : ∃ P : Ending → World → Prop, P = Below0 w (.tuple #[Sv (sealB key ahead x.body), .agg (byA (headL ahead x.body))]) := ⟨_, rfl⟩; rw [← hP]; obtain ⟨ZT, hZT⟩ : ∃ z, z = byA zeroH := ⟨_, rfl⟩; have hz := zero_root.1; rw [← hZT] at hz; obtain ⟨AT, hAT⟩ : ∃ z, z = byA ahead := ⟨_, rfl⟩; obtain ⟨C, hC⟩ : ∃ z, z = recC x.kind x.seq (.slice ia x.items.length ic) x.area x.root := ⟨_, rfl⟩; rw [← hC, ← hAT]; obtain ⟨w1, hw1⟩ : ∃ W, W = ((w.alloc (.cells AT 23)).alloc (.cells C 25)).alloc (.cells ZT 23) := ⟨_, rfl⟩; obtain ⟨ab, hab⟩ : ∃ b, b = w.heap.size := ⟨_, rfl⟩; obtain ⟨xb, hxb⟩ : ∃ b, b = w.heap.size + 1 := ⟨_, rfl⟩; obtain ⟨zb, hzb⟩ : ∃ b, b = w.heap.size + 1 + 1 := ⟨_, rfl⟩
  have hs1 : (w.alloc (.cells AT 23)).heap.size = w.heap.size + 1 := by simp
  have hs2 : ((w.alloc (.cells AT 23)).alloc (.cells C 25)).heap.size = w.heap.size + 1 + 1 := by simp
  have hB1 : Below w.heap.size w w1 := by
    rw [hw1]
    exact (((Below.refl _ w).alloc (Nat.le_refl _) _).alloc (by rw [hs1]; omega) _).alloc (by rw [hs2]; omega) _
  have hra : w1.heap[ab]? = some (.cells (byA ahead) 23 (0, 0)) := by
    rw [hw1, hab, heap_alloc_old _ _ (by rw [hs2]; omega), heap_alloc_old _ _ (by rw [hs1]; omega), ← hAT]
    exact heap_alloc_new w _
  have hrx : RowR w1 xb x.kind x.seq (.slice ia x.items.length ic) x.area x.root := ⟨hr, by
    rw [hw1, hxb, heap_alloc_old _ _ (by rw [hs2]; omega), ← hs1, ← hC]
    exact heap_alloc_new _ _⟩
  have hrz : w1.heap[zb]? = some (.cells ZT 23 (0, 0)) := by
    rw [hw1, hzb, ← hs2]; exact heap_alloc_new _ _
  obtain ⟨body, hbody⟩ : ∃ m, m = x.body := ⟨_, rfl⟩; obtain ⟨hd, hhd⟩ : ∃ m, m = headL ahead body := ⟨_, rfl⟩; obtain ⟨tg, htg⟩ : ∃ m, m = tagL key hd := ⟨_, rfl⟩; obtain ⟨mt, hmt⟩ : ∃ m, m = textL body := ⟨_, rfl⟩; obtain ⟨m4c, hm4c⟩ : ∃ m : List (BitVec 8), m = [76] ++ hd := ⟨_, rfl⟩; obtain ⟨s0, hs0⟩ : ∃ m, m = mt ++ tg := ⟨_, rfl⟩
  have hhl : hd.length = 32 := by rw [hhd]; exact headL_len _ _
  have htl : tg.length = 32 := by rw [htg]; exact macL_tag_len _ _
  rw [← hbody] at hbl
  have hml : mt.length ≤ 10 + 80000 := by
    rw [hmt, textL, List.length_append]; have := wordL_length body.length; omega
  have hsl : s0.length ≤ 90000 := by rw [hs0, List.length_append]; omega
  have hN := noughtN_lt s0.length
  have hseal : sealB key ahead body = s0 ++ List.replicate (noughtN s0.length) 0 := by
    rw [sealB, hs0, htg, hhd, hmt, List.length_append, macL_tag_len]
  have HBo : Hid (Calls Tryd.prog 9 #[.agg C] w1 (Below0 w1 (Sv body))) := by
    rw [hC, hbody]
    exact Lib.hid (rrbody_any w1 x ia ic (hI.below hB1) hk hr h (by rw [← hbody]; omega))
  have HHe : Hid (∀ w', Calls Tryd.prog 19 #[.agg AT, Sv body] w' (Below0 w' (.agg (byA hd)))) := by
    rw [hAT, hhd]
    exact Lib.hid fun w' => rrhead_any w' ahead body ha (by omega)
  have HTb : Hid (∀ w', Calls Tryd.prog 28 #[Sv body] w' (Below0 w' (Sv mt))) := by
    rw [hmt]
    exact Lib.hid fun w' => rpText_any w' body (by omega)
  have HTh : Hid (∀ w', Calls Tryd.prog 27 #[.agg (byA hd)] w' (Below0 w' (Sv hd))) := Lib.hid fun w' => rtext14_any w' hd hhl; have HTt : Hid (∀ w', Calls Tryd.prog 27 #[.agg (byA tg)] w' (Below0 w' (Sv tg))) := Lib.hid fun w' => rtext14_any w' tg htl
  have HTg : Hid (∀ w', Calls Tryd.prog 29 #[Sv key, Sv m4c] w' (Below0 w' (.agg (byA tg)))) := by
    refine Lib.hid fun w' => ?_
    have h9 := rtag_any w' key m4c hkl (by rw [hm4c, List.length_append]; simp; omega)
    have e9 : m4c = 76 :: hd := by rw [hm4c]; rfl
    rw [e9, tagL_is, ← htg, ← e9] at h9; exact h9
  have HA1 : Hid (∀ w, (binOp .add 9 (.string ⟨#[76]⟩) (Sv hd)).run Tryd.prog w = .ok (Sv m4c) w) := by rw [hm4c]; exact Lib.hid fun w => run_add_Sv w [76] hd (by simp; omega)
  have HA2 : Hid (∀ w, (binOp .add 9 (Sv mt) (Sv tg)).run Tryd.prog w = .ok (Sv s0) w) := by rw [hs0]; exact Lib.hid fun w => run_add_Sv w _ _ (by omega)
  have H1 : Hid (Below w.heap.size w w1 ∧ w1.heap[ab]? = some (.cells (byA ahead) 23 (0, 0)) ∧ RowR w1 xb x.kind x.seq (.slice ia x.items.length ic) x.area x.root ∧ w1.heap[zb]? = some (.cells ZT 23 (0, 0)) ∧ zb = w.heap.size + 1 + 1 ∧ ZT = byA zeroH ∧ AT = byA ahead ∧ C = recC x.kind x.seq (.slice ia x.items.length ic) x.area x.root ∧
      P = Below0 w (.tuple #[Sv (s0 ++ List.replicate (noughtN s0.length) 0), .agg (byA hd)])) := Lib.hid ⟨hB1, hra, hrx, hrz, hzb, hZT, hAT, hC, by rw [hP, ← hbody, hseal, hhd]⟩
  have HLen : Hid (hd.length = 32 ∧ ahead.length = 32 ∧ s0.length ≤ 90000 ∧ noughtN s0.length < 128) := Lib.hid ⟨hhl, ha, hsl, hN⟩; clear hP hkl ha hI hk hr h hbl hB1 hra hrx hrz hbody hhd htg hmt hm4c hs0 hhl htl hml hsl hN hseal hZT hAT hC
  go_enter Tryd.func10, Tryd.ntmps10
  go_upto_region 1 with (fail)
  try rw [hs2]
  try rw [hs1]
  rw [← hw1, ← hzb, ← hxb, ← hab]; clear hw1 hs1 hs2 hab hxb hzb; refine wp_region_lit ?_
  refine wpList_load_at rfl 25 _ rfl ⟨xb, 0, none⟩ rfl (.agg C) (by rw [H1.out.2.2.2.2.2.2.2.1]; exact rec_load H1.out.2.2.1) ?_
  iterate 2 go_step
  refine HBo.out.mono ?_; rintro e w2 ⟨rfl, hB2⟩; have H2 := Lib.hid hB2; clear hB2 HBo; dsimp only
  go_upto_region 2 with (fail)
  refine wp_region_lit ?_
  refine wpList_load_at rfl 23 _ rfl ⟨ab, 0, none⟩ rfl (.agg AT) (by rw [H1.out.2.2.2.2.2.2.1]; exact load_row32 HLen.out.2.1 ((H2.out.block _ (Array.getElem?_eq_some_iff.1 H1.out.2.1).1).trans H1.out.2.1)) ?_
  iterate 5 go_step
  refine (HHe.out w2).mono ?_; rintro e w3 ⟨rfl, hB3⟩; have H3 : Hid (Below w1.heap.size w1 w3) := Lib.hid (H2.out.trans (hB3.mono H2.out.size)); clear hB3; dsimp only
  iterate 4 go_step
  refine wpList_store_row rfl _ (.tmp 9) (.tmp 15) rfl w3.heap.size (byA hd) rfl rfl 23 ZT (heap_alloc_new w3 _) (arr_size _ HLen.out.1) (by rw [H1.out.2.2.2.2.2.1, byA_size, byA_size, HLen.out.1]; rfl) (byA_one _) ?_
  obtain ⟨hb, hhb⟩ : ∃ b, b = w3.heap.size := ⟨_, rfl⟩; obtain ⟨w4, hw4⟩ : ∃ W, W = (w3.alloc (.cells ZT 23)).setRow w3.heap.size (byA hd) := ⟨_, rfl⟩
  have H4 : Hid (Below w1.heap.size w1 w4 ∧ w4.heap[hb]? = some (.cells (byA hd) 23 (0, 0)) ∧ zb < hb) := by
    have k : Below w3.heap.size w3 w4 := by
      rw [hw4]; have h1 := (Below.refl _ w3).alloc (Nat.le_refl _) (.cells ZT 23)
      exact h1.trans ⟨rfl, rfl, rfl, by simp, fun k hk => setRow_other _ _ _ _ (by omega)⟩
    refine Lib.hid ⟨H3.out.trans (k.mono H3.out.size), ?_, ?_⟩
    · rw [hw4, hhb]; exact setRow_heap _ _ ZT _ _ _ (heap_alloc_new w3 _)
    · have h1 := (Array.getElem?_eq_some_iff.1 H1.out.2.2.2.1).1; have h2 := H3.out.size; omega
  rw [← hw4, ← hhb]; clear hw4 hhb
  go_upto_region 3 with (fail)
  have hdr : Below w4.heap.size w4 w4.drew := (Below.refl _ w4).drew; have ha1 := HA1.out; have ha2 := HA2.out
  refine wp_region_held_drew (S := fun w' => Below w4.heap.size w4 w') (by kernel_rfl) hdr (fun hHeld => ?_)
  clear hdr
  refine tkFree (i := 0) rfl (by kernel_rfl) (by kernel_rfl) (by kernel_rfl) (fun _ _ _ h => h) (.inl ⟨by rfl, fun w hSw => by go_simp; rfl⟩) hHeld ?_
  simp only [Act.put, List.setIfInBounds_toArray, List.set_cons_zero, List.set_cons_succ]
  refine tkFree (i := 2) rfl (by kernel_rfl) (by kernel_rfl) (by kernel_rfl) (fun _ _ _ h => h) (.inl ⟨by rfl, fun w hSw => by go_simp; rfl⟩) hHeld ?_
  simp only [Act.put, List.setIfInBounds_toArray, List.set_cons_zero, List.set_cons_succ]
  refine tkFree (i := 3) (v := .agg (byA hd)) rfl (by kernel_rfl) (by kernel_rfl) (by kernel_rfl) (fun _ _ _ h => h) (yieldsIf_load_at (by rfl) 23 _ rfl ⟨hb, 0, none⟩ rfl (fun w hS => load_row32 HLen.out.1 ((hS.block _ (Array.getElem?_eq_some_iff.1 H4.out.2.1).1).trans H4.out.2.1))) hHeld ?_
  simp only [Act.put, List.setIfInBounds_toArray, List.set_cons_zero, List.set_cons_succ]
  refine tkOne 1 rfl (by decide +kernel) rfl (fun K hK => ?_)
  go_simp
  refine (HTb.out _).mono ?_; rintro e w3_ ⟨rfl, hB⟩; have hH := hHeld.trans (hB.mono hHeld.size); refine hK _ _ hH ?_; clear hK hB hHeld; have hHeld := hH; clear hH
  try simp only [Act.put, List.setIfInBounds_toArray, List.set_cons_zero, List.set_cons_succ]
  refine tkOne 4 rfl (by decide +kernel) rfl (fun K hK => ?_)
  go_simp
  refine (HTh.out _).mono ?_; rintro e w3_ ⟨rfl, hB⟩; have hH := hHeld.trans (hB.mono hHeld.size); refine hK _ _ hH ?_; clear hK hB hHeld; have hHeld := hH; clear hH
  try simp only [Act.put, List.setIfInBounds_toArray, List.set_cons_zero, List.set_cons_succ]
  refine tkFree (i := 5) rfl (by kernel_rfl) (by kernel_rfl) (by kernel_rfl) (fun _ _ _ h => h) (.inl ⟨by rfl, fun w hSw => by go_simp; rfl⟩) hHeld ?_
  simp only [Act.put, List.setIfInBounds_toArray, List.set_cons_zero, List.set_cons_succ]
  refine tkOne 6 rfl (by decide +kernel) rfl (fun K hK => ?_)
  go_simp
  refine (HTg.out _).mono ?_; rintro e w3_ ⟨rfl, hB⟩; have hH := hHeld.trans (hB.mono hHeld.size); refine hK _ _ hH ?_; clear hK hB hHeld; have hHeld := hH; clear hH
  try simp only [Act.put, List.setIfInBounds_toArray, List.set_cons_zero, List.set_cons_succ]
  refine tkOne 7 rfl (by decide +kernel) rfl (fun K hK => ?_)
  go_simp
  refine (HTt.out _).mono ?_; rintro e w3_ ⟨rfl, hB⟩; have hH := hHeld.trans (hB.mono hHeld.size); refine hK _ _ hH ?_; clear hK hB hHeld; have hHeld := hH; clear hH
  try simp only [Act.put, List.setIfInBounds_toArray, List.set_cons_zero, List.set_cons_succ]
  refine tkFree (i := 8) rfl (by kernel_rfl) (by kernel_rfl) (by kernel_rfl) (fun _ _ _ h => h) (.inl ⟨by rfl, fun w hSw => by go_simp; rfl⟩) hHeld ?_
  simp only [Act.put, List.setIfInBounds_toArray, List.set_cons_zero, List.set_cons_succ]
  refine tkFree (i := 9) rfl (by kernel_rfl) (by kernel_rfl) (by kernel_rfl) (fun _ _ _ h => h) (.inl ⟨by rfl, fun w hSw => by go_simp; rfl⟩) hHeld ?_
  simp only [Act.put, List.setIfInBounds_toArray, List.set_cons_zero, List.set_cons_succ]
  refine wpAnyH_done (by kernel_rfl) ?_ _
  obtain ⟨w5, rfl⟩ : ∃ x, x = w3_ := ⟨w3_, rfl⟩; have H5 := Lib.hid hHeld; clear hHeld ha1 ha2; go_wp2_with (fail)
  go_loopw [10] (fun u wr => ∃ i : Nat, i ≤ noughtN s0.length ∧ u = Sv (s0 ++ List.replicate i 0) ∧ wr = w5) (fun u _ => s0.length + 128 - lenS u)
  case atStart => exact ⟨0, Nat.zero_le _, by simp, rfl⟩
  case round =>
    obtain ⟨i, hi, rfl, rfl⟩ := hrel; obtain ⟨u, hu⟩ : ∃ u, u = s0 ++ List.replicate i 0 := ⟨_, rfl⟩; rw [← hu]
    have hul : u.length = s0.length + i := by rw [hu]; simp
    obtain ⟨U, hU⟩ : ∃ U, U = s0.length + i := ⟨_, rfl⟩
    have lu : ∀ w ty, (Builtin.len_ #[9] ty #[Sv u]).run Tryd.prog w = .ok (.int .i64 (U : Int)) w := fun w ty => by rw [run_len_Sv w ty u, hul, hU]
    obtain ⟨q, hq⟩ : ∃ q : Nat, q = U % 128 := ⟨_, rfl⟩
    have htm : Int.tmod (U : Int) 128 = (q : Int) := by
      rw [Int.tmod_eq_emod_of_nonneg (by omega), hq]
      rfl
    have hqw : IntKind.i64.wrap (q : Int) = (q : Int) := IntWalk.i64_in _ (by omega)
    have HU : Hid (u = s0 ++ List.replicate i 0 ∧ u.length = s0.length + i ∧ U = s0.length + i ∧ q = U % 128 ∧ i ≤ noughtN s0.length) := Lib.hid ⟨hu, hul, hU, hq, hi⟩; clear hu hul hU hq hi
    by_cases hq0 : q = 0
    · subst hq0
      have hin := nought_whole s0.length i HU.out.2.2.2.2 (by have := HU.out.2.2.1; have := HU.out.2.2.2.1; omega)
      have hun : u = s0 ++ List.replicate (noughtN s0.length) 0 := by rw [HU.out.1, hin]
      have HUn := Lib.hid hun; clear hin hun
      go_upto_region 6 with (fail)
      obtain ⟨w5, rfl⟩ : ∃ x, x = wr := ⟨wr, rfl⟩
      have hne : zb ≠ hb := by have := H4.out.2.2; omega
      have hS0 : Below w.heap.size w w5.drew := H1.out.1.trans ((H4.out.1.trans (H5.out.drew.mono H4.out.1.size)).mono H1.out.1.size); have hh0 : w5.drew.heap[hb]? = some (.cells (byA hd) 23 (0, 0)) := (H5.out.drew.block _ (Array.getElem?_eq_some_iff.1 H4.out.2.1).1).trans H4.out.2.1; have hz5 : w5.drew.heap[zb]? = some (.cells ZT 23 (0, 0)) := ((H4.out.1.trans (H5.out.drew.mono H4.out.1.size)).block _ (Array.getElem?_eq_some_iff.1 H1.out.2.2.2.1).1).trans H1.out.2.2.2.1
      have hB6 : Below w.heap.size w (w5.drew.setRow zb (byA hd)) := hS0.trans ⟨rfl, rfl, rfl, by simp, fun k hk => setRow_other _ _ _ _ (by have := H1.out.2.2.2.2.1; omega)⟩
      have hh6 : (w5.drew.setRow zb (byA hd)).heap[hb]? = some (.cells (byA hd) 23 (0, 0)) := (setRow_other _ _ _ _ (fun h => hne h.symm)).trans hh0; have hz6 : (w5.drew.setRow zb (byA hd)).heap[zb]? = some (.cells (byA hd) 23 (0, 0)) := setRow_heap _ _ ZT _ _ _ hz5
      refine wp_region_held_drew (S := fun w' => Below w.heap.size w w' ∧ w'.heap[hb]? = some (.cells (byA hd) 23 (0, 0))) (by kernel_rfl) ⟨hS0, hh0⟩ (fun hHeld => ?_)
      refine tkFree (i := 0) rfl (by kernel_rfl) (by kernel_rfl) (by kernel_rfl) (fun _ _ _ h => h) (.inl ⟨by rfl, fun w hSw => by go_simp; rfl⟩) hHeld ?_
      simp only [Act.put, List.setIfInBounds_toArray, List.set_cons_zero, List.set_cons_succ]
      refine tkFree (i := 1) (v := .agg (byA hd)) rfl (by kernel_rfl) (by kernel_rfl) (by kernel_rfl) (fun _ _ _ h => h) (yieldsIf_load_at (by rfl) 23 _ rfl ⟨hb, 0, none⟩ rfl (fun w hS => load_row32 HLen.out.1 hS.2)) hHeld ?_
      simp only [Act.put, List.setIfInBounds_toArray, List.set_cons_zero, List.set_cons_succ]
      refine tkFree (i := 2) rfl (by kernel_rfl) (by kernel_rfl) (by kernel_rfl) (fun _ _ _ h => h) (.inl ⟨by rfl, fun w hSw => by go_simp; rfl⟩) hHeld ?_
      simp only [Act.put, List.setIfInBounds_toArray, List.set_cons_zero, List.set_cons_succ]
      refine tkOne 3 rfl (by decide +kernel) rfl (fun K hK => ?_)
      refine wp_store_row 23 (.tmp 7) (.tmp 32) rfl zb (byA hd) rfl rfl 23 ZT hz5 (arr_size _ HLen.out.1) (by rw [H1.out.2.2.2.2.2.1, byA_size, byA_size, HLen.out.1]; rfl) (byA_one _) ?_
      refine hK _ _ ⟨hB6, hh6⟩ ?_; clear hK hHeld
      try simp only [Act.put, ]
      refine wpAnyH_done (by kernel_rfl) ?_ _
      rename_i hk1 _ _
      refine hk1 _ _ ?_; go_wp2_with (fail); refine bodyPost_ret (v := .tuple #[Sv u, .agg (byA hd)]) ((results_tmp_cell (s := 6) (p := 7) rfl _ _ zb 23 (byA hd) (0, 0) _ rfl hz6 Tryd.underlying23 rfl (arr_size _ HLen.out.1)).trans rfl) rfl ?_; rw [H1.out.2.2.2.2.2.2.2.2, HUn.out]; exact ⟨rfl, hB6⟩
    · have hq1 : ((q : Int) != 0) = true := by simpa using hq0
      have ha : ∀ w, (binOp .add 9 (Sv u) (.string ⟨#[0]⟩)).run Tryd.prog w = .ok (Sv (u ++ [0])) w := fun w => run_add_S0 w u (by have := HU.out.2.1; have := HU.out.2.2.2.2; have := HLen.out.2.2; omega)
      go_wp2_with (fail)
      refine ⟨⟨i + 1, nought_more s0.length i HU.out.2.2.2.2 (by have := HU.out.2.2.1; have := HU.out.2.2.2.1; omega), ?_, by trivial⟩, ?_⟩
      · rw [HU.out.1, List.replicate_succ', ← List.append_assoc]; rfl
      · show s0.length + 128 - lenS (Sv (u ++ [0])) < s0.length + 128 - lenS (Sv u)
        rw [lenS_Sv, lenS_Sv, List.length_append, List.length_singleton]; have := HU.out.2.1; have := HU.out.2.2.2.2; have := HLen.out.2.2.2; omega
end Go.Proofs.YtdmnhgbdeifpbaaDoor
namespace Go.Proofs.YtdmnhgbdeifpbaaDoor
open Go Go.RowKit
section
variable {key ahead s body tag : List (BitVec 8)} {seq e : Int} {z : Bool} {k : Nat}
def Opens (s body tag : List (BitVec 8)) (z : Bool) (k : Nat) : Prop := (takeB s).e = 0 ∧ (takeB s).body = body ∧ (takeB s).tag = tag ∧ z = !((takeB s).behind.any fun x => x != 0) ∧ (takeB s).blocks = k
theorem openB_err (h : (takeB s).e = e) (h0 : e ≠ 0) : openB key ahead seq s = (zeroR, ahead, 0, e) := by
  unfold openB
  rw [if_pos (by rw [h]; exact h0), h]
theorem openB_z (h : Opens s body tag false k) : openB key ahead seq s = (zeroR, ahead, 0, 40) := by
  obtain ⟨h1, h2, h3, h4, h5⟩ := h
  unfold openB
  rw [if_neg (by simp [h1]), if_pos (.inr (by simpa using h4))]
theorem openB_tag (h : Opens s body tag z k) (ht : tag ≠ tagL key (headL ahead body)) : openB key ahead seq s = (zeroR, ahead, 0, 40) := by
  obtain ⟨h1, h2, h3, h4, h5⟩ := h
  unfold openB
  rw [if_neg (by simp [h1]), if_pos (.inl (by rw [h2, h3]; exact fun h => ht h.symm))]
theorem openB_in (h : Opens s body tag true k) (ht : tag = tagL key (headL ahead body)) : openB key ahead seq s = if (readR body).2 ≠ 0 then (zeroR, ahead, 0, (readR body).2) else if (readR body).1.seq ≠ seq then (zeroR, ahead, 0, 40) else ((readR body).1, headL ahead body, k, 0) := by
  obtain ⟨h1, h2, h3, h4, h5⟩ := h
  unfold openB
  have h6 : ((takeB s).behind.any fun x => x != 0) = false := by simpa using h4
  rw [if_neg (by simp [h1]), h2, h3, if_neg (fun h => h.elim (fun h => h ht.symm) (fun h => by rw [h6] at h; cases h)), h5]
end
structure O14 (w wr : World) (ab rz hz zb b : Nat) (ahead : List (BitVec 8)) (ZR ZT : Array Value) (t : TapeL) : Prop where
  nums : ab = w.heap.size ∧ rz = w.heap.size + 1 ∧ hz = w.heap.size + 2 ∧ zb = w.heap.size + 3 ∧ b = w.heap.size + 4
  a : wr.heap[ab]? = some (.cells (byA ahead) 23 (0, 0))
  r : wr.heap[rz]? = some (.cells ZR 25 (0, 0))
  h : wr.heap[hz]? = some (.cells ZT 23 (0, 0))
  z : wr.heap[zb]? = some (.cells ZR 25 (0, 0))
  tape : TapeAt wr b t
  below : Below w.heap.size w wr
section
variable {w wr w' : World} {ab rz hz zb b : Nat} {ahead : List (BitVec 8)} {ZR ZT : Array Value} {t t' : TapeL}
theorem O14.tape_ (h : O14 w wr ab rz hz zb b ahead ZR ZT t) (h1 : TapeAt w' b t') (hg : wr.grownBy w' (some b)) : O14 w w' ab rz hz zb b ahead ZR ZT t' := by
  obtain ⟨e1, e2, e3, e4, e5⟩ := h.nums
  have f : ∀ {q : Nat} {o}, wr.heap[q]? = some o → q ≠ b → w'.heap[q]? = some o := fun {q o} hq hne => (hg.block _ (Array.getElem?_eq_some_iff.1 hq).1 (by simpa using hne)).trans hq
  exact ⟨h.nums, f h.a (by omega), f h.r (by omega), f h.h (by omega), f h.z (by omega), h1, h.below.trans ⟨hg.os, hg.tape, hg.output, hg.size, fun i hi => hg.block i (by have := h.below.size; omega) (by simp; omega)⟩⟩
theorem O14.far (h : O14 w wr ab rz hz zb b ahead ZR ZT t) (hB : Below wr.heap.size wr w') : O14 w w' ab rz hz zb b ahead ZR ZT t := by
  have f : ∀ {q : Nat} {o}, wr.heap[q]? = some o → w'.heap[q]? = some o := fun {q o} hq => (hB.block _ (Array.getElem?_eq_some_iff.1 hq).1).trans hq
  exact ⟨h.nums, f h.a, f h.r, f h.h, f h.z, f h.tape, h.below.trans (hB.mono h.below.size)⟩
theorem O14.lt (h : O14 w wr ab rz hz zb b ahead ZR ZT t) : b < wr.heap.size := (Array.getElem?_eq_some_iff.1 h.tape).1
end
def OLoop (w : World) (ab rz hz zb b : Nat) (ahead : List (BitVec 8)) (ZR ZT : Array Value) (N0 : Nat) (r0 : List (BitVec 8)) (u v : Value) (wr : World) : Prop :=
  ∃ i : Nat, i ≤ noughtN N0 ∧ i ≤ r0.length ∧ u = .int .i64 ((N0 + i : Nat) : Int) ∧ v = .bool (noughts r0 i) ∧ O14 w wr ab rz hz zb b ahead ZR ZT ⟨r0.drop i, 0⟩
set_option maxRecDepth 100000 in
set_option maxHeartbeats 8000000 in
theorem rropen_any (w : World) (key ahead s : List (BitVec 8)) (seq : Int) (hkl : key.length ≤ 100000) (ha : ahead.length = 32) (hsl : s.length ≤ 1000000) :
    Calls Tryd.prog 22 #[Sv key, .agg (byA ahead), .int .i64 seq, Sv s] w (OpenEnd w (openB key ahead seq s)) := by
  obtain ⟨P, hP⟩ : ∃ P : Ending → World → Prop, P = OpenEnd w (openB key ahead seq s) := ⟨_, rfl⟩
  rw [← hP]
  obtain ⟨ZR, hZR⟩ : ∃ z, z = zeroC := ⟨_, rfl⟩
  have hzr := zero_rec.1
  rw [← hZR] at hzr
  obtain ⟨ZT, hZT⟩ : ∃ z, z = byA zeroH := ⟨_, rfl⟩
  have hzt := zero_root.1
  rw [← hZT] at hzt
  obtain ⟨AT, hAT⟩ : ∃ z, z = byA ahead := ⟨_, rfl⟩
  rw [← hAT]
  obtain ⟨w1, hw1⟩ : ∃ W, W = ((((w.alloc (.cells AT 23)).alloc (.cells ZR 25)).alloc (.cells ZT 23)).alloc (.cells ZR 25)).alloc (.cells #[Sv s, .int .i64 0] 70) := ⟨_, rfl⟩
  obtain ⟨ab, hab⟩ : ∃ b, b = w.heap.size := ⟨_, rfl⟩
  obtain ⟨rz, hrz⟩ : ∃ b, b = w.heap.size + 1 := ⟨_, rfl⟩
  obtain ⟨hz, hhz⟩ : ∃ b, b = w.heap.size + 1 + 1 := ⟨_, rfl⟩
  obtain ⟨zb, hzb⟩ : ∃ b, b = w.heap.size + 1 + 1 + 1 := ⟨_, rfl⟩
  obtain ⟨b, hb⟩ : ∃ b, b = w.heap.size + 1 + 1 + 1 + 1 := ⟨_, rfl⟩
  have hs1 : (w.alloc (.cells AT 23)).heap.size = w.heap.size + 1 := by simp
  have hs2 : ((w.alloc (.cells AT 23)).alloc (.cells ZR 25)).heap.size = w.heap.size + 1 + 1 := by simp
  have hs3 : (((w.alloc (.cells AT 23)).alloc (.cells ZR 25)).alloc (.cells ZT 23)).heap.size = w.heap.size + 1 + 1 + 1 := by simp
  have hs4 : ((((w.alloc (.cells AT 23)).alloc (.cells ZR 25)).alloc (.cells ZT 23)).alloc (.cells ZR 25)).heap.size = w.heap.size + 1 + 1 + 1 + 1 := by simp
  have h1 : O14 w w1 ab rz hz zb b ahead ZR ZT ⟨s, 0⟩ := by
    refine ⟨by omega, ?_, ?_, ?_, ?_, ?_, ?_⟩
    · rw [hw1, hab, heap_alloc_old _ _ (by rw [hs4]; omega), heap_alloc_old _ _ (by rw [hs3]; omega), heap_alloc_old _ _ (by rw [hs2]; omega), heap_alloc_old _ _ (by rw [hs1]; omega), ← hAT]
      exact heap_alloc_new w _
    · rw [hw1, hrz, heap_alloc_old _ _ (by rw [hs4]; omega), heap_alloc_old _ _ (by rw [hs3]; omega), heap_alloc_old _ _ (by rw [hs2]; omega), ← hs1]
      exact heap_alloc_new _ _
    · rw [hw1, hhz, heap_alloc_old _ _ (by rw [hs4]; omega), heap_alloc_old _ _ (by rw [hs3]; omega), ← hs2]
      exact heap_alloc_new _ _
    · rw [hw1, hzb, heap_alloc_old _ _ (by rw [hs4]; omega), ← hs3]
      exact heap_alloc_new _ _
    · show w1.heap[b]? = _
      rw [hw1, hb, ← hs4]
      exact heap_alloc_new _ _
    · rw [hw1]
      exact (((((Below.refl _ w).alloc (Nat.le_refl _) _).alloc (by rw [hs1]; omega) _).alloc (by rw [hs2]; omega) _).alloc (by rw [hs3]; omega) _).alloc (by rw [hs4]; omega) _
  have H1 := Lib.hid h1
  have HN := Lib.hid (And.intro hP (And.intro hZR (And.intro hZT hAT)))
  have HA := Lib.hid (And.intro ha (And.intro hkl hsl))
  clear h1 hP hZR hZT hAT ha hkl hsl
  have hbuilt : Tryd.prog.built 70 [(0, Sv s)] = some #[Sv s, .int .i64 0] := by kernel_rfl
  go_enter Tryd.func22, Tryd.ntmps22
  go_upto_region 2 with (fail)
  refine wp_region_lit ?_
  iterate 3 go_step
  refine wpList_built_at rfl 70 _ rfl (cs := #[Sv s, .int .i64 0]) (by simpa [Act.eval] using hbuilt) ?_
  go_upto_region 3 with (fail)
  try simp only [hs1, hs2, hs3, hs4]
  rw [← hw1, ← hb, ← hzb, ← hhz, ← hrz, ← hab]
  clear hw1 hab hrz hhz hzb hb hs1 hs2 hs3 hs4 hbuilt
  obtain ⟨body, hbody⟩ : ∃ k, k = (front s).1 := ⟨_, rfl⟩
  obtain ⟨t1, ht1⟩ : ∃ k, k = (front s).2 := ⟨_, rfl⟩
  obtain ⟨tag, htag⟩ : ∃ k, k = (t1.fixed 32).1 := ⟨_, rfl⟩
  obtain ⟨t2, ht2⟩ : ∃ k, k = (t1.fixed 32).2 := ⟨_, rfl⟩
  have hn1 : Calls Tryd.prog 57 #[.pointer (some ⟨b, 0, none⟩), .int .i64 4096] w1 (TapeEnd w1 b t1 (Sv body)) := by
    rw [ht1, hbody]
    exact rtText_any w1 b ⟨s, 0⟩ 4096 H1.out.tape
  have HF : Hid (body.length ≤ 4096 ∧ (t2 = ⟨[], 12⟩ ∧ (takeB s).e = 11 ∨ ((take3 s).1 = body ∧ take4 s = (tag, t2) ∧ t2.e ≠ 12))) := by
    refine Lib.hid ⟨?_, ?_⟩
    · rw [hbody]
      exact text_le ⟨s, 0⟩ 4096 (by decide)
    · have h := frontE_code s
      unfold frontE at h
      rw [← ht1, ← ht2] at h
      rcases h with h | ⟨h3, h4, h5⟩
      · exact .inl h
      · exact .inr ⟨by rw [← h3, hbody], by rw [← h4, htag, ht2], h5⟩
  have HT : Hid (tag = (t1.fixed 32).1 ∧ t2 = (t1.fixed 32).2) := Lib.hid ⟨htag, ht2⟩
  clear hbody ht1 htag ht2
  go_wp2_with (fail)
  refine hn1.mono ?_
  clear hn1
  rintro e w2 ⟨rfl, hT, hg⟩
  have H2 := Lib.hid (H1.out.tape_ hT hg)
  clear hT hg
  have hn2 : Calls Tryd.prog 38 #[.pointer (some ⟨b, 0, none⟩), .int .i64 32] w2 (TapeEnd w2 b t2 (Sv tag)) := by
    rw [HT.out.1, HT.out.2]
    exact rtFixed_any w2 b t1 32 H2.out.tape
  dsimp only
  go_wp2_with (fail)
  refine hn2.mono ?_
  clear hn2
  rintro e w3 ⟨rfl, hT, hg⟩
  have H3 := Lib.hid (H2.out.tape_ hT hg)
  clear hT hg HT H2
  dsimp only
  obtain ⟨te, hte⟩ : ∃ x, x = t2.e := ⟨_, rfl⟩
  obtain ⟨r0, hr0⟩ : ∃ x, x = t2.s := ⟨_, rfl⟩
  have ht2 : t2 = ⟨r0, te⟩ := by rw [hr0, hte]
  rw [ht2] at H3 HF
  clear hte hr0 ht2
  obtain ⟨d0, d1, -⟩ := H3.out.tape.cells
  dsimp only at d0 d1
  by_cases h12 : te = 12
  · subst h12
    have HOB : Hid (openB key ahead seq s = (zeroR, ahead, 0, 11)) := Lib.hid (openB_err (by rcases HF.out.2 with ⟨_, h⟩ | ⟨_, _, h⟩; exact h; exact absurd rfl h) (by decide))
    have HQ : Hid (True ∧ (Tryd.prog.info? 25).map (·.size) = some ZR.size ∧ ZR.size = ZR.size ∧ ahead.length = 32 ∧ ZR.all (·.oneCell') = true ∧ True) := Lib.hid ⟨trivial, by rw [HN.out.2.1]; exact rec_size _ _ _ _ _ zeroH_len, rfl, HA.out.1, by rw [HN.out.2.1]; exact recC_one _ rfl, trivial⟩
    have HX : Hid (w3.drew.heap[rz]? = some (.cells ZR 25 (0, 0)) ∧ w3.drew.heap[hz]? = some (.cells ZT 23 (0, 0)) ∧ Below w.heap.size w w3.drew ∧ rz ≠ hz ∧ w.heap.size ≤ rz ∧ w.heap.size ≤ hz ∧ ab ≠ rz ∧ zb ≠ rz ∧ b ≠ rz ∧ ab ≠ hz ∧ zb ≠ hz ∧ b ≠ hz) := by
      have h := H3.out
      obtain ⟨n1, n2, n3, n4, n5⟩ := h.nums
      exact Lib.hid ⟨h.r, h.h, h.below.drew, by omega, by omega, by omega, by omega, by omega, by omega, by omega, by omega, by omega⟩
    have hdr : w3.drew.heap[ab]? = some (.cells (byA ahead) 23 (0, 0)) ∧ w3.drew.heap[zb]? = some (.cells ZR 25 (0, 0)) ∧ TapeAt w3.drew b ⟨r0, 12⟩ := by
      have h := H3.out
      exact ⟨h.a, h.z, h.tape⟩
    go_upto_region 6 with (fail)
    refine wp_region_held_drew (S := fun w' => w'.heap[ab]? = some (.cells (byA ahead) 23 (0, 0)) ∧ w'.heap[zb]? = some (.cells ZR 25 (0, 0)) ∧ TapeAt w' b ⟨r0, 12⟩) (by kernel_rfl) hdr (fun hHeld => ?_)
    clear hdr
    refine tkFree (i := 0) (v := .agg ZR) rfl (by kernel_rfl) (by kernel_rfl) (by kernel_rfl) (fun _ _ _ h => h) (yieldsIf_load_at (by rfl) 25 _ rfl ⟨zb, 0, none⟩ rfl (fun w hS => run_loadVar_row w _ _ _ _ _ _ hS.2.1 Tryd.underlying25 rfl HQ.out.2.1)) hHeld ?_
    simp only [Act.put, List.setIfInBounds_toArray, List.set_cons_zero, List.set_cons_succ]
    refine tkFree (i := 1) (v := .agg (byA ahead)) rfl (by kernel_rfl) (by kernel_rfl) (by kernel_rfl) (fun _ _ _ h => h) (yieldsIf_load_at (by rfl) 23 _ rfl ⟨ab, 0, none⟩ rfl (fun w hS => load_row32 HQ.out.2.2.2.1 hS.1)) hHeld ?_
    simp only [Act.put, List.setIfInBounds_toArray, List.set_cons_zero, List.set_cons_succ]
    refine tkOne 2 rfl (by kernel_rfl) rfl (fun K hK => ?_)
    obtain ⟨z1, z2, z3, z4⟩ := two_stored (C := ZR) (T := byA ahead) HX.out.1 HX.out.2.1 HX.out.2.2.2.1 HX.out.2.2.1 HX.out.2.2.2.2.1 HX.out.2.2.2.2.2.1
    refine wp_store_row _ (.tmp 8) (.tmp 33) rfl rz ZR rfl rfl 25 ZR HX.out.1 HQ.out.2.1 HQ.out.2.2.1 HQ.out.2.2.2.2.1 ?_
    have hH2 := And.intro ((setRow_other w3.drew rz ab ZR HX.out.2.2.2.2.2.2.1).trans hHeld.1) (And.intro ((setRow_other w3.drew rz zb ZR HX.out.2.2.2.2.2.2.2.1).trans hHeld.2.1) ((setRow_other w3.drew rz b ZR HX.out.2.2.2.2.2.2.2.2.1).trans hHeld.2.2))
    refine hK _ _ hH2 ?_
    clear hK hHeld
    have hHeld := hH2
    try simp only [Act.put]
    refine tkOne 3 rfl (by kernel_rfl) rfl (fun K hK => ?_)
    refine wp_store_row _ (.tmp 9) (.tmp 34) rfl hz (byA ahead) rfl rfl 23 ZT z4 (arr_size _ HQ.out.2.2.2.1) (by rw [HN.out.2.2.1, byA_size, byA_size, HQ.out.2.2.2.1]; rfl) (byA_one _) ?_
    have hH3 := And.intro ((setRow_other (w3.drew.setRow rz ZR) hz ab (byA ahead) HX.out.2.2.2.2.2.2.2.2.2.1).trans hHeld.1) (And.intro ((setRow_other (w3.drew.setRow rz ZR) hz zb (byA ahead) HX.out.2.2.2.2.2.2.2.2.2.2.1).trans hHeld.2.1) ((setRow_other (w3.drew.setRow rz ZR) hz b (byA ahead) HX.out.2.2.2.2.2.2.2.2.2.2.2).trans hHeld.2.2))
    refine hK _ _ hH3 ?_
    clear hK hHeld hH2
    have hHeld := hH3
    clear hH3
    try simp only [Act.put]
    refine tkFree (i := 4) rfl (by kernel_rfl) (by kernel_rfl) (by kernel_rfl) (fun _ _ _ h => h) (.inl ⟨by rfl, fun w hSw => by go_simp; rfl⟩) hHeld ?_
    simp only [Act.put, List.setIfInBounds_toArray, List.set_cons_zero, List.set_cons_succ]
    refine tkFree (i := 5) rfl (by kernel_rfl) (by kernel_rfl) (by kernel_rfl) (fun _ _ _ h => h) (.inl ⟨by rfl, fun w hSw => by go_simp; rfl⟩) hHeld ?_
    simp only [Act.put, List.setIfInBounds_toArray, List.set_cons_zero, List.set_cons_succ]
    clear hHeld
    refine wpAnyH_done (by kernel_rfl) ?_ _
    obtain ⟨W7, hW7⟩ : ∃ W, W = (w3.drew.setRow rz ZR).setRow hz (byA ahead) := ⟨_, rfl⟩
    have HZ : Hid (P (.returned (.tuple #[.agg ZR, .agg (byA ahead), .int .i64 0, .int .i64 11])) W7 ∧ W7.heap[rz]? = some (.cells ZR 25 (0, 0)) ∧ W7.heap[hz]? = some (.cells (byA ahead) 23 (0, 0))) := by
      rw [← hW7] at z1 z2 z3
      refine Lib.hid ⟨?_, z1, z2⟩
      rw [HN.out.1, HOB.out, HN.out.2.1]
      exact ⟨none, 0, rfl, .inl rfl, zeroH_len, HA.out.1, z3⟩
    rw [← hW7]
    clear hW7 z1 z2 z3 z4
    go_wp2_with (fail)
    refine bodyPost_ret (v := .tuple #[.agg ZR, .agg (byA ahead), .int .i64 0, .int .i64 11]) ?_ rfl HZ.out.1
    exact results_cell2_tmp2 (p1 := 8) (p2 := 9) (s1 := 10) (s2 := 11) rfl _ _ rz hz 25 23 ZR (byA ahead) (0, 0) (0, 0) _ _ rfl rfl HZ.out.2.1 HZ.out.2.2 Tryd.underlying25 rfl HQ.out.2.1 Tryd.underlying23 rfl (arr_size _ HQ.out.2.2.2.1)
  have q12 : (te == 12) = false := by simpa using h12
  by_cases h0 : te = 0
  rotate_left
  · have q0 : (te != 0) = true := by simpa using h0
    have hE : (takeB s).e = te := by
      rcases HF.out.2 with ⟨h, _⟩ | ⟨_, h, _⟩
      · rw [TapeL.mk.injEq] at h
        exact absurd h.2 h12
      · have h9 := take_err s (by rw [h]; exact h0)
        rwa [h] at h9
    have HEE := Lib.hid (And.intro hE h0)
    clear hE h0 h12
    have HOB : Hid (openB key ahead seq s = (zeroR, ahead, 0, te)) := Lib.hid (openB_err HEE.out.1 HEE.out.2)
    have HQ : Hid (True ∧ (Tryd.prog.info? 25).map (·.size) = some ZR.size ∧ ZR.size = ZR.size ∧ ahead.length = 32 ∧ ZR.all (·.oneCell') = true ∧ True) := Lib.hid ⟨trivial, by rw [HN.out.2.1]; exact rec_size _ _ _ _ _ zeroH_len, rfl, HA.out.1, by rw [HN.out.2.1]; exact recC_one _ rfl, trivial⟩
    have HX : Hid (w3.drew.heap[rz]? = some (.cells ZR 25 (0, 0)) ∧ w3.drew.heap[hz]? = some (.cells ZT 23 (0, 0)) ∧ Below w.heap.size w w3.drew ∧ rz ≠ hz ∧ w.heap.size ≤ rz ∧ w.heap.size ≤ hz ∧ ab ≠ rz ∧ zb ≠ rz ∧ b ≠ rz ∧ ab ≠ hz ∧ zb ≠ hz ∧ b ≠ hz) := by
      have h := H3.out
      obtain ⟨n1, n2, n3, n4, n5⟩ := h.nums
      exact Lib.hid ⟨h.r, h.h, h.below.drew, by omega, by omega, by omega, by omega, by omega, by omega, by omega, by omega, by omega⟩
    have hdr : w3.drew.heap[ab]? = some (.cells (byA ahead) 23 (0, 0)) ∧ w3.drew.heap[zb]? = some (.cells ZR 25 (0, 0)) ∧ TapeAt w3.drew b ⟨r0, te⟩ := by
      have h := H3.out
      exact ⟨h.a, h.z, h.tape⟩
    go_upto_region 8 with (fail)
    refine wp_region_held_drew (S := fun w' => w'.heap[ab]? = some (.cells (byA ahead) 23 (0, 0)) ∧ w'.heap[zb]? = some (.cells ZR 25 (0, 0)) ∧ TapeAt w' b ⟨r0, te⟩) (by kernel_rfl) hdr (fun hHeld => ?_)
    clear hdr
    refine tkFree (i := 0) (v := .agg ZR) rfl (by kernel_rfl) (by kernel_rfl) (by kernel_rfl) (fun _ _ _ h => h) (yieldsIf_load_at (by rfl) 25 _ rfl ⟨zb, 0, none⟩ rfl (fun w hS => run_loadVar_row w _ _ _ _ _ _ hS.2.1 Tryd.underlying25 rfl HQ.out.2.1)) hHeld ?_
    simp only [Act.put, List.setIfInBounds_toArray, List.set_cons_zero, List.set_cons_succ]
    refine tkFree (i := 1) (v := .agg (byA ahead)) rfl (by kernel_rfl) (by kernel_rfl) (by kernel_rfl) (fun _ _ _ h => h) (yieldsIf_load_at (by rfl) 23 _ rfl ⟨ab, 0, none⟩ rfl (fun w hS => load_row32 HQ.out.2.2.2.1 hS.1)) hHeld ?_
    simp only [Act.put, List.setIfInBounds_toArray, List.set_cons_zero, List.set_cons_succ]
    refine tkFree (i := 2) rfl (by kernel_rfl) (by kernel_rfl) (by kernel_rfl) (fun _ _ _ h => h) (.inl ⟨by rfl, fun w hSw => by go_simp; rfl⟩) hHeld ?_
    simp only [Act.put, List.setIfInBounds_toArray, List.set_cons_zero, List.set_cons_succ]
    refine tkFree (i := 3) rfl (by kernel_rfl) (by kernel_rfl) (by kernel_rfl) (fun _ _ _ h => h) (.inl ⟨by rfl, fun w hSw => by obtain ⟨g0, g1, -⟩ := TapeAt.cells hSw.2.2; go_simp; rfl⟩) hHeld ?_
    simp only [Act.put, List.setIfInBounds_toArray, List.set_cons_zero, List.set_cons_succ]
    refine tkFree (i := 4) rfl (by kernel_rfl) (by kernel_rfl) (by kernel_rfl) (fun _ _ _ h => h) (.inl ⟨by rfl, fun w hSw => by obtain ⟨g0, g1, -⟩ := TapeAt.cells hSw.2.2; go_simp; rfl⟩) hHeld ?_
    simp only [Act.put, List.setIfInBounds_toArray, List.set_cons_zero, List.set_cons_succ]
    refine tkFree (i := 5) rfl (by kernel_rfl) (by kernel_rfl) (by kernel_rfl) (fun _ _ _ h => h) (.inl ⟨by rfl, fun w hSw => by obtain ⟨g0, g1, -⟩ := TapeAt.cells hSw.2.2; go_simp; rfl⟩) hHeld ?_
    simp only [Act.put, List.setIfInBounds_toArray, List.set_cons_zero, List.set_cons_succ]
    refine tkOne 6 rfl (by kernel_rfl) rfl (fun K hK => ?_)
    obtain ⟨z1, z2, z3, z4⟩ := two_stored (C := ZR) (T := byA ahead) HX.out.1 HX.out.2.1 HX.out.2.2.2.1 HX.out.2.2.1 HX.out.2.2.2.2.1 HX.out.2.2.2.2.2.1
    refine wp_store_row _ (.tmp 8) (.tmp 40) rfl rz ZR rfl rfl 25 ZR HX.out.1 HQ.out.2.1 HQ.out.2.2.1 HQ.out.2.2.2.2.1 ?_
    have hH2 := And.intro ((setRow_other w3.drew rz ab ZR HX.out.2.2.2.2.2.2.1).trans hHeld.1) (And.intro ((setRow_other w3.drew rz zb ZR HX.out.2.2.2.2.2.2.2.1).trans hHeld.2.1) ((setRow_other w3.drew rz b ZR HX.out.2.2.2.2.2.2.2.2.1).trans hHeld.2.2))
    refine hK _ _ hH2 ?_
    clear hK hHeld
    have hHeld := hH2
    try simp only [Act.put]
    refine tkOne 7 rfl (by kernel_rfl) rfl (fun K hK => ?_)
    refine wp_store_row _ (.tmp 9) (.tmp 41) rfl hz (byA ahead) rfl rfl 23 ZT z4 (arr_size _ HQ.out.2.2.2.1) (by rw [HN.out.2.2.1, byA_size, byA_size, HQ.out.2.2.2.1]; rfl) (byA_one _) ?_
    have hH3 := And.intro ((setRow_other (w3.drew.setRow rz ZR) hz ab (byA ahead) HX.out.2.2.2.2.2.2.2.2.2.1).trans hHeld.1) (And.intro ((setRow_other (w3.drew.setRow rz ZR) hz zb (byA ahead) HX.out.2.2.2.2.2.2.2.2.2.2.1).trans hHeld.2.1) ((setRow_other (w3.drew.setRow rz ZR) hz b (byA ahead) HX.out.2.2.2.2.2.2.2.2.2.2.2).trans hHeld.2.2))
    refine hK _ _ hH3 ?_
    clear hK hHeld hH2
    have hHeld := hH3
    clear hH3
    try simp only [Act.put]
    refine tkFree (i := 8) rfl (by kernel_rfl) (by kernel_rfl) (by kernel_rfl) (fun _ _ _ h => h) (.inl ⟨by rfl, fun w hSw => by go_simp; rfl⟩) hHeld ?_
    simp only [Act.put, List.setIfInBounds_toArray, List.set_cons_zero, List.set_cons_succ]
    refine tkFree (i := 9) rfl (by kernel_rfl) (by kernel_rfl) (by kernel_rfl) (fun _ _ _ h => h) (.inl ⟨by rfl, fun w hSw => by go_simp; rfl⟩) hHeld ?_
    simp only [Act.put, List.setIfInBounds_toArray, List.set_cons_zero, List.set_cons_succ]
    clear hHeld
    refine wpAnyH_done (by kernel_rfl) ?_ _
    obtain ⟨W7, hW7⟩ : ∃ W, W = (w3.drew.setRow rz ZR).setRow hz (byA ahead) := ⟨_, rfl⟩
    have HZ : Hid (P (.returned (.tuple #[.agg ZR, .agg (byA ahead), .int .i64 0, .int .i64 te])) W7 ∧ W7.heap[rz]? = some (.cells ZR 25 (0, 0)) ∧ W7.heap[hz]? = some (.cells (byA ahead) 23 (0, 0))) := by
      rw [← hW7] at z1 z2 z3
      refine Lib.hid ⟨?_, z1, z2⟩
      rw [HN.out.1, HOB.out, HN.out.2.1]
      exact ⟨none, 0, rfl, .inl rfl, zeroH_len, HA.out.1, z3⟩
    rw [← hW7]
    clear hW7 z1 z2 z3 z4
    go_wp2_with (fail)
    refine bodyPost_ret (v := .tuple #[.agg ZR, .agg (byA ahead), .int .i64 0, .int .i64 te]) ?_ rfl HZ.out.1
    exact results_cell2_tmp2 (p1 := 8) (p2 := 9) (s1 := 10) (s2 := 11) rfl _ _ rz hz 25 23 ZR (byA ahead) (0, 0) (0, 0) _ _ rfl rfl HZ.out.2.1 HZ.out.2.2 Tryd.underlying25 rfl HQ.out.2.1 Tryd.underlying23 rfl (arr_size _ HQ.out.2.2.2.1)
  subst h0
  clear h12 q12
  obtain ⟨SN, hSN⟩ : ∃ n, n = s.length := ⟨_, rfl⟩
  obtain ⟨RN, hRN⟩ : ∃ n, n = r0.length := ⟨_, rfl⟩
  have lu1 : ∀ w ty, (Builtin.len_ #[9] ty #[Sv s]).run Tryd.prog w = .ok (.int .i64 (SN : Int)) w := fun w ty => by rw [run_len_Sv w ty s, hSN]
  have lu2 : ∀ w ty, (Builtin.len_ #[9] ty #[Sv r0]).run Tryd.prog w = .ok (.int .i64 (RN : Int)) w := fun w ty => by rw [run_len_Sv w ty r0, hRN]
  have hF4 : (take3 s).1 = body ∧ take4 s = (tag, ⟨r0, 0⟩) := by
    rcases HF.out.2 with ⟨h, _⟩ | ⟨h, h', _⟩
    · rw [TapeL.mk.injEq] at h
      exact absurd h.2 (by decide)
    · exact ⟨h, h'⟩
  have hus : RN ≤ SN := by
    have h := take_used s
    rw [hF4.2] at h
    rw [hSN, hRN]
    exact h
  obtain ⟨N0, hN0⟩ : ∃ n, n = SN - RN := ⟨_, rfl⟩
  have hwr : IntKind.i64.wrap ((SN : Int) - (RN : Int)) = (N0 : Int) := by
    have := HA.out.2.2
    have e : ((SN : Int) - (RN : Int)) = (N0 : Int) := by omega
    rw [e]
    exact IntWalk.i64_in _ (by omega)
  have HF4 : Hid ((take3 s).1 = body ∧ take4 s = (tag, ⟨r0, 0⟩) ∧ N0 = s.length - r0.length ∧ N0 ≤ 1000000) := Lib.hid ⟨hF4.1, hF4.2, by rw [hN0, hSN, hRN], by have := HA.out.2.2; omega⟩
  clear hSN hRN hF4 hus hN0
  go_wp2_with (fail)
  clear lu1 lu2 hwr d0 d1
  go_loopw [16, 17] (OLoop w ab rz hz zb b ahead ZR ZT N0 r0) (fun u _ _ => N0 + 128 - (intOf u).toNat)
  case atStart => exact ⟨0, Nat.zero_le _, Nat.zero_le _, rfl, rfl, H3.out⟩
  case round =>
    obtain ⟨i, hi, hil, rfl, rfl, hO⟩ := hrel
    have HO := Lib.hid hO
    obtain ⟨d0, d1, f0, f1⟩ := hO.tape.cells
    clear hO
    obtain ⟨U, hU⟩ : ∃ U, U = N0 + i := ⟨_, rfl⟩
    rw [← hU]
    obtain ⟨q, hq⟩ : ∃ q : Nat, q = U % 128 := ⟨_, rfl⟩
    have htm : Int.tmod (U : Int) 128 = (q : Int) := by
      rw [Int.tmod_eq_emod_of_nonneg (by omega), hq]
      rfl
    have hqw : IntKind.i64.wrap (q : Int) = (q : Int) := IntWalk.i64_in _ (by omega)
    have HU : Hid (U = N0 + i ∧ q = U % 128 ∧ i ≤ noughtN N0 ∧ i ≤ r0.length) := Lib.hid ⟨hU, hq, hi, hil⟩
    clear hU hq hi hil
    by_cases hq0 : q = 0
    · subst hq0
      have hin := nought_whole N0 i HU.out.2.2.1 (by have := HU.out.1; have := HU.out.2.1; omega)
      obtain ⟨z, hz_⟩ : ∃ z, z = noughts r0 i := ⟨_, rfl⟩
      rw [← hz_]
      have HOp : Hid (Opens s body tag z (U / 128)) := by
        have h4 := HF4.out.2.1
        have h0 := HF4.out.2.2.1
        have hl := HU.out.2.2.2
        have hw := take_whole s (by rw [h4]) (by rw [h4, ← h0, ← hin]; exact hl)
        rw [h4, ← h0, ← hin, ← HU.out.1] at hw
        refine Lib.hid ⟨hw.1, HF4.out.1, ?_, ?_, hw.2.2⟩
        · show (take4 s).1 = tag
          rw [h4]
        · rw [hz_, hw.2.1]
          rfl
      clear hin hz_ d0 d1 f0 f1
      obtain ⟨w4, rfl⟩ : ∃ x, x = wr := ⟨wr, rfl⟩
      obtain ⟨HD, hHD⟩ : ∃ m, m = headL ahead body := ⟨_, rfl⟩
      obtain ⟨tg, htg⟩ : ∃ m, m = tagL key HD := ⟨_, rfl⟩
      have hhl : HD.length = 32 := by rw [hHD]; exact headL_len _ _
      have htl : tg.length = 32 := by rw [htg]; exact macL_tag_len _ _
      have HHe : Hid (∀ w', Calls Tryd.prog 19 #[.agg (byA ahead), Sv body] w' (Below0 w' (.agg (byA HD)))) := by
        rw [hHD]
        exact Lib.hid fun w' => rrhead_any w' ahead body HA.out.1 (by have := HF.out.1; omega)
      have HTh : Hid (∀ w', Calls Tryd.prog 27 #[.agg (byA HD)] w' (Below0 w' (Sv HD))) := Lib.hid fun w' => rtext14_any w' HD hhl
      have HTt : Hid (∀ w', Calls Tryd.prog 27 #[.agg (byA tg)] w' (Below0 w' (Sv tg))) := Lib.hid fun w' => rtext14_any w' tg htl
      obtain ⟨m4c, hm4c⟩ : ∃ m : List (BitVec 8), m = [76] ++ HD := ⟨_, rfl⟩
      have HTg : Hid (∀ w', Calls Tryd.prog 29 #[Sv key, Sv m4c] w' (Below0 w' (.agg (byA tg)))) := by
        refine Lib.hid fun w' => ?_
        have h9 := rtag_any w' key m4c HA.out.2.1 (by rw [hm4c, List.length_append]; simp; omega)
        have e9 : m4c = 76 :: HD := by rw [hm4c]; rfl
        rw [e9, tagL_is, ← htg, ← e9] at h9
        exact h9
      have HA1 : Hid (∀ w, (binOp .add 9 (.string ⟨#[76]⟩) (Sv HD)).run Tryd.prog w = .ok (Sv m4c) w) := by rw [hm4c]; exact Lib.hid fun w => run_add_Sv w [76] HD (by simp; omega)
      have HHd : Hid (HD = headL ahead body ∧ HD.length = 32 ∧ tg = tagL key (headL ahead body)) := Lib.hid ⟨hHD, hhl, by rw [htg, hHD]⟩
      clear hHD htg hhl htl hm4c
      go_upto_region 17 with (fail)
      refine wp_region_lit ?_
      refine wpList_load_at rfl 23 _ rfl ⟨ab, 0, none⟩ rfl (.agg (byA ahead)) (load_row32 HA.out.1 HO.out.a) ?_
      iterate 5 go_step
      refine (HHe.out w4).mono ?_
      rintro e w5 ⟨rfl, hB5⟩
      have H5 := Lib.hid (HO.out.far hB5)
      clear hB5 HHe
      dsimp only
      iterate 4 go_step
      refine wpList_store_row rfl _ (.tmp 18) (.tmp 85) rfl w5.heap.size (byA HD) rfl rfl 23 ZT (heap_alloc_new w5 _) (arr_size _ HHd.out.2.1) (by rw [HN.out.2.2.1, byA_size, byA_size, HHd.out.2.1]; rfl) (byA_one _) ?_
      obtain ⟨hb, hhb⟩ : ∃ b, b = w5.heap.size := ⟨_, rfl⟩
      obtain ⟨w6, hw6⟩ : ∃ W, W = (w5.alloc (.cells ZT 23)).setRow w5.heap.size (byA HD) := ⟨_, rfl⟩
      have H6 : Hid (O14 w w6 ab rz hz zb b ahead ZR ZT ⟨r0.drop i, 0⟩ ∧ w6.heap[hb]? = some (.cells (byA HD) 23 (0, 0)) ∧ b < hb) := by
        have k : Below w5.heap.size w5 w6 := by
          rw [hw6]
          have h1 := (Below.refl _ w5).alloc (Nat.le_refl _) (.cells ZT 23)
          exact h1.trans ⟨rfl, rfl, rfl, by simp, fun k hk => setRow_other _ _ _ _ (by omega)⟩
        refine Lib.hid ⟨H5.out.far k, ?_, ?_⟩
        · rw [hw6, hhb]
          exact setRow_heap _ _ ZT _ _ _ (heap_alloc_new w5 _)
        · rw [hhb]
          exact H5.out.lt
      rw [← hw6, ← hhb]
      clear hw6 hhb H5
      cases z with
      | false =>
        have HOB : Hid (openB key ahead seq s = (zeroR, ahead, 0, 40)) := Lib.hid (openB_z HOp.out)
        have HQ : Hid (True ∧ (Tryd.prog.info? 25).map (·.size) = some ZR.size ∧ ZR.size = ZR.size ∧ ahead.length = 32 ∧ ZR.all (·.oneCell') = true ∧ True) := Lib.hid ⟨trivial, by rw [HN.out.2.1]; exact rec_size _ _ _ _ _ zeroH_len, rfl, HA.out.1, by rw [HN.out.2.1]; exact recC_one _ rfl, trivial⟩
        have HX : Hid (w6.drew.heap[rz]? = some (.cells ZR 25 (0, 0)) ∧ w6.drew.heap[hz]? = some (.cells ZT 23 (0, 0)) ∧ Below w.heap.size w w6.drew ∧ rz ≠ hz ∧ w.heap.size ≤ rz ∧ w.heap.size ≤ hz ∧ ab ≠ rz ∧ zb ≠ rz ∧ b ≠ rz ∧ ab ≠ hz ∧ zb ≠ hz ∧ b ≠ hz) := by
          have h := H6.out.1
          obtain ⟨n1, n2, n3, n4, n5⟩ := h.nums
          exact Lib.hid ⟨h.r, h.h, h.below.drew, by omega, by omega, by omega, by omega, by omega, by omega, by omega, by omega, by omega⟩
        have hdr : w6.drew.heap[ab]? = some (.cells (byA ahead) 23 (0, 0)) ∧ w6.drew.heap[zb]? = some (.cells ZR 25 (0, 0)) ∧ TapeAt w6.drew b ⟨r0.drop i, 0⟩ := by
          have h := H6.out.1
          exact ⟨h.a, h.z, h.tape⟩
        go_upto_region 19 with (fail)
        refine wp_region_held_drew (S := fun w' => w'.heap[ab]? = some (.cells (byA ahead) 23 (0, 0)) ∧ w'.heap[zb]? = some (.cells ZR 25 (0, 0)) ∧ TapeAt w' b ⟨r0.drop i, 0⟩) (by kernel_rfl) hdr (fun hHeld => ?_)
        clear hdr
        refine tkFree (i := 0) (v := .agg ZR) rfl (by kernel_rfl) (by kernel_rfl) (by kernel_rfl) (fun _ _ _ h => h) (yieldsIf_load_at (by rfl) 25 _ rfl ⟨zb, 0, none⟩ rfl (fun w hS => run_loadVar_row w _ _ _ _ _ _ hS.2.1 Tryd.underlying25 rfl HQ.out.2.1)) hHeld ?_
        simp only [Act.put, List.setIfInBounds_toArray, List.set_cons_zero, List.set_cons_succ]
        refine tkFree (i := 1) (v := .agg (byA ahead)) rfl (by kernel_rfl) (by kernel_rfl) (by kernel_rfl) (fun _ _ _ h => h) (yieldsIf_load_at (by rfl) 23 _ rfl ⟨ab, 0, none⟩ rfl (fun w hS => load_row32 HQ.out.2.2.2.1 hS.1)) hHeld ?_
        simp only [Act.put, List.setIfInBounds_toArray, List.set_cons_zero, List.set_cons_succ]
        refine tkOne 2 rfl (by kernel_rfl) rfl (fun K hK => ?_)
        obtain ⟨z1, z2, z3, z4⟩ := two_stored (C := ZR) (T := byA ahead) HX.out.1 HX.out.2.1 HX.out.2.2.2.1 HX.out.2.2.1 HX.out.2.2.2.2.1 HX.out.2.2.2.2.2.1
        refine wp_store_row _ (.tmp 8) (.tmp 98) rfl rz ZR rfl rfl 25 ZR HX.out.1 HQ.out.2.1 HQ.out.2.2.1 HQ.out.2.2.2.2.1 ?_
        have hH2 := And.intro ((setRow_other w6.drew rz ab ZR HX.out.2.2.2.2.2.2.1).trans hHeld.1) (And.intro ((setRow_other w6.drew rz zb ZR HX.out.2.2.2.2.2.2.2.1).trans hHeld.2.1) ((setRow_other w6.drew rz b ZR HX.out.2.2.2.2.2.2.2.2.1).trans hHeld.2.2))
        refine hK _ _ hH2 ?_
        clear hK hHeld
        have hHeld := hH2
        try simp only [Act.put]
        refine tkOne 3 rfl (by kernel_rfl) rfl (fun K hK => ?_)
        refine wp_store_row _ (.tmp 9) (.tmp 99) rfl hz (byA ahead) rfl rfl 23 ZT z4 (arr_size _ HQ.out.2.2.2.1) (by rw [HN.out.2.2.1, byA_size, byA_size, HQ.out.2.2.2.1]; rfl) (byA_one _) ?_
        have hH3 := And.intro ((setRow_other (w6.drew.setRow rz ZR) hz ab (byA ahead) HX.out.2.2.2.2.2.2.2.2.2.1).trans hHeld.1) (And.intro ((setRow_other (w6.drew.setRow rz ZR) hz zb (byA ahead) HX.out.2.2.2.2.2.2.2.2.2.2.1).trans hHeld.2.1) ((setRow_other (w6.drew.setRow rz ZR) hz b (byA ahead) HX.out.2.2.2.2.2.2.2.2.2.2.2).trans hHeld.2.2))
        refine hK _ _ hH3 ?_
        clear hK hHeld hH2
        have hHeld := hH3
        clear hH3
        try simp only [Act.put]
        refine tkFree (i := 4) rfl (by kernel_rfl) (by kernel_rfl) (by kernel_rfl) (fun _ _ _ h => h) (.inl ⟨by rfl, fun w hSw => by go_simp; rfl⟩) hHeld ?_
        simp only [Act.put, List.setIfInBounds_toArray, List.set_cons_zero, List.set_cons_succ]
        refine tkFree (i := 5) rfl (by kernel_rfl) (by kernel_rfl) (by kernel_rfl) (fun _ _ _ h => h) (.inl ⟨by rfl, fun w hSw => by go_simp; rfl⟩) hHeld ?_
        simp only [Act.put, List.setIfInBounds_toArray, List.set_cons_zero, List.set_cons_succ]
        clear hHeld
        refine wpAnyH_done (by kernel_rfl) ?_ _
        obtain ⟨W7, hW7⟩ : ∃ W, W = (w6.drew.setRow rz ZR).setRow hz (byA ahead) := ⟨_, rfl⟩
        have HZ : Hid (P (.returned (.tuple #[.agg ZR, .agg (byA ahead), .int .i64 0, .int .i64 40])) W7 ∧ W7.heap[rz]? = some (.cells ZR 25 (0, 0)) ∧ W7.heap[hz]? = some (.cells (byA ahead) 23 (0, 0))) := by
          rw [← hW7] at z1 z2 z3
          refine Lib.hid ⟨?_, z1, z2⟩
          rw [HN.out.1, HOB.out, HN.out.2.1]
          exact ⟨none, 0, rfl, .inl rfl, zeroH_len, HA.out.1, z3⟩
        rw [← hW7]
        clear hW7 z1 z2 z3 z4
        go_wp2_with (fail)
        refine bodyPost_ret (v := .tuple #[.agg ZR, .agg (byA ahead), .int .i64 0, .int .i64 40]) ?_ rfl HZ.out.1
        exact results_cell2_tmp2 (p1 := 8) (p2 := 9) (s1 := 10) (s2 := 11) rfl _ _ rz hz 25 23 ZR (byA ahead) (0, 0) (0, 0) _ _ rfl rfl HZ.out.2.1 HZ.out.2.2 Tryd.underlying25 rfl HQ.out.2.1 Tryd.underlying23 rfl (arr_size _ HQ.out.2.2.2.1)
      | true =>
        have ha1 := HA1.out
        by_cases htg : tag = tg
        rotate_left
        · have hne : ∀ w, (binOp .neq 9 (Sv tag) (Sv tg)).run Tryd.prog w = .ok (.bool true) w := fun w => by rw [run_neq_Sv]; simp [htg]
          have HTN : Hid (tag ≠ tagL key (headL ahead body)) := Lib.hid (by rw [← HHd.out.2.2]; exact htg)
          clear htg
          go_upto_region 18 with (fail)
          refine wp_region_lit ?_
          iterate 13 go_step
          refine wpList_load_at rfl 23 _ rfl ⟨hb, 0, none⟩ rfl (.agg (byA HD)) (load_row32 HHd.out.2.1 H6.out.2.1) ?_
          go_step
          refine (HTh.out w6).mono ?_
          rintro e w7 ⟨rfl, hB7⟩
          dsimp only
          iterate 4 go_step
          refine (HTg.out w7).mono ?_
          rintro e w8 ⟨rfl, hB8⟩
          dsimp only
          iterate 2 go_step
          refine (HTt.out w8).mono ?_
          rintro e w9 ⟨rfl, hB9⟩
          have H9 : Hid (Below w6.heap.size w6 w9) := Lib.hid ((hB7.trans (hB8.mono hB7.size)).trans (hB9.mono (hB7.trans (hB8.mono hB7.size)).size))
          clear hB7 hB8 hB9
          dsimp only
          have HOB : Hid (openB key ahead seq s = (zeroR, ahead, 0, 40)) := Lib.hid (openB_tag HOp.out HTN.out)
          have HQ : Hid (True ∧ (Tryd.prog.info? 25).map (·.size) = some ZR.size ∧ ZR.size = ZR.size ∧ ahead.length = 32 ∧ ZR.all (·.oneCell') = true ∧ True) := Lib.hid ⟨trivial, by rw [HN.out.2.1]; exact rec_size _ _ _ _ _ zeroH_len, rfl, HA.out.1, by rw [HN.out.2.1]; exact recC_one _ rfl, trivial⟩
          have HX : Hid (w9.drew.heap[rz]? = some (.cells ZR 25 (0, 0)) ∧ w9.drew.heap[hz]? = some (.cells ZT 23 (0, 0)) ∧ Below w.heap.size w w9.drew ∧ rz ≠ hz ∧ w.heap.size ≤ rz ∧ w.heap.size ≤ hz ∧ ab ≠ rz ∧ zb ≠ rz ∧ b ≠ rz ∧ ab ≠ hz ∧ zb ≠ hz ∧ b ≠ hz) := by
            have h := (H6.out.1.far H9.out)
            obtain ⟨n1, n2, n3, n4, n5⟩ := h.nums
            exact Lib.hid ⟨h.r, h.h, h.below.drew, by omega, by omega, by omega, by omega, by omega, by omega, by omega, by omega, by omega⟩
          have hdr : w9.drew.heap[ab]? = some (.cells (byA ahead) 23 (0, 0)) ∧ w9.drew.heap[zb]? = some (.cells ZR 25 (0, 0)) ∧ TapeAt w9.drew b ⟨r0.drop i, 0⟩ := by
            have h := (H6.out.1.far H9.out)
            exact ⟨h.a, h.z, h.tape⟩
          go_upto_region 19 with (fail)
          refine wp_region_held_drew (S := fun w' => w'.heap[ab]? = some (.cells (byA ahead) 23 (0, 0)) ∧ w'.heap[zb]? = some (.cells ZR 25 (0, 0)) ∧ TapeAt w' b ⟨r0.drop i, 0⟩) (by kernel_rfl) hdr (fun hHeld => ?_)
          clear hdr
          refine tkFree (i := 0) (v := .agg ZR) rfl (by kernel_rfl) (by kernel_rfl) (by kernel_rfl) (fun _ _ _ h => h) (yieldsIf_load_at (by rfl) 25 _ rfl ⟨zb, 0, none⟩ rfl (fun w hS => run_loadVar_row w _ _ _ _ _ _ hS.2.1 Tryd.underlying25 rfl HQ.out.2.1)) hHeld ?_
          simp only [Act.put, List.setIfInBounds_toArray, List.set_cons_zero, List.set_cons_succ]
          refine tkFree (i := 1) (v := .agg (byA ahead)) rfl (by kernel_rfl) (by kernel_rfl) (by kernel_rfl) (fun _ _ _ h => h) (yieldsIf_load_at (by rfl) 23 _ rfl ⟨ab, 0, none⟩ rfl (fun w hS => load_row32 HQ.out.2.2.2.1 hS.1)) hHeld ?_
          simp only [Act.put, List.setIfInBounds_toArray, List.set_cons_zero, List.set_cons_succ]
          refine tkOne 2 rfl (by kernel_rfl) rfl (fun K hK => ?_)
          obtain ⟨z1, z2, z3, z4⟩ := two_stored (C := ZR) (T := byA ahead) HX.out.1 HX.out.2.1 HX.out.2.2.2.1 HX.out.2.2.1 HX.out.2.2.2.2.1 HX.out.2.2.2.2.2.1
          refine wp_store_row _ (.tmp 8) (.tmp 98) rfl rz ZR rfl rfl 25 ZR HX.out.1 HQ.out.2.1 HQ.out.2.2.1 HQ.out.2.2.2.2.1 ?_
          have hH2 := And.intro ((setRow_other w9.drew rz ab ZR HX.out.2.2.2.2.2.2.1).trans hHeld.1) (And.intro ((setRow_other w9.drew rz zb ZR HX.out.2.2.2.2.2.2.2.1).trans hHeld.2.1) ((setRow_other w9.drew rz b ZR HX.out.2.2.2.2.2.2.2.2.1).trans hHeld.2.2))
          refine hK _ _ hH2 ?_
          clear hK hHeld
          have hHeld := hH2
          try simp only [Act.put]
          refine tkOne 3 rfl (by kernel_rfl) rfl (fun K hK => ?_)
          refine wp_store_row _ (.tmp 9) (.tmp 99) rfl hz (byA ahead) rfl rfl 23 ZT z4 (arr_size _ HQ.out.2.2.2.1) (by rw [HN.out.2.2.1, byA_size, byA_size, HQ.out.2.2.2.1]; rfl) (byA_one _) ?_
          have hH3 := And.intro ((setRow_other (w9.drew.setRow rz ZR) hz ab (byA ahead) HX.out.2.2.2.2.2.2.2.2.2.1).trans hHeld.1) (And.intro ((setRow_other (w9.drew.setRow rz ZR) hz zb (byA ahead) HX.out.2.2.2.2.2.2.2.2.2.2.1).trans hHeld.2.1) ((setRow_other (w9.drew.setRow rz ZR) hz b (byA ahead) HX.out.2.2.2.2.2.2.2.2.2.2.2).trans hHeld.2.2))
          refine hK _ _ hH3 ?_
          clear hK hHeld hH2
          have hHeld := hH3
          clear hH3
          try simp only [Act.put]
          refine tkFree (i := 4) rfl (by kernel_rfl) (by kernel_rfl) (by kernel_rfl) (fun _ _ _ h => h) (.inl ⟨by rfl, fun w hSw => by go_simp; rfl⟩) hHeld ?_
          simp only [Act.put, List.setIfInBounds_toArray, List.set_cons_zero, List.set_cons_succ]
          refine tkFree (i := 5) rfl (by kernel_rfl) (by kernel_rfl) (by kernel_rfl) (fun _ _ _ h => h) (.inl ⟨by rfl, fun w hSw => by go_simp; rfl⟩) hHeld ?_
          simp only [Act.put, List.setIfInBounds_toArray, List.set_cons_zero, List.set_cons_succ]
          clear hHeld
          refine wpAnyH_done (by kernel_rfl) ?_ _
          obtain ⟨W7, hW7⟩ : ∃ W, W = (w9.drew.setRow rz ZR).setRow hz (byA ahead) := ⟨_, rfl⟩
          have HZ : Hid (P (.returned (.tuple #[.agg ZR, .agg (byA ahead), .int .i64 0, .int .i64 40])) W7 ∧ W7.heap[rz]? = some (.cells ZR 25 (0, 0)) ∧ W7.heap[hz]? = some (.cells (byA ahead) 23 (0, 0))) := by
            rw [← hW7] at z1 z2 z3
            refine Lib.hid ⟨?_, z1, z2⟩
            rw [HN.out.1, HOB.out, HN.out.2.1]
            exact ⟨none, 0, rfl, .inl rfl, zeroH_len, HA.out.1, z3⟩
          rw [← hW7]
          clear hW7 z1 z2 z3 z4
          go_wp2_with (fail)
          refine bodyPost_ret (v := .tuple #[.agg ZR, .agg (byA ahead), .int .i64 0, .int .i64 40]) ?_ rfl HZ.out.1
          exact results_cell2_tmp2 (p1 := 8) (p2 := 9) (s1 := 10) (s2 := 11) rfl _ _ rz hz 25 23 ZR (byA ahead) (0, 0) (0, 0) _ _ rfl rfl HZ.out.2.1 HZ.out.2.2 Tryd.underlying25 rfl HQ.out.2.1 Tryd.underlying23 rfl (arr_size _ HQ.out.2.2.2.1)
        have hne : ∀ w, (binOp .neq 9 (Sv tag) (Sv tg)).run Tryd.prog w = .ok (.bool false) w := fun w => by rw [run_neq_Sv]; simp [htg]
        have HIN : Hid (openB key ahead seq s = if (readR body).2 ≠ 0 then (zeroR, ahead, 0, (readR body).2) else if (readR body).1.seq ≠ seq then (zeroR, ahead, 0, 40) else ((readR body).1, headL ahead body, U / 128, 0)) := Lib.hid (openB_in HOp.out (by rw [← HHd.out.2.2]; exact htg))
        clear htg
        go_upto_region 18 with (fail)
        refine wp_region_lit ?_
        iterate 13 go_step
        refine wpList_load_at rfl 23 _ rfl ⟨hb, 0, none⟩ rfl (.agg (byA HD)) (load_row32 HHd.out.2.1 H6.out.2.1) ?_
        go_step
        refine (HTh.out w6).mono ?_
        rintro e w7 ⟨rfl, hB7⟩
        dsimp only
        iterate 4 go_step
        refine (HTg.out w7).mono ?_
        rintro e w8 ⟨rfl, hB8⟩
        dsimp only
        iterate 2 go_step
        refine (HTt.out w8).mono ?_
        rintro e w9 ⟨rfl, hB9⟩
        have H9 : Hid (Below w6.heap.size w6 w9) := Lib.hid ((hB7.trans (hB8.mono hB7.size)).trans (hB9.mono (hB7.trans (hB8.mono hB7.size)).size))
        clear hB7 hB8 hB9
        dsimp only
        obtain ⟨rr, hrr⟩ : ∃ p, p = readR body := ⟨_, rfl⟩
        have HRd : Hid (∀ w', Calls Tryd.prog 12 #[Sv body] w' (RecEnd w' rr)) := by
          rw [hrr]
          exact Lib.hid fun w' => rrread14_any w' body
        rw [← hrr] at HIN
        clear hrr
        go_upto_region 20 with (fail)
        clear hne ha1
        refine wp_region_lit ?_
        iterate 5 go_step
        refine (HRd.out w9).mono ?_
        rintro e w10 ⟨ia, ic, rfl, h1, h2, h3⟩
        obtain ⟨xr, xe⟩ := rr
        dsimp only at h1 h2 HIN ⊢
        have H10 : Hid (Below w6.heap.size w6 w10 ∧ ItemsAt w10 ia xr.items ∧ xr.root.length = 32) := Lib.hid ⟨H9.out.trans (h3.mono H9.out.size), h1, h2⟩
        obtain ⟨CR, hCR⟩ : ∃ z, z = recC xr.kind xr.seq (.slice ia xr.items.length ic) xr.area xr.root := ⟨_, rfl⟩
        rw [← hCR]
        have HCR := Lib.hid hCR
        clear hCR h1 h2 h3 HRd H9
        iterate 13 go_step
        obtain ⟨y1, y2⟩ := one_new w10 ZR CR
        refine wpList_store_row rfl _ (.tmp 19) (.tmp 103) rfl w10.heap.size CR rfl rfl 25 ZR (heap_alloc_new w10 _) (by rw [HCR.out]; exact rec_size _ _ _ _ _ H10.out.2.2) (by rw [HCR.out, HN.out.2.1, zeroC_size, recC_size H10.out.2.2]) (by rw [HCR.out]; exact recC_one _ rfl) ?_
        obtain ⟨xb, hxb⟩ : ∃ b, b = w10.heap.size := ⟨_, rfl⟩
        obtain ⟨w11, hw11⟩ : ∃ W, W = (w10.alloc (.cells ZR 25)).setRow w10.heap.size CR := ⟨_, rfl⟩
        rw [← hw11] at y1 y2
        rw [← hxb] at y1
        have H11 : Hid (O14 w w11 ab rz hz zb b ahead ZR ZT ⟨r0.drop i, 0⟩) := Lib.hid (H6.out.1.far (H10.out.1.trans (y2.mono H10.out.1.size)))
        have HI : Hid (ItemsAt w11 ia xr.items ∧ xr.root.length = 32 ∧ w11.heap[xb]? = some (.cells CR 25 (0, 0)) ∧ w11.heap[hb]? = some (.cells (byA HD) 23 (0, 0)) ∧ (b < hb ∧ b < xb)) := by
          have hB := H10.out.1.trans (y2.mono H10.out.1.size)
          have hl := H6.out.1.lt
          have hs := H10.out.1.size
          exact Lib.hid ⟨H10.out.2.1.below y2, H10.out.2.2, y1, (hB.block _ (Array.getElem?_eq_some_iff.1 H6.out.2.1).1).trans H6.out.2.1, H6.out.2.2, by omega⟩
        have hc1 : w11.cell? ⟨xb, 1, none⟩ = some (.int .i64 xr.seq) := by
          have h := HI.out.2.2.1
          rw [HCR.out] at h
          exact (RowR.d5 ⟨HI.out.2.1, h⟩).2.1
        rw [← hw11, ← hxb]
        clear hw11 hxb y1 y2 H10
        by_cases hxe : xe = 0
        rotate_left
        · have q1 : (xe == 0) = false := by simpa using hxe
          have q2 : (xe != 0) = true := by simpa using hxe
          have HXE := Lib.hid hxe
          clear hxe
          have HOB : Hid (openB key ahead seq s = (zeroR, ahead, 0, xe)) := Lib.hid (by rw [HIN.out, if_pos HXE.out])
          have HQ : Hid (True ∧ (Tryd.prog.info? 25).map (·.size) = some ZR.size ∧ ZR.size = ZR.size ∧ ahead.length = 32 ∧ ZR.all (·.oneCell') = true ∧ True) := Lib.hid ⟨trivial, by rw [HN.out.2.1]; exact rec_size _ _ _ _ _ zeroH_len, rfl, HA.out.1, by rw [HN.out.2.1]; exact recC_one _ rfl, trivial⟩
          have HX : Hid (w11.drew.heap[rz]? = some (.cells ZR 25 (0, 0)) ∧ w11.drew.heap[hz]? = some (.cells ZT 23 (0, 0)) ∧ Below w.heap.size w w11.drew ∧ rz ≠ hz ∧ w.heap.size ≤ rz ∧ w.heap.size ≤ hz ∧ ab ≠ rz ∧ zb ≠ rz ∧ b ≠ rz ∧ ab ≠ hz ∧ zb ≠ hz ∧ b ≠ hz) := by
            have h := H11.out
            obtain ⟨n1, n2, n3, n4, n5⟩ := h.nums
            exact Lib.hid ⟨h.r, h.h, h.below.drew, by omega, by omega, by omega, by omega, by omega, by omega, by omega, by omega, by omega⟩
          have hdr : w11.drew.heap[ab]? = some (.cells (byA ahead) 23 (0, 0)) ∧ w11.drew.heap[zb]? = some (.cells ZR 25 (0, 0)) ∧ TapeAt w11.drew b ⟨r0.drop i, 0⟩ := by
            have h := H11.out
            exact ⟨h.a, h.z, h.tape⟩
          go_upto_region 24 with (fail)
          refine wp_region_held_drew (S := fun w' => w'.heap[ab]? = some (.cells (byA ahead) 23 (0, 0)) ∧ w'.heap[zb]? = some (.cells ZR 25 (0, 0)) ∧ TapeAt w' b ⟨r0.drop i, 0⟩) (by kernel_rfl) hdr (fun hHeld => ?_)
          clear hdr
          refine tkFree (i := 0) (v := .agg ZR) rfl (by kernel_rfl) (by kernel_rfl) (by kernel_rfl) (fun _ _ _ h => h) (yieldsIf_load_at (by rfl) 25 _ rfl ⟨zb, 0, none⟩ rfl (fun w hS => run_loadVar_row w _ _ _ _ _ _ hS.2.1 Tryd.underlying25 rfl HQ.out.2.1)) hHeld ?_
          simp only [Act.put, List.setIfInBounds_toArray, List.set_cons_zero, List.set_cons_succ]
          refine tkFree (i := 1) (v := .agg (byA ahead)) rfl (by kernel_rfl) (by kernel_rfl) (by kernel_rfl) (fun _ _ _ h => h) (yieldsIf_load_at (by rfl) 23 _ rfl ⟨ab, 0, none⟩ rfl (fun w hS => load_row32 HQ.out.2.2.2.1 hS.1)) hHeld ?_
          simp only [Act.put, List.setIfInBounds_toArray, List.set_cons_zero, List.set_cons_succ]
          refine tkFree (i := 2) rfl (by kernel_rfl) (by kernel_rfl) (by kernel_rfl) (fun _ _ _ h => h) (.inl ⟨by rfl, fun w hSw => by go_simp; rfl⟩) hHeld ?_
          simp only [Act.put, List.setIfInBounds_toArray, List.set_cons_zero, List.set_cons_succ]
          refine tkOne 3 rfl (by kernel_rfl) rfl (fun K hK => ?_)
          obtain ⟨z1, z2, z3, z4⟩ := two_stored (C := ZR) (T := byA ahead) HX.out.1 HX.out.2.1 HX.out.2.2.2.1 HX.out.2.2.1 HX.out.2.2.2.2.1 HX.out.2.2.2.2.2.1
          refine wp_store_row _ (.tmp 8) (.tmp 115) rfl rz ZR rfl rfl 25 ZR HX.out.1 HQ.out.2.1 HQ.out.2.2.1 HQ.out.2.2.2.2.1 ?_
          have hH2 := And.intro ((setRow_other w11.drew rz ab ZR HX.out.2.2.2.2.2.2.1).trans hHeld.1) (And.intro ((setRow_other w11.drew rz zb ZR HX.out.2.2.2.2.2.2.2.1).trans hHeld.2.1) ((setRow_other w11.drew rz b ZR HX.out.2.2.2.2.2.2.2.2.1).trans hHeld.2.2))
          refine hK _ _ hH2 ?_
          clear hK hHeld
          have hHeld := hH2
          try simp only [Act.put]
          refine tkOne 4 rfl (by kernel_rfl) rfl (fun K hK => ?_)
          refine wp_store_row _ (.tmp 9) (.tmp 116) rfl hz (byA ahead) rfl rfl 23 ZT z4 (arr_size _ HQ.out.2.2.2.1) (by rw [HN.out.2.2.1, byA_size, byA_size, HQ.out.2.2.2.1]; rfl) (byA_one _) ?_
          have hH3 := And.intro ((setRow_other (w11.drew.setRow rz ZR) hz ab (byA ahead) HX.out.2.2.2.2.2.2.2.2.2.1).trans hHeld.1) (And.intro ((setRow_other (w11.drew.setRow rz ZR) hz zb (byA ahead) HX.out.2.2.2.2.2.2.2.2.2.2.1).trans hHeld.2.1) ((setRow_other (w11.drew.setRow rz ZR) hz b (byA ahead) HX.out.2.2.2.2.2.2.2.2.2.2.2).trans hHeld.2.2))
          refine hK _ _ hH3 ?_
          clear hK hHeld hH2
          have hHeld := hH3
          clear hH3
          try simp only [Act.put]
          refine tkFree (i := 5) rfl (by kernel_rfl) (by kernel_rfl) (by kernel_rfl) (fun _ _ _ h => h) (.inl ⟨by rfl, fun w hSw => by go_simp; rfl⟩) hHeld ?_
          simp only [Act.put, List.setIfInBounds_toArray, List.set_cons_zero, List.set_cons_succ]
          refine tkFree (i := 6) rfl (by kernel_rfl) (by kernel_rfl) (by kernel_rfl) (fun _ _ _ h => h) (.inl ⟨by rfl, fun w hSw => by go_simp; rfl⟩) hHeld ?_
          simp only [Act.put, List.setIfInBounds_toArray, List.set_cons_zero, List.set_cons_succ]
          clear hHeld
          refine wpAnyH_done (by kernel_rfl) ?_ _
          obtain ⟨W7, hW7⟩ : ∃ W, W = (w11.drew.setRow rz ZR).setRow hz (byA ahead) := ⟨_, rfl⟩
          have HZ : Hid (P (.returned (.tuple #[.agg ZR, .agg (byA ahead), .int .i64 0, .int .i64 xe])) W7 ∧ W7.heap[rz]? = some (.cells ZR 25 (0, 0)) ∧ W7.heap[hz]? = some (.cells (byA ahead) 23 (0, 0))) := by
            rw [← hW7] at z1 z2 z3
            refine Lib.hid ⟨?_, z1, z2⟩
            rw [HN.out.1, HOB.out, HN.out.2.1]
            exact ⟨none, 0, rfl, .inl rfl, zeroH_len, HA.out.1, z3⟩
          rw [← hW7]
          clear hW7 z1 z2 z3 z4
          go_wp2_with (fail)
          refine bodyPost_ret (v := .tuple #[.agg ZR, .agg (byA ahead), .int .i64 0, .int .i64 xe]) ?_ rfl HZ.out.1
          exact results_cell2_tmp2 (p1 := 8) (p2 := 9) (s1 := 10) (s2 := 11) rfl _ _ rz hz 25 23 ZR (byA ahead) (0, 0) (0, 0) _ _ rfl rfl HZ.out.2.1 HZ.out.2.2 Tryd.underlying25 rfl HQ.out.2.1 Tryd.underlying23 rfl (arr_size _ HQ.out.2.2.2.1)
        subst hxe
        obtain ⟨sq, hsq⟩ : ∃ x, x = xr.seq := ⟨_, rfl⟩
        rw [← hsq] at hc1
        have HSQ := Lib.hid hsq
        clear hsq
        by_cases hse : sq = seq
        rotate_left
        · have q1 : (sq != seq) = true := by simpa using hse
          have HSE := Lib.hid hse
          clear hse
          have HOB : Hid (openB key ahead seq s = (zeroR, ahead, 0, 40)) := Lib.hid (by rw [HIN.out, if_neg (by decide), if_pos (by rw [← HSQ.out]; exact HSE.out)])
          have HQ : Hid (True ∧ (Tryd.prog.info? 25).map (·.size) = some ZR.size ∧ ZR.size = ZR.size ∧ ahead.length = 32 ∧ ZR.all (·.oneCell') = true ∧ True) := Lib.hid ⟨trivial, by rw [HN.out.2.1]; exact rec_size _ _ _ _ _ zeroH_len, rfl, HA.out.1, by rw [HN.out.2.1]; exact recC_one _ rfl, trivial⟩
          have HX : Hid (w11.drew.heap[rz]? = some (.cells ZR 25 (0, 0)) ∧ w11.drew.heap[hz]? = some (.cells ZT 23 (0, 0)) ∧ Below w.heap.size w w11.drew ∧ rz ≠ hz ∧ w.heap.size ≤ rz ∧ w.heap.size ≤ hz ∧ ab ≠ rz ∧ zb ≠ rz ∧ b ≠ rz ∧ ab ≠ hz ∧ zb ≠ hz ∧ b ≠ hz) := by
            have h := H11.out
            obtain ⟨n1, n2, n3, n4, n5⟩ := h.nums
            exact Lib.hid ⟨h.r, h.h, h.below.drew, by omega, by omega, by omega, by omega, by omega, by omega, by omega, by omega, by omega⟩
          have hdr : w11.drew.heap[ab]? = some (.cells (byA ahead) 23 (0, 0)) ∧ w11.drew.heap[zb]? = some (.cells ZR 25 (0, 0)) ∧ TapeAt w11.drew b ⟨r0.drop i, 0⟩ := by
            have h := H11.out
            exact ⟨h.a, h.z, h.tape⟩
          go_upto_region 24 with (fail)
          refine wp_region_held_drew (S := fun w' => w'.heap[ab]? = some (.cells (byA ahead) 23 (0, 0)) ∧ w'.heap[zb]? = some (.cells ZR 25 (0, 0)) ∧ TapeAt w' b ⟨r0.drop i, 0⟩) (by kernel_rfl) hdr (fun hHeld => ?_)
          clear hdr
          refine tkFree (i := 0) (v := .agg ZR) rfl (by kernel_rfl) (by kernel_rfl) (by kernel_rfl) (fun _ _ _ h => h) (yieldsIf_load_at (by rfl) 25 _ rfl ⟨zb, 0, none⟩ rfl (fun w hS => run_loadVar_row w _ _ _ _ _ _ hS.2.1 Tryd.underlying25 rfl HQ.out.2.1)) hHeld ?_
          simp only [Act.put, List.setIfInBounds_toArray, List.set_cons_zero, List.set_cons_succ]
          refine tkFree (i := 1) (v := .agg (byA ahead)) rfl (by kernel_rfl) (by kernel_rfl) (by kernel_rfl) (fun _ _ _ h => h) (yieldsIf_load_at (by rfl) 23 _ rfl ⟨ab, 0, none⟩ rfl (fun w hS => load_row32 HQ.out.2.2.2.1 hS.1)) hHeld ?_
          simp only [Act.put, List.setIfInBounds_toArray, List.set_cons_zero, List.set_cons_succ]
          refine tkFree (i := 2) rfl (by kernel_rfl) (by kernel_rfl) (by kernel_rfl) (fun _ _ _ h => h) (.inl ⟨by rfl, fun w hSw => by go_simp; rfl⟩) hHeld ?_
          simp only [Act.put, List.setIfInBounds_toArray, List.set_cons_zero, List.set_cons_succ]
          refine tkOne 3 rfl (by kernel_rfl) rfl (fun K hK => ?_)
          obtain ⟨z1, z2, z3, z4⟩ := two_stored (C := ZR) (T := byA ahead) HX.out.1 HX.out.2.1 HX.out.2.2.2.1 HX.out.2.2.1 HX.out.2.2.2.2.1 HX.out.2.2.2.2.2.1
          refine wp_store_row _ (.tmp 8) (.tmp 115) rfl rz ZR rfl rfl 25 ZR HX.out.1 HQ.out.2.1 HQ.out.2.2.1 HQ.out.2.2.2.2.1 ?_
          have hH2 := And.intro ((setRow_other w11.drew rz ab ZR HX.out.2.2.2.2.2.2.1).trans hHeld.1) (And.intro ((setRow_other w11.drew rz zb ZR HX.out.2.2.2.2.2.2.2.1).trans hHeld.2.1) ((setRow_other w11.drew rz b ZR HX.out.2.2.2.2.2.2.2.2.1).trans hHeld.2.2))
          refine hK _ _ hH2 ?_
          clear hK hHeld
          have hHeld := hH2
          try simp only [Act.put]
          refine tkOne 4 rfl (by kernel_rfl) rfl (fun K hK => ?_)
          refine wp_store_row _ (.tmp 9) (.tmp 116) rfl hz (byA ahead) rfl rfl 23 ZT z4 (arr_size _ HQ.out.2.2.2.1) (by rw [HN.out.2.2.1, byA_size, byA_size, HQ.out.2.2.2.1]; rfl) (byA_one _) ?_
          have hH3 := And.intro ((setRow_other (w11.drew.setRow rz ZR) hz ab (byA ahead) HX.out.2.2.2.2.2.2.2.2.2.1).trans hHeld.1) (And.intro ((setRow_other (w11.drew.setRow rz ZR) hz zb (byA ahead) HX.out.2.2.2.2.2.2.2.2.2.2.1).trans hHeld.2.1) ((setRow_other (w11.drew.setRow rz ZR) hz b (byA ahead) HX.out.2.2.2.2.2.2.2.2.2.2.2).trans hHeld.2.2))
          refine hK _ _ hH3 ?_
          clear hK hHeld hH2
          have hHeld := hH3
          clear hH3
          try simp only [Act.put]
          refine tkFree (i := 5) rfl (by kernel_rfl) (by kernel_rfl) (by kernel_rfl) (fun _ _ _ h => h) (.inl ⟨by rfl, fun w hSw => by go_simp; rfl⟩) hHeld ?_
          simp only [Act.put, List.setIfInBounds_toArray, List.set_cons_zero, List.set_cons_succ]
          refine tkFree (i := 6) rfl (by kernel_rfl) (by kernel_rfl) (by kernel_rfl) (fun _ _ _ h => h) (.inl ⟨by rfl, fun w hSw => by go_simp; rfl⟩) hHeld ?_
          simp only [Act.put, List.setIfInBounds_toArray, List.set_cons_zero, List.set_cons_succ]
          clear hHeld
          refine wpAnyH_done (by kernel_rfl) ?_ _
          obtain ⟨W7, hW7⟩ : ∃ W, W = (w11.drew.setRow rz ZR).setRow hz (byA ahead) := ⟨_, rfl⟩
          have HZ : Hid (P (.returned (.tuple #[.agg ZR, .agg (byA ahead), .int .i64 0, .int .i64 40])) W7 ∧ W7.heap[rz]? = some (.cells ZR 25 (0, 0)) ∧ W7.heap[hz]? = some (.cells (byA ahead) 23 (0, 0))) := by
            rw [← hW7] at z1 z2 z3
            refine Lib.hid ⟨?_, z1, z2⟩
            rw [HN.out.1, HOB.out, HN.out.2.1]
            exact ⟨none, 0, rfl, .inl rfl, zeroH_len, HA.out.1, z3⟩
          rw [← hW7]
          clear hW7 z1 z2 z3 z4
          go_wp2_with (fail)
          refine bodyPost_ret (v := .tuple #[.agg ZR, .agg (byA ahead), .int .i64 0, .int .i64 40]) ?_ rfl HZ.out.1
          exact results_cell2_tmp2 (p1 := 8) (p2 := 9) (s1 := 10) (s2 := 11) rfl _ _ rz hz 25 23 ZR (byA ahead) (0, 0) (0, 0) _ _ rfl rfl HZ.out.2.1 HZ.out.2.2 Tryd.underlying25 rfl HQ.out.2.1 Tryd.underlying23 rfl (arr_size _ HQ.out.2.2.2.1)
        have q1 : (sq != seq) = false := by simpa using hse
        have HSE := Lib.hid hse
        clear hse
        have hdv : Int.tdiv (U : Int) 128 = ((U / 128 : Nat) : Int) := by
          rw [Int.tdiv_eq_ediv_of_nonneg (by omega)]
          rfl
        obtain ⟨KB, hKB⟩ : ∃ k, k = U / 128 := ⟨_, rfl⟩
        rw [← hKB] at hdv
        have hkw : IntKind.i64.wrap (KB : Int) = (KB : Int) := IntWalk.i64_in _ (by
          have h1 := HU.out.1
          have h2 := HF4.out.2.2.2
          have h4 := noughtN_lt N0
          have h5 := HU.out.2.2.1
          omega)
        have HKB := Lib.hid hKB
        clear hKB
        have HQ : Hid (True ∧ (Tryd.prog.info? 25).map (·.size) = some CR.size ∧ ZR.size = CR.size ∧ HD.length = 32 ∧ CR.all (·.oneCell') = true ∧ True) := Lib.hid ⟨trivial, by rw [HCR.out]; exact rec_size _ _ _ _ _ HI.out.2.1, by rw [HCR.out, HN.out.2.1, zeroC_size, recC_size HI.out.2.1], HHd.out.2.1, by rw [HCR.out]; exact recC_one _ rfl, trivial⟩
        have HX : Hid (w11.drew.heap[rz]? = some (.cells ZR 25 (0, 0)) ∧ w11.drew.heap[hz]? = some (.cells ZT 23 (0, 0)) ∧ Below w.heap.size w w11.drew ∧ rz ≠ hz ∧ w.heap.size ≤ rz ∧ w.heap.size ≤ hz ∧ hb ≠ rz ∧ xb ≠ rz ∧ b ≠ rz ∧ hb ≠ hz ∧ xb ≠ hz ∧ b ≠ hz) := by
          have h := H11.out
          obtain ⟨n1, n2, n3, n4, n5⟩ := h.nums
          have hx1 := HI.out.2.2.2.2
          exact Lib.hid ⟨h.r, h.h, h.below.drew, by omega, by omega, by omega, by omega, by omega, by omega, by omega, by omega, by omega⟩
        have hdr : w11.drew.heap[hb]? = some (.cells (byA HD) 23 (0, 0)) ∧ w11.drew.heap[xb]? = some (.cells CR 25 (0, 0)) ∧ TapeAt w11.drew b ⟨r0.drop i, 0⟩ := by
          have h := H11.out
          exact ⟨HI.out.2.2.2.1, HI.out.2.2.1, h.tape⟩
        go_upto_region 25 with (fail)
        refine wp_region_held_drew (S := fun w' => w'.heap[hb]? = some (.cells (byA HD) 23 (0, 0)) ∧ w'.heap[xb]? = some (.cells CR 25 (0, 0)) ∧ TapeAt w' b ⟨r0.drop i, 0⟩) (by kernel_rfl) hdr (fun hHeld => ?_)
        clear hdr
        refine tkFree (i := 0) (v := .agg CR) rfl (by kernel_rfl) (by kernel_rfl) (by kernel_rfl) (fun _ _ _ h => h) (yieldsIf_load_at (by rfl) 25 _ rfl ⟨xb, 0, none⟩ rfl (fun w hS => run_loadVar_row w _ _ _ _ _ _ hS.2.1 Tryd.underlying25 rfl HQ.out.2.1)) hHeld ?_
        simp only [Act.put, List.setIfInBounds_toArray, List.set_cons_zero, List.set_cons_succ]
        refine tkFree (i := 1) (v := .agg (byA HD)) rfl (by kernel_rfl) (by kernel_rfl) (by kernel_rfl) (fun _ _ _ h => h) (yieldsIf_load_at (by rfl) 23 _ rfl ⟨hb, 0, none⟩ rfl (fun w hS => load_row32 HQ.out.2.2.2.1 hS.1)) hHeld ?_
        simp only [Act.put, List.setIfInBounds_toArray, List.set_cons_zero, List.set_cons_succ]
        refine tkFree (i := 2) rfl (by kernel_rfl) (by kernel_rfl) (by kernel_rfl) (fun _ _ _ h => h) (.inl ⟨by rfl, fun w hSw => by go_simp; rfl⟩) hHeld ?_
        simp only [Act.put, List.setIfInBounds_toArray, List.set_cons_zero, List.set_cons_succ]
        refine tkFree (i := 3) rfl (by kernel_rfl) (by kernel_rfl) (by kernel_rfl) (fun _ _ _ h => h) (.inl ⟨by rfl, fun w hSw => by go_simp; rfl⟩) hHeld ?_
        simp only [Act.put, List.setIfInBounds_toArray, List.set_cons_zero, List.set_cons_succ]
        refine tkOne 4 rfl (by kernel_rfl) rfl (fun K hK => ?_)
        obtain ⟨z1, z2, z3, z4⟩ := two_stored (C := CR) (T := byA HD) HX.out.1 HX.out.2.1 HX.out.2.2.2.1 HX.out.2.2.1 HX.out.2.2.2.2.1 HX.out.2.2.2.2.2.1
        refine wp_store_row _ (.tmp 8) (.tmp 118) rfl rz CR rfl rfl 25 ZR HX.out.1 HQ.out.2.1 HQ.out.2.2.1 HQ.out.2.2.2.2.1 ?_
        have hH2 := And.intro ((setRow_other w11.drew rz hb CR HX.out.2.2.2.2.2.2.1).trans hHeld.1) (And.intro ((setRow_other w11.drew rz xb CR HX.out.2.2.2.2.2.2.2.1).trans hHeld.2.1) ((setRow_other w11.drew rz b CR HX.out.2.2.2.2.2.2.2.2.1).trans hHeld.2.2))
        refine hK _ _ hH2 ?_
        clear hK hHeld
        have hHeld := hH2
        try simp only [Act.put]
        refine tkOne 5 rfl (by kernel_rfl) rfl (fun K hK => ?_)
        refine wp_store_row _ (.tmp 9) (.tmp 119) rfl hz (byA HD) rfl rfl 23 ZT z4 (arr_size _ HQ.out.2.2.2.1) (by rw [HN.out.2.2.1, byA_size, byA_size, HQ.out.2.2.2.1]; rfl) (byA_one _) ?_
        have hH3 := And.intro ((setRow_other (w11.drew.setRow rz CR) hz hb (byA HD) HX.out.2.2.2.2.2.2.2.2.2.1).trans hHeld.1) (And.intro ((setRow_other (w11.drew.setRow rz CR) hz xb (byA HD) HX.out.2.2.2.2.2.2.2.2.2.2.1).trans hHeld.2.1) ((setRow_other (w11.drew.setRow rz CR) hz b (byA HD) HX.out.2.2.2.2.2.2.2.2.2.2.2).trans hHeld.2.2))
        refine hK _ _ hH3 ?_
        clear hK hHeld hH2
        have hHeld := hH3
        clear hH3
        try simp only [Act.put]
        refine tkFree (i := 6) rfl (by kernel_rfl) (by kernel_rfl) (by kernel_rfl) (fun _ _ _ h => h) (.inl ⟨by rfl, fun w hSw => by go_simp; rfl⟩) hHeld ?_
        simp only [Act.put, List.setIfInBounds_toArray, List.set_cons_zero, List.set_cons_succ]
        refine tkFree (i := 7) rfl (by kernel_rfl) (by kernel_rfl) (by kernel_rfl) (fun _ _ _ h => h) (.inl ⟨by rfl, fun w hSw => by go_simp; rfl⟩) hHeld ?_
        simp only [Act.put, List.setIfInBounds_toArray, List.set_cons_zero, List.set_cons_succ]
        clear hHeld
        refine wpAnyH_done (by kernel_rfl) ?_ _
        obtain ⟨W7, hW7⟩ : ∃ W, W = (w11.drew.setRow rz CR).setRow hz (byA HD) := ⟨_, rfl⟩
        have HZ : Hid (P (.returned (.tuple #[.agg CR, .agg (byA HD), .int .i64 (KB : Int), .int .i64 0])) W7 ∧ W7.heap[rz]? = some (.cells CR 25 (0, 0)) ∧ W7.heap[hz]? = some (.cells (byA HD) 23 (0, 0))) := by
          have hit : ItemsAt W7 ia xr.items := by
            rw [hW7]
            exact items_row (items_row HI.out.1 HX.out.1 (by rw [HN.out.2.1]; exact zero_no_item)) z4 (by rw [HN.out.2.2.1]; exact byA_no_item _)
          rw [← hW7] at z1 z2 z3
          refine Lib.hid ⟨?_, z1, z2⟩
          rw [HN.out.1, HIN.out, if_neg (by decide), if_neg (by rw [← HSQ.out]; exact fun h => h HSE.out), ← HHd.out.1, ← HKB.out, HCR.out]
          exact ⟨ia, ic, rfl, hit, HI.out.2.1, HHd.out.2.1, z3⟩
        rw [← hW7]
        clear hW7 z1 z2 z3 z4
        go_wp2_with (fail)
        refine bodyPost_ret (v := .tuple #[.agg CR, .agg (byA HD), .int .i64 (KB : Int), .int .i64 0]) ?_ rfl HZ.out.1
        exact results_cell2_tmp2 (p1 := 8) (p2 := 9) (s1 := 10) (s2 := 11) rfl _ _ rz hz 25 23 CR (byA HD) (0, 0) (0, 0) _ _ rfl rfl HZ.out.2.1 HZ.out.2.2 Tryd.underlying25 rfl HQ.out.2.1 Tryd.underlying23 rfl (arr_size _ HQ.out.2.2.2.1)
    · have hq1 : ((q : Int) != 0) = true := by simpa using hq0
      have HQ0 : Hid (i < noughtN N0) := by
        refine Lib.hid ?_
        have h1 := HU.out.2.2.1
        rcases Nat.lt_or_ge i (noughtN N0) with h | h
        · exact h
        · exfalso
          have h2 : i = noughtN N0 := by omega
          have h3 := HU.out.1
          have h4 := HU.out.2.1
          unfold noughtN at h2
          omega
      clear hq0
      cases hl : r0.drop i with
      | nil =>
        rw [hl] at HO d0
        have eq0 : ∀ w, (binOp .eql 9 (Sv []) (.string ⟨#[]⟩)).run Tryd.prog w = .ok (.bool true) w := fun w => run_eql_Sv0 w []
        have HEE : Hid ((takeB s).e = 10) := by
          have h4 := HF4.out.2.1
          have h0 := HF4.out.2.2.1
          have h1 := List.drop_eq_nil_iff.1 hl
          have h2 := HQ0.out
          exact Lib.hid (take_short s (by rw [h4]) (by rw [h4, ← h0]; show r0.length < noughtN N0; omega))
        clear hl
        have HOB : Hid (openB key ahead seq s = (zeroR, ahead, 0, 10)) := Lib.hid (openB_err HEE.out (by decide))
        have HQ : Hid (True ∧ (Tryd.prog.info? 25).map (·.size) = some ZR.size ∧ ZR.size = ZR.size ∧ ahead.length = 32 ∧ ZR.all (·.oneCell') = true ∧ True) := Lib.hid ⟨trivial, by rw [HN.out.2.1]; exact rec_size _ _ _ _ _ zeroH_len, rfl, HA.out.1, by rw [HN.out.2.1]; exact recC_one _ rfl, trivial⟩
        have HX : Hid (wr.drew.heap[rz]? = some (.cells ZR 25 (0, 0)) ∧ wr.drew.heap[hz]? = some (.cells ZT 23 (0, 0)) ∧ Below w.heap.size w wr.drew ∧ rz ≠ hz ∧ w.heap.size ≤ rz ∧ w.heap.size ≤ hz ∧ ab ≠ rz ∧ zb ≠ rz ∧ b ≠ rz ∧ ab ≠ hz ∧ zb ≠ hz ∧ b ≠ hz) := by
          have h := HO.out
          obtain ⟨n1, n2, n3, n4, n5⟩ := h.nums
          exact Lib.hid ⟨h.r, h.h, h.below.drew, by omega, by omega, by omega, by omega, by omega, by omega, by omega, by omega, by omega⟩
        have hdr : wr.drew.heap[ab]? = some (.cells (byA ahead) 23 (0, 0)) ∧ wr.drew.heap[zb]? = some (.cells ZR 25 (0, 0)) ∧ TapeAt wr.drew b ⟨[], 0⟩ := by
          have h := HO.out
          exact ⟨h.a, h.z, h.tape⟩
        go_upto_region 13 with (fail)
        refine wp_region_held_drew (S := fun w' => w'.heap[ab]? = some (.cells (byA ahead) 23 (0, 0)) ∧ w'.heap[zb]? = some (.cells ZR 25 (0, 0)) ∧ TapeAt w' b ⟨[], 0⟩) (by kernel_rfl) hdr (fun hHeld => ?_)
        clear hdr
        refine tkFree (i := 0) (v := .agg ZR) rfl (by kernel_rfl) (by kernel_rfl) (by kernel_rfl) (fun _ _ _ h => h) (yieldsIf_load_at (by rfl) 25 _ rfl ⟨zb, 0, none⟩ rfl (fun w hS => run_loadVar_row w _ _ _ _ _ _ hS.2.1 Tryd.underlying25 rfl HQ.out.2.1)) hHeld ?_
        simp only [Act.put, List.setIfInBounds_toArray, List.set_cons_zero, List.set_cons_succ]
        refine tkFree (i := 1) (v := .agg (byA ahead)) rfl (by kernel_rfl) (by kernel_rfl) (by kernel_rfl) (fun _ _ _ h => h) (yieldsIf_load_at (by rfl) 23 _ rfl ⟨ab, 0, none⟩ rfl (fun w hS => load_row32 HQ.out.2.2.2.1 hS.1)) hHeld ?_
        simp only [Act.put, List.setIfInBounds_toArray, List.set_cons_zero, List.set_cons_succ]
        refine tkOne 2 rfl (by kernel_rfl) rfl (fun K hK => ?_)
        obtain ⟨z1, z2, z3, z4⟩ := two_stored (C := ZR) (T := byA ahead) HX.out.1 HX.out.2.1 HX.out.2.2.2.1 HX.out.2.2.1 HX.out.2.2.2.2.1 HX.out.2.2.2.2.2.1
        refine wp_store_row _ (.tmp 8) (.tmp 62) rfl rz ZR rfl rfl 25 ZR HX.out.1 HQ.out.2.1 HQ.out.2.2.1 HQ.out.2.2.2.2.1 ?_
        have hH2 := And.intro ((setRow_other wr.drew rz ab ZR HX.out.2.2.2.2.2.2.1).trans hHeld.1) (And.intro ((setRow_other wr.drew rz zb ZR HX.out.2.2.2.2.2.2.2.1).trans hHeld.2.1) ((setRow_other wr.drew rz b ZR HX.out.2.2.2.2.2.2.2.2.1).trans hHeld.2.2))
        refine hK _ _ hH2 ?_
        clear hK hHeld
        have hHeld := hH2
        try simp only [Act.put]
        refine tkOne 3 rfl (by kernel_rfl) rfl (fun K hK => ?_)
        refine wp_store_row _ (.tmp 9) (.tmp 63) rfl hz (byA ahead) rfl rfl 23 ZT z4 (arr_size _ HQ.out.2.2.2.1) (by rw [HN.out.2.2.1, byA_size, byA_size, HQ.out.2.2.2.1]; rfl) (byA_one _) ?_
        have hH3 := And.intro ((setRow_other (wr.drew.setRow rz ZR) hz ab (byA ahead) HX.out.2.2.2.2.2.2.2.2.2.1).trans hHeld.1) (And.intro ((setRow_other (wr.drew.setRow rz ZR) hz zb (byA ahead) HX.out.2.2.2.2.2.2.2.2.2.2.1).trans hHeld.2.1) ((setRow_other (wr.drew.setRow rz ZR) hz b (byA ahead) HX.out.2.2.2.2.2.2.2.2.2.2.2).trans hHeld.2.2))
        refine hK _ _ hH3 ?_
        clear hK hHeld hH2
        have hHeld := hH3
        clear hH3
        try simp only [Act.put]
        refine tkFree (i := 4) rfl (by kernel_rfl) (by kernel_rfl) (by kernel_rfl) (fun _ _ _ h => h) (.inl ⟨by rfl, fun w hSw => by go_simp; rfl⟩) hHeld ?_
        simp only [Act.put, List.setIfInBounds_toArray, List.set_cons_zero, List.set_cons_succ]
        refine tkFree (i := 5) rfl (by kernel_rfl) (by kernel_rfl) (by kernel_rfl) (fun _ _ _ h => h) (.inl ⟨by rfl, fun w hSw => by go_simp; rfl⟩) hHeld ?_
        simp only [Act.put, List.setIfInBounds_toArray, List.set_cons_zero, List.set_cons_succ]
        clear hHeld
        refine wpAnyH_done (by kernel_rfl) ?_ _
        obtain ⟨W7, hW7⟩ : ∃ W, W = (wr.drew.setRow rz ZR).setRow hz (byA ahead) := ⟨_, rfl⟩
        have HZ : Hid (P (.returned (.tuple #[.agg ZR, .agg (byA ahead), .int .i64 0, .int .i64 10])) W7 ∧ W7.heap[rz]? = some (.cells ZR 25 (0, 0)) ∧ W7.heap[hz]? = some (.cells (byA ahead) 23 (0, 0))) := by
          rw [← hW7] at z1 z2 z3
          refine Lib.hid ⟨?_, z1, z2⟩
          rw [HN.out.1, HOB.out, HN.out.2.1]
          exact ⟨none, 0, rfl, .inl rfl, zeroH_len, HA.out.1, z3⟩
        rw [← hW7]
        clear hW7 z1 z2 z3 z4
        go_wp2_with (fail)
        refine bodyPost_ret (v := .tuple #[.agg ZR, .agg (byA ahead), .int .i64 0, .int .i64 10]) ?_ rfl HZ.out.1
        exact results_cell2_tmp2 (p1 := 8) (p2 := 9) (s1 := 10) (s2 := 11) rfl _ _ rz hz 25 23 ZR (byA ahead) (0, 0) (0, 0) _ _ rfl rfl HZ.out.2.1 HZ.out.2.2 Tryd.underlying25 rfl HQ.out.2.1 Tryd.underlying23 rfl (arr_size _ HQ.out.2.2.2.1)
      | cons c r =>
        rw [hl] at HO d0
        obtain ⟨n1, n2, n3⟩ := noughts_next r0 i c r hl
        have HNx := Lib.hid (And.intro n1 (And.intro n2 n3))
        clear n1 n2 n3 hl
        have eq0 : ∀ w, (binOp .eql 9 (Sv (c :: r)) (.string ⟨#[]⟩)).run Tryd.prog w = .ok (.bool false) w := fun w => run_eql_Sv0 w (c :: r)
        obtain ⟨x, hx⟩ : ∃ x : Nat, x = c.toNat := ⟨_, rfl⟩
        have hix : ∀ w, (Instr.index 9 (Sv (c :: r)) (.int .i64 0)).run Tryd.prog w = .ok (.int .u8 (x : Int)) w := fun w => by rw [hx]; exact run_index_Sv0 w c r
        have hsl : ∀ w, (Instr.slice 9 (Sv (c :: r)) (some (.int .i64 1)) none none).run Tryd.prog w = .ok (Sv r) w := fun w => run_drop_Sv w (c :: r) 1 (by simp)
        have hUw : IntKind.i64.wrap ((U : Int) + 1) = ((U + 1 : Nat) : Int) := by
          have h1 := HU.out.1
          have h2 := HF4.out.2.2.2
          have h3 := HQ0.out
          have h4 := noughtN_lt N0
          rw [show (U : Int) + 1 = ((U + 1 : Nat) : Int) by omega]
          exact IntWalk.i64_in _ (by omega)
        obtain ⟨cz, hcz⟩ : ∃ z : Bool, z = (c == 0) := ⟨_, rfl⟩
        have hce : ((x : Int) == 0) = cz := by
          rw [hcz, hx]
          cases h : c == 0
          · have : c ≠ 0 := by simpa using h
            have h2 : c.toNat ≠ 0 := fun h3 => this (BitVec.eq_of_toNat_eq (by simpa using h3))
            simpa using h2
          · have : c = 0 := by simpa using h
            rw [this]
            rfl
        have HC : Hid (cz = (c == 0)) := Lib.hid hcz
        clear hx hcz
        obtain ⟨z, hz_⟩ : ∃ z, z = noughts r0 i := ⟨_, rfl⟩
        have HZz := Lib.hid hz_
        rw [← hz_]
        clear hz_
        have HS1 : Hid (O14 w (wr.setCell ⟨b, 0, none⟩ (Sv r)) ab rz hz zb b ahead ZR ZT ⟨r, 0⟩) := Lib.hid (HO.out.tape_ (heap_setCell_same wr b 0 _ _ (Sv r) HO.out.tape) (grown_setCell wr b 0 _))
        have HEND : Hid (OLoop w ab rz hz zb b ahead ZR ZT N0 r0 (.int .i64 ((U + 1 : Nat) : Int)) (.bool (z && cz)) (wr.setCell ⟨b, 0, none⟩ (Sv r))) := by
          refine Lib.hid ⟨i + 1, HQ0.out, HNx.out.2.2, by rw [HU.out.1]; rfl, by rw [HNx.out.1, HZz.out, HC.out], ?_⟩
          rw [HNx.out.2.1]
          exact HS1.out
        have HMS : Hid (N0 + 128 - (intOf (.int .i64 ((U + 1 : Nat) : Int))).toNat < N0 + 128 - (intOf (.int .i64 (U : Int))).toNat) := by
          refine Lib.hid ?_
          have h1 := HU.out.1
          have h3 := HQ0.out
          have h4 := noughtN_lt N0
          show N0 + 128 - ((U + 1 : Nat) : Int).toNat < N0 + 128 - (U : Int).toNat
          rw [Int.toNat_natCast, Int.toNat_natCast]
          omega
        cases z with
        | false =>
          go_wp2_with (fail)
          exact ⟨HEND.out, HMS.out⟩
        | true =>
          go_wp2_with (fail)
          rw [Bool.true_and] at HEND
          exact ⟨HEND.out, HMS.out⟩
end Go.Proofs.YtdmnhgbdeifpbaaDoor
namespace Go.Proofs.YtdmnhgbdeifpbaaDoor
open Go Go.RowKit
theorem readR_items (m : List (BitVec 8)) : (readR m).1.items.length ≤ 64 := by
  obtain ⟨x, t, h⟩ : ∃ x t, rec0 ⟨m, 0⟩ = (x, t) := ⟨_, _, rfl⟩
  by_cases he : t.e = 0
  · cases hx : x.rightB with
    | false => rw [read_bad h hx he]; exact Nat.zero_le _
    | true =>
      have hp : x.items.length ≤ 64 := by
        obtain ⟨_, hp⟩ := right_parts hx
        rcases hp with ⟨_, _, _, h4, _⟩ | ⟨_, _, _, h4⟩
        · exact h4
        · rw [h4]; decide
      by_cases hd : t.done = 0
      · rw [read_ok h hx hd]; exact hp
      · rw [read_dn h hx rfl hd]; exact Nat.zero_le _
  · rw [read_err h he]; exact Nat.zero_le _
end Go.Proofs.YtdmnhgbdeifpbaaDoor
