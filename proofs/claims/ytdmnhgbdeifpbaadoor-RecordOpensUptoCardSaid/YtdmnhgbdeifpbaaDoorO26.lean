/-
  Part 26 of 42 of what the proof leans on.
-/
import Derived.Test.YtdmnhgbdeifpbaaDoorO24
import Derived.Test.YtdmnhgbdeifpbaaDoorO25
import Derived.Test.YtdmnhgbdeifpbaaDoorO22
import Derived.Test.YtdmnhgbdeifpbaaDoorO18
import Derived.Test.YtdmnhgbdeifpbaaDoorO21
namespace Go.Proofs.YtdmnhgbdeifpbaaDoor
open Go Go.RowKit
theorem results_cell2_tmp2 {P : Program} {fn : Func} {p1 p2 s1 s2 : Tmp} {ty1 ty2 : TypeId} (h : fn.results = #[.cell p1 ty1, .cell p2 ty2, .tmp s1, .tmp s2]) (tmps : Array Value) (w : World) (g1 g2 : Nat) (t1 t2 : TypeId) (cs1 cs2 : Array Value) (fr1 fr2 : Nat × Nat) (d1 d2 : TypeDesc)
    (hp1 : tmps.getD p1 undef = .pointer (some ⟨g1, 0, none⟩)) (hp2 : tmps.getD p2 undef = .pointer (some ⟨g2, 0, none⟩)) (hg1 : w.heap[g1]? = some (.cells cs1 t1 fr1)) (hg2 : w.heap[g2]? = some (.cells cs2 t2 fr2))
    (hd1 : P.underlying ty1 = some d1) (ha1 : (match d1 with | .struct _ | .array _ _ => true | _ => false) = true) (hi1 : (P.info? ty1).map (·.size) = some cs1.size)
    (hd2 : P.underlying ty2 = some d2) (ha2 : (match d2 with | .struct _ | .array _ _ => true | _ => false) = true) (hi2 : (P.info? ty2).map (·.size) = some cs2.size) :
    (results fn tmps).run P w = .ok (.tuple #[.agg cs1, .agg cs2, tmps.getD s1 undef, tmps.getD s2 undef]) w := by
  have hp1' : tmps[p1]?.getD undef = .pointer (some ⟨g1, 0, none⟩) := by simpa using hp1
  have hp2' : tmps[p2]?.getD undef = .pointer (some ⟨g2, 0, none⟩) := by simpa using hp2
  simp [results, h, hp1', hp2', asAddr, run_loadVar_row w g1 t1 ty1 cs1 fr1 d1 hg1 hd1 ha1 hi1, run_loadVar_row w g2 t2 ty2 cs2 fr2 d2 hg2 hd2 ha2 hi2]
theorem tkSkip {P : Program} {l : List Oper} {Q : Exit → Act → World → Prop} {md : Region.Mode} {S : World → Prop} (i : Nat) {oi : Oper} {fuel : Nat} {listed : Array Bool} {a : Act} {w : World} (hi : l[i]? = some oi) (hr : Region.ready md l.toArray listed = [i]) (hg : Region.wanted oi (yielded l.toArray a.tmps) = false) (hS : S w)
    (h : wpAnyH P md l.toArray Q S fuel (listed.setIfInBounds i true) (a.put oi.dst undef) w) : wpAnyH P md l.toArray Q S (fuel + 1) listed a w := by
  refine wpAnyH_ready hr (by simp) (AllReadyH.cons (o := oi) (by rw [List.getElem?_toArray]; exact hi) (fun K hK => ?_) AllReadyH.nil)
  rw [if_neg (by rw [hg]; decide)]
  exact hK.out _ _ hS fun _ => h
def OpenEnd (w : World) (p : RecL × List (BitVec 8) × Nat × Int) (e : Ending) (w' : World) : Prop :=
  ∃ ia ic, e = .returned (.tuple #[.agg (recC p.1.kind p.1.seq (.slice ia p.1.items.length ic) p.1.area p.1.root), .agg (byA p.2.1), .int .i64 (p.2.2.1 : Int), .int .i64 p.2.2.2]) ∧ ItemsAt w' ia p.1.items ∧ p.1.root.length = 32 ∧ p.2.1.length = 32 ∧ Below w.heap.size w w'
theorem two_stored {w W : World} {rz hz : Nat} {ZR ZT C T : Array Value} (hr : W.heap[rz]? = some (.cells ZR 25 (0, 0))) (hh : W.heap[hz]? = some (.cells ZT 23 (0, 0))) (hne : rz ≠ hz) (hB : Below w.heap.size w W) (h1 : w.heap.size ≤ rz) (h2 : w.heap.size ≤ hz) :
    ((W.setRow rz C).setRow hz T).heap[rz]? = some (.cells C 25 (0, 0)) ∧ ((W.setRow rz C).setRow hz T).heap[hz]? = some (.cells T 23 (0, 0)) ∧ Below w.heap.size w ((W.setRow rz C).setRow hz T) ∧ (W.setRow rz C).heap[hz]? = some (.cells ZT 23 (0, 0)) := by
  have hh' : (W.setRow rz C).heap[hz]? = some (.cells ZT 23 (0, 0)) := (setRow_other _ _ _ _ hne.symm).trans hh; refine ⟨(setRow_other _ _ _ _ hne).trans (setRow_heap _ _ _ _ _ _ hr), setRow_heap _ _ _ _ _ _ hh', ?_, hh'⟩
  refine hB.trans ⟨rfl, rfl, rfl, by simp, fun k hk => ?_⟩
  rw [setRow_other _ _ _ _ (show k ≠ hz by omega), setRow_other _ _ _ _ (show k ≠ rz by omega)]
theorem byA_no_item (r : List (BitVec 8)) (j : Nat) (k : List (BitVec 8)) : (byA r)[j]? ≠ some (Sv k) := by
  intro h; simp only [byA, List.getElem?_toArray, List.getElem?_map, Option.map_eq_some_iff] at h; obtain ⟨x, _, h⟩ := h; simp [B, Sv] at h
theorem zeroH_len : zeroH.length = 32 := by simp [zeroH]
set_option maxRecDepth 100000 in
set_option maxHeartbeats 8000000 in
theorem ropen_any (w : World) (key ahead s : List (BitVec 8)) (seq : Int) (ka : Option Addr) (kc : Nat) (sa : Option Addr) (sc : Nat) (hK : SrcP w ka key.length key) (hkc : key.length ≤ kc) (hkm : kc ≤ 9223372036854775807) (hkl : key.length ≤ 1000000) (ha : ahead.length = 32)
    (hS : SrcP w sa s.length s) (hc : s.length ≤ sc) (h0 : sa = none → sc = 0) (hl : s.length ≤ 4257) (hW : ShaOk w) :
    Calls Tryd.prog 21 #[.slice ka key.length kc, .agg (byA ahead), .int .i64 seq, .slice sa s.length sc] w (OpenEnd w (openB key ahead seq s)) := by
  obtain ⟨P, hP⟩ : ∃ P : Ending → World → Prop, P = OpenEnd w (openB key ahead seq s) := ⟨_, rfl⟩; rw [← hP]; obtain ⟨ZR, hZR⟩ : ∃ z, z = zeroC := ⟨_, rfl⟩; have hzr := zero_rec.1; rw [← hZR] at hzr; obtain ⟨ZT, hZT⟩ : ∃ z, z = byA zeroH := ⟨_, rfl⟩; have hzt := zero_root.1; rw [← hZT] at hzt; obtain ⟨ZS, hZS⟩ : ∃ z, z = zeroSd := ⟨_, rfl⟩; have hzs := zero_sealed.1; rw [← hZS] at hzs; obtain ⟨AT, hAT⟩ : ∃ z, z = byA ahead := ⟨_, rfl⟩; obtain ⟨KN, hKN⟩ : ∃ n, n = key.length := ⟨_, rfl⟩; obtain ⟨SN, hSN⟩ : ∃ n, n = s.length := ⟨_, rfl⟩; rw [← hAT, ← hKN, ← hSN]; obtain ⟨w1, hw1⟩ : ∃ W, W = ((w.alloc (.cells AT 23)).alloc (.cells ZR 25)).alloc (.cells ZT 23) := ⟨_, rfl⟩; obtain ⟨ab, hab⟩ : ∃ b, b = w.heap.size := ⟨_, rfl⟩; obtain ⟨rz, hrz⟩ : ∃ b, b = w.heap.size + 1 := ⟨_, rfl⟩; obtain ⟨hz, hhz⟩ : ∃ b, b = w.heap.size + 1 + 1 := ⟨_, rfl⟩
  have hs1 : (w.alloc (.cells AT 23)).heap.size = w.heap.size + 1 := by simp
  have hs2 : ((w.alloc (.cells AT 23)).alloc (.cells ZR 25)).heap.size = w.heap.size + 1 + 1 := by simp
  have hB1 : Below w.heap.size w w1 := by rw [hw1]; exact (((Below.refl _ w).alloc (Nat.le_refl _) _).alloc (by rw [hs1]; omega) _).alloc (by rw [hs2]; omega) _
  have hra : w1.heap[ab]? = some (.cells (byA ahead) 23 (0, 0)) := by
    rw [hw1, hab, heap_alloc_old _ _ (by rw [hs2]; omega), heap_alloc_old _ _ (by rw [hs1]; omega), ← hAT]
    exact heap_alloc_new w _
  have hrr : w1.heap[rz]? = some (.cells ZR 25 (0, 0)) := by
    rw [hw1, hrz, heap_alloc_old _ _ (by rw [hs2]; omega), ← hs1]
    exact heap_alloc_new _ _
  have hrh : w1.heap[hz]? = some (.cells ZT 23 (0, 0)) := by
    rw [hw1, hhz, ← hs2]; exact heap_alloc_new _ _
  have hs3 : w1.heap.size = hz + 1 := by rw [hw1, hhz]; simp
  have HTk := rtake_any w1 s sa sc (hS.below hB1) hc h0 hl; rw [← hSN] at HTk; obtain ⟨tk, htk⟩ : ∃ t, t = takeB s := ⟨_, rfl⟩; rw [← htk] at HTk; have HTk := Lib.hid HTk; have HN := Lib.hid (And.intro hP (And.intro hZR (And.intro hZT (And.intro hZS (And.intro hAT (And.intro hKN htk)))))); have HQ := Lib.hid (And.intro hab (And.intro hrz (And.intro hhz hs3))); have HKy := Lib.hid (And.intro hK (And.intro hkc (And.intro hkm hkl))); have H1 := Lib.hid (And.intro hB1 (And.intro hra (And.intro hrr (And.intro hrh (And.intro hW ha)))))
  have HOL : Hid (tk.body.length ≤ 4257 ∧ tk.behind.length ≤ 128) := by
    rw [htk]
    have hn := number_range (TapeL.mk s 0) 9223372036854775807 (by decide)
    refine Lib.hid ⟨?_, ?_⟩
    · show (take3 s).1.length ≤ 4257
      unfold take3
      by_cases hbig : 4096 < (take1 s).1
      · have he : (take2 s).e ≠ 0 := by
          unfold take2; rw [if_pos hbig]; unfold TapeL.fail
          split
          · decide
          · rename_i hh
            intro e0
            exact hh ⟨e0, by decide⟩
        unfold TapeL.fixed; rw [if_pos he]; simp
      · have := fixed_le (take2 s) (take1 s).1; omega
    · show (take5 s).1.length ≤ 128
      unfold take5; have h := fixed_le (take4 s).2 ((noughtN (s.length - (take4 s).2.s.length) : Nat) : Int); have := noughtN_lt (s.length - (take4 s).2.s.length); omega
  clear hP hZR hZT hZS hAT hKN hSN hK hkc hkm hkl ha hS hc h0 hl hW hB1 hra hrr hrh hs3 htk
  go_enter Tryd.func21, Tryd.ntmps21
  go_upto_region 1 with (fail)
  rw [← hw1]
  try simp only [hs1, hs2]
  rw [← hhz, ← hrz, ← hab]; clear hw1 hs1 hs2 hab hrz hhz; refine wp_region_lit ?_
  iterate 5 go_step
  refine HTk.out.mono ?_; rintro e w2 ⟨ba, bc, ta, tc, ha, hc, rfl, h1, h2, h3, h4⟩; have H2 : Hid (Below w1.heap.size w1 w2 ∧ Below w.heap.size w w2 ∧ (tk.body.length ≤ bc ∧ bc ≤ 9223372036854775807 ∧ (ba = none → bc = 0) ∧ SrcP w2 ba tk.body.length tk.body) ∧ (tk.tag.length ≤ tc ∧ tc ≤ 9223372036854775807 ∧ SrcP w2 ta tk.tag.length tk.tag) ∧ SrcP w2 ha tk.behind.length tk.behind) := Lib.hid ⟨h4, H1.out.1.trans (h4.mono H1.out.1.size), h1, h2, h3⟩; clear h1 h2 h3 h4 HTk; dsimp only; obtain ⟨TE, hTE⟩ : ∃ x, x = tk.e := ⟨_, rfl⟩; obtain ⟨BL, hBL⟩ : ∃ x, x = tk.body.length := ⟨_, rfl⟩; obtain ⟨TL, hTL⟩ : ∃ x, x = tk.tag.length := ⟨_, rfl⟩; obtain ⟨HL, hHL⟩ : ∃ x, x = tk.behind.length := ⟨_, rfl⟩; obtain ⟨KB, hKB⟩ : ∃ x, x = tk.blocks := ⟨_, rfl⟩; rw [← hTE, ← hBL, ← hTL, ← hHL, ← hKB]; have HE := Lib.hid (And.intro hTE (And.intro hBL (And.intro hTL (And.intro hHL hKB)))); clear hTE hBL hTL hHL hKB
  iterate 13 go_step
  refine wpList_store_row rfl _ _ _ rfl w2.heap.size #[.slice ba BL bc, .slice ta TL tc, .slice ha HL hc, .int .i64 KB] rfl rfl 87 ZS (heap_alloc_new w2 _) zero_sealed.2 (by rw [HN.out.2.2.2.1]; rfl) sd_one ?_
  obtain ⟨tb, htb⟩ : ∃ x, x = w2.heap.size := ⟨_, rfl⟩; obtain ⟨w3, hw3⟩ : ∃ W, W = (w2.alloc (.cells ZS 87)).setRow w2.heap.size #[.slice ba BL bc, .slice ta TL tc, .slice ha HL hc, .int .i64 KB] := ⟨_, rfl⟩
  have H3 : Hid (RowSd w3 tb ba BL bc ta TL tc ha HL hc KB ∧ Below w1.heap.size w1 w3 ∧ Below w.heap.size w w3 ∧ SrcP w3 ba BL tk.body ∧ SrcP w3 ta TL tk.tag ∧ SrcP w3 ha HL tk.behind ∧ w1.heap.size ≤ tb) := by
    have kB : Below w2.heap.size w2 w3 := by
      rw [hw3]; have h1 := (Below.refl _ w2).alloc (Nat.le_refl _) (.cells ZS 87)
      exact h1.trans ⟨rfl, rfl, rfl, by simp, fun k hk => setRow_other _ _ _ _ (by omega)⟩
    have hb := H2.out.1.trans (kB.mono H2.out.1.size); have e1 := HE.out
    refine Lib.hid ⟨by rw [hw3, htb]; exact setRow_heap _ _ ZS _ _ _ (heap_alloc_new w2 _), hb, H1.out.1.trans (hb.mono H1.out.1.size), ?_, ?_, ?_, by rw [htb]; exact H2.out.1.size⟩
    · rw [e1.2.1]; exact H2.out.2.2.1.2.2.2.below kB
    · rw [e1.2.2.1]; exact H2.out.2.2.2.1.2.2.below kB
    · rw [e1.2.2.2.1]; exact H2.out.2.2.2.2.below kB
  rw [← hw3, ← htb]; clear hw3 htb
  by_cases hte : TE = 0
  · subst hte
    go_upto_region 4 with (fail)
    have HHd : Hid (Calls Tryd.prog 18 #[.agg (byA ahead), .slice ba BL bc] w3 (Below0 w3 (.agg (byA (headL ahead tk.body))))) := by
      have e := HE.out.2.1; rw [e]; have h2 := H2.out.2.2.1; have h3 := H3.out.2.2.2.1; rw [e] at h3
      exact Lib.hid (rhead_any w3 ahead tk.body ba bc H1.out.2.2.2.2.2 h3 h2.1 h2.2.1 (by have := HOL.out.1; omega) (H1.out.2.2.2.2.1.below H3.out.2.2.1))
    refine wp_region_lit ?_; refine wpList_load_at rfl 23 _ rfl ⟨ab, 0, none⟩ rfl (.agg (byA ahead)) (load_row32 H1.out.2.2.2.2.2 ((H3.out.2.1.block _ (Array.getElem?_eq_some_iff.1 H1.out.2.1).1).trans H1.out.2.1)) ?_; obtain ⟨d0, -⟩ := H3.out.1.d4
    iterate 8 go_step
    refine HHd.out.mono ?_; rintro e w4 ⟨rfl, hB4⟩; clear d0 HHd; obtain ⟨HD, hHD⟩ : ∃ x, x = headL ahead tk.body := ⟨_, rfl⟩; rw [← hHD]
    have HHD : Hid (HD = headL ahead tk.body ∧ HD.length = 32) := Lib.hid ⟨hHD, by rw [hHD]; exact headL_length _ _⟩
    clear hHD; have H4 := Lib.hid hB4; clear hB4; dsimp only
    iterate 4 go_step
    refine wpList_store_row rfl _ _ _ rfl w4.heap.size (byA HD) rfl rfl 23 ZT (heap_alloc_new w4 _) (arr_size _ HHD.out.2) (by rw [HN.out.2.2.1, byA_size, byA_size, HHD.out.2]; rfl) (byA_one _) ?_
    obtain ⟨hb, hhb⟩ : ∃ b, b = w4.heap.size := ⟨_, rfl⟩; obtain ⟨w5, hw5⟩ : ∃ W, W = (w4.alloc (.cells ZT 23)).setRow w4.heap.size (byA HD) := ⟨_, rfl⟩
    have H5 : Hid (Below w3.heap.size w3 w5 ∧ Below w1.heap.size w1 w5 ∧ Below w.heap.size w w5 ∧ w5.heap[hb]? = some (.cells (byA HD) 23 (0, 0)) ∧ RowSd w5 tb ba BL bc ta TL tc ha HL hc KB ∧ w1.heap.size ≤ hb) := by
      have k : Below w4.heap.size w4 w5 := by
        rw [hw5]; have h1 := (Below.refl _ w4).alloc (Nat.le_refl _) (.cells ZT 23)
        exact h1.trans ⟨rfl, rfl, rfl, by simp, fun k hk => setRow_other _ _ _ _ (by omega)⟩
      have h3 := H4.out.trans (k.mono H4.out.size); have h1 := H3.out.2.1.trans (h3.mono H3.out.2.1.size)
      refine Lib.hid ⟨h3, h1, H1.out.1.trans (h1.mono H1.out.1.size), ?_, (h3.block _ H3.out.1.lt).trans H3.out.1, by rw [hhb]; have := H3.out.2.1.size; have := H4.out.size; omega⟩
      rw [hw5, hhb]; exact setRow_heap _ _ ZT _ _ _ (heap_alloc_new w4 _)
    rw [← hw5, ← hhb]; clear hw5 hhb
    -- the tag
    have hd5 : Below w5.heap.size w5 w5.drew := (Below.refl _ w5).drew; have hrow5 : RowSd w5.drew tb ba BL bc ta TL tc ha HL hc KB := H5.out.2.2.2.2.1
    go_upto_region 5 with (fail)
    refine wp_region_held_drew (S := fun w' => RowSd w' tb ba BL bc ta TL tc ha HL hc KB) (by kernel_rfl) hrow5 (fun hHeld => ?_)
    refine tkFree (i := 0) rfl (by kernel_rfl) (by kernel_rfl) (by kernel_rfl) (fun _ _ _ h => h) (.inl ⟨by rfl, fun w hSw => by go_simp; rfl⟩) hHeld ?_
    simp only [Act.put, List.setIfInBounds_toArray, List.set_cons_zero, List.set_cons_succ]
    refine tkFree (i := 1) (v := .pointer (some ⟨tb, 1, none⟩)) rfl (by kernel_rfl) (by kernel_rfl) (by kernel_rfl) (fun _ _ _ h => h) (.inl ⟨by rfl, fun w hSw => by go_simp⟩) hHeld ?_
    simp only [Act.put, List.setIfInBounds_toArray, List.set_cons_zero, List.set_cons_succ]
    refine tkFree (i := 2) (v := .slice ta TL tc) rfl (by kernel_rfl) (by kernel_rfl) (by kernel_rfl) (fun _ _ _ h => h) (.inl ⟨by rfl, fun w hSw => by (obtain ⟨g0, g1, g2, g3, -⟩ := RowSd.d4 hSw); go_simp⟩) hHeld ?_
    simp only [Act.put, List.setIfInBounds_toArray, List.set_cons_zero, List.set_cons_succ]
    refine tkFree (i := 4) (v := .slice (some ⟨hb, 0, none⟩) 32 32) rfl (by kernel_rfl) (by kernel_rfl) (by kernel_rfl) (fun _ _ _ h => h) (.inl ⟨by rfl, fun w hSw => by go_simp⟩) hHeld ?_
    simp only [Act.put, List.setIfInBounds_toArray, List.set_cons_zero, List.set_cons_succ]
    refine tkOne 3 rfl (by kernel_rfl) rfl (fun K hK => ?_)
    refine wp_bytesLit 1 _ rfl [76] rfl (by decide) (by decide) rfl ?_
    obtain ⟨b76, hb76⟩ : ∃ b, b = w5.drew.heap.size := ⟨_, rfl⟩; obtain ⟨w6, hw6⟩ : ∃ W, W = w5.drew.alloc (.cells (([76] : List (BitVec 8)).map B).toArray 5) := ⟨_, rfl⟩
    have H6 : Hid (Below w5.heap.size w5 w6 ∧ w6.heap[b76]? = some (.cells (([76] : List (BitVec 8)).map B).toArray 5 (0, 0))) := by
      rw [hw6, hb76]; exact Lib.hid ⟨hd5.trans ((Below.refl w5.drew.heap.size w5.drew).alloc (Nat.le_refl _) _), heap_alloc_new w5.drew _⟩
    rw [← hw6, ← hb76]; clear hw6 hb76; have hH := (H6.out.1.block _ H5.out.2.2.2.2.1.lt).trans H5.out.2.2.2.2.1; refine hK _ _ hH ?_; clear hK hHeld hrow5 hd5; have hHeld : RowSd w6 tb ba BL bc ta TL tc ha HL hc KB := hH; clear hH
    try simp only [Act.put, List.setIfInBounds_toArray, List.set_cons_zero, List.set_cons_succ]
    refine tkOne 5 rfl (by kernel_rfl) rfl (fun K hK => ?_)
    refine wp_parts2 (.tmp 33) (.tmp 34) rfl ⟨some ⟨b76, 0, none⟩, 1, [76]⟩ ⟨some ⟨hb, 0, none⟩, 32, HD⟩ rfl (by rw [Part.val, HHD.out.2]; rfl) ?_
    obtain ⟨gb, hgb⟩ : ∃ b, b = w6.heap.size := ⟨_, rfl⟩; obtain ⟨w7, hw7⟩ : ∃ W, W = w6.alloc (.cells #[(Part.mk (some ⟨b76, 0, none⟩) 1 [76]).val, (Part.mk (some ⟨hb, 0, none⟩) 32 HD).val] 26) := ⟨_, rfl⟩; obtain ⟨gd, hgd⟩ : ∃ b, b = decide (tagL key HD = tk.tag) := ⟨_, rfl⟩
    have H7 : Hid (Below w5.heap.size w5 w7 ∧ Calls Tryd.prog 54 #[.slice ka KN kc, .slice ta TL tc, .slice (some ⟨gb, 0, none⟩) 2 2] w7 (Below0 w7 (.bool gd))) := by
      have hB7 : Below w6.heap.size w6 w7 := by rw [hw7]; exact (Below.refl _ w6).alloc (Nat.le_refl _) _
      have h57 := H6.out.1.trans (hB7.mono H6.out.1.size); have h37 := H5.out.1.trans (h57.mono H5.out.1.size); have hw := H3.out.2.2.1.trans (h37.mono H3.out.2.2.1.size); have hW7 := H1.out.2.2.2.2.1.below hw
      have hr7 : w7.heap[gb]? = some (.cells #[(Part.mk (some ⟨b76, 0, none⟩) 1 [76]).val, (Part.mk (some ⟨hb, 0, none⟩) 32 HD).val] 26 (0, 0)) := by rw [hw7, hgb]; exact heap_alloc_new w6 _
      have hrt := (hB7.block _ (Array.getElem?_eq_some_iff.1 H6.out.2).1).trans H6.out.2; have hrh : w7.heap[hb]? = some (.cells (HD.map B).toArray 23 (0, 0)) := (h57.block _ (Array.getElem?_eq_some_iff.1 H5.out.2.2.2.1).1).trans H5.out.2.2.2.1; have ht := H3.out.2.2.2.2.1.below h37; have et := HE.out.2.2.1; rw [et] at ht
      have h := hgood_any w7 ka (some ⟨gb, 0, none⟩) ta kc 2 tc key tk.tag [⟨some ⟨b76, 0, none⟩, 1, [76]⟩, ⟨some ⟨hb, 0, none⟩, 32, HD⟩] (HKy.out.1.below hw) HKy.out.2.1 HKy.out.2.2.1 (by have := HKy.out.2.2.2; omega) (parts_two _ _ hr7) (fun p hp => by
        simp only [List.mem_cons, List.not_mem_nil, or_false] at hp
        rcases hp with rfl | rfl
        · exact ⟨Nat.le_refl _, show 1 ≤ 9223372036854775807 by decide, src_row hrt⟩
        · exact ⟨Nat.le_of_eq HHD.out.2, show 32 ≤ 9223372036854775807 by decide, src_row hrh⟩) (show 2 ≤ 9223372036854775807 by decide) (by simp [flat, HHD.out.2]) ht (by have := H2.out.2.2.2.1; omega) hW7.1 hW7.2
      rw [show flat [Part.mk (some ⟨b76, 0, none⟩) 1 [76], ⟨some ⟨hb, 0, none⟩, 32, HD⟩] = 76 :: HD by simp [flat], ← HN.out.2.2.2.2.2.1, ← et, show decide (shaL (macL key (76 :: HD)) = tk.tag) = gd from hgd.symm] at h
      exact Lib.hid ⟨h57, h⟩
    rw [← hw7, ← hgb]; have HGD := Lib.hid hgd; clear hw7 hgb hgd; have hH : RowSd w7 tb ba BL bc ta TL tc ha HL hc KB := (H7.out.1.block _ H5.out.2.2.2.2.1.lt).trans H5.out.2.2.2.2.1; refine hK _ _ hH ?_; clear hK hHeld
    try simp only [Act.put, List.setIfInBounds_toArray, List.set_cons_zero, List.set_cons_succ]
    refine tkOne 6 rfl (by kernel_rfl) rfl (fun K hK => ?_)
    go_simp
    refine H7.out.2.mono ?_; rintro e w8 ⟨rfl, hB8⟩
    have H8 : Hid (Below w5.heap.size w5 w8 ∧ Below w1.heap.size w1 w8 ∧ Below w3.heap.size w3 w8) := by
      have h58 := H7.out.1.trans (hB8.mono H7.out.1.size); exact Lib.hid ⟨h58, H5.out.2.1.trans (h58.mono H5.out.2.1.size), H5.out.1.trans (h58.mono H5.out.1.size)⟩
    have hHeld : RowSd w8 tb ba BL bc ta TL tc ha HL hc KB := (H8.out.1.block _ H5.out.2.2.2.2.1.lt).trans H5.out.2.2.2.2.1; refine hK _ _ hHeld ?_; clear hK hH hB8
    try simp only [Act.put, List.setIfInBounds_toArray, List.set_cons_zero, List.set_cons_succ]
    cases gd with
    | false =>
      refine tkFree (i := 7) rfl (by kernel_rfl) (by kernel_rfl) (by kernel_rfl) (fun _ _ _ h => h) (.inl ⟨by rfl, fun w hSw => by go_simp; rfl⟩) hHeld ?_
      simp only [Act.put, List.setIfInBounds_toArray, List.set_cons_zero, List.set_cons_succ]
      refine tkFree (i := 8) rfl (by kernel_rfl) (by kernel_rfl) (by kernel_rfl) (fun _ _ _ h => h) (.inl ⟨by rfl, fun w hSw => by go_simp; rfl⟩) hHeld ?_
      simp only [Act.put, List.setIfInBounds_toArray, List.set_cons_zero, List.set_cons_succ]
      refine tkFree (i := 9) rfl (by kernel_rfl) (by kernel_rfl) (by kernel_rfl) (fun _ _ _ h => h) (.inr ⟨by rfl, rfl⟩) hHeld ?_
      simp only [Act.put, List.setIfInBounds_toArray, List.set_cons_zero, List.set_cons_succ]
      refine tkFree (i := 10) rfl (by kernel_rfl) (by kernel_rfl) (by kernel_rfl) (fun _ _ _ h => h) (.inr ⟨by rfl, rfl⟩) hHeld ?_
      simp only [Act.put, List.setIfInBounds_toArray, List.set_cons_zero, List.set_cons_succ]
      refine tkSkip 11 rfl (by kernel_rfl) rfl hHeld ?_
      try simp only [Act.put, List.setIfInBounds_toArray, List.set_cons_zero, List.set_cons_succ]
      refine tkFree (i := 12) rfl (by kernel_rfl) (by kernel_rfl) (by kernel_rfl) (fun _ _ _ h => h) (.inl ⟨by rfl, fun w hSw => by go_simp; rfl⟩) hHeld ?_
      simp only [Act.put, List.setIfInBounds_toArray, List.set_cons_zero, List.set_cons_succ]; clear hHeld
      refine wpAnyH_done (by kernel_rfl) ?_ _
      have HOB : Hid (openB key ahead seq s = (zeroR, ahead, 0, 40)) := by
        unfold openB
        rw [← HN.out.2.2.2.2.2.2, if_neg (by rw [← HE.out.1]; decide), ← HHD.out.1, if_pos (.inl (of_decide_eq_false HGD.out.symm))]
        exact Lib.hid rfl

      have hdr : w8.drew.heap[ab]? = some (.cells (byA ahead) 23 (0, 0)) := (H8.out.2.1.block _ (Array.getElem?_eq_some_iff.1 H1.out.2.1).1).trans H1.out.2.1
      have HX : Hid (w8.drew.heap[rz]? = some (.cells ZR 25 (0, 0)) ∧ w8.drew.heap[hz]? = some (.cells ZT 23 (0, 0)) ∧ Below w.heap.size w w8.drew ∧ rz ≠ hz ∧ ab ≠ rz ∧ ab ≠ hz ∧ w.heap.size ≤ rz ∧ w.heap.size ≤ hz) := by
        have q := HQ.out; have hb : Below w1.heap.size w1 w8 := H8.out.2.1
        exact Lib.hid ⟨(hb.block _ (Array.getElem?_eq_some_iff.1 H1.out.2.2.1).1).trans H1.out.2.2.1, (hb.block _ (Array.getElem?_eq_some_iff.1 H1.out.2.2.2.1).1).trans H1.out.2.2.2.1, H1.out.1.trans ((hb.trans (⟨rfl, rfl, rfl, Nat.le_refl _, fun _ _ => rfl⟩ : Below w1.heap.size w8 w8.drew)).mono H1.out.1.size), by omega, by omega, by omega, by omega, by omega⟩
      go_upto_region 6 with (fail)
      refine wp_region_held_drew (S := fun w' => w'.heap[ab]? = some (.cells (byA ahead) 23 (0, 0))) (by kernel_rfl) hdr (fun hHeld => ?_)
      refine tkFree (i := 0) (v := .agg ZR) rfl (by kernel_rfl) (by kernel_rfl) (by kernel_rfl) (fun _ _ _ h => h) (yieldsIf_build rfl 25 _ rfl (by rw [HN.out.2.1]; simpa using zero_rec.2)) hHeld ?_
      simp only [Act.put, List.setIfInBounds_toArray, List.set_cons_zero, List.set_cons_succ]
      refine tkFree (i := 1) (v := .agg (byA ahead)) rfl (by kernel_rfl) (by kernel_rfl) (by kernel_rfl) (fun _ _ _ h => h) (yieldsIf_load_at (by rfl) 23 _ rfl ⟨ab, 0, none⟩ rfl (fun w hS => load_row32 H1.out.2.2.2.2.2 hS)) hHeld ?_
      simp only [Act.put, List.setIfInBounds_toArray, List.set_cons_zero, List.set_cons_succ]
      refine tkOne 2 rfl (by kernel_rfl) rfl (fun K hK => ?_)
      obtain ⟨z1, z2, z3, z4⟩ := two_stored (C := ZR) (T := byA ahead) HX.out.1 HX.out.2.1 HX.out.2.2.2.1 HX.out.2.2.1 HX.out.2.2.2.2.2.2.1 HX.out.2.2.2.2.2.2.2
      refine wp_store_row _ (.tmp 8) (.tmp 43) rfl rz ZR rfl rfl 25 ZR HX.out.1 (by rw [HN.out.2.1]; exact rec_size _ _ _ _ _ zeroH_len) rfl (by rw [HN.out.2.1]; exact recC_one _ rfl) ?_
      have hH2 := (setRow_other w8.drew rz ab ZR HX.out.2.2.2.2.1).trans hHeld; refine hK _ _ hH2 ?_; clear hK hHeld; have hHeld := hH2
      try simp only [Act.put, ]
      refine tkOne 3 rfl (by kernel_rfl) rfl (fun K hK => ?_)
      refine wp_store_row _ (.tmp 9) (.tmp 44) rfl hz (byA ahead) rfl rfl 23 ZT z4 (arr_size _ H1.out.2.2.2.2.2) (by rw [HN.out.2.2.1, byA_size, byA_size, H1.out.2.2.2.2.2]; rfl) (byA_one _) ?_
      have hH3 := (setRow_other (w8.drew.setRow rz ZR) hz ab (byA ahead) HX.out.2.2.2.2.2.1).trans hHeld; refine hK _ _ hH3 ?_; clear hK hHeld hH2; have hHeld := hH3; clear hH3 hdr
      try simp only [Act.put, ]
      refine tkFree (i := 4) rfl (by kernel_rfl) (by kernel_rfl) (by kernel_rfl) (fun _ _ _ h => h) (.inl ⟨by rfl, fun w hSw => by go_simp; rfl⟩) hHeld ?_
      simp only [Act.put, List.setIfInBounds_toArray, List.set_cons_zero, List.set_cons_succ]
      refine tkFree (i := 5) rfl (by kernel_rfl) (by kernel_rfl) (by kernel_rfl) (fun _ _ _ h => h) (.inl ⟨by rfl, fun w hSw => by go_simp; rfl⟩) hHeld ?_
      simp only [Act.put, List.setIfInBounds_toArray, List.set_cons_zero, List.set_cons_succ]; clear hHeld
      refine wpAnyH_done (by kernel_rfl) ?_ _
      obtain ⟨W7, hW7⟩ : ∃ W, W = (w8.drew.setRow rz ZR).setRow hz (byA ahead) := ⟨_, rfl⟩
      have HZ : Hid (P (.returned (.tuple #[.agg ZR, .agg (byA ahead), .int .i64 0, .int .i64 40])) W7 ∧ W7.heap[rz]? = some (.cells ZR 25 (0, 0)) ∧ W7.heap[hz]? = some (.cells (byA ahead) 23 (0, 0))) := by
        rw [← hW7] at z1 z2 z3; refine Lib.hid ⟨?_, z1, z2⟩; rw [HN.out.1, HOB.out, HN.out.2.1]; exact ⟨none, 0, rfl, .inl rfl, zeroH_len, H1.out.2.2.2.2.2, z3⟩
      rw [← hW7]; clear hW7 z1 z2 z3 z4; go_wp2_with (fail); refine bodyPost_ret (v := .tuple #[.agg ZR, .agg (byA ahead), .int .i64 0, .int .i64 40]) ?_ rfl HZ.out.1
      exact results_cell2_tmp2 (p1 := 8) (p2 := 9) (s1 := 10) (s2 := 11) rfl _ _ rz hz 25 23 ZR (byA ahead) (0, 0) (0, 0) _ _ rfl rfl HZ.out.2.1 HZ.out.2.2 Tryd.underlying25 rfl (by rw [HN.out.2.1]; exact rec_size _ _ _ _ _ zeroH_len) Tryd.underlying23 rfl (arr_size _ H1.out.2.2.2.2.2)

    | true =>
      refine tkFree (i := 7) rfl (by kernel_rfl) (by kernel_rfl) (by kernel_rfl) (fun _ _ _ h => h) (.inl ⟨by rfl, fun w hSw => by go_simp; rfl⟩) hHeld ?_
      simp only [Act.put, List.setIfInBounds_toArray, List.set_cons_zero, List.set_cons_succ]
      refine tkFree (i := 8) rfl (by kernel_rfl) (by kernel_rfl) (by kernel_rfl) (fun _ _ _ h => h) (.inl ⟨by rfl, fun w hSw => by go_simp; rfl⟩) hHeld ?_
      simp only [Act.put, List.setIfInBounds_toArray, List.set_cons_zero, List.set_cons_succ]
      refine tkFree (i := 9) (v := .pointer (some ⟨tb, 2, none⟩)) rfl (by kernel_rfl) (by kernel_rfl) (by kernel_rfl) (fun _ _ _ h => h) (.inl ⟨by rfl, fun w hSw => by go_simp⟩) hHeld ?_
      simp only [Act.put, List.setIfInBounds_toArray, List.set_cons_zero, List.set_cons_succ]
      refine tkFree (i := 10) (v := .slice ha HL hc) rfl (by kernel_rfl) (by kernel_rfl) (by kernel_rfl) (fun _ _ _ h => h) (.inl ⟨by rfl, fun w hSw => by (obtain ⟨g0, g1, g2, g3, -⟩ := RowSd.d4 hSw); go_simp⟩) hHeld ?_
      simp only [Act.put, List.setIfInBounds_toArray, List.set_cons_zero, List.set_cons_succ]
      have HCn : Hid (Calls Tryd.prog 55 #[.slice ha HL hc, .func (.func 56) #[] #[]] w8 (fun e w' => e = .returned (.bool (tk.behind.any fun x => x != 0)) ∧ w' = w8)) := by
        have h := H3.out.2.2.2.2.2.1.below H8.out.2.2; have e := HE.out.2.2.2.1; rw [e] at h ⊢
        exact Lib.hid (contains_any w8 ha hc tk.behind h (by have := HOL.out.2; omega))
      obtain ⟨nf, hnf⟩ : ∃ b, b = (tk.behind.any fun x => x != 0) := ⟨_, rfl⟩; rw [← hnf] at HCn; have HNf := Lib.hid hnf; clear hnf
      refine tkWant 11 rfl (by kernel_rfl) rfl (fun K hK => ?_)
      go_simp
      refine HCn.out.mono ?_; rintro e w9 ⟨rfl, rfl⟩; refine hK _ _ hHeld ?_; clear hK HCn
      try simp only [Act.put, List.setIfInBounds_toArray, List.set_cons_zero, List.set_cons_succ]
      refine tkFree (i := 12) rfl (by kernel_rfl) (by kernel_rfl) (by kernel_rfl) (fun _ _ _ h => h) (.inl ⟨by rfl, fun w hSw => by go_simp; rfl⟩) hHeld ?_
      simp only [Act.put, List.setIfInBounds_toArray, List.set_cons_zero, List.set_cons_succ]; clear hHeld
      refine wpAnyH_done (by kernel_rfl) ?_ _
      cases nf with
      | true =>
        have HOB : Hid (openB key ahead seq s = (zeroR, ahead, 0, 40)) := by
          unfold openB
          rw [← HN.out.2.2.2.2.2.2, if_neg (by rw [← HE.out.1]; decide), ← HHD.out.1, if_pos (.inr HNf.out.symm)]
          exact Lib.hid rfl

        have hdr : w9.drew.heap[ab]? = some (.cells (byA ahead) 23 (0, 0)) := (H8.out.2.1.block _ (Array.getElem?_eq_some_iff.1 H1.out.2.1).1).trans H1.out.2.1
        have HX : Hid (w9.drew.heap[rz]? = some (.cells ZR 25 (0, 0)) ∧ w9.drew.heap[hz]? = some (.cells ZT 23 (0, 0)) ∧ Below w.heap.size w w9.drew ∧ rz ≠ hz ∧ ab ≠ rz ∧ ab ≠ hz ∧ w.heap.size ≤ rz ∧ w.heap.size ≤ hz) := by
          have q := HQ.out; have hb : Below w1.heap.size w1 w9 := H8.out.2.1
          exact Lib.hid ⟨(hb.block _ (Array.getElem?_eq_some_iff.1 H1.out.2.2.1).1).trans H1.out.2.2.1, (hb.block _ (Array.getElem?_eq_some_iff.1 H1.out.2.2.2.1).1).trans H1.out.2.2.2.1, H1.out.1.trans ((hb.trans (⟨rfl, rfl, rfl, Nat.le_refl _, fun _ _ => rfl⟩ : Below w1.heap.size w9 w9.drew)).mono H1.out.1.size), by omega, by omega, by omega, by omega, by omega⟩
        go_upto_region 6 with (fail)
        refine wp_region_held_drew (S := fun w' => w'.heap[ab]? = some (.cells (byA ahead) 23 (0, 0))) (by kernel_rfl) hdr (fun hHeld => ?_)
        refine tkFree (i := 0) (v := .agg ZR) rfl (by kernel_rfl) (by kernel_rfl) (by kernel_rfl) (fun _ _ _ h => h) (yieldsIf_build rfl 25 _ rfl (by rw [HN.out.2.1]; simpa using zero_rec.2)) hHeld ?_
        simp only [Act.put, List.setIfInBounds_toArray, List.set_cons_zero, List.set_cons_succ]
        refine tkFree (i := 1) (v := .agg (byA ahead)) rfl (by kernel_rfl) (by kernel_rfl) (by kernel_rfl) (fun _ _ _ h => h) (yieldsIf_load_at (by rfl) 23 _ rfl ⟨ab, 0, none⟩ rfl (fun w hS => load_row32 H1.out.2.2.2.2.2 hS)) hHeld ?_
        simp only [Act.put, List.setIfInBounds_toArray, List.set_cons_zero, List.set_cons_succ]
        refine tkOne 2 rfl (by kernel_rfl) rfl (fun K hK => ?_)
        obtain ⟨z1, z2, z3, z4⟩ := two_stored (C := ZR) (T := byA ahead) HX.out.1 HX.out.2.1 HX.out.2.2.2.1 HX.out.2.2.1 HX.out.2.2.2.2.2.2.1 HX.out.2.2.2.2.2.2.2
        refine wp_store_row _ (.tmp 8) (.tmp 43) rfl rz ZR rfl rfl 25 ZR HX.out.1 (by rw [HN.out.2.1]; exact rec_size _ _ _ _ _ zeroH_len) rfl (by rw [HN.out.2.1]; exact recC_one _ rfl) ?_
        have hH2 := (setRow_other w9.drew rz ab ZR HX.out.2.2.2.2.1).trans hHeld; refine hK _ _ hH2 ?_; clear hK hHeld; have hHeld := hH2
        try simp only [Act.put, ]
        refine tkOne 3 rfl (by kernel_rfl) rfl (fun K hK => ?_)
        refine wp_store_row _ (.tmp 9) (.tmp 44) rfl hz (byA ahead) rfl rfl 23 ZT z4 (arr_size _ H1.out.2.2.2.2.2) (by rw [HN.out.2.2.1, byA_size, byA_size, H1.out.2.2.2.2.2]; rfl) (byA_one _) ?_
        have hH3 := (setRow_other (w9.drew.setRow rz ZR) hz ab (byA ahead) HX.out.2.2.2.2.2.1).trans hHeld; refine hK _ _ hH3 ?_; clear hK hHeld hH2; have hHeld := hH3; clear hH3 hdr
        try simp only [Act.put, ]
        refine tkFree (i := 4) rfl (by kernel_rfl) (by kernel_rfl) (by kernel_rfl) (fun _ _ _ h => h) (.inl ⟨by rfl, fun w hSw => by go_simp; rfl⟩) hHeld ?_
        simp only [Act.put, List.setIfInBounds_toArray, List.set_cons_zero, List.set_cons_succ]
        refine tkFree (i := 5) rfl (by kernel_rfl) (by kernel_rfl) (by kernel_rfl) (fun _ _ _ h => h) (.inl ⟨by rfl, fun w hSw => by go_simp; rfl⟩) hHeld ?_
        simp only [Act.put, List.setIfInBounds_toArray, List.set_cons_zero, List.set_cons_succ]; clear hHeld
        refine wpAnyH_done (by kernel_rfl) ?_ _
        obtain ⟨W7, hW7⟩ : ∃ W, W = (w9.drew.setRow rz ZR).setRow hz (byA ahead) := ⟨_, rfl⟩
        have HZ : Hid (P (.returned (.tuple #[.agg ZR, .agg (byA ahead), .int .i64 0, .int .i64 40])) W7 ∧ W7.heap[rz]? = some (.cells ZR 25 (0, 0)) ∧ W7.heap[hz]? = some (.cells (byA ahead) 23 (0, 0))) := by
          rw [← hW7] at z1 z2 z3; refine Lib.hid ⟨?_, z1, z2⟩; rw [HN.out.1, HOB.out, HN.out.2.1]; exact ⟨none, 0, rfl, .inl rfl, zeroH_len, H1.out.2.2.2.2.2, z3⟩
        rw [← hW7]; clear hW7 z1 z2 z3 z4; go_wp2_with (fail); refine bodyPost_ret (v := .tuple #[.agg ZR, .agg (byA ahead), .int .i64 0, .int .i64 40]) ?_ rfl HZ.out.1
        exact results_cell2_tmp2 (p1 := 8) (p2 := 9) (s1 := 10) (s2 := 11) rfl _ _ rz hz 25 23 ZR (byA ahead) (0, 0) (0, 0) _ _ rfl rfl HZ.out.2.1 HZ.out.2.2 Tryd.underlying25 rfl (by rw [HN.out.2.1]; exact rec_size _ _ _ _ _ zeroH_len) Tryd.underlying23 rfl (arr_size _ H1.out.2.2.2.2.2)

      | false =>
        go_upto_region 7 with (fail)
        have hrow9 : RowSd w9 tb ba BL bc ta TL tc ha HL hc KB := (H8.out.1.block _ H5.out.2.2.2.2.1.lt).trans H5.out.2.2.2.2.1; obtain ⟨d0, -⟩ := hrow9.d4
        have HRd : Hid (Calls Tryd.prog 11 #[.slice ba BL bc] w9 (RecEnd w9 (readR tk.body))) := by
          have e := HE.out.2.1; have h := H3.out.2.2.2.1.below H8.out.2.2; rw [e] at h ⊢
          exact Lib.hid (rread14_any w9 tk.body ba bc h H2.out.2.2.1.2.2.1 (by have := HOL.out.1; omega))
        obtain ⟨xr, hxr⟩ : ∃ x, x = (readR tk.body).1 := ⟨_, rfl⟩; obtain ⟨xe, hxe⟩ : ∃ x, x = (readR tk.body).2 := ⟨_, rfl⟩; have HRR : Hid (xr = (readR tk.body).1 ∧ xe = (readR tk.body).2) := Lib.hid ⟨hxr, hxe⟩; unfold RecEnd at HRd; rw [← hxr, ← hxe] at HRd; clear hxr hxe; refine wp_region_lit ?_
        iterate 8 go_step
        refine HRd.out.mono ?_; rintro e wr ⟨ia, ic, rfl, hI, hrl, hBr⟩; clear d0 hrow9 HRd; have HI := Lib.hid (And.intro hI (And.intro hrl hBr)); clear hI hrl hBr; obtain ⟨CF, hCF⟩ : ∃ C, C = recC xr.kind xr.seq (.slice ia xr.items.length ic) xr.area xr.root := ⟨_, rfl⟩; have HCF := Lib.hid hCF; rw [← hCF]; clear hCF; dsimp only
        iterate 13 go_step
        refine wpList_store_row rfl _ _ _ rfl wr.heap.size CF rfl rfl 25 ZR (heap_alloc_new wr _) (by rw [HCF.out]; exact rec_size _ _ _ _ _ HI.out.2.1) (by rw [HN.out.2.1, HCF.out, zeroC_size, recC_size HI.out.2.1]) (by rw [HCF.out]; exact recC_one _ rfl) ?_
        obtain ⟨xb, hxb⟩ : ∃ x, x = wr.heap.size := ⟨_, rfl⟩; obtain ⟨ws, hws⟩ : ∃ W, W = (wr.alloc (.cells ZR 25)).setRow wr.heap.size CF := ⟨_, rfl⟩
        have HS : Hid (ws.heap[xb]? = some (.cells CF 25 (0, 0)) ∧ Below w1.heap.size w1 ws ∧ ItemsAt ws ia xr.items ∧ ws.heap[hb]? = some (.cells (byA HD) 23 (0, 0)) ∧ RowSd ws tb ba BL bc ta TL tc ha HL hc KB ∧ w1.heap.size ≤ xb) := by
          have kB : Below wr.heap.size wr ws := by
            rw [hws]; have h1 := (Below.refl _ wr).alloc (Nat.le_refl _) (.cells ZR 25)
            exact h1.trans ⟨rfl, rfl, rfl, by simp, fun k hk => setRow_other _ _ _ _ (by omega)⟩
          have h9 := HI.out.2.2.trans (kB.mono HI.out.2.2.size); have h5 := H8.out.1.trans (h9.mono H8.out.1.size); have h1 := H8.out.2.1.trans (h9.mono H8.out.2.1.size)
          refine Lib.hid ⟨by rw [hws, hxb]; exact setRow_heap _ _ ZR _ _ _ (heap_alloc_new wr _), h1, HI.out.1.below kB, (h5.block _ (Array.getElem?_eq_some_iff.1 H5.out.2.2.2.1).1).trans H5.out.2.2.2.1, (h5.block _ H5.out.2.2.2.2.1.lt).trans H5.out.2.2.2.2.1, by rw [hxb]; exact Nat.le_trans H8.out.2.1.size HI.out.2.2.size⟩
        rw [← hws, ← hxb]; clear hws hxb
        by_cases hxe : xe = 0
        · subst hxe
          obtain ⟨-, c1, -⟩ := (show RowR ws xb xr.kind xr.seq (.slice ia xr.items.length ic) xr.area xr.root from ⟨HI.out.2.1, by rw [← HCF.out]; exact HS.out.1⟩).d5
          obtain ⟨xq, hxq⟩ : ∃ x, x = xr.seq := ⟨_, rfl⟩; rw [← hxq] at c1; have HXq := Lib.hid hxq; clear hxq
          by_cases hsq : xq = seq
          · subst hsq
            have e2 : (xq != xq) = false := by simp
            have hd : ws.drew.heap = ws.heap := rfl; have hS : ws.drew.heap[xb]? = some (.cells CF 25 (0, 0)) ∧ ws.drew.heap[hb]? = some (.cells (byA HD) 23 (0, 0)) ∧ RowSd ws.drew tb ba BL bc ta TL tc ha HL hc KB := ⟨HS.out.1, HS.out.2.2.2.1, HS.out.2.2.2.2.1⟩
            have HX : Hid (ws.drew.heap[rz]? = some (.cells ZR 25 (0, 0)) ∧ ws.drew.heap[hz]? = some (.cells ZT 23 (0, 0)) ∧ Below w.heap.size w ws.drew ∧ rz ≠ hz ∧ (xb ≠ rz ∧ hb ≠ rz ∧ tb ≠ rz) ∧ (xb ≠ hz ∧ hb ≠ hz ∧ tb ≠ hz) ∧ w.heap.size ≤ rz ∧ w.heap.size ≤ hz) := by
              have q := HQ.out; have hb1 := HS.out.2.1; have q1 := HS.out.2.2.2.2.2; have q2 := H5.out.2.2.2.2.2; have q3 := H3.out.2.2.2.2.2.2
              exact Lib.hid ⟨(hb1.block _ (Array.getElem?_eq_some_iff.1 H1.out.2.2.1).1).trans H1.out.2.2.1, (hb1.block _ (Array.getElem?_eq_some_iff.1 H1.out.2.2.2.1).1).trans H1.out.2.2.2.1, H1.out.1.trans ((hb1.trans (⟨rfl, rfl, rfl, Nat.le_refl _, fun _ _ => rfl⟩ : Below w1.heap.size ws ws.drew)).mono H1.out.1.size), by omega, by omega, by omega, by omega, by omega⟩
            go_upto_region 12 with (fail)
            clear c1 hd
            refine wp_region_held_drew (S := fun w' => w'.heap[xb]? = some (.cells CF 25 (0, 0)) ∧ w'.heap[hb]? = some (.cells (byA HD) 23 (0, 0)) ∧ RowSd w' tb ba BL bc ta TL tc ha HL hc KB) (by kernel_rfl) hS (fun hHeld => ?_)
            clear hS
            refine tkFree (i := 0) (v := .agg CF) rfl (by kernel_rfl) (by kernel_rfl) (by kernel_rfl) (fun _ _ _ h => h) (yieldsIf_load_at (by rfl) 25 _ rfl ⟨xb, 0, none⟩ rfl (fun w hS => run_loadVar_row w xb _ _ _ _ _ hS.1 Tryd.underlying25 rfl (by rw [HCF.out]; exact rec_size _ _ _ _ _ HI.out.2.1))) hHeld ?_
            simp only [Act.put, List.setIfInBounds_toArray, List.set_cons_zero, List.set_cons_succ]
            refine tkFree (i := 1) (v := .agg (byA HD)) rfl (by kernel_rfl) (by kernel_rfl) (by kernel_rfl) (fun _ _ _ h => h) (yieldsIf_load_at (by rfl) 23 _ rfl ⟨hb, 0, none⟩ rfl (fun w hS => load_row32 HHD.out.2 hS.2.1)) hHeld ?_
            simp only [Act.put, List.setIfInBounds_toArray, List.set_cons_zero, List.set_cons_succ]
            refine tkFree (i := 2) (v := .pointer (some ⟨tb, 3, none⟩)) rfl (by kernel_rfl) (by kernel_rfl) (by kernel_rfl) (fun _ _ _ h => h) (.inl ⟨by rfl, fun w hSw => by go_simp⟩) hHeld ?_
            simp only [Act.put, List.setIfInBounds_toArray, List.set_cons_zero, List.set_cons_succ]
            refine tkFree (i := 3) (v := .int .i64 KB) rfl (by kernel_rfl) (by kernel_rfl) (by kernel_rfl) (fun _ _ _ h => h) (.inl ⟨by rfl, fun w hSw => by (obtain ⟨g0, g1, g2, g3, -⟩ := RowSd.d4 hSw.2.2); go_simp⟩) hHeld ?_
            simp only [Act.put, List.setIfInBounds_toArray, List.set_cons_zero, List.set_cons_succ]
            refine tkOne 4 rfl (by kernel_rfl) rfl (fun K hK => ?_)
            obtain ⟨z1, z2, z3, z4⟩ := two_stored (C := CF) (T := byA HD) HX.out.1 HX.out.2.1 HX.out.2.2.2.1 HX.out.2.2.1 HX.out.2.2.2.2.2.2.1 HX.out.2.2.2.2.2.2.2
            refine wp_store_row _ (.tmp 8) (.tmp 62) rfl rz CF rfl rfl 25 ZR HX.out.1 (by rw [HCF.out]; exact rec_size _ _ _ _ _ HI.out.2.1) (by rw [HN.out.2.1, HCF.out, zeroC_size, recC_size HI.out.2.1]) (by rw [HCF.out]; exact recC_one _ rfl) ?_
            have ne := HX.out.2.2.2.2.1; have hH2 : (ws.drew.setRow rz CF).heap[xb]? = some (.cells CF 25 (0, 0)) ∧ (ws.drew.setRow rz CF).heap[hb]? = some (.cells (byA HD) 23 (0, 0)) ∧ RowSd (ws.drew.setRow rz CF) tb ba BL bc ta TL tc ha HL hc KB := ⟨(setRow_other _ _ _ _ ne.1).trans hHeld.1, (setRow_other _ _ _ _ ne.2.1).trans hHeld.2.1, (setRow_other _ _ _ _ ne.2.2).trans hHeld.2.2⟩; refine hK _ _ hH2 ?_; clear hK hHeld ne; have hHeld := hH2
            try simp only [Act.put, ]
            refine tkOne 5 rfl (by kernel_rfl) rfl (fun K hK => ?_)
            refine wp_store_row _ (.tmp 9) (.tmp 63) rfl hz (byA HD) rfl rfl 23 ZT z4 (arr_size _ HHD.out.2) (by rw [HN.out.2.2.1, byA_size, byA_size, HHD.out.2]; rfl) (byA_one _) ?_
            have ne := HX.out.2.2.2.2.2.1; have hH3 : ((ws.drew.setRow rz CF).setRow hz (byA HD)).heap[xb]? = some (.cells CF 25 (0, 0)) ∧ ((ws.drew.setRow rz CF).setRow hz (byA HD)).heap[hb]? = some (.cells (byA HD) 23 (0, 0)) ∧ RowSd ((ws.drew.setRow rz CF).setRow hz (byA HD)) tb ba BL bc ta TL tc ha HL hc KB := ⟨(setRow_other _ _ _ _ ne.1).trans hHeld.1, (setRow_other _ _ _ _ ne.2.1).trans hHeld.2.1, (setRow_other _ _ _ _ ne.2.2).trans hHeld.2.2⟩; refine hK _ _ hH3 ?_; clear hK hHeld hH2 ne; have hHeld := hH3; clear hH3
            try simp only [Act.put, ]
            refine tkFree (i := 6) rfl (by kernel_rfl) (by kernel_rfl) (by kernel_rfl) (fun _ _ _ h => h) (.inl ⟨by rfl, fun w hSw => by go_simp; rfl⟩) hHeld ?_
            simp only [Act.put, List.setIfInBounds_toArray, List.set_cons_zero, List.set_cons_succ]
            refine tkFree (i := 7) rfl (by kernel_rfl) (by kernel_rfl) (by kernel_rfl) (fun _ _ _ h => h) (.inl ⟨by rfl, fun w hSw => by go_simp; rfl⟩) hHeld ?_
            simp only [Act.put, List.setIfInBounds_toArray, List.set_cons_zero, List.set_cons_succ]; clear hHeld
            refine wpAnyH_done (by kernel_rfl) ?_ _
            obtain ⟨W7, hW7⟩ : ∃ W, W = (ws.drew.setRow rz CF).setRow hz (byA HD) := ⟨_, rfl⟩
            have HZ : Hid (P (.returned (.tuple #[.agg CF, .agg (byA HD), .int .i64 KB, .int .i64 0])) W7 ∧ W7.heap[rz]? = some (.cells CF 25 (0, 0)) ∧ W7.heap[hz]? = some (.cells (byA HD) 23 (0, 0))) := by
              have hi0 : ItemsAt ws.drew ia xr.items := HS.out.2.2.1.below (Below.refl ws.heap.size ws).drew
              have hi1 : ItemsAt (ws.drew.setRow rz CF) ia xr.items := items_row hi0 HX.out.1 (by rw [HN.out.2.1]; exact zero_no_item)
              have hi2 : ItemsAt W7 ia xr.items := by rw [hW7]; exact items_row hi1 z4 (by rw [HN.out.2.2.1]; exact byA_no_item _)
              rw [← hW7] at z1 z2 z3; refine Lib.hid ⟨?_, z1, z2⟩
              have HOB : openB key ahead xq s = (xr, HD, KB, 0) := by
                unfold openB
                rw [← HN.out.2.2.2.2.2.2, if_neg (by rw [← HE.out.1]; decide), ← HHD.out.1, if_neg (fun h => h.elim (fun h => h (of_decide_eq_true HGD.out.symm)) (fun h => by rw [← HNf.out] at h; cases h)), ← HRR.out.2, if_neg (by decide), ← HRR.out.1, if_neg (fun h => h HXq.out.symm), ← HE.out.2.2.2.2]
              rw [HN.out.1, HOB, HCF.out]; exact ⟨ia, ic, rfl, hi2, HI.out.2.1, HHD.out.2, z3⟩
            rw [← hW7]; clear hW7 z1 z2 z3 z4; go_wp2_with (fail); refine bodyPost_ret (v := .tuple #[.agg CF, .agg (byA HD), .int .i64 KB, .int .i64 0]) ?_ rfl HZ.out.1
            exact results_cell2_tmp2 (p1 := 8) (p2 := 9) (s1 := 10) (s2 := 11) rfl _ _ rz hz 25 23 CF (byA HD) (0, 0) (0, 0) _ _ rfl rfl HZ.out.2.1 HZ.out.2.2 Tryd.underlying25 rfl (by rw [HCF.out]; exact rec_size _ _ _ _ _ HI.out.2.1) Tryd.underlying23 rfl (arr_size _ HHD.out.2)
          · have e2 : (xq != seq) = true := by simpa using hsq
            have HOB : Hid (openB key ahead seq s = (zeroR, ahead, 0, 40)) := by
              unfold openB
              rw [← HN.out.2.2.2.2.2.2, if_neg (by rw [← HE.out.1]; decide), ← HHD.out.1, if_neg (fun h => h.elim (fun h => h (of_decide_eq_true HGD.out.symm)) (fun h => by rw [← HNf.out] at h; cases h)), ← HRR.out.2, if_neg (by decide), ← HRR.out.1, if_pos (fun h => hsq (HXq.out.trans h))]
              exact Lib.hid rfl

            have hdr : ws.drew.heap[ab]? = some (.cells (byA ahead) 23 (0, 0)) := (HS.out.2.1.block _ (Array.getElem?_eq_some_iff.1 H1.out.2.1).1).trans H1.out.2.1
            have HX : Hid (ws.drew.heap[rz]? = some (.cells ZR 25 (0, 0)) ∧ ws.drew.heap[hz]? = some (.cells ZT 23 (0, 0)) ∧ Below w.heap.size w ws.drew ∧ rz ≠ hz ∧ ab ≠ rz ∧ ab ≠ hz ∧ w.heap.size ≤ rz ∧ w.heap.size ≤ hz) := by
              have q := HQ.out; have hb : Below w1.heap.size w1 ws := HS.out.2.1
              exact Lib.hid ⟨(hb.block _ (Array.getElem?_eq_some_iff.1 H1.out.2.2.1).1).trans H1.out.2.2.1, (hb.block _ (Array.getElem?_eq_some_iff.1 H1.out.2.2.2.1).1).trans H1.out.2.2.2.1, H1.out.1.trans ((hb.trans (⟨rfl, rfl, rfl, Nat.le_refl _, fun _ _ => rfl⟩ : Below w1.heap.size ws ws.drew)).mono H1.out.1.size), by omega, by omega, by omega, by omega, by omega⟩
            go_upto_region 11 with (fail)
            refine wp_region_held_drew (S := fun w' => w'.heap[ab]? = some (.cells (byA ahead) 23 (0, 0))) (by kernel_rfl) hdr (fun hHeld => ?_)
            refine tkFree (i := 0) (v := .agg ZR) rfl (by kernel_rfl) (by kernel_rfl) (by kernel_rfl) (fun _ _ _ h => h) (yieldsIf_build rfl 25 _ rfl (by rw [HN.out.2.1]; simpa using zero_rec.2)) hHeld ?_
            simp only [Act.put, List.setIfInBounds_toArray, List.set_cons_zero, List.set_cons_succ]
            refine tkFree (i := 1) (v := .agg (byA ahead)) rfl (by kernel_rfl) (by kernel_rfl) (by kernel_rfl) (fun _ _ _ h => h) (yieldsIf_load_at (by rfl) 23 _ rfl ⟨ab, 0, none⟩ rfl (fun w hS => load_row32 H1.out.2.2.2.2.2 hS)) hHeld ?_
            simp only [Act.put, List.setIfInBounds_toArray, List.set_cons_zero, List.set_cons_succ]
            refine tkOne 2 rfl (by kernel_rfl) rfl (fun K hK => ?_)
            obtain ⟨z1, z2, z3, z4⟩ := two_stored (C := ZR) (T := byA ahead) HX.out.1 HX.out.2.1 HX.out.2.2.2.1 HX.out.2.2.1 HX.out.2.2.2.2.2.2.1 HX.out.2.2.2.2.2.2.2
            refine wp_store_row _ (.tmp 8) (.tmp 60) rfl rz ZR rfl rfl 25 ZR HX.out.1 (by rw [HN.out.2.1]; exact rec_size _ _ _ _ _ zeroH_len) rfl (by rw [HN.out.2.1]; exact recC_one _ rfl) ?_
            have hH2 := (setRow_other ws.drew rz ab ZR HX.out.2.2.2.2.1).trans hHeld; refine hK _ _ hH2 ?_; clear hK hHeld; have hHeld := hH2
            try simp only [Act.put, ]
            refine tkOne 3 rfl (by kernel_rfl) rfl (fun K hK => ?_)
            refine wp_store_row _ (.tmp 9) (.tmp 61) rfl hz (byA ahead) rfl rfl 23 ZT z4 (arr_size _ H1.out.2.2.2.2.2) (by rw [HN.out.2.2.1, byA_size, byA_size, H1.out.2.2.2.2.2]; rfl) (byA_one _) ?_
            have hH3 := (setRow_other (ws.drew.setRow rz ZR) hz ab (byA ahead) HX.out.2.2.2.2.2.1).trans hHeld; refine hK _ _ hH3 ?_; clear hK hHeld hH2; have hHeld := hH3; clear hH3 hdr
            try simp only [Act.put, ]
            refine tkFree (i := 4) rfl (by kernel_rfl) (by kernel_rfl) (by kernel_rfl) (fun _ _ _ h => h) (.inl ⟨by rfl, fun w hSw => by go_simp; rfl⟩) hHeld ?_
            simp only [Act.put, List.setIfInBounds_toArray, List.set_cons_zero, List.set_cons_succ]
            refine tkFree (i := 5) rfl (by kernel_rfl) (by kernel_rfl) (by kernel_rfl) (fun _ _ _ h => h) (.inl ⟨by rfl, fun w hSw => by go_simp; rfl⟩) hHeld ?_
            simp only [Act.put, List.setIfInBounds_toArray, List.set_cons_zero, List.set_cons_succ]; clear hHeld
            refine wpAnyH_done (by kernel_rfl) ?_ _
            obtain ⟨W7, hW7⟩ : ∃ W, W = (ws.drew.setRow rz ZR).setRow hz (byA ahead) := ⟨_, rfl⟩
            have HZ : Hid (P (.returned (.tuple #[.agg ZR, .agg (byA ahead), .int .i64 0, .int .i64 40])) W7 ∧ W7.heap[rz]? = some (.cells ZR 25 (0, 0)) ∧ W7.heap[hz]? = some (.cells (byA ahead) 23 (0, 0))) := by
              rw [← hW7] at z1 z2 z3; refine Lib.hid ⟨?_, z1, z2⟩; rw [HN.out.1, HOB.out, HN.out.2.1]; exact ⟨none, 0, rfl, .inl rfl, zeroH_len, H1.out.2.2.2.2.2, z3⟩
            rw [← hW7]; clear hW7 z1 z2 z3 z4; go_wp2_with (fail); refine bodyPost_ret (v := .tuple #[.agg ZR, .agg (byA ahead), .int .i64 0, .int .i64 40]) ?_ rfl HZ.out.1
            exact results_cell2_tmp2 (p1 := 8) (p2 := 9) (s1 := 10) (s2 := 11) rfl _ _ rz hz 25 23 ZR (byA ahead) (0, 0) (0, 0) _ _ rfl rfl HZ.out.2.1 HZ.out.2.2 Tryd.underlying25 rfl (by rw [HN.out.2.1]; exact rec_size _ _ _ _ _ zeroH_len) Tryd.underlying23 rfl (arr_size _ H1.out.2.2.2.2.2)

        · have e1 : (xe != 0) = true := by simpa using hxe
          have HOB : Hid (openB key ahead seq s = (zeroR, ahead, 0, xe)) := by
            unfold openB
            rw [← HN.out.2.2.2.2.2.2, if_neg (by rw [← HE.out.1]; decide), ← HHD.out.1, if_neg (fun h => h.elim (fun h => h (of_decide_eq_true HGD.out.symm)) (fun h => by rw [← HNf.out] at h; cases h)), ← HRR.out.2, if_pos (fun h => hxe h)]
            exact Lib.hid rfl

          have hdr : ws.drew.heap[ab]? = some (.cells (byA ahead) 23 (0, 0)) := (HS.out.2.1.block _ (Array.getElem?_eq_some_iff.1 H1.out.2.1).1).trans H1.out.2.1
          have HX : Hid (ws.drew.heap[rz]? = some (.cells ZR 25 (0, 0)) ∧ ws.drew.heap[hz]? = some (.cells ZT 23 (0, 0)) ∧ Below w.heap.size w ws.drew ∧ rz ≠ hz ∧ ab ≠ rz ∧ ab ≠ hz ∧ w.heap.size ≤ rz ∧ w.heap.size ≤ hz) := by
            have q := HQ.out; have hb : Below w1.heap.size w1 ws := HS.out.2.1
            exact Lib.hid ⟨(hb.block _ (Array.getElem?_eq_some_iff.1 H1.out.2.2.1).1).trans H1.out.2.2.1, (hb.block _ (Array.getElem?_eq_some_iff.1 H1.out.2.2.2.1).1).trans H1.out.2.2.2.1, H1.out.1.trans ((hb.trans (⟨rfl, rfl, rfl, Nat.le_refl _, fun _ _ => rfl⟩ : Below w1.heap.size ws ws.drew)).mono H1.out.1.size), by omega, by omega, by omega, by omega, by omega⟩
          go_upto_region 9 with (fail)
          refine wp_region_held_drew (S := fun w' => w'.heap[ab]? = some (.cells (byA ahead) 23 (0, 0))) (by kernel_rfl) hdr (fun hHeld => ?_)
          refine tkFree (i := 0) (v := .agg ZR) rfl (by kernel_rfl) (by kernel_rfl) (by kernel_rfl) (fun _ _ _ h => h) (yieldsIf_build rfl 25 _ rfl (by rw [HN.out.2.1]; simpa using zero_rec.2)) hHeld ?_
          simp only [Act.put, List.setIfInBounds_toArray, List.set_cons_zero, List.set_cons_succ]
          refine tkFree (i := 1) (v := .agg (byA ahead)) rfl (by kernel_rfl) (by kernel_rfl) (by kernel_rfl) (fun _ _ _ h => h) (yieldsIf_load_at (by rfl) 23 _ rfl ⟨ab, 0, none⟩ rfl (fun w hS => load_row32 H1.out.2.2.2.2.2 hS)) hHeld ?_
          simp only [Act.put, List.setIfInBounds_toArray, List.set_cons_zero, List.set_cons_succ]
          refine tkFree (i := 2) rfl (by kernel_rfl) (by kernel_rfl) (by kernel_rfl) (fun _ _ _ h => h) (.inl ⟨by rfl, fun w hSw => by go_simp; rfl⟩) hHeld ?_
          simp only [Act.put, List.setIfInBounds_toArray, List.set_cons_zero, List.set_cons_succ]
          refine tkOne 3 rfl (by kernel_rfl) rfl (fun K hK => ?_)
          obtain ⟨z1, z2, z3, z4⟩ := two_stored (C := ZR) (T := byA ahead) HX.out.1 HX.out.2.1 HX.out.2.2.2.1 HX.out.2.2.1 HX.out.2.2.2.2.2.2.1 HX.out.2.2.2.2.2.2.2
          refine wp_store_row _ (.tmp 8) (.tmp 53) rfl rz ZR rfl rfl 25 ZR HX.out.1 (by rw [HN.out.2.1]; exact rec_size _ _ _ _ _ zeroH_len) rfl (by rw [HN.out.2.1]; exact recC_one _ rfl) ?_
          have hH2 := (setRow_other ws.drew rz ab ZR HX.out.2.2.2.2.1).trans hHeld; refine hK _ _ hH2 ?_; clear hK hHeld; have hHeld := hH2
          try simp only [Act.put, ]
          refine tkOne 4 rfl (by kernel_rfl) rfl (fun K hK => ?_)
          refine wp_store_row _ (.tmp 9) (.tmp 54) rfl hz (byA ahead) rfl rfl 23 ZT z4 (arr_size _ H1.out.2.2.2.2.2) (by rw [HN.out.2.2.1, byA_size, byA_size, H1.out.2.2.2.2.2]; rfl) (byA_one _) ?_
          have hH3 := (setRow_other (ws.drew.setRow rz ZR) hz ab (byA ahead) HX.out.2.2.2.2.2.1).trans hHeld; refine hK _ _ hH3 ?_; clear hK hHeld hH2; have hHeld := hH3; clear hH3 hdr
          try simp only [Act.put, ]
          refine tkFree (i := 5) rfl (by kernel_rfl) (by kernel_rfl) (by kernel_rfl) (fun _ _ _ h => h) (.inl ⟨by rfl, fun w hSw => by go_simp; rfl⟩) hHeld ?_
          simp only [Act.put, List.setIfInBounds_toArray, List.set_cons_zero, List.set_cons_succ]
          refine tkFree (i := 6) rfl (by kernel_rfl) (by kernel_rfl) (by kernel_rfl) (fun _ _ _ h => h) (.inl ⟨by rfl, fun w hSw => by go_simp; rfl⟩) hHeld ?_
          simp only [Act.put, List.setIfInBounds_toArray, List.set_cons_zero, List.set_cons_succ]; clear hHeld
          refine wpAnyH_done (by kernel_rfl) ?_ _
          obtain ⟨W7, hW7⟩ : ∃ W, W = (ws.drew.setRow rz ZR).setRow hz (byA ahead) := ⟨_, rfl⟩
          have HZ : Hid (P (.returned (.tuple #[.agg ZR, .agg (byA ahead), .int .i64 0, .int .i64 xe])) W7 ∧ W7.heap[rz]? = some (.cells ZR 25 (0, 0)) ∧ W7.heap[hz]? = some (.cells (byA ahead) 23 (0, 0))) := by
            rw [← hW7] at z1 z2 z3; refine Lib.hid ⟨?_, z1, z2⟩; rw [HN.out.1, HOB.out, HN.out.2.1]; exact ⟨none, 0, rfl, .inl rfl, zeroH_len, H1.out.2.2.2.2.2, z3⟩
          rw [← hW7]; clear hW7 z1 z2 z3 z4; go_wp2_with (fail); refine bodyPost_ret (v := .tuple #[.agg ZR, .agg (byA ahead), .int .i64 0, .int .i64 xe]) ?_ rfl HZ.out.1
          exact results_cell2_tmp2 (p1 := 8) (p2 := 9) (s1 := 10) (s2 := 11) rfl _ _ rz hz 25 23 ZR (byA ahead) (0, 0) (0, 0) _ _ rfl rfl HZ.out.2.1 HZ.out.2.2 Tryd.underlying25 rfl (by rw [HN.out.2.1]; exact rec_size _ _ _ _ _ zeroH_len) Tryd.underlying23 rfl (arr_size _ H1.out.2.2.2.2.2)

  · have e1 : (TE != 0) = true := by simpa using hte
    have HOB : Hid (openB key ahead seq s = (zeroR, ahead, 0, TE)) := by
      unfold openB; rw [← HN.out.2.2.2.2.2.2, ← HE.out.1, if_pos (fun h => hte h)]; exact Lib.hid rfl

    have hdr : w3.drew.heap[ab]? = some (.cells (byA ahead) 23 (0, 0)) := (H3.out.2.1.block _ (Array.getElem?_eq_some_iff.1 H1.out.2.1).1).trans H1.out.2.1
    have HX : Hid (w3.drew.heap[rz]? = some (.cells ZR 25 (0, 0)) ∧ w3.drew.heap[hz]? = some (.cells ZT 23 (0, 0)) ∧ Below w.heap.size w w3.drew ∧ rz ≠ hz ∧ ab ≠ rz ∧ ab ≠ hz ∧ w.heap.size ≤ rz ∧ w.heap.size ≤ hz) := by
      have q := HQ.out; have hb : Below w1.heap.size w1 w3 := H3.out.2.1
      exact Lib.hid ⟨(hb.block _ (Array.getElem?_eq_some_iff.1 H1.out.2.2.1).1).trans H1.out.2.2.1, (hb.block _ (Array.getElem?_eq_some_iff.1 H1.out.2.2.2.1).1).trans H1.out.2.2.2.1, H1.out.1.trans ((hb.trans (⟨rfl, rfl, rfl, Nat.le_refl _, fun _ _ => rfl⟩ : Below w1.heap.size w3 w3.drew)).mono H1.out.1.size), by omega, by omega, by omega, by omega, by omega⟩
    go_upto_region 3 with (fail)
    refine wp_region_held_drew (S := fun w' => w'.heap[ab]? = some (.cells (byA ahead) 23 (0, 0))) (by kernel_rfl) hdr (fun hHeld => ?_)
    refine tkFree (i := 0) (v := .agg ZR) rfl (by kernel_rfl) (by kernel_rfl) (by kernel_rfl) (fun _ _ _ h => h) (yieldsIf_build rfl 25 _ rfl (by rw [HN.out.2.1]; simpa using zero_rec.2)) hHeld ?_
    simp only [Act.put, List.setIfInBounds_toArray, List.set_cons_zero, List.set_cons_succ]
    refine tkFree (i := 1) (v := .agg (byA ahead)) rfl (by kernel_rfl) (by kernel_rfl) (by kernel_rfl) (fun _ _ _ h => h) (yieldsIf_load_at (by rfl) 23 _ rfl ⟨ab, 0, none⟩ rfl (fun w hS => load_row32 H1.out.2.2.2.2.2 hS)) hHeld ?_
    simp only [Act.put, List.setIfInBounds_toArray, List.set_cons_zero, List.set_cons_succ]
    refine tkFree (i := 2) rfl (by kernel_rfl) (by kernel_rfl) (by kernel_rfl) (fun _ _ _ h => h) (.inl ⟨by rfl, fun w hSw => by go_simp; rfl⟩) hHeld ?_
    simp only [Act.put, List.setIfInBounds_toArray, List.set_cons_zero, List.set_cons_succ]
    refine tkOne 3 rfl (by kernel_rfl) rfl (fun K hK => ?_)
    obtain ⟨z1, z2, z3, z4⟩ := two_stored (C := ZR) (T := byA ahead) HX.out.1 HX.out.2.1 HX.out.2.2.2.1 HX.out.2.2.1 HX.out.2.2.2.2.2.2.1 HX.out.2.2.2.2.2.2.2
    refine wp_store_row _ (.tmp 8) (.tmp 23) rfl rz ZR rfl rfl 25 ZR HX.out.1 (by rw [HN.out.2.1]; exact rec_size _ _ _ _ _ zeroH_len) rfl (by rw [HN.out.2.1]; exact recC_one _ rfl) ?_
    have hH2 := (setRow_other w3.drew rz ab ZR HX.out.2.2.2.2.1).trans hHeld; refine hK _ _ hH2 ?_; clear hK hHeld; have hHeld := hH2
    try simp only [Act.put, ]
    refine tkOne 4 rfl (by kernel_rfl) rfl (fun K hK => ?_)
    refine wp_store_row _ (.tmp 9) (.tmp 24) rfl hz (byA ahead) rfl rfl 23 ZT z4 (arr_size _ H1.out.2.2.2.2.2) (by rw [HN.out.2.2.1, byA_size, byA_size, H1.out.2.2.2.2.2]; rfl) (byA_one _) ?_
    have hH3 := (setRow_other (w3.drew.setRow rz ZR) hz ab (byA ahead) HX.out.2.2.2.2.2.1).trans hHeld; refine hK _ _ hH3 ?_; clear hK hHeld hH2; have hHeld := hH3; clear hH3 hdr
    try simp only [Act.put, ]
    refine tkFree (i := 5) rfl (by kernel_rfl) (by kernel_rfl) (by kernel_rfl) (fun _ _ _ h => h) (.inl ⟨by rfl, fun w hSw => by go_simp; rfl⟩) hHeld ?_
    simp only [Act.put, List.setIfInBounds_toArray, List.set_cons_zero, List.set_cons_succ]
    refine tkFree (i := 6) rfl (by kernel_rfl) (by kernel_rfl) (by kernel_rfl) (fun _ _ _ h => h) (.inl ⟨by rfl, fun w hSw => by go_simp; rfl⟩) hHeld ?_
    simp only [Act.put, List.setIfInBounds_toArray, List.set_cons_zero, List.set_cons_succ]; clear hHeld
    refine wpAnyH_done (by kernel_rfl) ?_ _
    obtain ⟨W7, hW7⟩ : ∃ W, W = (w3.drew.setRow rz ZR).setRow hz (byA ahead) := ⟨_, rfl⟩
    have HZ : Hid (P (.returned (.tuple #[.agg ZR, .agg (byA ahead), .int .i64 0, .int .i64 TE])) W7 ∧ W7.heap[rz]? = some (.cells ZR 25 (0, 0)) ∧ W7.heap[hz]? = some (.cells (byA ahead) 23 (0, 0))) := by
      rw [← hW7] at z1 z2 z3; refine Lib.hid ⟨?_, z1, z2⟩; rw [HN.out.1, HOB.out, HN.out.2.1]; exact ⟨none, 0, rfl, .inl rfl, zeroH_len, H1.out.2.2.2.2.2, z3⟩
    rw [← hW7]; clear hW7 z1 z2 z3 z4; go_wp2_with (fail); refine bodyPost_ret (v := .tuple #[.agg ZR, .agg (byA ahead), .int .i64 0, .int .i64 TE]) ?_ rfl HZ.out.1
    exact results_cell2_tmp2 (p1 := 8) (p2 := 9) (s1 := 10) (s2 := 11) rfl _ _ rz hz 25 23 ZR (byA ahead) (0, 0) (0, 0) _ _ rfl rfl HZ.out.2.1 HZ.out.2.2 Tryd.underlying25 rfl (by rw [HN.out.2.1]; exact rec_size _ _ _ _ _ zeroH_len) Tryd.underlying23 rfl (arr_size _ H1.out.2.2.2.2.2)
end Go.Proofs.YtdmnhgbdeifpbaaDoor
namespace Go.Proofs.YtdmnhgbdeifpbaaDoor
open Go Go.RowKit
theorem built_three (k s : Int) (a : Option Addr) (n c : Nat) : Tryd.prog.built 25 [(0, .int .i64 k), (1, .int .i64 s), (2, .slice a n c)] = some (recC k s (.slice a n c) 0 zeroH) := by kernel_rfl
theorem built_i14 : Tryd.prog.built 53 [(0, .int .i64 2), (2, .int .i64 5)] = some i14.cells := by kernel_rfl
theorem yieldsIf_build_on {P : Program} {o : Oper} {a : Act} {ops : Array Oper} {S : World → Prop} (hw : Region.wanted o (yielded ops a.tmps) = true) (t : TypeId) (parts : Array (Nat × Operand)) (ho : o.op = .build t parts) {cs : Array Value}
    (hb : P.built t (parts.map fun (i, x) => (i, a.eval x)).toList = some cs) : YieldsIf P ops S o (.agg cs) a := by
  refine .inl ⟨hw, fun w _ => ?_⟩; unfold execOp; simp only [ho, Sem.run_bind, run_build w t _ cs hb, Result.andThen_ok, Sem.run_pure]
theorem yieldsIf_eql_root {o : Oper} {a : Act} {ops : Array Oper} {S : World → Prop} (hw : Region.wanted o (yielded ops a.tmps) = true) (x y : Operand) (z : TypeId) (ho : o.op = .binOp .eql 23 x y z) (r : List (BitVec 8)) (hr : r.length = 32) (hx : a.eval x = .agg (byA r)) (hy : a.eval y = .agg (byA r)) :
    YieldsIf Tryd.prog ops S o (.bool true) a := by
  refine .inl ⟨hw, fun w _ => ?_⟩; have g := run_eql_root w r r hr hr; rw [decide_eq_true rfl] at g; unfold execOp; simp only [ho, hx, hy, Sem.run_bind, run_guard_root, g, Result.andThen_ok, Sem.run_pure]
theorem i14_key : ∀ y ∈ x14.items, y.key.length ≤ 1000000 := by
  intro y hy; simp only [x14, List.mem_singleton] at hy; subst hy
  decide
theorem f14_seal (w : World) (ka ia : Option Addr) (ic : Nat) (hW : ShaOk w) (hI : ItemsAt w ia [i14]) (hK : SrcP w ka 1 [107]) :
    Calls Tryd.prog 20 #[.slice ka 1 1, .agg (byA zeroH), .agg (recC 1 3 (.slice ia 1 ic) 0 zeroH)] w (SealEnd w (sealB [107] zeroH x14.body, headL zeroH x14.body)) := by
  have h := rseal_any w x14 [107] zeroH ka 1 ia ic hK (by decide) (by decide) (by decide) zeroH_len hI i14_key (by decide) x14_root hW
  rw [sealed14] at h; exact h
theorem f14_open (w : World) (ka sa : Option Addr) (sc : Nat) (hW : ShaOk w) (hK : SrcP w ka 1 [107]) (hS : SrcP w sa 128 (sealB [107] zeroH x14.body)) (hc : 128 ≤ sc) (h0 : sa = none → sc = 0) :
    Calls Tryd.prog 21 #[.slice ka 1 1, .agg (byA zeroH), .int .i64 3, .slice sa 128 sc] w (fun e w' => ∃ ia ic, e = .returned (.tuple #[.agg (recC 1 3 (.slice ia 1 ic) 0 zeroH), .agg (byA (headL zeroH x14.body)), .int .i64 1, .int .i64 0]) ∧ ItemsAt w' ia [i14] ∧ Below w.heap.size w w') := by
  have hl := x14_len [107] zeroH
  have h := ropen_any w [107] zeroH (sealB [107] zeroH x14.body) 3 ka 1 sa sc hK (by decide) (by decide) (by decide) zeroH_len (by rw [hl]; exact hS) (by rw [hl]; exact hc) h0 (by rw [hl]; decide) hW
  rw [open14_own, hl] at h; refine h.mono ?_; rintro e w' ⟨ia, ic, he, h1, -, -, h2⟩; exact ⟨ia, ic, he, h1, h2⟩
theorem f14_other (w : World) (ka sa : Option Addr) (sc : Nat) (hW : ShaOk w) (hK : SrcP w ka 1 [108]) (hS : SrcP w sa 128 (sealB [107] zeroH x14.body)) (hc : 128 ≤ sc) (h0 : sa = none → sc = 0) :
    Calls Tryd.prog 21 #[.slice ka 1 1, .agg (byA zeroH), .int .i64 3, .slice sa 128 sc] w (fun e w' => ∃ ia ic, e = .returned (.tuple #[.agg (recC 0 0 (.slice ia 0 ic) 0 zeroH), .agg (byA zeroH), .int .i64 0, .int .i64 40]) ∧ Below w.heap.size w w') := by
  have hl := x14_len [107] zeroH
  have h := ropen_any w [108] zeroH (sealB [107] zeroH x14.body) 3 ka 1 sa sc hK (by decide) (by decide) (by decide) zeroH_len (by rw [hl]; exact hS) (by rw [hl]; exact hc) h0 (by rw [hl]; decide) hW
  rw [open14_other, hl] at h; refine h.mono ?_; rintro e w' ⟨ia, ic, he, -, -, -, h2⟩; exact ⟨ia, ic, he, h2⟩
theorem f14_body (w : World) (ia : Option Addr) (ic : Nat) (hI : ItemsAt w ia [i14]) :
    Calls Tryd.prog 14 #[.agg (recC 1 3 (.slice ia 1 ic) 0 zeroH)] w (BytesEnd w [1, 3, 1, 2, 5]) := by
  have h := rbody_any w x14 ia ic hI i14_key (by decide) x14_root
  rw [x14_told, x14_body] at h; exact h
theorem f14_read (w : World) (a : Option Addr) (c : Nat) (hS : SrcP w a 5 [1, 3, 1, 2, 5]) (h0 : a = none → c = 0) :
    Calls Tryd.prog 11 #[.slice a 5 c] w (fun e w' => ∃ ia ic, e = .returned (.tuple #[.agg (recC 1 3 (.slice ia 1 ic) 0 zeroH), .int .i64 0]) ∧ ItemsAt w' ia [i14] ∧ Below w.heap.size w w') := by
  have h := rread14_any w [1, 3, 1, 2, 5] a c hS h0 (by decide)
  have e := read14_own; rw [x14_body] at e; rw [e] at h; refine h.mono ?_; rintro e w' ⟨ia, ic, he, h1, -, h2⟩; exact ⟨ia, ic, he, h1, h2⟩
theorem f14_same (w : World) (ia ja : Option Addr) (ic jc : Nat) (hI : ItemsAt w ia [i14]) (hJ : ItemsAt w ja [i14]) :
    Calls Tryd.prog 16 #[.agg (recC 1 3 (.slice ia 1 ic) 0 zeroH), .agg (recC 1 3 (.slice ja 1 jc) 0 zeroH)] w (Below0 w (.bool true)) := by
  have h := rsame_any w x14 x14 ia ja ic jc hI hJ x14_root x14_root (by decide)
  rw [x14_same] at h; exact h
theorem f14_right (w : World) (ia : Option Addr) (ic : Nat) (hI : ItemsAt w ia [i14]) :
    Calls Tryd.prog 13 #[.agg (recC 1 3 (.slice ia 1 ic) 0 zeroH)] w (Below0 w (.bool true)) := by
  have h := rright_any w x14 ia ic hI i14_key (by decide) x14_root
  rw [x14_right] at h; exact h
theorem f14_size (w : World) (ia : Option Addr) (ic : Nat) (hI : ItemsAt w ia [i14]) :
    Calls Tryd.prog 15 #[.agg (recC 1 3 (.slice ia 1 ic) 0 zeroH)] w (Below0 w (.int .i64 1)) := by
  have h := rsize_any w x14 ia ic hI i14_key (by decide) x14_root
  rw [x14_blocks] at h; exact h
theorem f14_head (w : World) (a : Option Addr) (c : Nat) (hW : ShaOk w) (hS : SrcP w a 5 [1, 3, 1, 2, 5]) (hc : 5 ≤ c) (hm : c ≤ 9223372036854775807) :
    Calls Tryd.prog 18 #[.agg (byA zeroH), .slice a 5 c] w (Below0 w (.agg (byA (headL zeroH x14.body)))) := by
  have h := rhead_any w zeroH [1, 3, 1, 2, 5] a c zeroH_len hS hc hm (by decide) hW
  rw [x14_body]; exact h
theorem two_new (w : World) (ZR ZT C T : Array Value) :
    ((w.alloc (.cells ZR 25)).alloc (.cells ZT 23)).heap[w.heap.size]? = some (.cells ZR 25 (0, 0)) ∧
    (((w.alloc (.cells ZR 25)).alloc (.cells ZT 23)).setRow w.heap.size C).heap[w.heap.size + 1]? = some (.cells ZT 23 (0, 0)) ∧
    ((((w.alloc (.cells ZR 25)).alloc (.cells ZT 23)).setRow w.heap.size C).setRow (w.heap.size + 1) T).heap[w.heap.size]? = some (.cells C 25 (0, 0)) ∧
    ((((w.alloc (.cells ZR 25)).alloc (.cells ZT 23)).setRow w.heap.size C).setRow (w.heap.size + 1) T).heap[w.heap.size + 1]? = some (.cells T 23 (0, 0)) ∧
    Below w.heap.size w ((((w.alloc (.cells ZR 25)).alloc (.cells ZT 23)).setRow w.heap.size C).setRow (w.heap.size + 1) T) := by
  have hs : (w.alloc (.cells ZR 25)).heap.size = w.heap.size + 1 := by simp
  have hr : ((w.alloc (.cells ZR 25)).alloc (.cells ZT 23)).heap[w.heap.size]? = some (.cells ZR 25 (0, 0)) := by
    rw [heap_alloc_old _ _ (by rw [hs]; omega)]
    exact heap_alloc_new w _
  have hh : ((w.alloc (.cells ZR 25)).alloc (.cells ZT 23)).heap[w.heap.size + 1]? = some (.cells ZT 23 (0, 0)) := by
    rw [← hs]; exact heap_alloc_new _ _
  obtain ⟨h1, h2, h3, h4⟩ := two_stored (w := w) (C := C) (T := T) hr hh (by omega) (((Below.refl _ w).alloc (Nat.le_refl _) _).alloc (by rw [hs]; omega) _) (Nat.le_refl _) (by omega)
  exact ⟨hr, h4, h1, h2, h3⟩
theorem one_new (w : World) (ZR C : Array Value) :
    ((w.alloc (.cells ZR 25)).setRow w.heap.size C).heap[w.heap.size]? = some (.cells C 25 (0, 0)) ∧ Below w.heap.size w ((w.alloc (.cells ZR 25)).setRow w.heap.size C) := by
  have h1 := (Below.refl _ w).alloc (Nat.le_refl _) (.cells ZR 25)
  exact ⟨setRow_heap _ _ ZR _ _ _ (heap_alloc_new w _), h1.trans ⟨rfl, rfl, rfl, by simp, fun k hk => setRow_other _ _ _ _ (by omega)⟩⟩
set_option maxRecDepth 100000 in
set_option maxHeartbeats 8000000 in
theorem rfirst14_any (w : World) (hW : ShaOk w) : Calls Tryd.prog 6 #[] w (Below0 w (.bool true)) := by
  obtain ⟨P, hP⟩ : ∃ P : Ending → World → Prop, P = Below0 w (.bool true) := ⟨_, rfl⟩; rw [← hP]; obtain ⟨ZR, hZR⟩ : ∃ z, z = zeroC := ⟨_, rfl⟩; have hzr := zero_rec.1; rw [← hZR] at hzr; obtain ⟨ZT, hZT⟩ : ∃ z, z = byA zeroH := ⟨_, rfl⟩; have hzt := zero_root.1; rw [← hZT] at hzt; have HN := Lib.hid (And.intro hP (And.intro hZR (And.intro hZT hW))); clear hP hZR hZT hW
  go_enter Tryd.func6, Tryd.ntmps6
  go_upto_region 1 with (fail)
  refine wp_region_lit ?_
  refine wpList_built_at rfl 53 _ rfl (cs := i14.cells) (by simpa [Act.eval] using built_i14) ?_
  refine wpList_wanted rfl fun K hK => wp_slice1_I (.tmp 14) rfl i14 rfl (hK _ _ ?_)
  refine wpList_built_at rfl 25 _ rfl (cs := recC 1 3 (.slice (some ⟨w.heap.size, 0, none⟩) 1 1) 0 zeroH) (by simpa [Act.eval, Act.put] using built_three 1 3 (some ⟨w.heap.size, 0, none⟩) 1 1) ?_
  obtain ⟨ib, hib⟩ : ∃ b, b = w.heap.size := ⟨_, rfl⟩; rw [← hib]; obtain ⟨XC, hXC⟩ : ∃ z, z = recC 1 3 (.slice (some ⟨ib, 0, none⟩) 1 1) 0 zeroH := ⟨_, rfl⟩; rw [← hXC]; obtain ⟨w0, hw0⟩ : ∃ W, W = w.alloc (.cells i14.cells 53) := ⟨_, rfl⟩; rw [← hw0]
  have H0 : Hid (Below w.heap.size w w0 ∧ w0.heap[ib]? = some (.cells i14.cells 53 (0, 0))) := by
    rw [hw0, hib]; exact Lib.hid ⟨(Below.refl _ w).alloc (Nat.le_refl _) _, heap_alloc_new w _⟩
  have HXC := Lib.hid hXC; clear hw0 hib hXC
  iterate 3 go_step
  refine wpList_store_row rfl _ (.tmp 1) (.tmp 16) rfl w0.heap.size XC rfl rfl 25 ZR (heap_alloc_new w0 _) (by rw [HXC.out]; exact rec_size _ _ _ _ _ zeroH_len) (by rw [HXC.out, HN.out.2.1, zeroC_size, recC_size zeroH_len]) (by rw [HXC.out]; exact recC_one _ rfl) ?_
  obtain ⟨xb, hxb⟩ : ∃ b, b = w0.heap.size := ⟨_, rfl⟩; obtain ⟨w1, hw1⟩ : ∃ W, W = (w0.alloc (.cells ZR 25)).setRow w0.heap.size XC := ⟨_, rfl⟩
  have H1 : Hid (Below w.heap.size w w1 ∧ RowR w1 xb 1 3 (.slice (some ⟨ib, 0, none⟩) 1 1) 0 zeroH ∧ ItemsAt w1 (some ⟨ib, 0, none⟩) [i14]) := by
    have hb : Below w0.heap.size w0 w1 := by
      rw [hw1]; have h1 := (Below.refl _ w0).alloc (Nat.le_refl _) (.cells ZR 25)
      exact h1.trans ⟨rfl, rfl, rfl, by simp, fun k hk => setRow_other _ _ _ _ (by omega)⟩
    refine Lib.hid ⟨H0.out.1.trans (hb.mono H0.out.1.size), ⟨zeroH_len, ?_⟩, .inr ⟨ib, 0, rfl, fun i x hx j v hv => ?_⟩⟩
    · rw [hw1, hxb, ← HXC.out]; exact setRow_heap _ _ ZR _ _ _ (heap_alloc_new w0 _)
    · match i, hx with
      | 0, hx =>
        have e : x = i14 := by simpa using hx.symm
        subst e; have hr := (hb.block ib (Array.getElem?_eq_some_iff.1 H0.out.2).1).trans H0.out.2; rw [cell_of_row _ _ _ _ _ _ hr]
        simpa using hv
      | i + 1, hx => simp at hx
  rw [← hw1, ← hxb]; clear hw1 hxb H0
  go_upto_region 2 with (fail)
  refine wp_region_lit ?_
  refine wpList_bytes2 rfl rfl 18 rfl (by simp [Act.put]) 1 _ rfl rfl [107] rfl (by decide) (by decide) (by kernel_rfl) ?_
  intro g w2 hB2 hg2 ⟨fr2, hr2⟩; have H2 : Hid (Below w1.heap.size w1 w2 ∧ SrcP w2 (some ⟨g, 0, none⟩) 1 [107]) := Lib.hid ⟨hB2, src_row hr2⟩; clear hB2 hg2 hr2
  refine wpList_built_at rfl 23 _ rfl (cs := ZT) (by rw [HN.out.2.2.1]; simpa using zero_root.2) ?_
  refine wpList_load_at rfl 25 _ rfl ⟨xb, 0, none⟩ rfl (.agg XC) (by rw [HXC.out]; exact rec_load (H1.out.2.1.below H2.out.1)) ?_
  have HSl : Hid (Calls Tryd.prog 20 #[.slice (some ⟨g, 0, none⟩) 1 1, .agg ZT, .agg XC] w2 (SealEnd w2 (sealB [107] zeroH x14.body, headL zeroH x14.body))) := by
    rw [HXC.out, HN.out.2.2.1]; exact Lib.hid (f14_seal w2 _ _ 1 (HN.out.2.2.2.below (H1.out.1.trans (H2.out.1.mono H1.out.1.size))) (H1.out.2.2.below H2.out.1) H2.out.2)
  obtain ⟨SB, hSB⟩ : ∃ z, z = sealB [107] zeroH x14.body := ⟨_, rfl⟩; obtain ⟨HD, hHD⟩ : ∃ z, z = headL zeroH x14.body := ⟨_, rfl⟩; rw [← hSB, ← hHD] at HSl
  have HSB : Hid (SB = sealB [107] zeroH x14.body ∧ HD = headL zeroH x14.body ∧ SB.length = 128 ∧ HD.length = 32) := Lib.hid ⟨hSB, hHD, by rw [hSB]; exact x14_len _ _, by rw [hHD]; exact headL_len _ _⟩
  clear hSB hHD
  iterate 2 go_step
  refine HSl.out.mono ?_; rintro e w3 ⟨sa, sc, rfl, h1, h2, h3, h4, h5⟩; have e1 := HSB.out.2.2.1; dsimp only at h1 h4
  have H3 : Hid (Below w1.heap.size w1 w3 ∧ SrcP w3 sa 128 SB ∧ 128 ≤ sc ∧ (sa = none → sc = 0)) := by
    have h4' := h4.srcP; rw [e1] at h1 h4'; exact Lib.hid ⟨H2.out.1.trans (h5.mono H2.out.1.size), h4', h1, h3⟩
  dsimp only; rw [e1]; clear e1 h1 h2 h3 h4 h5 HSl
  iterate 16 go_step
  refine wpList_store_row rfl _ (.tmp 3) (.tmp 24) rfl w3.heap.size (byA HD) rfl rfl 23 ZT (heap_alloc_new w3 _) (arr_size _ HSB.out.2.2.2) (by rw [HN.out.2.2.1, byA_size, byA_size, HSB.out.2.2.2]; rfl) (byA_one _) ?_
  obtain ⟨hb, hhb⟩ : ∃ b, b = w3.heap.size := ⟨_, rfl⟩; obtain ⟨w4, hw4⟩ : ∃ W, W = (w3.alloc (.cells ZT 23)).setRow w3.heap.size (byA HD) := ⟨_, rfl⟩
  have H4 : Hid (Below w1.heap.size w1 w4 ∧ w4.heap[hb]? = some (.cells (byA HD) 23 (0, 0)) ∧ SrcP w4 sa 128 SB) := by
    have k : Below w3.heap.size w3 w4 := by
      rw [hw4]; have h1 := (Below.refl _ w3).alloc (Nat.le_refl _) (.cells ZT 23)
      exact h1.trans ⟨rfl, rfl, rfl, by simp, fun k hk => setRow_other _ _ _ _ (by omega)⟩
    refine Lib.hid ⟨H3.out.1.trans (k.mono H3.out.1.size), ?_, H3.out.2.1.below k⟩; rw [hw4, hhb]; exact setRow_heap _ _ ZT _ _ _ (heap_alloc_new w3 _)
  rw [← hw4, ← hhb]; clear hw4 hhb H2
  go_upto_region 3 with (fail)
  refine wp_region_lit ?_
  refine wpList_bytes2 rfl rfl 26 rfl (by simp [Act.put]) 1 _ rfl rfl [107] rfl (by decide) (by decide) (by kernel_rfl) ?_
  intro g5 w5 hB5 hg5 ⟨fr5, hr5⟩
  have H5 : Hid (Below w4.heap.size w4 w5 ∧ Below w1.heap.size w1 w5 ∧ Below w.heap.size w w5) := by
    have h1 := H4.out.1.trans (hB5.mono H4.out.1.size); exact Lib.hid ⟨hB5, h1, H1.out.1.trans (h1.mono H1.out.1.size)⟩
  have HOp : Hid (Calls Tryd.prog 21 #[.slice (some ⟨g5, 0, none⟩) 1 1, .agg ZT, .int .i64 3, .slice sa 128 sc] w5 (fun e w' => ∃ ia ic, e = .returned (.tuple #[.agg (recC 1 3 (.slice ia 1 ic) 0 zeroH), .agg (byA HD), .int .i64 1, .int .i64 0]) ∧ ItemsAt w' ia [i14] ∧ Below w5.heap.size w5 w')) := by
    have e1 := HSB.out.1; rw [HN.out.2.2.1, HSB.out.2.1]; have hs := H4.out.2.2.below hB5; rw [e1] at hs; exact Lib.hid (f14_open w5 _ sa sc (HN.out.2.2.2.below H5.out.2.2) (src_row hr5) hs H3.out.2.2.1 H3.out.2.2.2)
  clear hB5 hg5 hr5
  refine wpList_built_at rfl 23 _ rfl (cs := ZT) (by rw [HN.out.2.2.1]; simpa using zero_root.2) ?_
  iterate 5 go_step
  refine HOp.out.mono ?_; rintro e w6 ⟨ya, yc, rfl, h1, h2⟩; have H6 : Hid (ItemsAt w6 ya [i14] ∧ Below w1.heap.size w1 w6 ∧ Below w4.heap.size w4 w6) := Lib.hid ⟨h1, H5.out.2.1.trans (h2.mono H5.out.2.1.size), H5.out.1.trans (h2.mono H5.out.1.size)⟩; obtain ⟨YC, hYC⟩ : ∃ z, z = recC 1 3 (.slice ya 1 yc) 0 zeroH := ⟨_, rfl⟩; rw [← hYC]; have HYC := Lib.hid hYC; clear h1 h2 HOp hYC; dsimp only
  iterate 22 go_step
  obtain ⟨z1, z2, z3, z4, z5⟩ := two_new w6 ZR ZT YC (byA HD)
  refine wpList_store_row rfl _ (.tmp 4) (.tmp 31) rfl w6.heap.size YC rfl rfl 25 ZR z1 (by rw [HYC.out]; exact rec_size _ _ _ _ _ zeroH_len) (by rw [HYC.out, HN.out.2.1, zeroC_size, recC_size zeroH_len]) (by rw [HYC.out]; exact recC_one _ rfl) ?_
  refine wpList_store_row rfl _ (.tmp 5) (.tmp 32) rfl (w6.heap.size + 1) (byA HD) rfl rfl 23 ZT z2 (arr_size _ HSB.out.2.2.2) (by rw [HN.out.2.2.1, byA_size, byA_size, HSB.out.2.2.2]; rfl) (byA_one _) ?_
  obtain ⟨yb, hyb⟩ : ∃ b, b = w6.heap.size := ⟨_, rfl⟩; obtain ⟨gb, hgb⟩ : ∃ b, b = w6.heap.size + 1 := ⟨_, rfl⟩; obtain ⟨w7, hw7⟩ : ∃ W, W = (((w6.alloc (.cells ZR 25)).alloc (.cells ZT 23)).setRow w6.heap.size YC).setRow (w6.heap.size + 1) (byA HD) := ⟨_, rfl⟩; rw [← hw7] at z3 z4 z5; rw [← hgb] at z4; rw [← hyb] at z3; have H7 : Hid (w7.heap[yb]? = some (.cells YC 25 (0, 0)) ∧ w7.heap[gb]? = some (.cells (byA HD) 23 (0, 0)) ∧ ItemsAt w7 ya [i14] ∧ Below w1.heap.size w1 w7 ∧ Below w4.heap.size w4 w7) := Lib.hid ⟨z3, z4, H6.out.1.below z5, H6.out.2.1.trans (z5.mono H6.out.2.1.size), H6.out.2.2.trans (z5.mono H6.out.2.2.size)⟩; rw [← hw7, ← hgb, ← hyb]; clear hw7 hgb hyb z1 z2 z3 z4 z5 H5 H6
  iterate 6 go_step
  go_upto_region 4 with (fail)
  refine wp_region_lit ?_
  refine wpList_bytes2 rfl rfl 36 rfl (by simp) 1 _ rfl rfl [108] rfl (by decide) (by decide) (by kernel_rfl) ?_
  intro g8 w8 hB8 hg8 ⟨fr8, hr8⟩
  have H8 : Hid (Below w7.heap.size w7 w8 ∧ Below w.heap.size w w8) := by
    have h1 := H7.out.2.2.2.1.trans (hB8.mono H7.out.2.2.2.1.size); exact Lib.hid ⟨hB8, H1.out.1.trans (h1.mono H1.out.1.size)⟩
  have HOq : Hid (Calls Tryd.prog 21 #[.slice (some ⟨g8, 0, none⟩) 1 1, .agg ZT, .int .i64 3, .slice sa 128 sc] w8 (fun e w' => ∃ ia ic, e = .returned (.tuple #[.agg (recC 0 0 (.slice ia 0 ic) 0 zeroH), .agg ZT, .int .i64 0, .int .i64 40]) ∧ Below w8.heap.size w8 w')) := by
    have e1 := HSB.out.1; rw [HN.out.2.2.1]; have hs := (H4.out.2.2.below H7.out.2.2.2.2).below hB8; rw [e1] at hs; exact Lib.hid (f14_other w8 _ sa sc (HN.out.2.2.2.below H8.out.2) (src_row hr8) hs H3.out.2.2.1 H3.out.2.2.2)
  clear hB8 hg8 hr8
  refine wpList_built_at rfl 23 _ rfl (cs := ZT) (by rw [HN.out.2.2.1]; simpa using zero_root.2) ?_
  iterate 5 go_step
  refine HOq.out.mono ?_; rintro e w9 ⟨na, nc, rfl, h2⟩; have H9 : Hid (Below w7.heap.size w7 w9) := Lib.hid (H8.out.1.trans (h2.mono H8.out.1.size)); obtain ⟨NC, hNC⟩ : ∃ z, z = recC 0 0 (.slice na 0 nc) 0 zeroH := ⟨_, rfl⟩; rw [← hNC]; have HNC := Lib.hid hNC; clear h2 HOq hNC; dsimp only
  iterate 22 go_step
  obtain ⟨z1, z2, z3, z4, z5⟩ := two_new w9 ZR ZT NC ZT
  refine wpList_store_row rfl _ (.tmp 8) (.tmp 41) rfl w9.heap.size NC rfl rfl 25 ZR z1 (by rw [HNC.out]; exact rec_size _ _ _ _ _ zeroH_len) (by rw [HNC.out, HN.out.2.1, zeroC_size, recC_size zeroH_len]) (by rw [HNC.out]; exact recC_one _ rfl) ?_
  refine wpList_store_row rfl _ (.tmp 9) (.tmp 42) rfl (w9.heap.size + 1) ZT rfl rfl 23 ZT z2 (by rw [HN.out.2.2.1]; exact arr_size _ zeroH_len) rfl (by rw [HN.out.2.2.1]; exact byA_one _) ?_
  obtain ⟨w10, hw10⟩ : ∃ W, W = (((w9.alloc (.cells ZR 25)).alloc (.cells ZT 23)).setRow w9.heap.size NC).setRow (w9.heap.size + 1) ZT := ⟨_, rfl⟩; rw [← hw10] at z5
  have H10 : Hid (Below w7.heap.size w7 w10 ∧ Below w1.heap.size w1 w10 ∧ Below w.heap.size w w10) := by
    have h7 := H9.out.trans (z5.mono H9.out.size); have h1 := H7.out.2.2.2.1.trans (h7.mono H7.out.2.2.2.1.size); exact Lib.hid ⟨h7, h1, H1.out.1.trans (h1.mono H1.out.1.size)⟩
  rw [← hw10]; clear hw10 z1 z2 z3 z4 z5
  iterate 6 go_step
  go_upto_region 5 with (fail)
  refine wp_region_lit ?_
  refine wpList_load_at rfl 25 _ rfl ⟨xb, 0, none⟩ rfl (.agg XC) (by rw [HXC.out]; exact rec_load (H1.out.2.1.below H10.out.2.1)) ?_
  have HBo : Hid (Calls Tryd.prog 14 #[.agg XC] w10 (BytesEnd w10 [1, 3, 1, 2, 5])) := by
    rw [HXC.out]; exact Lib.hid (f14_body w10 _ 1 (H1.out.2.2.below H10.out.2.1))
  iterate 2 go_step
  refine HBo.out.mono ?_; rintro e w11 ⟨ba, bc, rfl, h1, h2, h3, h4, h5⟩; have H11 : Hid (Below w10.heap.size w10 w11) := Lib.hid h5; have HRd : Hid (Calls Tryd.prog 11 #[.slice ba 5 bc] w11 (fun e w' => ∃ ia ic, e = .returned (.tuple #[.agg (recC 1 3 (.slice ia 1 ic) 0 zeroH), .int .i64 0]) ∧ ItemsAt w' ia [i14] ∧ Below w11.heap.size w11 w')) := Lib.hid (f14_read w11 ba bc h4.srcP h3); clear h1 h2 h3 h4 h5 HBo; dsimp only [List.length]
  iterate 3 go_step
  refine HRd.out.mono ?_; rintro e w12 ⟨za, zc, rfl, h1, h2⟩; obtain ⟨ZC, hZC⟩ : ∃ z, z = recC 1 3 (.slice za 1 zc) 0 zeroH := ⟨_, rfl⟩; rw [← hZC]; have HZC := Lib.hid hZC; have H12 : Hid (ItemsAt w12 za [i14] ∧ Below w10.heap.size w10 w12) := Lib.hid ⟨h1, H11.out.trans (h2.mono H11.out.size)⟩; clear hZC h1 h2 HRd; dsimp only
  iterate 13 go_step
  obtain ⟨z1, z2⟩ := one_new w12 ZR ZC
  refine wpList_store_row rfl _ (.tmp 12) (.tmp 49) rfl w12.heap.size ZC rfl rfl 25 ZR (heap_alloc_new w12 _) (by rw [HZC.out]; exact rec_size _ _ _ _ _ zeroH_len) (by rw [HZC.out, HN.out.2.1, zeroC_size, recC_size zeroH_len]) (by rw [HZC.out]; exact recC_one _ rfl) ?_
  obtain ⟨zb, hzb⟩ : ∃ b, b = w12.heap.size := ⟨_, rfl⟩; obtain ⟨w13, hw13⟩ : ∃ W, W = (w12.alloc (.cells ZR 25)).setRow w12.heap.size ZC := ⟨_, rfl⟩; rw [← hw13] at z1 z2; rw [← hzb] at z1
  have H13 : Hid (Below w1.heap.size w1 w13 ∧ Below w.heap.size w w13 ∧ w13.heap[hb]? = some (.cells (byA HD) 23 (0, 0)) ∧ w13.heap[gb]? = some (.cells (byA HD) 23 (0, 0)) ∧ w13.heap[yb]? = some (.cells YC 25 (0, 0)) ∧ w13.heap[zb]? = some (.cells ZC 25 (0, 0)) ∧ ItemsAt w13 ya [i14] ∧ ItemsAt w13 za [i14]) := by
    have h10 := H12.out.2.trans (z2.mono H12.out.2.size); have h7 := H10.out.1.trans (h10.mono H10.out.1.size); have h1 := H10.out.2.1.trans (h10.mono H10.out.2.1.size); have h4 := H7.out.2.2.2.2.trans (h7.mono H7.out.2.2.2.2.size); exact Lib.hid ⟨h1, H1.out.1.trans (h1.mono H1.out.1.size), (h4.block _ (Array.getElem?_eq_some_iff.1 H4.out.2.1).1).trans H4.out.2.1, (h7.block _ (Array.getElem?_eq_some_iff.1 H7.out.2.1).1).trans H7.out.2.1, (h7.block _ (Array.getElem?_eq_some_iff.1 H7.out.1).1).trans H7.out.1, z1, H7.out.2.2.1.below h7, H12.out.1.below z2⟩
  rw [← hw13, ← hzb]; clear hw13 hzb z1 z2 H12 H10 H11 H9 H8
  iterate 3 go_step
  -- region 6
  have HLg : Hid (∀ w', Below w13.heap.size w13 w' → (loadVar 23 ⟨gb, 0, none⟩).run Tryd.prog w' = .ok (.agg (byA HD)) w') := Lib.hid (fun w' h => load_row32 HSB.out.2.2.2 ((h.block _ (Array.getElem?_eq_some_iff.1 H13.out.2.2.2.1).1).trans H13.out.2.2.2.1)); have HLh : Hid (∀ w', Below w13.heap.size w13 w' → (loadVar 23 ⟨hb, 0, none⟩).run Tryd.prog w' = .ok (.agg (byA HD)) w') := Lib.hid (fun w' h => load_row32 HSB.out.2.2.2 ((h.block _ (Array.getElem?_eq_some_iff.1 H13.out.2.2.1).1).trans H13.out.2.2.1))
  have HLx : Hid (∀ w', Below w13.heap.size w13 w' → (loadVar 25 ⟨xb, 0, none⟩).run Tryd.prog w' = .ok (.agg XC) w') := by
    rw [HXC.out]; exact Lib.hid (fun w' h => rec_load ((H1.out.2.1.below H13.out.1).below h))
  have HLy : Hid (∀ w', Below w13.heap.size w13 w' → (loadVar 25 ⟨yb, 0, none⟩).run Tryd.prog w' = .ok (.agg YC) w') := by
    have hr := H13.out.2.2.2.2.1; rw [HYC.out] at hr ⊢; exact Lib.hid (fun w' h => rec_load (RowR.below ⟨zeroH_len, hr⟩ h))
  have HLz : Hid (∀ w', Below w13.heap.size w13 w' → (loadVar 25 ⟨zb, 0, none⟩).run Tryd.prog w' = .ok (.agg ZC) w') := by
    have hr := H13.out.2.2.2.2.2.1; rw [HZC.out] at hr ⊢; exact Lib.hid (fun w' h => rec_load (RowR.below ⟨zeroH_len, hr⟩ h))
  have HSy : Hid (∀ w', Below w13.heap.size w13 w' → Calls Tryd.prog 16 #[.agg XC, .agg YC] w' (Below0 w' (.bool true))) := by
    rw [HXC.out, HYC.out]; exact Lib.hid (fun w' h => f14_same w' _ _ 1 yc ((H1.out.2.2.below H13.out.1).below h) (H13.out.2.2.2.2.2.2.1.below h))
  have HSz : Hid (∀ w', Below w13.heap.size w13 w' → Calls Tryd.prog 16 #[.agg XC, .agg ZC] w' (Below0 w' (.bool true))) := by
    rw [HXC.out, HZC.out]; exact Lib.hid (fun w' h => f14_same w' _ _ 1 zc ((H1.out.2.2.below H13.out.1).below h) (H13.out.2.2.2.2.2.2.2.below h))
  have HRi : Hid (∀ w', Below w13.heap.size w13 w' → Calls Tryd.prog 13 #[.agg XC] w' (Below0 w' (.bool true))) := by
    rw [HXC.out]; exact Lib.hid (fun w' h => f14_right w' _ 1 ((H1.out.2.2.below H13.out.1).below h))
  have HSi : Hid (∀ w', Below w13.heap.size w13 w' → Calls Tryd.prog 15 #[.agg XC] w' (Below0 w' (.int .i64 1))) := by
    rw [HXC.out]; exact Lib.hid (fun w' h => f14_size w' _ 1 ((H1.out.2.2.below H13.out.1).below h))
  have HBy : Hid (∀ w', Below w13.heap.size w13 w' → Calls Tryd.prog 14 #[.agg XC] w' (BytesEnd w' [1, 3, 1, 2, 5])) := by
    rw [HXC.out]; exact Lib.hid (fun w' h => f14_body w' _ 1 ((H1.out.2.2.below H13.out.1).below h))
  have HHe : Hid (∀ w' a c, Below w13.heap.size w13 w' → SrcP w' a 5 [1, 3, 1, 2, 5] → 5 ≤ c → c ≤ 9223372036854775807 → Calls Tryd.prog 18 #[.agg ZT, .slice a 5 c] w' (Below0 w' (.agg (byA HD)))) := by
    rw [HN.out.2.2.1, HSB.out.2.1]; exact Lib.hid (fun w' a c h hS h1 h2 => f14_head w' a c (HN.out.2.2.2.below (H13.out.2.1.trans (h.mono H13.out.2.1.size))) hS h1 h2)
  have hdr : Below w13.heap.size w13 w13.drew := (Below.refl _ w13).drew
  go_upto_region 6 with (fail)
  refine wp_region_held_drew (S := fun w' => Below w13.heap.size w13 w') (by kernel_rfl) hdr (fun hHeld => ?_)
  clear hdr
  refine tkFree (i := 0) rfl (by kernel_rfl) (by kernel_rfl) (by kernel_rfl) (fun _ _ _ h => h) (.inl ⟨by rfl, fun w hSw => by go_simp; rfl⟩) hHeld ?_
  simp only [Act.put, List.setIfInBounds_toArray, List.set_cons_zero, List.set_cons_succ]
  refine tkFree (i := 1) rfl (by kernel_rfl) (by kernel_rfl) (by kernel_rfl) (fun _ _ _ h => h) (.inl ⟨by rfl, fun w hSw => by go_simp; rfl⟩) hHeld ?_
  simp only [Act.put, List.setIfInBounds_toArray, List.set_cons_zero, List.set_cons_succ]
  refine tkFree (i := 2) rfl (by kernel_rfl) (by kernel_rfl) (by kernel_rfl) (fun _ _ _ h => h) (.inl ⟨by rfl, fun w hSw => by go_simp; rfl⟩) hHeld ?_
  simp only [Act.put, List.setIfInBounds_toArray, List.set_cons_zero, List.set_cons_succ]
  refine tkFree (i := 3) rfl (by kernel_rfl) (by kernel_rfl) (by kernel_rfl) (fun _ _ _ h => h) (.inl ⟨by rfl, fun w hSw => by go_simp; rfl⟩) hHeld ?_
  simp only [Act.put, List.setIfInBounds_toArray, List.set_cons_zero, List.set_cons_succ]
  refine tkFree (i := 4) rfl (by kernel_rfl) (by kernel_rfl) (by kernel_rfl) (fun _ _ _ h => h) (.inl ⟨by rfl, fun w hSw => by go_simp; rfl⟩) hHeld ?_
  simp only [Act.put, List.setIfInBounds_toArray, List.set_cons_zero, List.set_cons_succ]
  refine tkFree (i := 5) rfl (by kernel_rfl) (by kernel_rfl) (by kernel_rfl) (fun _ _ _ h => h) (.inl ⟨by rfl, fun w hSw => by go_simp; rfl⟩) hHeld ?_
  simp only [Act.put, List.setIfInBounds_toArray, List.set_cons_zero, List.set_cons_succ]
  refine tkFree (i := 6) rfl (by kernel_rfl) (by kernel_rfl) (by kernel_rfl) (fun _ _ _ h => h) (.inl ⟨by rfl, fun w hSw => by go_simp; rfl⟩) hHeld ?_
  simp only [Act.put, List.setIfInBounds_toArray, List.set_cons_zero, List.set_cons_succ]
  refine tkFree (i := 7) rfl (by kernel_rfl) (by kernel_rfl) (by kernel_rfl) (fun _ _ _ h => h) (.inl ⟨by rfl, fun w hSw => by go_simp; rfl⟩) hHeld ?_
  simp only [Act.put, List.setIfInBounds_toArray, List.set_cons_zero, List.set_cons_succ]
  refine tkFree (i := 8) rfl (by kernel_rfl) (by kernel_rfl) (by kernel_rfl) (fun _ _ _ h => h) (.inl ⟨by rfl, fun w hSw => by go_simp; rfl⟩) hHeld ?_
  simp only [Act.put, List.setIfInBounds_toArray, List.set_cons_zero, List.set_cons_succ]
  refine tkFree (i := 9) rfl (by kernel_rfl) (by kernel_rfl) (by kernel_rfl) (fun _ _ _ h => h) (.inl ⟨by rfl, fun w hSw => by go_simp; rfl⟩) hHeld ?_
  simp only [Act.put, List.setIfInBounds_toArray, List.set_cons_zero, List.set_cons_succ]
  refine tkFree (i := 10) rfl (by kernel_rfl) (by kernel_rfl) (by kernel_rfl) (fun _ _ _ h => h) (.inl ⟨by rfl, fun w hSw => by go_simp; rfl⟩) hHeld ?_
  simp only [Act.put, List.setIfInBounds_toArray, List.set_cons_zero, List.set_cons_succ]
  refine tkFree (i := 11) rfl (by kernel_rfl) (by kernel_rfl) (by kernel_rfl) (fun _ _ _ h => h) (.inl ⟨by rfl, fun w hSw => by go_simp; rfl⟩) hHeld ?_
  simp only [Act.put, List.setIfInBounds_toArray, List.set_cons_zero, List.set_cons_succ]
  refine tkFree (i := 12) (v := .agg (byA HD)) rfl (by kernel_rfl) (by kernel_rfl) (by kernel_rfl) (fun _ _ _ h => h) (yieldsIf_load_at (by rfl) 23 _ rfl ⟨gb, 0, none⟩ rfl (fun w hS => HLg.out w hS)) hHeld ?_
  simp only [Act.put, List.setIfInBounds_toArray, List.set_cons_zero, List.set_cons_succ]
  refine tkFree (i := 13) (v := .agg (byA HD)) rfl (by kernel_rfl) (by kernel_rfl) (by kernel_rfl) (fun _ _ _ h => h) (yieldsIf_load_at (by rfl) 23 _ rfl ⟨hb, 0, none⟩ rfl (fun w hS => HLh.out w hS)) hHeld ?_
  simp only [Act.put, List.setIfInBounds_toArray, List.set_cons_zero, List.set_cons_succ]
  refine tkFree (i := 14) (v := .bool true) rfl (by kernel_rfl) (by kernel_rfl) (by kernel_rfl) (fun _ _ _ h => h) (yieldsIf_eql_root (by rfl) (.tmp 63) (.tmp 64) _ rfl HD HSB.out.2.2.2 rfl rfl) hHeld ?_
  simp only [Act.put, List.setIfInBounds_toArray, List.set_cons_zero, List.set_cons_succ]
  refine tkFree (i := 15) rfl (by kernel_rfl) (by kernel_rfl) (by kernel_rfl) (fun _ _ _ h => h) (.inl ⟨by rfl, fun w hSw => by go_simp; rfl⟩) hHeld ?_
  simp only [Act.put, List.setIfInBounds_toArray, List.set_cons_zero, List.set_cons_succ]
  refine tkFree (i := 16) rfl (by kernel_rfl) (by kernel_rfl) (by kernel_rfl) (fun _ _ _ h => h) (.inl ⟨by rfl, fun w hSw => by go_simp; rfl⟩) hHeld ?_
  simp only [Act.put, List.setIfInBounds_toArray, List.set_cons_zero, List.set_cons_succ]
  refine tkFree (i := 17) (v := .agg XC) rfl (by kernel_rfl) (by kernel_rfl) (by kernel_rfl) (fun _ _ _ h => h) (yieldsIf_load_at (by rfl) 25 _ rfl ⟨xb, 0, none⟩ rfl (fun w hS => HLx.out w hS)) hHeld ?_
  simp only [Act.put, List.setIfInBounds_toArray, List.set_cons_zero, List.set_cons_succ]
  refine tkFree (i := 18) (v := .agg YC) rfl (by kernel_rfl) (by kernel_rfl) (by kernel_rfl) (fun _ _ _ h => h) (yieldsIf_load_at (by rfl) 25 _ rfl ⟨yb, 0, none⟩ rfl (fun w hS => HLy.out w hS)) hHeld ?_
  simp only [Act.put, List.setIfInBounds_toArray, List.set_cons_zero, List.set_cons_succ]
  refine tkWant 19 rfl (by kernel_rfl) rfl (fun K hK => ?_)
  go_simp
  refine (HSy.out _ hHeld).mono ?_; rintro e w3_ ⟨rfl, hB⟩; have hH := hHeld.trans (hB.mono hHeld.size); refine hK _ _ hH ?_; clear hK hB hHeld; have hHeld := hH; clear hH
  try simp only [Act.put, List.setIfInBounds_toArray, List.set_cons_zero, List.set_cons_succ]
  refine tkFree (i := 20) rfl (by kernel_rfl) (by kernel_rfl) (by kernel_rfl) (fun _ _ _ h => h) (.inl ⟨by rfl, fun w hSw => by go_simp; rfl⟩) hHeld ?_
  simp only [Act.put, List.setIfInBounds_toArray, List.set_cons_zero, List.set_cons_succ]
  refine tkFree (i := 21) rfl (by kernel_rfl) (by kernel_rfl) (by kernel_rfl) (fun _ _ _ h => h) (.inl ⟨by rfl, fun w hSw => by go_simp; rfl⟩) hHeld ?_
  simp only [Act.put, List.setIfInBounds_toArray, List.set_cons_zero, List.set_cons_succ]
  refine tkFree (i := 22) rfl (by kernel_rfl) (by kernel_rfl) (by kernel_rfl) (fun _ _ _ h => h) (.inl ⟨by rfl, fun w hSw => by go_simp; rfl⟩) hHeld ?_
  simp only [Act.put, List.setIfInBounds_toArray, List.set_cons_zero, List.set_cons_succ]
  refine tkFree (i := 23) rfl (by kernel_rfl) (by kernel_rfl) (by kernel_rfl) (fun _ _ _ h => h) (.inl ⟨by rfl, fun w hSw => by go_simp; rfl⟩) hHeld ?_
  simp only [Act.put, List.setIfInBounds_toArray, List.set_cons_zero, List.set_cons_succ]
  refine tkFree (i := 24) rfl (by kernel_rfl) (by kernel_rfl) (by kernel_rfl) (fun _ _ _ h => h) (.inl ⟨by rfl, fun w hSw => by go_simp; rfl⟩) hHeld ?_
  simp only [Act.put, List.setIfInBounds_toArray, List.set_cons_zero, List.set_cons_succ]
  refine tkFree (i := 25) rfl (by kernel_rfl) (by kernel_rfl) (by kernel_rfl) (fun _ _ _ h => h) (.inl ⟨by rfl, fun w hSw => by go_simp; rfl⟩) hHeld ?_
  simp only [Act.put, List.setIfInBounds_toArray, List.set_cons_zero, List.set_cons_succ]
  refine tkFree (i := 26) rfl (by kernel_rfl) (by kernel_rfl) (by kernel_rfl) (fun _ _ _ h => h) (.inl ⟨by rfl, fun w hSw => by go_simp; rfl⟩) hHeld ?_
  simp only [Act.put, List.setIfInBounds_toArray, List.set_cons_zero, List.set_cons_succ]
  refine tkFree (i := 27) rfl (by kernel_rfl) (by kernel_rfl) (by kernel_rfl) (fun _ _ _ h => h) (.inl ⟨by rfl, fun w hSw => by go_simp; rfl⟩) hHeld ?_
  simp only [Act.put, List.setIfInBounds_toArray, List.set_cons_zero, List.set_cons_succ]
  refine tkFree (i := 28) rfl (by kernel_rfl) (by kernel_rfl) (by kernel_rfl) (fun _ _ _ h => h) (.inl ⟨by rfl, fun w hSw => by go_simp; rfl⟩) hHeld ?_
  simp only [Act.put, List.setIfInBounds_toArray, List.set_cons_zero, List.set_cons_succ]
  refine tkFree (i := 29) rfl (by kernel_rfl) (by kernel_rfl) (by kernel_rfl) (fun _ _ _ h => h) (.inl ⟨by rfl, fun w hSw => by go_simp; rfl⟩) hHeld ?_
  simp only [Act.put, List.setIfInBounds_toArray, List.set_cons_zero, List.set_cons_succ]
  refine tkFree (i := 30) (v := .agg XC) rfl (by kernel_rfl) (by kernel_rfl) (by kernel_rfl) (fun _ _ _ h => h) (yieldsIf_load_at (by rfl) 25 _ rfl ⟨xb, 0, none⟩ rfl (fun w hS => HLx.out w hS)) hHeld ?_
  simp only [Act.put, List.setIfInBounds_toArray, List.set_cons_zero, List.set_cons_succ]
  refine tkFree (i := 31) (v := .agg ZC) rfl (by kernel_rfl) (by kernel_rfl) (by kernel_rfl) (fun _ _ _ h => h) (yieldsIf_load_at (by rfl) 25 _ rfl ⟨zb, 0, none⟩ rfl (fun w hS => HLz.out w hS)) hHeld ?_
  simp only [Act.put, List.setIfInBounds_toArray, List.set_cons_zero, List.set_cons_succ]
  refine tkWant 32 rfl (by kernel_rfl) rfl (fun K hK => ?_)
  go_simp
  refine (HSz.out _ hHeld).mono ?_; rintro e w3_ ⟨rfl, hB⟩; have hH := hHeld.trans (hB.mono hHeld.size); refine hK _ _ hH ?_; clear hK hB hHeld; have hHeld := hH; clear hH
  try simp only [Act.put, List.setIfInBounds_toArray, List.set_cons_zero, List.set_cons_succ]
  refine tkFree (i := 33) rfl (by kernel_rfl) (by kernel_rfl) (by kernel_rfl) (fun _ _ _ h => h) (.inl ⟨by rfl, fun w hSw => by go_simp; rfl⟩) hHeld ?_
  simp only [Act.put, List.setIfInBounds_toArray, List.set_cons_zero, List.set_cons_succ]
  refine tkFree (i := 34) rfl (by kernel_rfl) (by kernel_rfl) (by kernel_rfl) (fun _ _ _ h => h) (.inl ⟨by rfl, fun w hSw => by go_simp; rfl⟩) hHeld ?_
  simp only [Act.put, List.setIfInBounds_toArray, List.set_cons_zero, List.set_cons_succ]
  refine tkFree (i := 35) (v := .agg XC) rfl (by kernel_rfl) (by kernel_rfl) (by kernel_rfl) (fun _ _ _ h => h) (yieldsIf_load_at (by rfl) 25 _ rfl ⟨xb, 0, none⟩ rfl (fun w hS => HLx.out w hS)) hHeld ?_
  simp only [Act.put, List.setIfInBounds_toArray, List.set_cons_zero, List.set_cons_succ]
  refine tkWant 36 rfl (by kernel_rfl) rfl (fun K hK => ?_)
  go_simp
  refine (HRi.out _ hHeld).mono ?_; rintro e w3_ ⟨rfl, hB⟩; have hH := hHeld.trans (hB.mono hHeld.size); refine hK _ _ hH ?_; clear hK hB hHeld; have hHeld := hH; clear hH
  try simp only [Act.put, List.setIfInBounds_toArray, List.set_cons_zero, List.set_cons_succ]
  refine tkFree (i := 37) rfl (by kernel_rfl) (by kernel_rfl) (by kernel_rfl) (fun _ _ _ h => h) (.inl ⟨by rfl, fun w hSw => by go_simp; rfl⟩) hHeld ?_
  simp only [Act.put, List.setIfInBounds_toArray, List.set_cons_zero, List.set_cons_succ]
  refine tkFree (i := 38) rfl (by kernel_rfl) (by kernel_rfl) (by kernel_rfl) (fun _ _ _ h => h) (.inl ⟨by rfl, fun w hSw => by go_simp; rfl⟩) hHeld ?_
  simp only [Act.put, List.setIfInBounds_toArray, List.set_cons_zero, List.set_cons_succ]
  refine tkFree (i := 39) (v := .agg XC) rfl (by kernel_rfl) (by kernel_rfl) (by kernel_rfl) (fun _ _ _ h => h) (yieldsIf_load_at (by rfl) 25 _ rfl ⟨xb, 0, none⟩ rfl (fun w hS => HLx.out w hS)) hHeld ?_
  simp only [Act.put, List.setIfInBounds_toArray, List.set_cons_zero, List.set_cons_succ]
  refine tkWant 40 rfl (by kernel_rfl) rfl (fun K hK => ?_)
  go_simp
  refine (HSi.out _ hHeld).mono ?_; rintro e w3_ ⟨rfl, hB⟩; have hH := hHeld.trans (hB.mono hHeld.size); refine hK _ _ hH ?_; clear hK hB hHeld; have hHeld := hH; clear hH
  try simp only [Act.put, List.setIfInBounds_toArray, List.set_cons_zero, List.set_cons_succ]
  refine tkFree (i := 41) rfl (by kernel_rfl) (by kernel_rfl) (by kernel_rfl) (fun _ _ _ h => h) (.inl ⟨by rfl, fun w hSw => by go_simp; rfl⟩) hHeld ?_
  simp only [Act.put, List.setIfInBounds_toArray, List.set_cons_zero, List.set_cons_succ]
  refine tkFree (i := 42) rfl (by kernel_rfl) (by kernel_rfl) (by kernel_rfl) (fun _ _ _ h => h) (.inl ⟨by rfl, fun w hSw => by go_simp; rfl⟩) hHeld ?_
  simp only [Act.put, List.setIfInBounds_toArray, List.set_cons_zero, List.set_cons_succ]
  refine tkFree (i := 43) rfl (by kernel_rfl) (by kernel_rfl) (by kernel_rfl) (fun _ _ _ h => h) (.inl ⟨by rfl, fun w hSw => by go_simp; rfl⟩) hHeld ?_
  simp only [Act.put, List.setIfInBounds_toArray, List.set_cons_zero, List.set_cons_succ]
  refine tkFree (i := 44) (v := .agg ZT) rfl (by kernel_rfl) (by kernel_rfl) (by kernel_rfl) (fun _ _ _ h => h) (yieldsIf_build_on (by rfl) 23 _ rfl (by rw [HN.out.2.2.1]; simpa using zero_root.2)) hHeld ?_
  simp only [Act.put, List.setIfInBounds_toArray, List.set_cons_zero, List.set_cons_succ]
  refine tkFree (i := 45) (v := .agg XC) rfl (by kernel_rfl) (by kernel_rfl) (by kernel_rfl) (fun _ _ _ h => h) (yieldsIf_load_at (by rfl) 25 _ rfl ⟨xb, 0, none⟩ rfl (fun w hS => HLx.out w hS)) hHeld ?_
  simp only [Act.put, List.setIfInBounds_toArray, List.set_cons_zero, List.set_cons_succ]
  refine tkFree (i := 48) (v := .agg (byA HD)) rfl (by kernel_rfl) (by kernel_rfl) (by kernel_rfl) (fun _ _ _ h => h) (yieldsIf_load_at (by rfl) 23 _ rfl ⟨hb, 0, none⟩ rfl (fun w hS => HLh.out w hS)) hHeld ?_
  simp only [Act.put, List.setIfInBounds_toArray, List.set_cons_zero, List.set_cons_succ]
  refine tkWant 46 rfl (by kernel_rfl) rfl (fun K hK => ?_)
  go_simp
  refine (HBy.out _ hHeld).mono ?_; rintro e w46 ⟨ba, bc, rfl, h1, h2, h3, h4, hB⟩; have HSr := Lib.hid (And.intro h4.srcP (And.intro h1 h2)); have hH := hHeld.trans (hB.mono hHeld.size); refine hK _ _ hH ?_; clear hK hB hHeld h1 h2 h3 h4; have hHeld := hH; clear hH
  try simp only [Act.put, List.setIfInBounds_toArray, List.set_cons_zero, List.set_cons_succ]
  refine tkWant 47 rfl (by kernel_rfl) rfl (fun K hK => ?_)
  go_simp
  refine (HHe.out _ ba bc hHeld HSr.out.1 HSr.out.2.1 HSr.out.2.2).mono ?_; rintro e w47 ⟨rfl, hB⟩; have hH := hHeld.trans (hB.mono hHeld.size); refine hK _ _ hH ?_; clear hK hB hHeld; have hHeld := hH; clear hH
  try simp only [Act.put, List.setIfInBounds_toArray, List.set_cons_zero, List.set_cons_succ]
  refine tkFree (i := 49) (v := .bool true) rfl (by kernel_rfl) (by kernel_rfl) (by kernel_rfl) (fun _ _ _ h => h) (yieldsIf_eql_root (by rfl) (.tmp 98) (.tmp 99) _ rfl HD HSB.out.2.2.2 rfl rfl) hHeld ?_
  simp only [Act.put, List.setIfInBounds_toArray, List.set_cons_zero, List.set_cons_succ]
  refine tkFree (i := 50) rfl (by kernel_rfl) (by kernel_rfl) (by kernel_rfl) (fun _ _ _ h => h) (.inl ⟨by rfl, fun w hSw => by go_simp; rfl⟩) hHeld ?_
  simp only [Act.put, List.setIfInBounds_toArray, List.set_cons_zero, List.set_cons_succ]
  refine tkFree (i := 51) rfl (by kernel_rfl) (by kernel_rfl) (by kernel_rfl) (fun _ _ _ h => h) (.inl ⟨by rfl, fun w hSw => by go_simp; rfl⟩) hHeld ?_
  simp only [Act.put, List.setIfInBounds_toArray, List.set_cons_zero, ]
  refine wpAnyH_done (by kernel_rfl) ?_ _
  have HZ : Hid (P (.returned (.bool true)) w47) := by
    rw [HN.out.1]; exact Lib.hid ⟨rfl, H13.out.2.1.trans (hHeld.mono H13.out.2.1.size)⟩
  clear hHeld; go_wp2_with (fail); exact HZ.out
end Go.Proofs.YtdmnhgbdeifpbaaDoor
namespace Go.Proofs.YtdmnhgbdeifpbaaDoor
open Go Go.RowKit
theorem item_bytes_le (y : ItemL) : y.bytes.length ≤ 40 + y.key.length := by
  have h1 := wordL_length 1; have h2 := wordL_length 2; have h3 := wordL_length y.key.length; have h4 : (numberL y.time).length ≤ 10 := wordL_length _; have h5 : (signedL y.value).length ≤ 10 := wordL_length _; unfold ItemL.bytes textL
  split <;> simp only [List.length_append] <;> omega
theorem items_bytes_le : ∀ l : List ItemL, (l.flatMap (·.bytes)).length ≤ 30 * l.length + greatL l
  | [] => by simp
  | y :: l => by
    have h1 := item_bytes_le y; have h2 := items_bytes_le l; unfold greatL at h2 ⊢; simp only [List.flatMap_cons, List.length_append, List.map_cons, List.sum_cons, List.length_cons]; omega
theorem body_small {x : RecL} (h : x.rightB = true) (hr : x.root.length = 32) (hg : 50 + greatL x.items ≤ 2000) : x.body.length ≤ 4000 := by
  obtain ⟨_, h2⟩ := right_parts h; have w1 := wordL_length x.kind.toNat; have w2 := wordL_length x.seq.toNat; have w3 := wordL_length x.area.toNat; unfold RecL.body; rw [List.length_append, List.length_append]
  split
  · rename_i hk
    rcases h2 with ⟨_, _, _, h4, h5⟩ | ⟨h6, _, _, h4⟩
    · have h3 := items_bytes_le x.items; have h7 := wordL_length x.items.length
      rw [show listL x.items = wordL x.items.length ++ x.items.flatMap (·.bytes) by rw [listL, filter_all _ h5], List.length_append]
      omega
    · rw [h4]; have h7 := wordL_length 0
      rw [show listL [] = wordL 0 from by simp [listL]]
      omega
  · rw [List.length_append]; omega
set_option maxRecDepth 100000 in
set_option maxHeartbeats 4000000 in
theorem rgreat_any (w : World) (x : RecL) (ia : Option Addr) (ic : Nat) (hI : ItemsAt w ia x.items) (hr : x.root.length = 32) (hq : greatL x.items ≤ 1152921504606846976) :
    Calls Tryd.prog 7 #[.agg (recC x.kind x.seq (.slice ia x.items.length ic) x.area x.root)] w (Below0 w (.int .i64 ((50 + greatL x.items : Nat) : Int))) := by
  obtain ⟨C, hC⟩ : ∃ z, z = recC x.kind x.seq (.slice ia x.items.length ic) x.area x.root := ⟨_, rfl⟩; rw [← hC]; obtain ⟨w1, hw1⟩ : ∃ W, W = w.alloc (.cells C 25) := ⟨_, rfl⟩; obtain ⟨rb, hb⟩ : ∃ b, b = w.heap.size := ⟨_, rfl⟩
  have hB1 : Below w.heap.size w w1 := by rw [hw1]; exact (Below.refl _ w).alloc (Nat.le_refl _) _
  have hrow : RowR w1 rb x.kind x.seq (.slice ia x.items.length ic) x.area x.root := ⟨hr, by rw [hw1, hb, ← hC]; exact heap_alloc_new w _⟩
  have HG := Lib.hid (great_wide w1 ia ic x.items (hI.below hB1) hq); obtain ⟨n, hn⟩ : ∃ n, n = x.items.length := ⟨_, rfl⟩; obtain ⟨G, hG⟩ : ∃ n, n = greatL x.items := ⟨_, rfl⟩
  have hG6 : G ≤ 1152921504606846976 := by omega
  rw [← hn] at hrow; rw [← hn, ← hG] at HG; rw [← hG]; obtain ⟨d0, d1, d2, d3, d4, d5⟩ := hrow.d5; have HB := Lib.hid hB1; clear hI hr hq hC hB1 hrow hn hG d0 d1 d3 d4 d5
  go_enter Tryd.func7, Tryd.ntmps7
  go_upto_region 1 with (fail)
  rw [← hw1, ← hb]; clear hw1 hb; go_wp2_with (fail); refine HG.out.mono ?_; rintro e w2 ⟨rfl, hB2⟩; have H2 := Lib.hid (HB.out.trans (hB2.mono HB.out.size)); clear hB2 HG; dsimp only; go_wp2_with (fail); go_ret
  exact ⟨by rw [Int.natCast_add]; rfl, H2.out⟩
end Go.Proofs.YtdmnhgbdeifpbaaDoor
