/-
  Part 20 of 42 of what the proof leans on.
-/
import Derived.Test.YtdmnhgbdeifpbaaDoorO18
import Derived.Test.YtdmnhgbdeifpbaaDoorO19
namespace Go.Proofs.YtdmnhgbdeifpbaaDoor
open Go Go.RowKit
theorem yieldsIf_load_at {P : Program} {o : Oper} {a : Act} {ops : Array Oper} {S : World → Prop} (hw : Region.wanted o (yielded ops a.tmps) = true) (ty : TypeId) (x : Operand) (ho : o.op = .load ty x) (A : Addr) (hx : a.eval x = .pointer (some A)) {V : Value}
    (hl : ∀ w, S w → (loadVar ty A).run P w = .ok V w) : YieldsIf P ops S o V a := by
  refine .inl ⟨hw, fun w hS => ?_⟩; unfold execOp; simp only [ho, hx, Instr.loadAt, Instr.sureAddr, Sem.run_bind, Sem.run_pure, Result.andThen_ok, hl w hS]
theorem grown_row (w : World) (b : Nat) (cs : Array Value) : w.grownBy (w.setRow b cs) (some b) := ⟨rfl, rfl, rfl, by simp [World.setRow], fun k _ hne => setRow_other _ _ _ _ fun e => hne (by rw [e])⟩
theorem results_tmp_cell {P : Program} {fn : Func} {s p : Tmp} {ty : TypeId} (h : fn.results = #[.tmp s, .cell p ty]) (tmps : Array Value) (w : World) (g : Nat) (t : TypeId) (cs : Array Value) (fr : Nat × Nat) (d : TypeDesc)
    (hp : tmps.getD p undef = .pointer (some ⟨g, 0, none⟩)) (hg : w.heap[g]? = some (.cells cs t fr)) (hd : P.underlying ty = some d) (ha : (match d with | .struct _ | .array _ _ => true | _ => false) = true) (hi : (P.info? ty).map (·.size) = some cs.size) :
    (results fn tmps).run P w = .ok (.tuple #[tmps.getD s undef, .agg cs]) w := by
  have hp' : tmps[p]?.getD undef = .pointer (some ⟨g, 0, none⟩) := by simpa using hp
  simp [results, h, hp', asAddr, run_loadVar_row w g t ty cs fr d hg hd ha hi]
theorem made_zeros (n : Nat) : madeCells #[Value.int .u8 0] n = ((List.replicate n (0 : BitVec 8)).map B).toArray := by
  apply Array.ext_getElem?
  intro j; unfold madeCells; rw [Array.getElem?_map]
  by_cases hj : j < n
  · rw [show (Array.range n)[j]? = some j by simp [hj]]
    simp [hj, B, Nat.mod_one]
  · rw [show (Array.range n)[j]? = none by simp; omega]
    simp; omega
theorem mk_noughts (w : World) (n : Nat) (hn : n ≤ 1000) : (Instr.makeSlice 26 (.int .i64 (n : Int)) (.int .i64 (n : Int))).run Tryd.prog w =
    .ok (.slice (some ⟨w.heap.size, 0, none⟩) n n) (w.alloc (.cells (((List.replicate n (0 : BitVec 8)).map B).toArray) 5)) := by
  obtain ⟨i, hi, hz, hs, hb⟩ := info_u8
  have hr := run_make (P := Tryd.prog) w 26 5 i _ Tryd.underlying26 hi hz .i64 .i64 n n (by omega) (Int.le_refl _) (by rw [hb]; omega) (by omega)
  simp only [Int.toNat_natCast] at hr; rw [hr, hs]
  show Result.ok _ (w.alloc (.cells (madeCells #[Value.int .u8 0] (n * 1)) _)) = _
  rw [Nat.mul_one, made_zeros]
def SealEnd (w : World) (p : List (BitVec 8) × List (BitVec 8)) (e : Ending) (w' : World) : Prop :=
  ∃ a c, e = .returned (.tuple #[.slice a p.1.length c, .agg (byA p.2)]) ∧ p.1.length ≤ c ∧ c ≤ 9223372036854775807 ∧ (a = none → c = 0) ∧ SrcN w.heap.size w' a p.1 ∧ Below w.heap.size w w'
theorem load_row32 {w : World} {b : Nat} {l : List (BitVec 8)} (hl : l.length = 32) (h : w.heap[b]? = some (.cells (byA l) 23 (0, 0))) : (loadVar 23 ⟨b, 0, none⟩).run Tryd.prog w = .ok (.agg (byA l)) w :=
  run_loadVar_row w b _ _ _ _ _ h Tryd.underlying23 rfl (arr_size l hl)
theorem srcK_of {w w' : World} {a : Option Addr} {m : List (BitVec 8)} {pb : Nat} (h : SrcP w a m.length m) (hB : Below w.heap.size w w') (hp : w.heap.size ≤ pb) : SrcK (fun k => k < pb) pb w' a m := by
  have h' := h.below hB
  rcases h with h | ⟨ab, off, rfl, h3⟩
  · exact .inl h
  · by_cases h0 : m.length = 0
    · exact .inl h0
    · rcases h' with h' | ⟨ab', off', e, h'⟩
      · exact .inl h'
      · cases e
        have := block_lt_of_cell (h3 0 (by omega))
        simp only at this
        exact .inr ⟨ab, off, rfl, show ab < pb by omega, by omega, h'⟩
set_option maxRecDepth 100000 in
set_option maxHeartbeats 4000000 in
theorem rseal_any (w : World) (x : RecL) (key ahead : List (BitVec 8)) (ka : Option Addr) (kc : Nat) (ia : Option Addr) (ic : Nat) (hK : SrcP w ka key.length key) (hkc : key.length ≤ kc) (hkm : kc ≤ 9223372036854775807) (hkl : key.length ≤ 1000000) (ha : ahead.length = 32)
    (hI : ItemsAt w ia x.items) (hk : ∀ y ∈ x.items, y.key.length ≤ 1000000) (hl : x.items.length ≤ 1000000) (hr : x.root.length = 32) (hW : ShaOk w) :
    Calls Tryd.prog 20 #[.slice ka key.length kc, .agg (byA ahead), .agg (recC x.kind x.seq (.slice ia x.items.length ic) x.area x.root)] w (SealEnd w (x.sealed key ahead)) := by
  obtain ⟨P, hP⟩ : ∃ P : Ending → World → Prop, P = SealEnd w (x.sealed key ahead) := ⟨_, rfl⟩; rw [← hP]; obtain ⟨ZT, hZT⟩ : ∃ z, z = byA zeroH := ⟨_, rfl⟩; have hz := zero_root.1; rw [← hZT] at hz; obtain ⟨AT, hAT⟩ : ∃ z, z = byA ahead := ⟨_, rfl⟩; obtain ⟨C, hC⟩ : ∃ z, z = recC x.kind x.seq (.slice ia x.items.length ic) x.area x.root := ⟨_, rfl⟩; rw [← hAT, ← hC]; obtain ⟨KN, hKN⟩ : ∃ n, n = key.length := ⟨_, rfl⟩; rw [← hKN]; obtain ⟨w1, hw1⟩ : ∃ W, W = ((w.alloc (.cells AT 23)).alloc (.cells C 25)).alloc (.cells ZT 23) := ⟨_, rfl⟩; obtain ⟨ab, hab⟩ : ∃ b, b = w.heap.size := ⟨_, rfl⟩; obtain ⟨rb, hrb⟩ : ∃ b, b = w.heap.size + 1 := ⟨_, rfl⟩; obtain ⟨zb, hzb⟩ : ∃ b, b = w.heap.size + 1 + 1 := ⟨_, rfl⟩
  have hs1 : (w.alloc (.cells AT 23)).heap.size = w.heap.size + 1 := by simp
  have hs2 : ((w.alloc (.cells AT 23)).alloc (.cells C 25)).heap.size = w.heap.size + 1 + 1 := by simp
  have hB1 : Below w.heap.size w w1 := by rw [hw1]; exact (((Below.refl _ w).alloc (Nat.le_refl _) _).alloc (by rw [hs1]; omega) _).alloc (by rw [hs2]; omega) _
  have hra : w1.heap[ab]? = some (.cells (byA ahead) 23 (0, 0)) := by
    rw [hw1, hab, heap_alloc_old _ _ (by rw [hs2]; omega), heap_alloc_old _ _ (by rw [hs1]; omega), ← hAT]
    exact heap_alloc_new w _
  have hrr : RowR w1 rb x.kind x.seq (.slice ia x.items.length ic) x.area x.root := ⟨hr, by
    rw [hw1, hrb, heap_alloc_old _ _ (by rw [hs2]; omega), ← hs1, ← hC]
    exact heap_alloc_new _ _⟩
  have hrz : w1.heap[zb]? = some (.cells ZT 23 (0, 0)) := by
    rw [hw1, hzb, ← hs2]; exact heap_alloc_new _ _
  have HR := Lib.hid (rright_any w1 x ia ic (hI.below hB1) hk hl hr); rw [← hC] at HR; have HN := Lib.hid (And.intro hP (And.intro hZT (And.intro hAT (And.intro hC hKN)))); have HQ := Lib.hid (And.intro hab (And.intro hrb hzb)); have HK := Lib.hid (And.intro hK (And.intro hkc (And.intro hkm hkl))); have HI := Lib.hid (And.intro hI (And.intro hk (And.intro hl hr))); have H1 := Lib.hid (And.intro hB1 (And.intro hra (And.intro hrr (And.intro hrz (And.intro hW ha))))); clear hP hZT hAT hC hKN hK hkc hkm hkl hI hk hl hr hW ha hB1 hra hrr hrz
  go_enter Tryd.func20, Tryd.ntmps20
  go_upto_region 1 with (fail)
  rw [← hw1]
  try simp only [hs1, hs2]
  rw [← hzb, ← hrb, ← hab]; clear hw1 hs1 hs2 hab hrb hzb; refine wp_region_lit ?_
  refine wpList_load_at rfl 25 _ rfl ⟨rb, 0, none⟩ rfl (.agg C) (by rw [HN.out.2.2.2.1]; exact rec_load H1.out.2.2.1) ?_
  iterate 2 go_step
  refine HR.out.mono ?_; rintro e w2 ⟨rfl, hB2⟩; have H2 : Hid (Below w1.heap.size w1 w2 ∧ Below w.heap.size w w2) := Lib.hid ⟨hB2, H1.out.1.trans (hB2.mono H1.out.1.size)⟩; clear hB2 HR; dsimp only
  by_cases hrt : x.rightB = true
  · rw [hrt]; have HX := Lib.hid hrt; clear hrt
    go_upto_region 3 with (fail)
    have HBd := rbody_any w2 x ia ic (HI.out.1.below H2.out.2) HI.out.2.1 HI.out.2.2.1 HI.out.2.2.2; rw [← HN.out.2.2.2.1] at HBd; have HBd := Lib.hid HBd; refine wp_region_lit ?_
    refine wpList_load_at rfl 25 _ rfl ⟨rb, 0, none⟩ rfl (.agg C) (by rw [HN.out.2.2.2.1]; exact rec_load (H1.out.2.2.1.below H2.out.1)) ?_
    iterate 2 go_step
    refine HBd.out.mono ?_; rintro e w3 ⟨ba, bc, rfl, h1, h2, h3, h4, h5⟩
    have H3 : Hid (Below w1.heap.size w1 w3 ∧ Below w.heap.size w w3 ∧ SrcP w3 ba x.told.length x.told ∧ x.told.length ≤ bc ∧ bc ≤ 9223372036854775807 ∧ x.told.length ≤ 2000) := by
      have hb := H2.out.1.trans (h5.mono H2.out.1.size); refine Lib.hid ⟨hb, H1.out.1.trans (hb.mono H1.out.1.size), h4.srcP, h1, h2, ?_⟩; unfold RecL.told; rw [if_pos HX.out]; exact body_short HX.out HI.out.2.2.2
    clear h1 h2 h3 h4 h5 HBd; dsimp only; obtain ⟨body, hbody⟩ : ∃ b, b = x.told := ⟨_, rfl⟩; have HBo := Lib.hid hbody; rw [← hbody] at H3 ⊢; clear hbody; obtain ⟨BN, hBN⟩ : ∃ n, n = body.length := ⟨_, rfl⟩; rw [← hBN]; have HBN := Lib.hid hBN; clear hBN
    go_upto_region 4 with (fail)
    refine wp_region_lit ?_
    refine wpList_load_at rfl 23 _ rfl ⟨ab, 0, none⟩ rfl (.agg AT) (by rw [HN.out.2.2.1]; exact load_row32 H1.out.2.2.2.2.2 ((H3.out.1.block _ (Array.getElem?_eq_some_iff.1 H1.out.2.1).1).trans H1.out.2.1)) ?_
    have HHd : Hid (Calls Tryd.prog 18 #[.agg AT, .slice ba BN bc] w3 (Below0 w3 (.agg (byA (headL ahead body))))) := by
      rw [HN.out.2.2.1, HBN.out]
      exact Lib.hid (rhead_any w3 ahead body ba bc H1.out.2.2.2.2.2 H3.out.2.2.1 H3.out.2.2.2.1 H3.out.2.2.2.2.1 (by have := H3.out.2.2.2.2.2; omega) (H1.out.2.2.2.2.1.below H3.out.2.1))
    iterate 5 go_step
    refine HHd.out.mono ?_; rintro e w4 ⟨rfl, hB4⟩
    have H4 : Hid (Below w1.heap.size w1 w4 ∧ Below w.heap.size w w4 ∧ Below w3.heap.size w3 w4) := by
      have hb := H3.out.1.trans (hB4.mono H3.out.1.size); exact Lib.hid ⟨hb, H1.out.1.trans (hb.mono H1.out.1.size), hB4⟩
    clear hB4; dsimp only
    iterate 4 go_step
    refine wpList_store_row rfl _ _ _ rfl w4.heap.size (byA (headL ahead body)) rfl rfl 23 ZT (heap_alloc_new w4 _) (arr_size _ (headL_length _ _)) (by rw [HN.out.2.1, byA_size, byA_size, headL_length]; rfl) (byA_one _) ?_
    obtain ⟨hb, hhb⟩ : ∃ b, b = w4.heap.size := ⟨_, rfl⟩; obtain ⟨w5, hw5⟩ : ∃ W, W = (w4.alloc (.cells ZT 23)).setRow w4.heap.size (byA (headL ahead body)) := ⟨_, rfl⟩
    have H5 : Hid (Below w1.heap.size w1 w5 ∧ Below w.heap.size w w5 ∧ w5.heap[hb]? = some (.cells (byA (headL ahead body)) 23 (0, 0)) ∧ w1.heap.size ≤ hb ∧ Below w3.heap.size w3 w5) := by
      have k : Below w4.heap.size w4 w5 := by
        rw [hw5]; have h1 := (Below.refl _ w4).alloc (Nat.le_refl _) (.cells ZT 23)
        exact h1.trans ⟨rfl, rfl, rfl, by simp, fun k hk => setRow_other _ _ _ _ (by omega)⟩
      have h1 := H4.out.1.trans (k.mono H4.out.1.size)
      refine Lib.hid ⟨h1, H1.out.1.trans (h1.mono H1.out.1.size), ?_, by rw [hhb]; exact H4.out.1.size, H4.out.2.2.trans (k.mono H4.out.2.2.size)⟩
      rw [hw5, hhb]; exact setRow_heap _ _ ZT _ _ _ (heap_alloc_new w4 _)
    rw [← hw5, ← hhb]; clear hw5 hhb
    go_upto_region 5 with (fail)
    refine wp_region_lit ?_
    iterate 3 go_step
    refine run_slice1_B rfl (.const (.int .u8 76)) rfl 76 rfl ?_; obtain ⟨tb, htb⟩ : ∃ b, b = w5.heap.size := ⟨_, rfl⟩; obtain ⟨w6, hw6⟩ : ∃ W, W = w5.alloc (.cells #[B 76] 5) := ⟨_, rfl⟩
    have H6 : Hid (Below w5.heap.size w5 w6 ∧ w6.heap[tb]? = some (.cells #[B 76] 5 (0, 0))) := by
      rw [hw6, htb]; exact Lib.hid ⟨(Below.refl _ w5).alloc (Nat.le_refl _) _, heap_alloc_new w5 _⟩
    rw [← hw6, ← htb]; clear hw6 htb
    iterate 3 go_step
    refine wpList_plain rfl fun K hK => ?_
    refine wp_parts2 (.tmp 22) (.tmp 23) rfl ⟨some ⟨tb, 0, none⟩, 1, [76]⟩ ⟨some ⟨hb, 0, none⟩, 32, headL ahead body⟩ rfl (by rw [Part.val, headL_length]; rfl) ?_
    refine hK _ _ ?_; obtain ⟨gb, hgb⟩ : ∃ b, b = w6.heap.size := ⟨_, rfl⟩; obtain ⟨w7, hw7⟩ : ∃ W, W = w6.alloc (.cells #[(Part.mk (some ⟨tb, 0, none⟩) 1 [76]).val, (Part.mk (some ⟨hb, 0, none⟩) 32 (headL ahead body)).val] 26) := ⟨_, rfl⟩
    have H7 : Hid (Below w5.heap.size w5 w7 ∧ Calls Tryd.prog 52 #[.slice ka KN kc, .slice (some ⟨gb, 0, none⟩) 2 2] w7 (Below0 w7 (.agg (byA (tagL key (headL ahead body)))))) := by
      have hB7 : Below w6.heap.size w6 w7 := by rw [hw7]; exact (Below.refl _ w6).alloc (Nat.le_refl _) _
      have h57 := H6.out.1.trans (hB7.mono H6.out.1.size); have hw := H5.out.2.1.trans (h57.mono H5.out.2.1.size); have hW7 := H1.out.2.2.2.2.1.below hw
      have hr7 : w7.heap[gb]? = some (.cells #[(Part.mk (some ⟨tb, 0, none⟩) 1 [76]).val, (Part.mk (some ⟨hb, 0, none⟩) 32 (headL ahead body)).val] 26 (0, 0)) := by rw [hw7, hgb]; exact heap_alloc_new w6 _
      have hrt : w7.heap[tb]? = some (.cells (([76] : List (BitVec 8)).map B).toArray 5 (0, 0)) := (hB7.block _ (Array.getElem?_eq_some_iff.1 H6.out.2).1).trans H6.out.2; have hrh : w7.heap[hb]? = some (.cells ((headL ahead body).map B).toArray 23 (0, 0)) := (h57.block _ (Array.getElem?_eq_some_iff.1 H5.out.2.2.1).1).trans H5.out.2.2.1
      have h := htag_any w7 ka (some ⟨gb, 0, none⟩) kc 2 key [⟨some ⟨tb, 0, none⟩, 1, [76]⟩, ⟨some ⟨hb, 0, none⟩, 32, headL ahead body⟩] (HK.out.1.below hw) HK.out.2.1 HK.out.2.2.1 (by have := HK.out.2.2.2; omega) (parts_two _ _ hr7) (fun p hp => by
        simp only [List.mem_cons, List.not_mem_nil, or_false] at hp
        rcases hp with rfl | rfl
        · exact ⟨Nat.le_refl _, show 1 ≤ 9223372036854775807 by decide, src_row hrt⟩
        · exact ⟨Nat.le_of_eq (headL_length _ _), show 32 ≤ 9223372036854775807 by decide, src_row hrh⟩) (show 2 ≤ 9223372036854775807 by decide) (by simp [flat, headL_length]) hW7.1 hW7.2
      rw [show flat [Part.mk (some ⟨tb, 0, none⟩) 1 [76], ⟨some ⟨hb, 0, none⟩, 32, headL ahead body⟩] = 76 :: headL ahead body by simp [flat], ShaA_is, ← HN.out.2.2.2.2] at h
      exact Lib.hid ⟨h57, h⟩
    rw [← hw7, ← hgb]; clear hw7 hgb
    iterate 2 go_step
    refine H7.out.2.mono ?_; rintro e w8 ⟨rfl, hB8⟩; have H8 : Hid (Below w5.heap.size w5 w8) := Lib.hid (H7.out.1.trans (hB8.mono H7.out.1.size)); clear hB8; dsimp only
    iterate 4 go_step
    have htl : (tagL key (headL ahead body)).length = 32 := shaL_length _
    refine wpList_store_row rfl _ _ _ rfl w8.heap.size (byA (tagL key (headL ahead body))) rfl rfl 23 ZT (heap_alloc_new w8 _) (arr_size _ htl) (by rw [HN.out.2.1, byA_size, byA_size, htl]; rfl) (byA_one _) ?_
    obtain ⟨gt, hgt⟩ : ∃ b, b = w8.heap.size := ⟨_, rfl⟩; obtain ⟨w9, hw9⟩ : ∃ W, W = (w8.alloc (.cells ZT 23)).setRow w8.heap.size (byA (tagL key (headL ahead body))) := ⟨_, rfl⟩
    have H9 : Hid (Below w5.heap.size w5 w9 ∧ w9.heap[gt]? = some (.cells (byA (tagL key (headL ahead body))) 23 (0, 0)) ∧ (tagL key (headL ahead body)).length = 32) := by
      have k : Below w8.heap.size w8 w9 := by
        rw [hw9]; have h1 := (Below.refl _ w8).alloc (Nat.le_refl _) (.cells ZT 23)
        exact h1.trans ⟨rfl, rfl, rfl, by simp, fun k hk => setRow_other _ _ _ _ (by omega)⟩
      refine Lib.hid ⟨H8.out.trans (k.mono H8.out.size), ?_, htl⟩; rw [hw9, hgt]; exact setRow_heap _ _ ZT _ _ _ (heap_alloc_new w8 _)
    rw [← hw9, ← hgt]; clear hw9 hgt htl hK; obtain ⟨TG, hTG⟩ : ∃ t, t = tagL key (headL ahead body) := ⟨_, rfl⟩; obtain ⟨HD, hHD⟩ : ∃ t, t = headL ahead body := ⟨_, rfl⟩; have HTG := Lib.hid (And.intro hTG hHD); rw [← hTG] at H9; rw [← hHD] at H5; clear hTG hHD; obtain ⟨pb, hpb⟩ : ∃ b, b = w9.heap.size := ⟨_, rfl⟩; obtain ⟨W0, hW0⟩ : ∃ W, W = w9.alloc (.cells #[.slice none 0 0] 76) := ⟨_, rfl⟩
    have hP0 : PenAt (fun k => k < pb) W0 pb [] := by rw [hW0, hpb]; exact PenAt.new _ w9
    have hB90 : Below pb w9 W0 := by rw [hW0, hpb]; exact (Below.refl _ w9).alloc (Nat.le_refl _) _
    have HPB : Hid (pb = w9.heap.size) := Lib.hid hpb
    have HZ : Hid (∀ w', Below pb w9 w' → Below w3.heap.size w3 w' ∧ Below w.heap.size w w' ∧ pb ≤ w'.heap.size ∧ w3.heap.size ≤ pb ∧ w'.heap[gt]? = some (.cells (byA TG) 23 (0, 0)) ∧ w'.heap[hb]? = some (.cells (byA HD) 23 (0, 0)) ∧ w'.heap[zb]? = some (.cells ZT 23 (0, 0)) ∧ hb ≠ zb ∧ zb < pb) := by
      refine Lib.hid (fun w' hB => ?_); rw [hpb] at hB ⊢; have h39 : Below w3.heap.size w3 w9 := H5.out.2.2.2.2.trans (H9.out.1.mono H5.out.2.2.2.2.size); have h3 := h39.trans (hB.mono h39.size); have h19 : Below w1.heap.size w1 w9 := H5.out.1.trans (H9.out.1.mono H5.out.1.size); have h1 := h19.trans (hB.mono h19.size); have hz := H1.out.2.2.2.1; have hzl := (Array.getElem?_eq_some_iff.1 hz).1; have hh9 := (H9.out.1.block _ (Array.getElem?_eq_some_iff.1 H5.out.2.2.1).1).trans H5.out.2.2.1; have hhl := (Array.getElem?_eq_some_iff.1 hh9).1; have hgl := (Array.getElem?_eq_some_iff.1 H9.out.2.1).1; have := H5.out.2.2.2.1; have := h19.size
      exact ⟨h3, H1.out.1.trans (h1.mono H1.out.1.size), hB.size, h39.size, (hB.block _ hgl).trans H9.out.2.1, (hB.block _ hhl).trans hh9, (h1.block _ hzl).trans hz, by omega, by omega⟩
    have HPK : Hid (∀ W w', Below pb w9 W → PKept (fun k => k < pb) pb W w' → Below pb w9 w') := by
      refine Lib.hid (fun W w' hB hK => hB.trans (hK.below (fun _ h => h) (Nat.le_refl _) ?_)); rw [hpb]; rw [hpb] at hB; exact hB.size
    have H0 := Lib.hid (And.intro hP0 hB90); clear hP0 hB90
    go_upto_region 7 with (fail)
    rw [← hW0, ← hpb]; clear hW0 hpb
    have HX1 : Hid (Calls Tryd.prog 46 #[.pointer (some ⟨pb, 0, none⟩), .slice ba BN bc] W0 (PenEnd (fun k => k < pb) pb W0 ([] ++ textL body) (.bool true))) := by
      obtain ⟨z1, z2, z3, z4, -⟩ := HZ.out W0 H0.out.2
      exact Lib.hid (ptext_any W0 (fun k => k < pb) pb BN bc ba [] body HBN.out (srcK_of H3.out.2.2.1 z1 z4) (by rw [HBN.out]; have := H3.out.2.2.2.2.2; omega) H0.out.1 (fun k h => Nat.lt_of_lt_of_le h z3) (by decide))
    go_wp2_with (fail); refine HX1.out.mono ?_; rintro e W1 ⟨rfl, hP1, hK1⟩; have HW1 := Lib.hid (And.intro hP1 (HPK.out W0 W1 H0.out.2 hK1)); clear hP1 hK1 HX1; dsimp only
    have HTl : Hid (([] ++ textL body).length ≤ 2010) := by
      refine Lib.hid ?_; have h1 := wordL_length body.length; have h2 := H3.out.2.2.2.2.2; simp only [List.nil_append, textL, List.length_append]; omega
    have HX2 : Hid (Calls Tryd.prog 43 #[.pointer (some ⟨pb, 0, none⟩), .slice (some ⟨gt, 0, none⟩) 32 32] W1 (PenEnd (fun k => k < pb) pb W1 (([] ++ textL body) ++ TG) (.tuple #[]))) := by
      obtain ⟨z1, z2, z3, z4, z5, -⟩ := HZ.out W1 HW1.out.2; have hs : SrcP W1 (some ⟨gt, 0, none⟩) TG.length TG := src_row z5
      exact Lib.hid (pfixed_any W1 (fun k => k < pb) pb 32 32 (some ⟨gt, 0, none⟩) _ TG H9.out.2.2.symm hs HW1.out.1 (fun k h => Nat.lt_of_lt_of_le h z3) (by have := HTl.out; have := H9.out.2.2; omega))
    go_wp2_with (fail); refine HX2.out.mono ?_; rintro e W2 ⟨rfl, hP2, hK2⟩; have HW2 := Lib.hid (And.intro hP2 (HPK.out W1 W2 HW1.out.2 hK2)); clear hP2 hK2 HX2; dsimp only
    have HL2 : Hid ((([] ++ textL body) ++ TG).length = (textL body).length + 32 ∧ (textL body).length ≤ 2010) := by
      refine Lib.hid ⟨?_, by simpa using HTl.out⟩
      rw [List.length_append, H9.out.2.2]; rfl
    obtain ⟨TL, hTL⟩ : ∃ t, t = ([] ++ textL body) ++ TG := ⟨_, rfl⟩; rw [← hTL] at HW2 HL2; have HTL := Lib.hid hTL; clear hTL HTl
    have HX3 := Lib.hid (pbytes_any W2 (fun k => k < pb) pb TL HW2.out.1 (by have := HL2.out; omega))
    go_wp2_with (fail); refine HX3.out.mono ?_; rintro e W3 ⟨ca, cc, rfl, -, -, -, -, hB3⟩; have HW3 : Hid (PenAt (fun k => k < pb) W3 pb TL ∧ Below pb w9 W3) := Lib.hid ⟨HW2.out.1.below hB3, HW2.out.2.trans (hB3.mono (HZ.out W2 HW2.out.2).2.2.1)⟩; clear hB3 HX3; dsimp only; obtain ⟨tn, htn⟩ : ∃ n, n = TL.length := ⟨_, rfl⟩; rw [← htn] at HL2 ⊢
    have HX4 := Lib.hid (noughts_any W3 tn (by have := HL2.out; omega))
    have HTN := Lib.hid htn; clear htn; go_wp2_with (fail); refine HX4.out.mono ?_; rintro e W3' ⟨rfl, rfl⟩; obtain ⟨nn, hnn⟩ : ∃ n, n = noughtN tn := ⟨_, rfl⟩; rw [← hnn]
    have HNN : Hid (nn = noughtN tn ∧ nn < 128) := Lib.hid ⟨hnn, by rw [hnn]; exact noughtN_lt tn⟩
    clear hnn HX4; have hnb : nn < 128 := HNN.out.2
    have hmk := mk_noughts W3' nn (by omega)
    obtain ⟨W4, hW4⟩ : ∃ W, W = W3'.alloc (.cells (((List.replicate nn (0 : BitVec 8)).map B).toArray) 5) := ⟨_, rfl⟩; rw [← hW4] at hmk
    have HX5 : Hid (Calls Tryd.prog 43 #[.pointer (some ⟨pb, 0, none⟩), .slice (some ⟨W3'.heap.size, 0, none⟩) nn nn] W4 (PenEnd (fun k => k < pb) pb W4 (TL ++ List.replicate nn 0) (.tuple #[])) ∧ Below pb w9 W4) := by
      have hB4 : Below W3'.heap.size W3' W4 := by rw [hW4]; exact (Below.refl _ W3').alloc (Nat.le_refl _) _
      have hb4 := HW3.out.2.trans (hB4.mono (HZ.out W3' HW3.out.2).2.2.1)
      have hr : W4.heap[W3'.heap.size]? = some (.cells (((List.replicate nn (0 : BitVec 8)).map B).toArray) 5 (0, 0)) := by rw [hW4]; exact heap_alloc_new W3' _
      have hs : SrcP W4 (some ⟨W3'.heap.size, 0, none⟩) (List.replicate nn (0 : BitVec 8)).length (List.replicate nn 0) := src_row hr
      exact Lib.hid ⟨pfixed_any W4 (fun k => k < pb) pb nn nn (some ⟨W3'.heap.size, 0, none⟩) TL (List.replicate nn 0) (by simp) hs (HW3.out.1.below hB4) (fun k h => Nat.lt_of_lt_of_le h (HZ.out W4 hb4).2.2.1) (by have := HL2.out; have := HTN.out; simp; omega), hb4⟩
    clear hW4; dsimp only; go_wp2_with (fail); refine HX5.out.1.mono ?_; rintro e W5 ⟨rfl, hP5, hK5⟩; have HW5 := Lib.hid (And.intro hP5 (HPK.out W4 W5 HX5.out.2 hK5)); clear hP5 hK5 HX5 hmk hnb; dsimp only; obtain ⟨SL, hSL⟩ : ∃ t, t = TL ++ List.replicate nn 0 := ⟨_, rfl⟩; rw [← hSL] at HW5
    have HSL : Hid (SL = sealB key ahead body ∧ SL.length ≤ 3000) := by
      have h1 := HL2.out; have h2 := HTN.out; refine Lib.hid ⟨?_, ?_⟩
      · rw [hSL, HTL.out, HNN.out.1, HTG.out.1, h1.1]; unfold sealB; simp
      · rw [hSL, List.length_append, List.length_replicate]; have := HNN.out.2; omega
    clear hSL
    have HX6 := Lib.hid (pbytes_any W5.drew (fun k => k < pb) pb SL (HW5.out.1.below (Below.refl _ W5).drew) (by have := HSL.out.2; omega))
    have hdr : W5.drew.heap[hb]? = some (.cells (byA HD) 23 (0, 0)) := (HZ.out W5 HW5.out.2).2.2.2.2.2.1
    have HHl : Hid (HD.length = 32) := by rw [HTG.out.2]; exact Lib.hid (headL_length _ _)
    go_upto_region 10 with (fail)
    refine wp_region_held_drew (S := fun w' => w'.heap[hb]? = some (.cells (byA HD) 23 (0, 0))) (by kernel_rfl) hdr (fun hHeld => ?_)
    refine tkFree (i := 1) (v := .agg (byA HD)) rfl (by kernel_rfl) (by kernel_rfl) (by kernel_rfl) (fun _ _ _ h => h) (yieldsIf_load_at (by rfl) 23 _ rfl ⟨hb, 0, none⟩ rfl (fun w hS => load_row32 HHl.out hS)) hHeld ?_
    simp only [Act.put, List.setIfInBounds_toArray, List.set_cons_zero, List.set_cons_succ]
    refine tkOne 0 rfl (by kernel_rfl) rfl (fun K hK => ?_)
    go_simp
    refine HX6.out.mono ?_; rintro e W6 ⟨ra, rc, rfl, g1, g2, g3, g4, hB6⟩; have h56 : Below W5.heap.size W5 W6 := (Below.refl _ W5).drew.trans hB6; have hb6 := HW5.out.2.trans (h56.mono (HZ.out W5 HW5.out.2).2.2.1); obtain ⟨z1, z2, z3, z4, z5, z6, z7, z8, z9⟩ := HZ.out W6 hb6; have HG := Lib.hid (And.intro g1 (And.intro g2 (And.intro g3 (And.intro (g4.mono (show pb ≤ W5.drew.heap.size from (HZ.out W5 HW5.out.2).2.2.1)) (And.intro z2 (And.intro z7 (And.intro z8 (And.intro HQ.out.2.2 (And.intro z9 (Nat.le_trans H3.out.2.1.size z4)))))))))); refine hK _ _ z6 ?_; clear hK hHeld g1 g2 g3 g4 hB6 h56 hb6 z1 z2 z3 z4 z5 z7 z8 z9 hdr; have hHeld := z6; clear z6
    try simp only [Act.put, List.setIfInBounds_toArray, List.set_cons_zero, List.set_cons_succ]
    refine tkFree (i := 2) rfl (by kernel_rfl) (by kernel_rfl) (by kernel_rfl) (fun _ _ _ h => h) (.inl ⟨by rfl, fun w hSw => by go_simp; rfl⟩) hHeld ?_
    simp only [Act.put, List.setIfInBounds_toArray, List.set_cons_zero, List.set_cons_succ]
    refine tkOne 3 rfl (by kernel_rfl) rfl (fun K hK => ?_)
    refine wp_store_row _ (.tmp 7) (.tmp 36) rfl zb (byA HD) rfl rfl 23 ZT HG.out.2.2.2.2.2.1 (arr_size _ HHl.out) (by rw [HN.out.2.1, byA_size, byA_size, HHl.out]; rfl) (byA_one _) ?_
    refine hK _ _ ((setRow_other _ _ _ _ HG.out.2.2.2.2.2.2.1).trans hHeld) ?_; clear hK hHeld
    try simp only [Act.put, ]
    refine wpAnyH_done (by kernel_rfl) ?_ _
    obtain ⟨W7, hW7⟩ : ∃ W, W = W6.setRow zb (byA HD) := ⟨_, rfl⟩
    have HE : Hid (P (.returned (.tuple #[.slice ra SL.length rc, .agg (byA HD)])) W7 ∧ W7.heap[zb]? = some (.cells (byA HD) 23 (0, 0))) := by
      obtain ⟨g1, g2, g3, g4, z2, z7, z8, hzb, z9, z10⟩ := HG.out; have hg := grown_row W6 zb (byA HD)
      refine Lib.hid ⟨?_, by rw [hW7]; exact setRow_heap _ _ ZT _ _ _ z7⟩
      rw [HN.out.1, hW7]
      have e : x.sealed key ahead = (SL, HD) := by
        unfold RecL.sealed; rw [if_pos HX.out, HSL.out.1, HTG.out.2, HBo.out]; unfold RecL.told; rw [if_pos HX.out]
      rw [e]
      exact ⟨ra, rc, rfl, g1, g2, g3, (g4.grown hg z9).mono z10, z2.trans ⟨rfl, rfl, rfl, by simp, fun k hk => setRow_other _ _ _ _ (by omega)⟩⟩
    rw [← hW7]; clear hW7; go_wp2_with (fail); refine bodyPost_ret (v := .tuple #[.slice ra SL.length rc, .agg (byA HD)]) ?_ rfl HE.out.1; exact results_tmp_cell (s := 6) (p := 7) rfl _ _ zb 23 (byA HD) (0, 0) _ rfl HE.out.2 Tryd.underlying23 rfl (arr_size _ HHl.out)
  · rw [Bool.not_eq_true] at hrt; rw [hrt]
    have HX : Hid (x.sealed key ahead = ([], ahead)) := by
      unfold RecL.sealed; rw [hrt]; exact Lib.hid rfl
    clear hrt; have hdr : w2.drew.heap[ab]? = some (.cells (byA ahead) 23 (0, 0)) := (H2.out.1.block _ (Array.getElem?_eq_some_iff.1 H1.out.2.1).1).trans H1.out.2.1
    have HS : Hid (Below w.heap.size w w2.drew ∧ w2.drew.heap[zb]? = some (.cells ZT 23 (0, 0)) ∧ ab ≠ zb ∧ w.heap.size ≤ zb) := by
      have hz := H1.out.2.2.2.1; have hq := HQ.out
      exact Lib.hid ⟨H2.out.2.trans ((Below.refl _ w2).drew.mono H2.out.2.size), (H2.out.1.block _ (Array.getElem?_eq_some_iff.1 hz).1).trans hz, by omega, by omega⟩
    go_upto_region 2 with (fail)
    refine wp_region_held_drew (S := fun w' => w'.heap[ab]? = some (.cells (byA ahead) 23 (0, 0))) (by kernel_rfl) hdr (fun hHeld => ?_)
    refine tkFree (i := 0) (v := .agg (byA ahead)) rfl (by kernel_rfl) (by kernel_rfl) (by kernel_rfl) (fun _ _ _ h => h) (yieldsIf_load_at (by rfl) 23 _ rfl ⟨ab, 0, none⟩ rfl (fun w hS => load_row32 H1.out.2.2.2.2.2 hS)) hHeld ?_
    simp only [Act.put, List.setIfInBounds_toArray, List.set_cons_zero, List.set_cons_succ]
    refine tkFree (i := 1) rfl (by kernel_rfl) (by kernel_rfl) (by kernel_rfl) (fun _ _ _ h => h) (.inl ⟨by rfl, fun w hSw => by go_simp; rfl⟩) hHeld ?_
    simp only [Act.put, List.setIfInBounds_toArray, List.set_cons_zero, List.set_cons_succ]
    refine tkOne 2 rfl (by kernel_rfl) rfl (fun K hK => ?_)
    refine wp_store_row _ (.tmp 7) (.tmp 15) rfl zb (byA ahead) rfl rfl 23 ZT HS.out.2.1 (arr_size _ H1.out.2.2.2.2.2) (by rw [HN.out.2.1, byA_size, byA_size, H1.out.2.2.2.2.2]; rfl) (byA_one _) ?_
    refine hK _ _ ((setRow_other _ _ _ _ HS.out.2.2.1).trans hHeld) ?_; clear hK hHeld hdr
    refine wpAnyH_done (by kernel_rfl) ?_ _
    obtain ⟨W7, hW7⟩ : ∃ W, W = w2.drew.setRow zb (byA ahead) := ⟨_, rfl⟩
    have HE : Hid (P (.returned (.tuple #[.slice none 0 0, .agg (byA ahead)])) W7 ∧ W7.heap[zb]? = some (.cells (byA ahead) 23 (0, 0))) := by
      obtain ⟨z2, z7, z8, hzb⟩ := HS.out
      refine Lib.hid ⟨?_, by rw [hW7]; exact setRow_heap _ _ ZT _ _ _ z7⟩
      rw [HN.out.1, hW7, HX.out]
      exact ⟨none, 0, rfl, Nat.le_refl _, by decide, fun _ => rfl, .inl rfl, z2.trans ⟨rfl, rfl, rfl, by simp, fun k hk => setRow_other _ _ _ _ (by omega)⟩⟩
    rw [← hW7]; clear hW7; go_wp2_with (fail); refine bodyPost_ret (v := .tuple #[.slice none 0 0, .agg (byA ahead)]) ?_ rfl HE.out.1; exact results_tmp_cell (s := 6) (p := 7) rfl _ _ zb 23 (byA ahead) (0, 0) _ rfl HE.out.2 Tryd.underlying23 rfl (arr_size _ H1.out.2.2.2.2.2)
end Go.Proofs.YtdmnhgbdeifpbaaDoor
