/-
  EventReads, whatever items and bytes it is called with.
-/
import Derived.Test.YtmjanplhgpcbeaaDoorEventFirst
import Derived.Test.YtmjanplhgpcbeaaDoorEventSame
import Derived.Test.YtmjanplhgpcbeaaDoorRefRead
import Derived.Test.YtmjanplhgpcbeaaDoorRefList
namespace Go.Proofs.YtmjanplhgpcbeaaDoor
open Go Go.RowKit

def stRd5 (B0 : Nat) (m : List (BitVec 8)) : StT (fun w w' => Below w.heap.size w w') :=
  ⟨fun w v => ∃ g base, v = .pointer (some ⟨g, 0, none⟩) ∧ B0 ≤ g ∧ base ≤ w.heap.size ∧ RdAt base w g ⟨m, 0⟩, fun _ _ _ h ⟨g, base, h1, h2, h3, h4⟩ => ⟨g, base, h1, h2, Nat.le_trans h3 h.size, h4.below h⟩⟩
def stSl5 (m : List (BitVec 8)) : StT (fun w w' => Below w.heap.size w w') :=
  ⟨fun w v => ∃ sa sc, v = .slice sa m.length sc ∧ SrcP w sa m.length m, fun _ _ _ h ⟨sa, sc, h1, h2⟩ => ⟨sa, sc, h1, h2.below h⟩⟩
theorem readT_length (m : List (BitVec 8)) : (readT m).1.length ≤ 1024 := by
  have hr := number_range ⟨m, 0⟩ 1024 (by decide)
  unfold readT
  split
  · rw [itemsN_length]
    omega
  · exact Nat.zero_le _
set_option maxRecDepth 100000 in
set_option maxHeartbeats 4000000 in
theorem eventReads_any (w : World) (la ba : Option Addr) (lc bc M : Nat) (l : List ItemL) (m : List (BitVec 8)) (hI : ItemsAt w la l) (hk : ∀ x ∈ l, x.key.length ≤ 1048576) (hl : l.length ≤ 1048576) (hm : M = m.length) (hs : SrcP w ba m.length m) (hbc : ba = none → bc = 0) (hmb : M ≤ 1048576) (hL : LibIn w) :
    Calls Tryd.prog 4 #[.slice la l.length lc, .slice ba M bc] w (Below0 w (.bool true)) := by
  have HF := Lib.hid (efirst_any w hL)
  obtain ⟨L, hLn⟩ : ∃ L, L = l.length := ⟨_, rfl⟩
  have HP := Lib.hid (And.intro hI (And.intro hk (And.intro hLn (And.intro hl hL))))
  obtain ⟨q0, hq⟩ : ∃ q, q = greatL l := ⟨_, rfl⟩
  have HG : Hid (∀ w', Below w.heap.size w w' → Calls Tryd.prog 7 #[.slice la L lc] w' (Below0 w' (.int .i64 (q0 : Int)))) := by
    rw [hLn, hq]
    exact Lib.hid (fun w' hB => great_any w' la lc l (hI.below hB) hk hl)
  rw [← hLn]
  by_cases hq5 : 3000 < q0
  · have hq5' : (3000 : Int) < (q0 : Int) := by omega
    clear hI hk hl hL hLn hq hq5 hs hm hbc hmb
    go_enter Tryd.func4, Tryd.ntmps4
    go_wp2_with (fail)
    refine HF.out.mono ?_
    rintro e w1 ⟨rfl, hB⟩
    have H1 := Lib.hid hB
    clear hB
    dsimp only
    go_wp2_with (fail)
    refine (HG.out w1 H1.out).mono ?_
    rintro e w2 ⟨rfl, hB⟩
    have H2 := Lib.hid (H1.out.trans (hB.mono H1.out.size))
    clear hB
    dsimp only
    go_wp2_with (fail)
    go_ret
    exact ⟨rfl, H2.out⟩
  have hq5' : ¬ (3000 : Int) < (q0 : Int) := by omega
  by_cases hm2 : 2000 < M
  · have hm2' : (2000 : Int) < (M : Int) := by omega
    clear hI hk hl hL hLn hq hq5 hs hm hbc hm2
    go_enter Tryd.func4, Tryd.ntmps4
    go_wp2_with (fail)
    refine HF.out.mono ?_
    rintro e w1 ⟨rfl, hB⟩
    have H1 := Lib.hid hB
    clear hB
    dsimp only
    go_wp2_with (fail)
    refine (HG.out w1 H1.out).mono ?_
    rintro e w2 ⟨rfl, hB⟩
    have H2 := Lib.hid (H1.out.trans (hB.mono H1.out.size))
    clear hB
    dsimp only
    go_wp2_with (fail)
    go_ret
    exact ⟨rfl, H2.out⟩
  have hm2' : ¬ (2000 : Int) < (M : Int) := by omega
  have HL3 : Hid (L ≤ 300) := Lib.hid (by have := greatL_length l; omega)
  have HK3 : Hid (∀ x ∈ l, x.key.length ≤ 3000) := Lib.hid (fun x hx => by have := greatL_mem hx; omega)
  have HS0 := Lib.hid hs
  have HM : Hid (M = m.length ∧ (ba = none → bc = 0) ∧ M ≤ 2000) := Lib.hid ⟨hm, hbc, by omega⟩
  obtain ⟨T, hT⟩ : ∃ T, T = listL l := ⟨_, rfl⟩
  have HTe := Lib.hid hT
  obtain ⟨Kn, hK⟩ : ∃ Kn, Kn = (readT m).1.length := ⟨_, rfl⟩
  obtain ⟨q, hqq⟩ : ∃ q, q = (readT m).2 := ⟨_, rfl⟩
  have HKq := Lib.hid (And.intro hK hqq)
  clear hI hk hl hL hLn hq hq5 hs hm hbc hm2 hT hK hqq
  go_enter Tryd.func4, Tryd.ntmps4
  go_wp2_with (fail)
  refine HF.out.mono ?_
  rintro e w1 ⟨rfl, hB⟩
  have H1 := Lib.hid hB
  clear hB
  dsimp only
  go_wp2_with (fail)
  refine (HG.out w1 H1.out).mono ?_
  rintro e w2 ⟨rfl, hB⟩
  have H2 := Lib.hid (H1.out.trans (hB.mono H1.out.size))
  clear hB
  dsimp only
  go_wp2_with (fail)
  refine (eread_any w2 ba bc M m HM.out.1 (HS0.out.below H2.out) HM.out.2.1 (by have := HM.out; omega)).mono ?_
  rintro e w3 ⟨v5, rfl, ho, hB⟩
  obtain ⟨a5, c5, rfl, hat5⟩ := ho.form
  have H3 := Lib.hid (And.intro hat5 (H2.out.trans (hB.mono H2.out.size)))
  rw [← HKq.out.1, ← HKq.out.2]
  have hcv : (convert 29 9 (.slice ba M bc)).run Tryd.prog w3 = .ok (Sv m) w3 := by
    have h := run_conv_str w3 ba bc m (HS0.out.below H3.out.2)
    rwa [← HM.out.1] at h
  clear ho hB hat5
  dsimp only
  go_wp2_with (fail)
  refine (erRead_any w3 m).mono ?_
  rintro e w4 ⟨v7, rfl, ho, hB⟩
  obtain ⟨a7, c7, rfl, hat7⟩ := ho.form
  rw [← HKq.out.1, ← HKq.out.2]
  clear hcv
  dsimp only
  go_upto_region 7 with (fail)
  obtain ⟨w5, hw5⟩ : ∃ x, x = w4 := ⟨w4, rfl⟩
  have HI5 : Hid (ItemsAt w5 a5 (readT m).1 ∧ ItemsAt w5 a7 (readT m).1 ∧ Kn = (readT m).1.length ∧ (readT m).1.length ≤ 9223372036854775806) := by
    rw [hw5]
    exact Lib.hid ⟨H3.out.1.below hB, hat7, HKq.out.1, Nat.le_trans (readT_length m) (by decide)⟩
  have HW5 : Hid (Below w.heap.size w w5) := by
    rw [hw5]
    exact Lib.hid (H3.out.2.trans (hB.mono H3.out.2.size))
  have HS1 : Hid (SrcP w5 ba m.length m) := Lib.hid (HS0.out.below HW5.out)
  have HG0 : Hid (Below w5.heap.size w5 w5.drew) := (Below.refl _ w5).drew
  rw [← hw5]
  clear ho hB hat7 hw5
  refine wp_region_seq_frame (by kernel_rfl) [none, none, none, none, none, none, none, none] [] (vOfT [stE (.slice ba M bc), stRd5 w5.heap.size m, stE (.slice ba M bc), stE (Sv m), stE (.agg #[Sv m, .int .i64 0]), stTp w5.heap.size m, stRd5 w5.heap.size m, stTp w5.heap.size m]) (fun _ w' => Below w5.heap.size w5 w') (fun w w' => Below w.heap.size w w') (vOfT_st _) (by kernel_rfl) (by kernel_rfl) (by kernel_rfl) HG0.out ⟨trivial, trivial, trivial, trivial, trivial, trivial, trivial, trivial, trivial⟩ ?_ ?_
  · refine ⟨?_, ?_, ?_, ?_, ?_, ?_, ?_, ?_, trivial⟩
    · intro k a w' hG hout hpre K hK
      have q1 := ev_of ((hout 1 rfl).trans (show _ = .slice ba M bc from rfl))
      clear hout hpre
      go_step
      exact hK _ _ rfl hG (Below.refl _ _)
    · intro k a w' hG hout hpre K hK
      obtain ⟨p0, _⟩ := hpre
      have q33 := ev_of (show a.eval (.tmp 33) = .slice ba M bc from p0)
      have HS := Lib.hid (rread_any w' ba bc M m HM.out.1 (HS1.out.below hG) HM.out.2.1 (by have := HM.out; omega))
      clear hout p0
      go_step
      refine HS.out.mono ?_
      rintro e w3 ⟨g, rfl, hR, hr, hB⟩
      exact hK _ _ ⟨g, _, rfl, Nat.le_trans hG.size hr, Nat.le_refl _, hR⟩ (hG.trans (hB.mono hG.size)) hB
    · intro k a w' hG hout hpre K hK
      have q1 := ev_of ((hout 1 rfl).trans (show _ = .slice ba M bc from rfl))
      clear hout hpre
      go_step
      exact hK _ _ rfl hG (Below.refl _ _)
    · intro k a w' hG hout hpre K hK
      obtain ⟨p0, _⟩ := hpre
      have q35 := ev_of (show a.eval (.tmp 35) = .slice ba M bc from p0)
      have hcs : (convert 29 9 (.slice ba M bc)).run Tryd.prog w' = .ok (Sv m) w' := by
        have h := run_conv_str w' ba bc m (HS1.out.below hG)
        rwa [← HM.out.1] at h
      clear hout p0
      go_step
      exact hK _ _ rfl hG (Below.refl _ _)
    · intro k a w' hG hout hpre K hK
      obtain ⟨p0, _⟩ := hpre
      have q36 := ev_of (show a.eval (.tmp 36) = Sv m from p0)
      have hbuilt : Tryd.prog.built 48 [(0, Sv m)] = some #[Sv m, .int .i64 0] := by kernel_rfl
      clear hout p0
      go_step
      exact hK _ _ rfl hG (Below.refl _ _)
    · intro k a w' hG hout hpre K hK
      obtain ⟨p0, _⟩ := hpre
      have q37 := ev_of (show a.eval (.tmp 37) = .agg #[Sv m, .int .i64 0] from p0)
      clear hout p0
      go_step
      exact hK _ _ ⟨w'.heap.size, rfl, hG.size, heap_alloc_new w' _⟩ (hG.alloc hG.size _) ((Below.refl _ w').alloc (Nat.le_refl _) _)
    · intro k a w' hG hout hpre K hK
      obtain ⟨p0, _⟩ := hpre
      clear hout
      unfold Oper.wp
      exact hK _ _ p0 hG (Below.refl _ _)
    · intro k a w' hG hout hpre K hK
      obtain ⟨p0, _⟩ := hpre
      clear hout
      unfold Oper.wp
      exact hK _ _ p0 hG (Below.refl _ _)
  · intro vs w2 hG hlen hV
    match vs, hlen, hV with
    | [v0, v1, v2, v3, v4, v5, v6, v7], _, hV =>
      obtain ⟨rb, base, rfl, hrb, hbs, hR⟩ : ∃ g base, v6 = .pointer (some ⟨g, 0, none⟩) ∧ w5.heap.size ≤ g ∧ base ≤ w2.heap.size ∧ RdAt base w2 g ⟨m, 0⟩ := hV 6 9 v6 rfl rfl
      obtain ⟨xb, rfl, hxb, hX⟩ : ∃ g, v7 = .pointer (some ⟨g, 0, none⟩) ∧ w5.heap.size ≤ g ∧ TapeAt w2 g ⟨m, 0⟩ := hV 7 10 v7 rfl rfl
      obtain ⟨w6, rfl⟩ : ∃ x, x = w2 := ⟨w2, rfl⟩
      have H6 := Lib.hid (And.intro hR (And.intro hX (And.intro hrb (And.intro hxb (And.intro hbs hG)))))
      clear hV hG hR hX hrb hxb hbs
      simp only [putsL, List.tail_cons, List.headD_cons]
      simp only [Act.put, List.setIfInBounds_toArray, List.set_cons_succ, List.set_cons_zero]
      obtain ⟨VA, hVA⟩ : ∃ V, V = Value.agg (TapeL.mk m 0).item.1.cells := ⟨_, rfl⟩
      obtain ⟨tq, htq⟩ : ∃ t, t = (TapeL.mk m 0).item.2 := ⟨_, rfl⟩
      have HV : Hid ((∀ w, (binOp .eql 23 VA VA).run Tryd.prog w = .ok (.bool true) w) ∧ ∀ w op o1 o2, (eqGuard op 23 o1 o2 VA VA).run Tryd.prog w = .ok () w) := by
        refine Lib.hid ⟨?_, ?_⟩
        · intro w; rw [hVA, run_eql_item, (sameI_iff _ _).2 rfl]
        · intro w op o1 o2; rw [hVA]; exact run_guard_item w op o1 o2 _ _
      have HG1 : Hid (Calls Tryd.prog 22 #[.pointer (some ⟨rb, 0, none⟩)] w6 (RdEnd base w6 rb tq VA)) := by
        rw [hVA, htq]
        exact Lib.hid (eget_any w6 base rb ⟨m, 0⟩ H6.out.1 H6.out.2.2.2.2.1)
      have HG2 : Hid (∀ w', TapeAt w' xb ⟨m, 0⟩ → Calls Tryd.prog 23 #[.pointer (some ⟨xb, 0, none⟩)] w' (TapeEnd w' xb tq VA)) := by
        rw [hVA, htq]
        exact Lib.hid (fun w' h => erGet_any w' xb ⟨m, 0⟩ h)
      clear hVA htq
      go_wp2_with (fail)
      refine HG1.out.mono ?_
      rintro e w7 ⟨rfl, h1, h2⟩
      have H7 : Hid (RdAt base w7 rb tq ∧ TapeAt w7 xb ⟨m, 0⟩ ∧ Below w5.heap.size w5 w7) := by
        obtain ⟨k1, k2, k3, k4, k5, k6⟩ := H6.out
        exact Lib.hid ⟨h1, TapeAt.aside k1 k2 h2, k6.trans ⟨h2.os, h2.tape, h2.output, h2.size, fun j hj => h2.block j (by have := k6.size; omega) (by simp; omega)⟩⟩
      clear h1 h2
      dsimp only
      go_wp2_with (fail)
      refine (HG2.out w7 H7.out.2.1).mono ?_
      rintro e w8 ⟨rfl, h1, h2⟩
      have H8 : Hid (RdAt base w8 rb tq ∧ TapeAt w8 xb tq ∧ Below w5.heap.size w5 w8) := by
        obtain ⟨k1, k2, k3⟩ := H7.out
        have hx := H6.out.2.2.2.1
        exact Lib.hid ⟨RdAt.aside k1 k2 h2, h1, k3.trans ⟨h2.os, h2.tape, h2.output, h2.size, fun j hj => h2.block j (by have := k3.size; omega) (by simp; omega)⟩⟩
      clear h1 h2
      have he := HV.out.1
      have hgd := HV.out.2
      obtain ⟨d, hd⟩ : ∃ d, d = tq.done := ⟨_, rfl⟩
      have HE1 := Lib.hid (rend_any w8 base rb tq H8.out.1)
      have HE2 := Lib.hid (rtEnd_any w8 xb tq H8.out.2.1)
      rw [← hd] at HE1 HE2
      clear hd
      dsimp only
      go_wp2_with (fail)
      refine HE1.out.mono ?_
      rintro e we ⟨rfl, hwe⟩
      subst we
      dsimp only
      go_wp2_with (fail)
      refine HE2.out.mono ?_
      rintro e we ⟨rfl, hwe⟩
      subst we
      have hdd : (d == d) = true := by simp
      dsimp only
      go_upto_region 9 with (fail)
      clear he hgd hdd
      obtain ⟨w9, hw9⟩ : ∃ x, x = w8 := ⟨w8, rfl⟩
      rw [← hw9] at H8
      rw [← hw9]
      clear hw9
      have HW9 : Hid (Below w.heap.size w w9) := Lib.hid (HW5.out.trans (H8.out.2.2.mono HW5.out.size))
      have HG9 : Hid (Below w9.heap.size w9 w9.drew) := (Below.refl _ w9).drew
      have HBy : Hid (∀ w', Below w9.heap.size w9 w' → Calls Tryd.prog 26 #[.slice la L lc] w' (BytesEnd w' (listL l))) := by
        rw [HP.out.2.2.1]
        exact Lib.hid (fun w' h => ebytes_any w' la lc l (HP.out.1.below (HW9.out.trans (h.mono HW9.out.size))) (fun x hx => Nat.le_trans (HK3.out x hx) (by decide)) (by have := HP.out.2.2.1; have := HL3.out; omega))
      have HLi : Hid (∀ w', Below w9.heap.size w9 w' → Calls Tryd.prog 27 #[.slice la L lc] w' (Below0 w' (Sv T))) := by
        rw [HP.out.2.2.1, HTe.out]
        exact Lib.hid (fun w' h => erList_any w' la lc l (HP.out.1.below (HW9.out.trans (h.mono HW9.out.size))) (fun x hx => Nat.le_trans (HK3.out x hx) (by decide)) (by have := HP.out.2.2.1; have := HL3.out; omega))
      have HTT : Hid (∀ w, (binOp .eql 9 (Sv T) (Sv T)).run Tryd.prog w = .ok (.bool true) w) := Lib.hid (fun w => by
        have h := run_eql_Sv w T T
        rwa [decide_eq_true rfl] at h)
      have HSm : Hid (∀ w', Below w9.heap.size w9 w' → Calls Tryd.prog 28 #[.slice a5 Kn c5, .slice a7 Kn c7] w' (Below0 w' (.bool true))) := by
        refine Lib.hid (fun w' h => ?_)
        have hB : Below w5.heap.size w5 w' := H8.out.2.2.trans (h.mono H8.out.2.2.size)
        have hs := esame_any w' a5 a7 c5 c7 (readT m).1 (readT m).1 (HI5.out.1.below hB) (HI5.out.2.1.below hB) HI5.out.2.2.2
        rw [← HI5.out.2.2.1, decide_eq_true rfl] at hs
        exact hs
      refine wp_region_seq_frame (by kernel_rfl) [none, none, none, none, none, none, none, none, none, none, none, none, none, none, none, none, none, none, none, none] [] (vOfT [stE (.slice la L lc), stSl5 (listL l), stE (Sv T), stE (.slice la L lc), stE (Sv T), stE (.bool true), stE (.bool true), stE (.slice a5 Kn c5), stE (.slice a7 Kn c7), stE (.bool true), stE (.bool true), stE (.bool true), stE (.int .i64 q), stE (.int .i64 q), stE (.bool true), stE (.bool true), stE (.bool true), stE (.bool true), stE (.bool true), stE (.bool true)]) (fun _ w' => Below w9.heap.size w9 w') (fun w w' => Below w.heap.size w w') (vOfT_st _) (by kernel_rfl) (by kernel_rfl) (by kernel_rfl) HG9.out ⟨trivial, trivial, trivial, trivial, trivial, trivial, trivial, fun _ _ h => h, fun _ _ h => h, fun _ _ h => h, trivial, trivial, fun _ _ h => h, fun _ _ h => h, fun _ _ h => h, trivial, trivial, fun _ _ h => h, trivial, trivial, trivial⟩ ?_ ?_
      · refine ⟨?_, ?_, ?_, ?_, ?_, ?_, ?_, ?_, ?_, ?_, ?_, ?_, ?_, ?_, ?_, ?_, ?_, ?_, ?_, ?_, trivial⟩
        · intro k a w' hG hout hpre K hK
          have q0 := ev_of ((hout 0 rfl).trans (show _ = .slice la L lc from rfl))
          clear hout hpre
          go_step
          exact hK _ _ rfl hG (Below.refl _ _)
        · intro k a w' hG hout hpre K hK
          obtain ⟨p0, _⟩ := hpre
          have q51 := ev_of (show a.eval (.tmp 51) = .slice la L lc from p0)
          have HS := Lib.hid (HBy.out w' hG)
          clear hout p0
          go_step
          refine HS.out.mono ?_
          rintro e w3 ⟨sa, sc, rfl, k1, k2, k3, k4, k5⟩
          exact hK _ _ ⟨sa, sc, rfl, k4.srcP⟩ (hG.trans (k5.mono hG.size)) k5
        · intro k a w' hG hout hpre K hK
          obtain ⟨p0, _⟩ := hpre
          obtain ⟨sa, sc, hv, hs⟩ := (show ∃ sa sc, a.eval (.tmp 52) = .slice sa (listL l).length sc ∧ SrcP w' sa (listL l).length (listL l) from p0)
          have q52 := ev_of hv
          have hcs : (convert 29 9 (.slice sa (listL l).length sc)).run Tryd.prog w' = .ok (Sv T) w' := by
            rw [HTe.out]
            exact run_conv_str w' sa sc (listL l) hs
          clear hout p0 hv hs
          go_step
          exact hK _ _ rfl hG (Below.refl _ _)
        · intro k a w' hG hout hpre K hK
          have q0 := ev_of ((hout 0 rfl).trans (show _ = .slice la L lc from rfl))
          clear hout hpre
          go_step
          exact hK _ _ rfl hG (Below.refl _ _)
        · intro k a w' hG hout hpre K hK
          obtain ⟨p0, _⟩ := hpre
          have q54 := ev_of (show a.eval (.tmp 54) = .slice la L lc from p0)
          have HS := Lib.hid (HLi.out w' hG)
          clear hout p0
          go_step
          refine HS.out.mono ?_
          rintro e w3 ⟨rfl, hB⟩
          exact hK _ _ rfl (hG.trans (hB.mono hG.size)) hB
        · intro k a w' hG hout hpre K hK
          obtain ⟨p0, p1, _⟩ := hpre
          have q53 := ev_of (show a.eval (.tmp 53) = Sv T from p0)
          have q55 := ev_of (show a.eval (.tmp 55) = Sv T from p1)
          have he := HTT.out
          clear hout p0 p1
          go_step
          exact hK _ _ rfl hG (Below.refl _ _)
        · intro k a w' hG hout hpre K hK
          obtain ⟨p0, _⟩ := hpre
          have q56 := ev_of (show a.eval (.tmp 56) = .bool true from p0)
          clear hout p0
          go_step
          exact hK _ _ rfl hG (Below.refl _ _)
        · intro k a w' hG hout hpre K hK
          have q5 := ev_of ((hout 5 rfl).trans (show _ = .slice a5 Kn c5 from rfl))
          clear hout hpre
          go_step
          exact hK _ _ rfl hG (Below.refl _ _)
        · intro k a w' hG hout hpre K hK
          have q7 := ev_of ((hout 7 rfl).trans (show _ = .slice a7 Kn c7 from rfl))
          clear hout hpre
          go_step
          exact hK _ _ rfl hG (Below.refl _ _)
        · intro k a w' hG hout hpre K hK
          obtain ⟨p0, p1, _⟩ := hpre
          have q58 := ev_of (show a.eval (.tmp 58) = .slice a5 Kn c5 from p0)
          have q59 := ev_of (show a.eval (.tmp 59) = .slice a7 Kn c7 from p1)
          have HS := Lib.hid (HSm.out w' hG)
          clear hout p0 p1
          go_step
          refine HS.out.mono ?_
          rintro e w3 ⟨rfl, hB⟩
          exact hK _ _ rfl (hG.trans (hB.mono hG.size)) hB
        · intro k a w' hG hout hpre K hK
          obtain ⟨p0, p1, _⟩ := hpre
          have q57 := ev_of (show a.eval (.tmp 57) = .bool true from p0)
          have q60 := ev_of (show a.eval (.tmp 60) = .bool true from p1)
          clear hout p0 p1
          go_step
          exact hK _ _ rfl hG (Below.refl _ _)
        · intro k a w' hG hout hpre K hK
          obtain ⟨p0, _⟩ := hpre
          have q61 := ev_of (show a.eval (.tmp 61) = .bool true from p0)
          clear hout p0
          go_step
          exact hK _ _ rfl hG (Below.refl _ _)
        · intro k a w' hG hout hpre K hK
          have q6 := ev_of ((hout 6 rfl).trans (show _ = .int .i64 q from rfl))
          clear hout hpre
          go_step
          exact hK _ _ rfl hG (Below.refl _ _)
        · intro k a w' hG hout hpre K hK
          have q8 := ev_of ((hout 8 rfl).trans (show _ = .int .i64 q from rfl))
          clear hout hpre
          go_step
          exact hK _ _ rfl hG (Below.refl _ _)
        · intro k a w' hG hout hpre K hK
          obtain ⟨p0, p1, _⟩ := hpre
          have q63 := ev_of (show a.eval (.tmp 63) = .int .i64 q from p0)
          have q64 := ev_of (show a.eval (.tmp 64) = .int .i64 q from p1)
          have he : (q == q) = true := by simp
          clear hout p0 p1
          go_step
          exact hK _ _ rfl hG (Below.refl _ _)
        · intro k a w' hG hout hpre K hK
          obtain ⟨p0, p1, _⟩ := hpre
          have q62 := ev_of (show a.eval (.tmp 62) = .bool true from p0)
          have q65 := ev_of (show a.eval (.tmp 65) = .bool true from p1)
          clear hout p0 p1
          go_step
          exact hK _ _ rfl hG (Below.refl _ _)
        · intro k a w' hG hout hpre K hK
          obtain ⟨p0, _⟩ := hpre
          have q66 := ev_of (show a.eval (.tmp 66) = .bool true from p0)
          clear hout p0
          go_step
          exact hK _ _ rfl hG (Below.refl _ _)
        · intro k a w' hG hout hpre K hK
          have q11 := ev_of ((hout 11 rfl).trans (show _ = .bool true from rfl))
          clear hout hpre
          go_step
          exact hK _ _ rfl hG (Below.refl _ _)
        · intro k a w' hG hout hpre K hK
          obtain ⟨p0, p1, _⟩ := hpre
          have q67 := ev_of (show a.eval (.tmp 67) = .bool true from p0)
          have q68 := ev_of (show a.eval (.tmp 68) = .bool true from p1)
          clear hout p0 p1
          go_step
          exact hK _ _ rfl hG (Below.refl _ _)
        · intro k a w' hG hout hpre K hK
          obtain ⟨p0, _⟩ := hpre
          have q69 := ev_of (show a.eval (.tmp 69) = .bool true from p0)
          clear hout p0
          go_step
          exact hK _ _ rfl hG (Below.refl _ _)
      · intro vs w2 hG hlen hV
        match vs, hlen, hV with
        | [v0, v1, v2, v3, v4, v5, v6, v7, v8, v9, v10, v11, v12, v13, v14, v15, v16, v17, v18, v19], _, hV =>
          obtain rfl : v19 = .bool true := hV 19 4 v19 rfl rfl
          clear hV
          simp only [putsL, List.tail_cons, List.headD_cons]
          simp only [Act.put, List.setIfInBounds_toArray, List.set_cons_succ, List.set_cons_zero]
          have HZ : Hid (Below w.heap.size w w2) := HW9.out.trans (hG.mono HW9.out.size)
          clear hG
          go_wp2_with (fail)
          go_ret
          exact ⟨rfl, HZ.out⟩
end Go.Proofs.YtmjanplhgpcbeaaDoor
