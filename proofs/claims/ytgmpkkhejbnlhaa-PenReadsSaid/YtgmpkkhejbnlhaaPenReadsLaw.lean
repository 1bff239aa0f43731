/-
  The contract of the statement PenReads.
-/
import Derived.Test.YtgmpkkhejbnlhaaReadTwo
import Derived.Deep.CutBlock
namespace Go.Proofs.Ytgmpkkhejbnlhaa
open Go Go.RowKit

def PRRel (B0 rb xb base : Nat) (W1 : World) (L : Nat) (i : Value) (wr : World) : Prop :=
  ∃ (t : Nat) (tp : TapeL), t ≤ L ∧ i = .int .i64 (t : Int) ∧ RdAt base wr rb tp ∧ TapeAt wr xb tp ∧ Below B0 W1 wr
def PRCut (B0 rb xb base : Nat) (W1 : World) (good : Value) (wx : World) : Prop :=
  ∃ tq : TapeL, good = .bool true ∧ RdAt base wx rb tq ∧ TapeAt wx xb tq ∧ Below B0 W1 wx
set_option maxRecDepth 100000 in
set_option maxHeartbeats 4000000 in
theorem penReads_any (w : World) (ba la : Option Addr) (bc lc : Nat) (m : List (BitVec 8)) (l : List OpR) (hsrc : SrcP w ba m.length m) (hbn : ba = none → bc = 0) (hbc : m.length ≤ bc ∧ bc ≤ 9223372036854775807) (hO : OpsR w la l) (hok : ∀ x ∈ l, x.ok w) (hl : l.length ≤ 9223372036854775807) :
    Calls Try.prog 4 #[.slice ba m.length bc, .slice la l.length lc] w (Below0 w (.bool true)) := by
  obtain ⟨L, hL⟩ : ∃ L, L = l.length := ⟨_, rfl⟩
  obtain ⟨M, hM⟩ : ∃ M, M = m.length := ⟨_, rfl⟩
  rw [← hL] at hl ⊢
  rw [← hM] at hbc ⊢
  have HP := Lib.hid (And.intro hO (And.intro hok (And.intro hL (And.intro hM (And.intro hsrc (And.intro hbn hbc))))))
  have hM63 : M ≤ 9223372036854775807 := by omega
  clear hO hok hL hM hsrc hbn hbc
  go_enter Try.func4, Try.ntmps4
  go_wp2_with (fail)
  refine (pfirst_any w).mono ?_
  rintro e w1 ⟨rfl, hB1⟩
  have HB1 := Lib.hid hB1
  clear hB1
  dsimp only
  by_cases h3000 : 3000 < M
  · have h3000' : (3000 : Int) < (M : Int) := by omega
    clear h3000
    go_wp2_with (fail)
    go_ret
    exact ⟨rfl, HB1.out⟩
  have h3000' : ¬ (3000 : Int) < (M : Int) := by omega
  by_cases h60 : 60 < L
  · have h60' : (60 : Int) < (L : Int) := by omega
    clear h60 h3000
    go_wp2_with (fail)
    go_ret
    exact ⟨rfl, HB1.out⟩
  have h60' : ¬ (60 : Int) < (L : Int) := by omega
  have HLM : Hid (M ≤ 3000 ∧ L ≤ 60) := ⟨by omega, by omega⟩
  clear h60 h3000 hM63
  go_upto_region 5 with (fail)
  refine wp_region_local_frame (by kernel_rfl) (vOfT [stE (.slice ba M bc), stRd w1.heap.size m, stE (.slice ba M bc), stE (Sv m), stE (.agg #[Sv m, .int .i64 0]), stTp w1.heap.size m, stRd w1.heap.size m, stTp w1.heap.size m]) (fun w' => Below w1.heap.size w1 w') (fun w w' => Below w.heap.size w w') (vOfT_st _) (by kernel_rfl) ⟨rfl, rfl, rfl, Nat.le_refl _, fun _ _ => rfl⟩ ⟨trivial, trivial, trivial, trivial, trivial, trivial, trivial, trivial, trivial⟩ ?_ ?_
  · have HS1 : Hid (SrcP w1 ba m.length m) := HP.out.2.2.2.2.1.below HB1.out
    refine ⟨?_, ?_, ?_, ?_, ?_, ?_, ?_, ?_, trivial⟩
    · intro a w' hG hout hpre K hK
      have q0 := ev_of ((hout 0 rfl).trans (show _ = .slice ba M bc from rfl))
      clear hout hpre
      go_step
      exact hK _ _ rfl hG (Below.refl _ _)
    · intro a w' hG hout hpre K hK
      obtain ⟨p0, _⟩ := hpre
      have q := ev_of (show a.eval (.tmp 21) = .slice ba M bc from p0)
      have HS := Lib.hid (rread_any w' ba bc M m HP.out.2.2.2.1 (HS1.out.below hG) HP.out.2.2.2.2.2.1 (by have := HP.out.2.2.2.1; have := HLM.out; omega))
      clear hout p0
      go_step
      refine HS.out.mono ?_
      rintro e w3 ⟨g, rfl, hR, hr, hB⟩
      exact hK _ _ ⟨g, _, rfl, Nat.le_trans hG.size hr, hR⟩ (hG.trans (hB.mono hG.size)) hB
    · intro a w' hG hout hpre K hK
      have q0 := ev_of ((hout 0 rfl).trans (show _ = .slice ba M bc from rfl))
      clear hout hpre
      go_step
      exact hK _ _ rfl hG (Below.refl _ _)
    · intro a w' hG hout hpre K hK
      obtain ⟨p0, _⟩ := hpre
      have q := ev_of (show a.eval (.tmp 23) = .slice ba M bc from p0)
      have hcs : (convert 25 9 (.slice ba M bc)).run Try.prog w' = .ok (Sv m) w' := by
        have := run_conv_str w' ba bc m (HS1.out.below hG)
        rwa [← HP.out.2.2.2.1] at this
      clear hout p0
      go_step
      exact hK _ _ rfl hG (Below.refl _ _)
    · intro a w' hG hout hpre K hK
      obtain ⟨p0, _⟩ := hpre
      have q := ev_of (show a.eval (.tmp 24) = Sv m from p0)
      clear hout p0
      go_step
      exact hK _ _ rfl hG (Below.refl _ _)
    · intro a w' hG hout hpre K hK
      obtain ⟨p0, _⟩ := hpre
      have q := ev_of (show a.eval (.tmp 25) = .agg #[Sv m, .int .i64 0] from p0)
      clear hout p0
      go_step
      exact hK _ _ ⟨w'.heap.size, rfl, hG.size, heap_alloc_new w' _⟩ (hG.alloc hG.size _) ((Below.refl _ w').alloc (Nat.le_refl _) _)
    · intro a w' hG hout hpre K hK
      obtain ⟨p0, _⟩ := hpre
      clear hout
      unfold Oper.wp
      exact hK _ _ p0 hG (Below.refl _ _)
    · intro a w' hG hout hpre K hK
      obtain ⟨p0, _⟩ := hpre
      clear hout
      unfold Oper.wp
      exact hK _ _ p0 hG (Below.refl _ _)
  · intro vs w2 hG hlen hV
    match vs, hlen, hV with
    | [v0, v1, v2, v3, v4, v5, v6, v7], _, hV =>
      obtain ⟨rb, base, rfl, hrb, hR⟩ : ∃ g base, v6 = .pointer (some ⟨g, 0, none⟩) ∧ w1.heap.size ≤ g ∧ RdAt base w2 g ⟨m, 0⟩ := hV 6 5 v6 rfl rfl
      obtain ⟨xb, rfl, hxb, hX⟩ : ∃ g, v7 = .pointer (some ⟨g, 0, none⟩) ∧ w1.heap.size ≤ g ∧ TapeAt w2 g ⟨m, 0⟩ := hV 7 6 v7 rfl rfl
      obtain ⟨B0, hB0⟩ : ∃ B, B = w1.heap.size := ⟨_, rfl⟩
      rw [← hB0] at hrb hxb hG
      have H2 := Lib.hid (And.intro hR (And.intro hX (And.intro hrb (And.intro hxb (And.intro hG hB0)))))
      clear hV hG hR hX hrb hxb hB0
      simp only [putsL, List.tail_cons, List.headD_cons]
      simp only [Act.put, List.setIfInBounds_toArray, List.set_cons_succ, List.set_cons_zero]
      go_wp2_with (fail)
      go_loopw [29] (PRRel B0 rb xb base w1 L) (fun i _ => L - (intOf i).toNat)
      case atStart => exact ⟨0, ⟨m, 0⟩, by omega, rfl, H2.out.1, H2.out.2.1, H2.out.2.2.2.2.1⟩
      case round =>
        obtain ⟨t, tp, ht, rfl, hR, hX, hB⟩ := hrel
        have HL := Lib.hid (And.intro hR (And.intro hX hB))
        clear hR hX hB
        by_cases hlt : t < L
        · have hi0 : (0 : Int) ≤ (t : Int) ∧ (t : Int) < (L : Int) := by omega
          obtain ⟨x, hx⟩ : ∃ x, l[t]? = some x := ⟨l[t]'(by have := HP.out.2.2.1; omega), List.getElem?_eq_getElem _⟩
          have hxm : x ∈ l := List.mem_of_getElem? hx
          have hBw : Below w.heap.size w wr := HB1.out.trans (HL.out.2.2.mono (by have := H2.out.2.2.2.2.2; have := HB1.out.size; omega))
          have hxo := (HP.out.2.1 x hxm).below hBw
          rcases HP.out.1.below hBw with hnil | ⟨pb, po, rfl, hcells⟩
          · rw [hnil] at hx
            cases hx
          obtain ⟨d0, d1, d2⟩ := hcells t x hx
          obtain ⟨κ, hκ⟩ : ∃ κ, κ = x.kind := ⟨_, rfl⟩
          obtain ⟨N, hN⟩ : ∃ N, N = x.n := ⟨_, rfl⟩
          obtain ⟨pv, hpv⟩ : ∃ N, N = x.part.val := ⟨_, rfl⟩
          obtain ⟨pa, pn, pc, hpe⟩ : ∃ pa pn pc, pv = .slice pa pn pc := ⟨_, _, _, hpv⟩
          rw [← hκ] at d0
          rw [← hN] at d1
          rw [← hpv, hpe] at d2
          have hlast : Hid (t < L ∧ Below w.heap.size w wr) := ⟨hlt, hBw⟩
          clear hx hxm hBw hxo hcells hκ hN hpv hpe
          go_upto_region 9 with (fail)
          obtain ⟨wo, hwo⟩ : ∃ wo, wo = wr.alloc (.cells #[.int .i64 κ, .int .i64 N, .slice pa pn pc] 29) := ⟨_, rfl⟩
          rw [← hwo]
          obtain ⟨ob, hob⟩ : ∃ ob, ob = wr.heap.size := ⟨_, rfl⟩
          rw [← hob]
          have hobl : wo.heap[ob]? = some (.cells #[.int .i64 κ, .int .i64 N, .slice pa pn pc] 29 (0, 0)) := by rw [hwo, hob]; exact heap_alloc_new wr _
          have co0 : wo.cell? ⟨ob, 0, none⟩ = some (.int .i64 κ) := by rw [cell_of_row _ _ 0 _ _ _ hobl]; rfl
          have co1 : wo.cell? ⟨ob, 1, none⟩ = some (.int .i64 N) := by rw [cell_of_row _ _ 1 _ _ _ hobl]; rfl
          have hBo : Below wr.heap.size wr wo := by rw [hwo]; exact (Below.refl _ wr).alloc (Nat.le_refl _) _
          have hrl := HL.out.1.lt
          have hxl : xb < wr.heap.size := (Array.getElem?_eq_some_iff.1 HL.out.2.1).1
          have hB0l : B0 ≤ wr.heap.size := by have := H2.out; omega
          have HO : Hid (ob ≠ rb ∧ ob ≠ xb ∧ wo.heap[ob]? = some (.cells #[.int .i64 κ, .int .i64 N, .slice pa pn pc] 29 (0, 0))) := ⟨by omega, by omega, hobl⟩
          have HRX : Hid (RdAt base wo rb tp ∧ TapeAt wo xb tp ∧ Below B0 w1 wo ∧ B0 ≤ wo.heap.size) := ⟨HL.out.1.below hBo, HL.out.2.1.below hBo, HL.out.2.2.trans (hBo.mono hB0l), by have := hBo.size; omega⟩
          clear hwo hob hobl hBo hrl hxl hB0l d0 d1 d2
          obtain ⟨u, hu⟩ : ∃ u : Nat, IntKind.u64.wrap κ = (u : Int) := ⟨(IntKind.u64.wrap κ).toNat, by
            have : 0 ≤ IntKind.u64.wrap κ := by
              rw [wrap_u64]
              omega
            omega⟩
          have hcv : ∀ w, (convert 3 30 (.int .i64 κ)).run Try.prog w = .ok (.int .u64 (u : Int)) w := fun w => by rw [run_conv_i64_u2, hu]
          clear hu
          obtain ⟨r, hr⟩ : ∃ r, r = u % 5 := ⟨_, rfl⟩
          have hr5 : r = 0 ∨ r = 1 ∨ r = 2 ∨ r = 3 ∨ r = 4 := by omega
          have r1 : (u : Int) % 5 = (r : Int) := by omega
          clear hr
          go_upto_block 2 with (fail)
          clear hcv
          go_cut [9] from 37 to 86 (fun s wx => PRCut B0 rb xb base w1 s wx)
          case first =>
            rcases hr5 with h | h | h | h | h
            · have e0 : ((r : Int) == 0) = true := by rw [h]; rfl
              clear h
              go_upto_region 15 with (fail)
              obtain ⟨tq, htq⟩ : ∃ x, x = (tp.number N).2 := ⟨_, rfl⟩
              obtain ⟨v, hv⟩ : ∃ x, x = (tp.number N).1 := ⟨_, rfl⟩
              have HRC : Hid (∀ w', RdAt base w' rb tp → Calls Try.prog 16 #[.pointer (some ⟨rb, 0, none⟩), .int .i64 N] w' (RdEnd base w' rb tq (.int .i64 v))) := fun w' h => by rw [htq, hv]; exact rnumber_any w' base rb tp N h
              have HXC : Hid (∀ w', TapeAt w' xb tp → Calls Try.prog 17 #[.pointer (some ⟨xb, 0, none⟩), .int .i64 N] w' (TapeEnd w' xb tq (.int .i64 v))) := fun w' h => by rw [htq, hv]; exact rtNumber_any w' xb tp N h
              clear htq hv
              have HG0 : Hid (RG rb xb base ob wo #[.int .i64 κ, .int .i64 N, .slice pa pn pc] tp tq 0 wo.drew) := ⟨HRX.out.1, HRX.out.2.1, KeptTwo.of_below (Below.refl _ wo).drew, HO.out.2.2⟩
              refine wp_region_seq_frame (by kernel_rfl) [none, none, none, some 0, none, none, none, some 1, none, none] [3, 7] (vOfT [stE (.pointer (some ⟨rb, 0, none⟩)), stE (.pointer (some ⟨ob, 1, none⟩)), stE (.int .i64 N), stE (.int .i64 v), stE (.pointer (some ⟨xb, 0, none⟩)), stE (.pointer (some ⟨ob, 1, none⟩)), stE (.int .i64 N), stE (.int .i64 v), stE (.bool true), stE (.bool true)]) (RG rb xb base ob wo #[.int .i64 κ, .int .i64 N, .slice pa pn pc] tp tq) (KeptTwo rb xb) (vOfT_st _) (by kernel_rfl) (by kernel_rfl) (by kernel_rfl) HG0.out ⟨trivial, trivial, trivial, trivial, trivial, trivial, trivial, trivial, trivial, trivial, trivial⟩ ?_ ?_
              · refine ⟨?_, ?_, ?_, ?_, ?_, ?_, ?_, ?_, ?_, ?_, trivial⟩
                · intro k a w' hG hout hpre K hK
                  have q5 := ev_of ((hout 5 rfl).trans (show _ = .pointer (some ⟨rb, 0, none⟩) from rfl))
                  clear hout hpre
                  go_step
                  exact hK _ _ rfl hG (KeptTwo.refl _ _ _)
                · intro k a w' hG hout hpre K hK
                  have q8 := ev_of ((hout 8 rfl).trans (show _ = .pointer (some ⟨ob, 0, none⟩) from rfl))
                  clear hout hpre
                  go_step
                  exact hK _ _ rfl hG (KeptTwo.refl _ _ _)
                · intro k a w' hG hout hpre K hK
                  obtain ⟨p0, _⟩ := hpre
                  have q48 := ev_of (show a.eval (.tmp 48) = .pointer (some ⟨ob, 1, none⟩) from p0)
                  have hc : w'.cell? ⟨ob, 1, none⟩ = some (.int .i64 N) := hG.cell 1
                  clear hout p0
                  go_step
                  exact hK _ _ rfl hG (KeptTwo.refl _ _ _)
                · intro a w' hG hout hpre K hK
                  obtain ⟨p0, p1, _⟩ := hpre
                  have q47 := ev_of (show a.eval (.tmp 47) = .pointer (some ⟨rb, 0, none⟩) from p0)
                  have q49 := ev_of (show a.eval (.tmp 49) = .int .i64 N from p1)
                  have HS := Lib.hid (HRC.out w' hG.1)
                  clear hout p0 p1
                  go_step
                  refine HS.out.mono ?_
                  rintro e w3 ⟨rfl, hR, hg⟩
                  exact hK _ _ rfl (hG.step1 hR hg HO.out.1) (KeptTwo.one hg)
                · intro k a w' hG hout hpre K hK
                  have q6 := ev_of ((hout 6 rfl).trans (show _ = .pointer (some ⟨xb, 0, none⟩) from rfl))
                  clear hout hpre
                  go_step
                  exact hK _ _ rfl hG (KeptTwo.refl _ _ _)
                · intro k a w' hG hout hpre K hK
                  have q8 := ev_of ((hout 8 rfl).trans (show _ = .pointer (some ⟨ob, 0, none⟩) from rfl))
                  clear hout hpre
                  go_step
                  exact hK _ _ rfl hG (KeptTwo.refl _ _ _)
                · intro k a w' hG hout hpre K hK
                  obtain ⟨p0, _⟩ := hpre
                  have q52 := ev_of (show a.eval (.tmp 52) = .pointer (some ⟨ob, 1, none⟩) from p0)
                  have hc : w'.cell? ⟨ob, 1, none⟩ = some (.int .i64 N) := hG.cell 1
                  clear hout p0
                  go_step
                  exact hK _ _ rfl hG (KeptTwo.refl _ _ _)
                · intro a w' hG hout hpre K hK
                  obtain ⟨p0, p1, _⟩ := hpre
                  have q51 := ev_of (show a.eval (.tmp 51) = .pointer (some ⟨xb, 0, none⟩) from p0)
                  have q53 := ev_of (show a.eval (.tmp 53) = .int .i64 N from p1)
                  have HS := Lib.hid (HXC.out w' hG.2.1)
                  clear hout p0 p1
                  go_step
                  refine HS.out.mono ?_
                  rintro e w3 ⟨rfl, hX, hg⟩
                  exact hK _ _ rfl (hG.step2 hX hg HO.out.2.1) (KeptTwo.two hg)
                · intro k a w' hG hout hpre K hK
                  obtain ⟨p0, p1, _⟩ := hpre
                  have q50 := ev_of (show a.eval (.tmp 50) = .int .i64 v from p0)
                  have q54 := ev_of (show a.eval (.tmp 54) = .int .i64 v from p1)
                  clear hout p0 p1
                  go_step
                  exact hK _ _ rfl hG (KeptTwo.refl _ _ _)
                · intro k a w' hG hout hpre K hK
                  obtain ⟨p0, _⟩ := hpre
                  have q55 := ev_of (show a.eval (.tmp 55) = .bool true from p0)
                  clear hout p0
                  go_step
                  exact hK _ _ rfl hG (KeptTwo.refl _ _ _)
              · intro vs w2 hG hlen hV
                match vs, hlen, hV with
                | [v0, v1, v2, v3, v4, v5, v6, v7, v8, v9], _, hV =>
                  obtain rfl : v9 = .bool true := hV 9 9 v9 rfl rfl
                  clear hV
                  simp only [putsL, List.tail_cons, List.headD_cons]
                  simp only [Act.put, List.setIfInBounds_toArray, List.set_cons_succ, List.set_cons_zero]
                  have HR : Hid (RdAt base w2 rb tq ∧ TapeAt w2 xb tq ∧ KeptTwo rb xb wo w2) := ⟨hG.1, hG.2.1, hG.2.2.1⟩
                  clear hG
                  go_wp2_with (fail)
                  go_meet
                  exact ⟨tq, rfl, HR.out.1, HR.out.2.1, HRX.out.2.2.1.trans (HR.out.2.2.below HRX.out.2.2.2 H2.out.2.2.1 H2.out.2.2.2.1)⟩
            · have e0 : ((r : Int) == 0) = false := by rw [h]; rfl
              have e1 : ((r : Int) == 1) = true := by rw [h]; rfl
              clear h
              obtain ⟨tq, htq⟩ : ∃ x, x = tp.signed.2 := ⟨_, rfl⟩
              obtain ⟨v, hv⟩ : ∃ x, x = tp.signed.1 := ⟨_, rfl⟩
              have HRC : Hid (∀ w', RdAt base w' rb tp → Calls Try.prog 18 #[.pointer (some ⟨rb, 0, none⟩)] w' (RdEnd base w' rb tq (.int .i64 v))) := fun w' h => by rw [htq, hv]; exact rsigned_any w' base rb tp h
              have HXC : Hid (∀ w', TapeAt w' xb tp → Calls Try.prog 19 #[.pointer (some ⟨xb, 0, none⟩)] w' (TapeEnd w' xb tq (.int .i64 v))) := fun w' h => by rw [htq, hv]; exact rtSigned_any w' xb tp h
              clear htq hv co0 co1
              go_wp2_with (fail)
              refine (HRC.out wo HRX.out.1).mono ?_
              rintro e w3 ⟨rfl, hR, hg⟩
              have H3 : Hid (RdAt base w3 rb tq ∧ TapeAt w3 xb tp ∧ wo.grownBy w3 (some rb)) := ⟨hR, TapeAt.aside HRX.out.1 HRX.out.2.1 hg, hg⟩
              clear hR hg
              dsimp only
              go_wp2_with (fail)
              refine (HXC.out w3 H3.out.2.1).mono ?_
              rintro e w4 ⟨rfl, hX, hg⟩
              have H4 : Hid (RdAt base w4 rb tq ∧ TapeAt w4 xb tq ∧ KeptTwo rb xb wo w4) := ⟨RdAt.aside H3.out.1 H3.out.2.1 hg, hX, (KeptTwo.one H3.out.2.2).trans (KeptTwo.two hg)⟩
              clear hX hg
              dsimp only
              go_wp2_with (fail)
              go_meet
              exact ⟨tq, by first | rfl | simp, H4.out.1, H4.out.2.1, HRX.out.2.2.1.trans (H4.out.2.2.below HRX.out.2.2.2 H2.out.2.2.1 H2.out.2.2.2.1)⟩
            · have e0 : ((r : Int) == 0) = false := by rw [h]; rfl
              have e1 : ((r : Int) == 1) = false := by rw [h]; rfl
              have e2 : ((r : Int) == 2) = true := by rw [h]; rfl
              clear h
              go_upto_region 19 with (fail)
              obtain ⟨tq, htq⟩ : ∃ x, x = (tp.text N).2 := ⟨_, rfl⟩
              obtain ⟨z, hz⟩ : ∃ x, x = (tp.text N).1 := ⟨_, rfl⟩
              have HRC : Hid (∀ w', RdAt base w' rb tp → Calls Try.prog 20 #[.pointer (some ⟨rb, 0, none⟩), .int .i64 N] w' (RdBytes base w' rb (z, tq))) := fun w' h => by rw [htq, hz]; exact rtext_any w' base rb tp N h
              have HXC : Hid (∀ w', TapeAt w' xb tp → Calls Try.prog 21 #[.pointer (some ⟨xb, 0, none⟩), .int .i64 N] w' (TapeEnd w' xb tq (Sv z))) := fun w' h => by rw [htq, hz]; exact rtText_any w' xb tp N h
              clear htq hz
              have HG0 : Hid (RG rb xb base ob wo #[.int .i64 κ, .int .i64 N, .slice pa pn pc] tp tq 0 wo.drew) := ⟨HRX.out.1, HRX.out.2.1, KeptTwo.of_below (Below.refl _ wo).drew, HO.out.2.2⟩
              refine wp_region_seq_frame (by kernel_rfl) [none, none, none, some 0, none, none, none, none, some 1, none, none] [3, 8] (vOfT [stE (.pointer (some ⟨rb, 0, none⟩)), stE (.pointer (some ⟨ob, 1, none⟩)), stE (.int .i64 N), stS rb xb z, stE (Sv z), stE (.pointer (some ⟨xb, 0, none⟩)), stE (.pointer (some ⟨ob, 1, none⟩)), stE (.int .i64 N), stE (Sv z), stE (.bool true), stE (.bool true)]) (RG rb xb base ob wo #[.int .i64 κ, .int .i64 N, .slice pa pn pc] tp tq) (KeptTwo rb xb) (vOfT_st _) (by kernel_rfl) (by kernel_rfl) (by kernel_rfl) HG0.out ⟨trivial, trivial, trivial, trivial, trivial, trivial, trivial, trivial, trivial, trivial, trivial, trivial⟩ ?_ ?_
              · refine ⟨?_, ?_, ?_, ?_, ?_, ?_, ?_, ?_, ?_, ?_, ?_, trivial⟩
                · intro k a w' hG hout hpre K hK
                  have q5 := ev_of ((hout 5 rfl).trans (show _ = .pointer (some ⟨rb, 0, none⟩) from rfl))
                  clear hout hpre
                  go_step
                  exact hK _ _ rfl hG (KeptTwo.refl _ _ _)
                · intro k a w' hG hout hpre K hK
                  have q8 := ev_of ((hout 8 rfl).trans (show _ = .pointer (some ⟨ob, 0, none⟩) from rfl))
                  clear hout hpre
                  go_step
                  exact hK _ _ rfl hG (KeptTwo.refl _ _ _)
                · intro k a w' hG hout hpre K hK
                  obtain ⟨p0, _⟩ := hpre
                  have q66 := ev_of (show a.eval (.tmp 66) = .pointer (some ⟨ob, 1, none⟩) from p0)
                  have hc : w'.cell? ⟨ob, 1, none⟩ = some (.int .i64 N) := hG.cell 1
                  clear hout p0
                  go_step
                  exact hK _ _ rfl hG (KeptTwo.refl _ _ _)
                · intro a w' hG hout hpre K hK
                  obtain ⟨p0, p1, _⟩ := hpre
                  have q65 := ev_of (show a.eval (.tmp 65) = .pointer (some ⟨rb, 0, none⟩) from p0)
                  have q67 := ev_of (show a.eval (.tmp 67) = .int .i64 N from p1)
                  have HS := Lib.hid (HRC.out w' hG.1)
                  clear hout p0 p1
                  go_step
                  refine HS.out.mono ?_
                  rintro e w3 ⟨sa, sc, rfl, hsn, hR, hg⟩
                  exact hK _ _ (hsn.srcT hG.1.lt (Array.getElem?_eq_some_iff.1 hG.2.1).1) (hG.step1 hR hg HO.out.1) (KeptTwo.one hg)
                · intro k a w' hG hout hpre K hK
                  obtain ⟨p0, _⟩ := hpre
                  obtain ⟨sa, sc, hv, hs⟩ : SrcT rb xb w' (a.eval (.tmp 68)) z := p0
                  have q := ev_of hv
                  have hcs := SrcT.str (p := rb) (q := xb) ⟨sa, sc, rfl, hs⟩
                  clear hout hs hv
                  go_step
                  exact hK _ _ rfl hG (KeptTwo.refl _ _ _)
                · intro k a w' hG hout hpre K hK
                  have q6 := ev_of ((hout 6 rfl).trans (show _ = .pointer (some ⟨xb, 0, none⟩) from rfl))
                  clear hout hpre
                  go_step
                  exact hK _ _ rfl hG (KeptTwo.refl _ _ _)
                · intro k a w' hG hout hpre K hK
                  have q8 := ev_of ((hout 8 rfl).trans (show _ = .pointer (some ⟨ob, 0, none⟩) from rfl))
                  clear hout hpre
                  go_step
                  exact hK _ _ rfl hG (KeptTwo.refl _ _ _)
                · intro k a w' hG hout hpre K hK
                  obtain ⟨p0, _⟩ := hpre
                  have q71 := ev_of (show a.eval (.tmp 71) = .pointer (some ⟨ob, 1, none⟩) from p0)
                  have hc : w'.cell? ⟨ob, 1, none⟩ = some (.int .i64 N) := hG.cell 1
                  clear hout p0
                  go_step
                  exact hK _ _ rfl hG (KeptTwo.refl _ _ _)
                · intro a w' hG hout hpre K hK
                  obtain ⟨p0, p1, _⟩ := hpre
                  have q70 := ev_of (show a.eval (.tmp 70) = .pointer (some ⟨xb, 0, none⟩) from p0)
                  have q72 := ev_of (show a.eval (.tmp 72) = .int .i64 N from p1)
                  have HS := Lib.hid (HXC.out w' hG.2.1)
                  clear hout p0 p1
                  go_step
                  refine HS.out.mono ?_
                  rintro e w3 ⟨rfl, hX, hg⟩
                  exact hK _ _ rfl (hG.step2 hX hg HO.out.2.1) (KeptTwo.two hg)
                · intro k a w' hG hout hpre K hK
                  obtain ⟨p0, p1, _⟩ := hpre
                  have q69 := ev_of (show a.eval (.tmp 69) = Sv z from p0)
                  have q73 := ev_of (show a.eval (.tmp 73) = Sv z from p1)
                  have heq : ∀ w, (binOp .eql 9 (Sv z) (Sv z)).run Try.prog w = .ok (.bool true) w := fun w => by have := run_eql_Sv w z z; rwa [decide_eq_true rfl] at this
                  clear hout p0 p1
                  go_step
                  exact hK _ _ rfl hG (KeptTwo.refl _ _ _)
                · intro k a w' hG hout hpre K hK
                  obtain ⟨p0, _⟩ := hpre
                  have q74 := ev_of (show a.eval (.tmp 74) = .bool true from p0)
                  clear hout p0
                  go_step
                  exact hK _ _ rfl hG (KeptTwo.refl _ _ _)
              · intro vs w2 hG hlen hV
                match vs, hlen, hV with
                | [v0, v1, v2, v3, v4, v5, v6, v7, v8, v9, v10], _, hV =>
                  obtain rfl : v10 = .bool true := hV 10 9 v10 rfl rfl
                  clear hV
                  simp only [putsL, List.tail_cons, List.headD_cons]
                  simp only [Act.put, List.setIfInBounds_toArray, List.set_cons_succ, List.set_cons_zero]
                  have HR : Hid (RdAt base w2 rb tq ∧ TapeAt w2 xb tq ∧ KeptTwo rb xb wo w2) := ⟨hG.1, hG.2.1, hG.2.2.1⟩
                  clear hG
                  go_wp2_with (fail)
                  go_meet
                  exact ⟨tq, rfl, HR.out.1, HR.out.2.1, HRX.out.2.2.1.trans (HR.out.2.2.below HRX.out.2.2.2 H2.out.2.2.1 H2.out.2.2.2.1)⟩
            · have e0 : ((r : Int) == 0) = false := by rw [h]; rfl
              have e1 : ((r : Int) == 1) = false := by rw [h]; rfl
              have e2 : ((r : Int) == 2) = false := by rw [h]; rfl
              have e3 : ((r : Int) == 3) = true := by rw [h]; rfl
              clear h
              go_upto_region 21 with (fail)
              obtain ⟨tq, htq⟩ : ∃ x, x = (tp.fixed N).2 := ⟨_, rfl⟩
              obtain ⟨z, hz⟩ : ∃ x, x = (tp.fixed N).1 := ⟨_, rfl⟩
              have HRC : Hid (∀ w', RdAt base w' rb tp → Calls Try.prog 22 #[.pointer (some ⟨rb, 0, none⟩), .int .i64 N] w' (RdBytes base w' rb (z, tq))) := fun w' h => by rw [htq, hz]; exact rfixed_any w' base rb tp N h
              have HXC : Hid (∀ w', TapeAt w' xb tp → Calls Try.prog 23 #[.pointer (some ⟨xb, 0, none⟩), .int .i64 N] w' (TapeEnd w' xb tq (Sv z))) := fun w' h => by rw [htq, hz]; exact rtFixed_any w' xb tp N h
              clear htq hz
              have HG0 : Hid (RG rb xb base ob wo #[.int .i64 κ, .int .i64 N, .slice pa pn pc] tp tq 0 wo.drew) := ⟨HRX.out.1, HRX.out.2.1, KeptTwo.of_below (Below.refl _ wo).drew, HO.out.2.2⟩
              refine wp_region_seq_frame (by kernel_rfl) [none, none, none, some 0, none, none, none, none, some 1, none, none] [3, 8] (vOfT [stE (.pointer (some ⟨rb, 0, none⟩)), stE (.pointer (some ⟨ob, 1, none⟩)), stE (.int .i64 N), stS rb xb z, stE (Sv z), stE (.pointer (some ⟨xb, 0, none⟩)), stE (.pointer (some ⟨ob, 1, none⟩)), stE (.int .i64 N), stE (Sv z), stE (.bool true), stE (.bool true)]) (RG rb xb base ob wo #[.int .i64 κ, .int .i64 N, .slice pa pn pc] tp tq) (KeptTwo rb xb) (vOfT_st _) (by kernel_rfl) (by kernel_rfl) (by kernel_rfl) HG0.out ⟨trivial, trivial, trivial, trivial, trivial, trivial, trivial, trivial, trivial, trivial, trivial, trivial⟩ ?_ ?_
              · refine ⟨?_, ?_, ?_, ?_, ?_, ?_, ?_, ?_, ?_, ?_, ?_, trivial⟩
                · intro k a w' hG hout hpre K hK
                  have q5 := ev_of ((hout 5 rfl).trans (show _ = .pointer (some ⟨rb, 0, none⟩) from rfl))
                  clear hout hpre
                  go_step
                  exact hK _ _ rfl hG (KeptTwo.refl _ _ _)
                · intro k a w' hG hout hpre K hK
                  have q8 := ev_of ((hout 8 rfl).trans (show _ = .pointer (some ⟨ob, 0, none⟩) from rfl))
                  clear hout hpre
                  go_step
                  exact hK _ _ rfl hG (KeptTwo.refl _ _ _)
                · intro k a w' hG hout hpre K hK
                  obtain ⟨p0, _⟩ := hpre
                  have q78 := ev_of (show a.eval (.tmp 78) = .pointer (some ⟨ob, 1, none⟩) from p0)
                  have hc : w'.cell? ⟨ob, 1, none⟩ = some (.int .i64 N) := hG.cell 1
                  clear hout p0
                  go_step
                  exact hK _ _ rfl hG (KeptTwo.refl _ _ _)
                · intro a w' hG hout hpre K hK
                  obtain ⟨p0, p1, _⟩ := hpre
                  have q77 := ev_of (show a.eval (.tmp 77) = .pointer (some ⟨rb, 0, none⟩) from p0)
                  have q79 := ev_of (show a.eval (.tmp 79) = .int .i64 N from p1)
                  have HS := Lib.hid (HRC.out w' hG.1)
                  clear hout p0 p1
                  go_step
                  refine HS.out.mono ?_
                  rintro e w3 ⟨sa, sc, rfl, hsn, hR, hg⟩
                  exact hK _ _ (hsn.srcT hG.1.lt (Array.getElem?_eq_some_iff.1 hG.2.1).1) (hG.step1 hR hg HO.out.1) (KeptTwo.one hg)
                · intro k a w' hG hout hpre K hK
                  obtain ⟨p0, _⟩ := hpre
                  obtain ⟨sa, sc, hv, hs⟩ : SrcT rb xb w' (a.eval (.tmp 80)) z := p0
                  have q := ev_of hv
                  have hcs := SrcT.str (p := rb) (q := xb) ⟨sa, sc, rfl, hs⟩
                  clear hout hs hv
                  go_step
                  exact hK _ _ rfl hG (KeptTwo.refl _ _ _)
                · intro k a w' hG hout hpre K hK
                  have q6 := ev_of ((hout 6 rfl).trans (show _ = .pointer (some ⟨xb, 0, none⟩) from rfl))
                  clear hout hpre
                  go_step
                  exact hK _ _ rfl hG (KeptTwo.refl _ _ _)
                · intro k a w' hG hout hpre K hK
                  have q8 := ev_of ((hout 8 rfl).trans (show _ = .pointer (some ⟨ob, 0, none⟩) from rfl))
                  clear hout hpre
                  go_step
                  exact hK _ _ rfl hG (KeptTwo.refl _ _ _)
                · intro k a w' hG hout hpre K hK
                  obtain ⟨p0, _⟩ := hpre
                  have q83 := ev_of (show a.eval (.tmp 83) = .pointer (some ⟨ob, 1, none⟩) from p0)
                  have hc : w'.cell? ⟨ob, 1, none⟩ = some (.int .i64 N) := hG.cell 1
                  clear hout p0
                  go_step
                  exact hK _ _ rfl hG (KeptTwo.refl _ _ _)
                · intro a w' hG hout hpre K hK
                  obtain ⟨p0, p1, _⟩ := hpre
                  have q82 := ev_of (show a.eval (.tmp 82) = .pointer (some ⟨xb, 0, none⟩) from p0)
                  have q84 := ev_of (show a.eval (.tmp 84) = .int .i64 N from p1)
                  have HS := Lib.hid (HXC.out w' hG.2.1)
                  clear hout p0 p1
                  go_step
                  refine HS.out.mono ?_
                  rintro e w3 ⟨rfl, hX, hg⟩
                  exact hK _ _ rfl (hG.step2 hX hg HO.out.2.1) (KeptTwo.two hg)
                · intro k a w' hG hout hpre K hK
                  obtain ⟨p0, p1, _⟩ := hpre
                  have q81 := ev_of (show a.eval (.tmp 81) = Sv z from p0)
                  have q85 := ev_of (show a.eval (.tmp 85) = Sv z from p1)
                  have heq : ∀ w, (binOp .eql 9 (Sv z) (Sv z)).run Try.prog w = .ok (.bool true) w := fun w => by have := run_eql_Sv w z z; rwa [decide_eq_true rfl] at this
                  clear hout p0 p1
                  go_step
                  exact hK _ _ rfl hG (KeptTwo.refl _ _ _)
                · intro k a w' hG hout hpre K hK
                  obtain ⟨p0, _⟩ := hpre
                  have q86 := ev_of (show a.eval (.tmp 86) = .bool true from p0)
                  clear hout p0
                  go_step
                  exact hK _ _ rfl hG (KeptTwo.refl _ _ _)
              · intro vs w2 hG hlen hV
                match vs, hlen, hV with
                | [v0, v1, v2, v3, v4, v5, v6, v7, v8, v9, v10], _, hV =>
                  obtain rfl : v10 = .bool true := hV 10 9 v10 rfl rfl
                  clear hV
                  simp only [putsL, List.tail_cons, List.headD_cons]
                  simp only [Act.put, List.setIfInBounds_toArray, List.set_cons_succ, List.set_cons_zero]
                  have HR : Hid (RdAt base w2 rb tq ∧ TapeAt w2 xb tq ∧ KeptTwo rb xb wo w2) := ⟨hG.1, hG.2.1, hG.2.2.1⟩
                  clear hG
                  go_wp2_with (fail)
                  go_meet
                  exact ⟨tq, rfl, HR.out.1, HR.out.2.1, HRX.out.2.2.1.trans (HR.out.2.2.below HRX.out.2.2.2 H2.out.2.2.1 H2.out.2.2.2.1)⟩
            · have e0 : ((r : Int) == 0) = false := by rw [h]; rfl
              have e1 : ((r : Int) == 1) = false := by rw [h]; rfl
              have e2 : ((r : Int) == 2) = false := by rw [h]; rfl
              have e3 : ((r : Int) == 3) = false := by rw [h]; rfl
              clear h
              go_wp2_with (fail)
              refine (rfail_any wo base rb tp N HRX.out.1).mono ?_
              rintro e w3 ⟨rfl, hR, hg⟩
              have H3 : Hid (RdAt base w3 rb (tp.fail N) ∧ TapeAt w3 xb tp ∧ wo.grownBy w3 (some rb)) := ⟨hR, TapeAt.aside HRX.out.1 HRX.out.2.1 hg, hg⟩
              have c1 : w3.cell? ⟨ob, 1, none⟩ = some (.int .i64 N) := by rw [cell_of_row _ _ 1 _ _ _ ((hg.block ob (Array.getElem?_eq_some_iff.1 HO.out.2.2).1 (by simpa using HO.out.1)).trans HO.out.2.2)]; rfl
              clear hR hg co0 co1
              dsimp only
              go_wp2_with (fail)
              refine (rtFail_any w3 xb tp N H3.out.2.1).mono ?_
              rintro e w4 ⟨rfl, hX, hg⟩
              have H4 : Hid (RdAt base w4 rb (tp.fail N) ∧ TapeAt w4 xb (tp.fail N) ∧ KeptTwo rb xb wo w4) := ⟨RdAt.aside H3.out.1 H3.out.2.1 hg, hX, (KeptTwo.one H3.out.2.2).trans (KeptTwo.two hg)⟩
              clear hX hg c1
              dsimp only
              go_wp2_with (fail)
              go_meet
              exact ⟨tp.fail N, rfl, H4.out.1, H4.out.2.1, HRX.out.2.2.1.trans (H4.out.2.2.below HRX.out.2.2.2 H2.out.2.2.1 H2.out.2.2.2.1)⟩
          case rest =>
            obtain ⟨tq, rfl, hR, hX, hB⟩ := hcut
            have HQ := Lib.hid (And.intro hR (And.intro hX hB))
            clear hR hX hB
            go_upto_region 22 with (fail)
            obtain ⟨te, hte⟩ : ∃ x, x = tq.e := ⟨_, rfl⟩
            obtain ⟨td, htd⟩ : ∃ x, x = tq.done := ⟨_, rfl⟩
            obtain ⟨tn, htn⟩ : ∃ x, x = tq.s.length := ⟨_, rfl⟩
            obtain ⟨zs, hzs⟩ : ∃ x, x = tq.s := ⟨_, rfl⟩
            have HC : Hid ((∀ w', RdAt base w' rb tq → Calls Try.prog 26 #[.pointer (some ⟨rb, 0, none⟩)] w' fun e w'' => e = .returned (.int .i64 te) ∧ w'' = w') ∧
                (∀ w', RdAt base w' rb tq → Calls Try.prog 27 #[.pointer (some ⟨rb, 0, none⟩)] w' fun e w'' => e = .returned (.int .i64 td) ∧ w'' = w') ∧
                (∀ w', TapeAt w' xb tq → Calls Try.prog 28 #[.pointer (some ⟨xb, 0, none⟩)] w' fun e w'' => e = .returned (.int .i64 td) ∧ w'' = w') ∧
                (∀ w', RdAt base w' rb tq → Calls Try.prog 29 #[.pointer (some ⟨rb, 0, none⟩)] w' fun e w'' => e = .returned (.int .i64 (tn : Int)) ∧ w'' = w')) :=
              ⟨fun w' h => by rw [hte]; exact rerr_any w' base rb tq h, fun w' h => by rw [htd]; exact rend_any w' base rb tq h, fun w' h => by rw [htd]; exact rtEnd_any w' xb tq h, fun w' h => by rw [htn]; exact rleft_any w' base rb tq h⟩
            have HT := Lib.hid (And.intro hte (And.intro htd (And.intro htn hzs)))
            have HG22 : Hid (RdAt base wc.drew rb tq ∧ TapeAt wc.drew xb tq ∧ Below B0 w1 wc.drew) := ⟨HQ.out.1, HQ.out.2.1, HQ.out.2.2.drew⟩
            clear hte htd htn hzs
            refine wp_region_seq_frame (by kernel_rfl) [none, none, none, none, none, none, none, none, none, none, none, none, none, none, none, none, none, none, none, none, none, none, none, none, none, none, none, none] [] (vOfC [.bool true, .bool false, .bool false, .pointer (some ⟨rb, 0, none⟩), .int .i64 te, .pointer (some ⟨xb, 0, none⟩), .pointer (some ⟨xb, 0, none⟩), .pointer (some ⟨xb, 1, none⟩), .int .i64 te, .bool false, .bool false, .bool false, .pointer (some ⟨rb, 0, none⟩), .int .i64 td, .pointer (some ⟨xb, 0, none⟩), .int .i64 td, .bool false, .bool false, .bool false, .pointer (some ⟨rb, 0, none⟩), .int .i64 (tn : Int), .pointer (some ⟨xb, 0, none⟩), .pointer (some ⟨xb, 0, none⟩), .pointer (some ⟨xb, 0, none⟩), Sv zs, .int .i64 (tn : Int), .bool false, .bool false]) (fun _ w' => RdAt base w' rb tq ∧ TapeAt w' xb tq ∧ Below B0 w1 w') (fun _ _ => True) (fun _ _ _ _ _ h => h) (by kernel_rfl) (by kernel_rfl) (by kernel_rfl) HG22.out ⟨trivial, trivial, trivial, fun _ _ h => h, fun _ _ h => h, fun _ _ h => h, fun _ _ h => h, fun _ _ h => h, fun _ _ h => h, fun _ _ h => h, trivial, trivial, fun _ _ h => h, fun _ _ h => h, fun _ _ h => h, fun _ _ h => h, fun _ _ h => h, trivial, trivial, fun _ _ h => h, fun _ _ h => h, fun _ _ h => h, fun _ _ h => h, fun _ _ h => h, fun _ _ h => h, fun _ _ h => h, fun _ _ h => h, trivial, trivial⟩ ?_ ?_
            · refine ⟨?_, ?_, ?_, ?_, ?_, ?_, ?_, ?_, ?_, ?_, ?_, ?_, ?_, ?_, ?_, ?_, ?_, ?_, ?_, ?_, ?_, ?_, ?_, ?_, ?_, ?_, ?_, ?_, trivial⟩
              · intro k a w' hG hout hpre K hK
                have q9 := ev_of ((hout 9 rfl).trans (show _ = .bool true from rfl))
                clear hout hpre
                go_step
                exact hK _ _ rfl hG trivial
              · intro k a w' hG hout hpre K hK
                obtain ⟨p0, _⟩ := hpre
                have q87 := ev_of (show a.eval (.tmp 87) = .bool true from p0)
                clear hout p0
                go_step
                exact hK _ _ rfl hG trivial
              · intro k a w' hG hout hpre K hK
                obtain ⟨p0, _⟩ := hpre
                have q88 := ev_of (show a.eval (.tmp 88) = .bool false from p0)
                clear hout p0
                go_step
                exact hK _ _ rfl hG trivial
              · intro k a w' hG hout hpre K hK
                have q5 := ev_of ((hout 5 rfl).trans (show _ = .pointer (some ⟨rb, 0, none⟩) from rfl))
                clear hout hpre
                go_step
                exact hK _ _ rfl hG trivial
              · intro k a w' hG hout hpre K hK
                obtain ⟨p0, _⟩ := hpre
                have q90 := ev_of (show a.eval (.tmp 90) = .pointer (some ⟨rb, 0, none⟩) from p0)
                have HS := Lib.hid (HC.out.1 w' hG.1)
                clear hout p0
                go_step
                refine HS.out.mono ?_
                rintro e w3 ⟨rfl, rfl⟩
                exact hK _ _ rfl hG trivial
              · intro k a w' hG hout hpre K hK
                have q6 := ev_of ((hout 6 rfl).trans (show _ = .pointer (some ⟨xb, 0, none⟩) from rfl))
                clear hout hpre
                go_step
                exact hK _ _ rfl hG trivial
              · intro k a w' hG hout hpre K hK
                obtain ⟨p0, _⟩ := hpre
                have q92 := ev_of (show a.eval (.tmp 92) = .pointer (some ⟨xb, 0, none⟩) from p0)
                clear hout p0
                go_step
                exact hK _ _ rfl hG trivial
              · intro k a w' hG hout hpre K hK
                obtain ⟨p0, _⟩ := hpre
                have q93 := ev_of (show a.eval (.tmp 93) = .pointer (some ⟨xb, 0, none⟩) from p0)
                clear hout p0
                go_step
                exact hK _ _ rfl hG trivial
              · intro k a w' hG hout hpre K hK
                obtain ⟨p0, _⟩ := hpre
                have q94 := ev_of (show a.eval (.tmp 94) = .pointer (some ⟨xb, 1, none⟩) from p0)
                have hc : w'.cell? ⟨xb, 1, none⟩ = some (.int .i64 te) := by rw [HT.out.1]; exact hG.2.1.cells.2.1
                clear hout p0
                go_step
                exact hK _ _ rfl hG trivial
              · intro k a w' hG hout hpre K hK
                obtain ⟨p0, p1, _⟩ := hpre
                have q91 := ev_of (show a.eval (.tmp 91) = .int .i64 te from p0)
                have q95 := ev_of (show a.eval (.tmp 95) = .int .i64 te from p1)
                clear hout p0 p1
                go_step
                exact hK _ _ rfl hG trivial
              · intro k a w' hG hout hpre K hK
                obtain ⟨p0, p1, _⟩ := hpre
                have q89 := ev_of (show a.eval (.tmp 89) = .bool false from p0)
                have q96 := ev_of (show a.eval (.tmp 96) = .bool false from p1)
                clear hout p0 p1
                go_step
                exact hK _ _ rfl hG trivial
              · intro k a w' hG hout hpre K hK
                obtain ⟨p0, _⟩ := hpre
                have q97 := ev_of (show a.eval (.tmp 97) = .bool false from p0)
                clear hout p0
                go_step
                exact hK _ _ rfl hG trivial
              · intro k a w' hG hout hpre K hK
                have q5 := ev_of ((hout 5 rfl).trans (show _ = .pointer (some ⟨rb, 0, none⟩) from rfl))
                clear hout hpre
                go_step
                exact hK _ _ rfl hG trivial
              · intro k a w' hG hout hpre K hK
                obtain ⟨p0, _⟩ := hpre
                have q99 := ev_of (show a.eval (.tmp 99) = .pointer (some ⟨rb, 0, none⟩) from p0)
                have HS := Lib.hid (HC.out.2.1 w' hG.1)
                clear hout p0
                go_step
                refine HS.out.mono ?_
                rintro e w3 ⟨rfl, rfl⟩
                exact hK _ _ rfl hG trivial
              · intro k a w' hG hout hpre K hK
                have q6 := ev_of ((hout 6 rfl).trans (show _ = .pointer (some ⟨xb, 0, none⟩) from rfl))
                clear hout hpre
                go_step
                exact hK _ _ rfl hG trivial
              · intro k a w' hG hout hpre K hK
                obtain ⟨p0, _⟩ := hpre
                have q101 := ev_of (show a.eval (.tmp 101) = .pointer (some ⟨xb, 0, none⟩) from p0)
                have HS := Lib.hid (HC.out.2.2.1 w' hG.2.1)
                clear hout p0
                go_step
                refine HS.out.mono ?_
                rintro e w3 ⟨rfl, rfl⟩
                exact hK _ _ rfl hG trivial
              · intro k a w' hG hout hpre K hK
                obtain ⟨p0, p1, _⟩ := hpre
                have q100 := ev_of (show a.eval (.tmp 100) = .int .i64 td from p0)
                have q102 := ev_of (show a.eval (.tmp 102) = .int .i64 td from p1)
                clear hout p0 p1
                go_step
                exact hK _ _ rfl hG trivial
              · intro k a w' hG hout hpre K hK
                obtain ⟨p0, p1, _⟩ := hpre
                have q98 := ev_of (show a.eval (.tmp 98) = .bool false from p0)
                have q103 := ev_of (show a.eval (.tmp 103) = .bool false from p1)
                clear hout p0 p1
                go_step
                exact hK _ _ rfl hG trivial
              · intro k a w' hG hout hpre K hK
                obtain ⟨p0, _⟩ := hpre
                have q104 := ev_of (show a.eval (.tmp 104) = .bool false from p0)
                clear hout p0
                go_step
                exact hK _ _ rfl hG trivial
              · intro k a w' hG hout hpre K hK
                have q5 := ev_of ((hout 5 rfl).trans (show _ = .pointer (some ⟨rb, 0, none⟩) from rfl))
                clear hout hpre
                go_step
                exact hK _ _ rfl hG trivial
              · intro k a w' hG hout hpre K hK
                obtain ⟨p0, _⟩ := hpre
                have q106 := ev_of (show a.eval (.tmp 106) = .pointer (some ⟨rb, 0, none⟩) from p0)
                have HS := Lib.hid (HC.out.2.2.2 w' hG.1)
                clear hout p0
                go_step
                refine HS.out.mono ?_
                rintro e w3 ⟨rfl, rfl⟩
                exact hK _ _ rfl hG trivial
              · intro k a w' hG hout hpre K hK
                have q6 := ev_of ((hout 6 rfl).trans (show _ = .pointer (some ⟨xb, 0, none⟩) from rfl))
                clear hout hpre
                go_step
                exact hK _ _ rfl hG trivial
              · intro k a w' hG hout hpre K hK
                obtain ⟨p0, _⟩ := hpre
                have q108 := ev_of (show a.eval (.tmp 108) = .pointer (some ⟨xb, 0, none⟩) from p0)
                clear hout p0
                go_step
                exact hK _ _ rfl hG trivial
              · intro k a w' hG hout hpre K hK
                obtain ⟨p0, _⟩ := hpre
                have q109 := ev_of (show a.eval (.tmp 109) = .pointer (some ⟨xb, 0, none⟩) from p0)
                clear hout p0
                go_step
                exact hK _ _ rfl hG trivial
              · intro k a w' hG hout hpre K hK
                obtain ⟨p0, _⟩ := hpre
                have q110 := ev_of (show a.eval (.tmp 110) = .pointer (some ⟨xb, 0, none⟩) from p0)
                have hc : w'.cell? ⟨xb, 0, none⟩ = some (Sv zs) := by rw [HT.out.2.2.2]; exact hG.2.1.cells.1
                clear hout p0
                go_step
                exact hK _ _ rfl hG trivial
              · intro k a w' hG hout hpre K hK
                obtain ⟨p0, _⟩ := hpre
                have q111 := ev_of (show a.eval (.tmp 111) = Sv zs from p0)
                have lk : ∀ w ty, (Builtin.len_ #[9] ty #[Sv zs]).run Try.prog w = .ok (.int .i64 (tn : Int)) w := fun w ty => by rw [run_len_Sv w ty zs, HT.out.2.2.1, HT.out.2.2.2]
                clear hout p0
                go_step
                exact hK _ _ rfl hG trivial
              · intro k a w' hG hout hpre K hK
                obtain ⟨p0, p1, _⟩ := hpre
                have q107 := ev_of (show a.eval (.tmp 107) = .int .i64 (tn : Int) from p0)
                have q112 := ev_of (show a.eval (.tmp 112) = .int .i64 (tn : Int) from p1)
                clear hout p0 p1
                go_step
                exact hK _ _ rfl hG trivial
              · intro k a w' hG hout hpre K hK
                obtain ⟨p0, p1, _⟩ := hpre
                have q105 := ev_of (show a.eval (.tmp 105) = .bool false from p0)
                have q113 := ev_of (show a.eval (.tmp 113) = .bool false from p1)
                clear hout p0 p1
                go_step
                exact hK _ _ rfl hG trivial
            · intro vs w2 hG hlen hV
              match vs, hlen, hV with
              | [v0, v1, v2, v3, v4, v5, v6, v7, v8, v9, v10, v11, v12, v13, v14, v15, v16, v17, v18, v19, v20, v21, v22, v23, v24, v25, v26, v27], _, hV =>
                obtain rfl : v27 = .bool false := hV 27 114 v27 rfl rfl
                clear hV
                simp only [putsL, List.tail_cons, List.headD_cons]
                simp only [Act.put, List.setIfInBounds_toArray, List.set_cons_succ, List.set_cons_zero]
                have HR : Hid (RdAt base w2 rb tq ∧ TapeAt w2 xb tq ∧ Below B0 w1 w2) := hG
                clear hG
                go_wp2_with (fail)
                exact ⟨⟨t + 1, tq, by have := hlast.out.1; omega, by go_num, HR.out⟩, by have := hlast.out.1; simp [intOf]; omega⟩
        · obtain rfl : t = L := by omega
          have HE : Hid (Below w.heap.size w wr) := HB1.out.trans (HL.out.2.2.mono (by have := H2.out.2.2.2.2.2; have := HB1.out.size; omega))
          go_wp2_with (fail)
          refine (rfail_nil wr 2).mono ?_
          rintro e w3 ⟨rfl, rfl⟩
          dsimp only
          go_wp2_with (fail)
          refine (rerr_nil w3).mono ?_
          rintro e w4 ⟨rfl, rfl⟩
          dsimp only
          go_wp2_with (fail)
          refine (rend_nil w4).mono ?_
          rintro e w5 ⟨rfl, rfl⟩
          dsimp only
          go_wp2_with (fail)
          refine (rnumber_nil w5).mono ?_
          rintro e w6 ⟨rfl, rfl⟩
          dsimp only
          go_wp2_with (fail)
          refine (rsigned_nil w6).mono ?_
          rintro e w7 ⟨rfl, rfl⟩
          dsimp only
          go_wp2_with (fail)
          refine (rtext_nil w7).mono ?_
          rintro e w8 ⟨rfl, rfl⟩
          dsimp only
          go_wp2_with (fail)
          refine (rfixed_nil w8 0).mono ?_
          rintro e w9 ⟨rfl, rfl⟩
          dsimp only
          go_wp2_with (fail)
          refine (rleft_nil w9).mono ?_
          rintro e w10 ⟨rfl, rfl⟩
          dsimp only
          go_wp2_with (fail)
          go_ret
          exact ⟨rfl, HE.out⟩
end Go.Proofs.Ytgmpkkhejbnlhaa
