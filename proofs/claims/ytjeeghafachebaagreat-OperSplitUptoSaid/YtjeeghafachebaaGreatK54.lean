/-
  Part 54 of 56 of what the proof leans on.
-/
import Derived.Test.YtjeeghafachebaaGreatK49
import Derived.Test.YtjeeghafachebaaGreatK50
import Derived.Test.YtjeeghafachebaaGreatK51
import Derived.Test.YtjeeghafachebaaGreatK52
import Derived.Test.YtjeeghafachebaaGreatK53
import Derived.Test.YtjeeghafachebaaGreatK41
namespace Go.Proofs.YtjeeghafachebaaGreat
open Go Go.RowKit
theorem run_of {w : World} {q : QueryL} {m : Int} {pv : Value} {s : StateL} {ia : Option Addr} {ic : Nat} {its : List ItemL} (h : HasS w (.agg #[.int .i64 m, pv]) s) (hc : comeOk q s.panes 256) (hI : ItemsAt w ia its) (hk : ∀ x ∈ its, x.key.length ≤ 1000000) (hn : its.length ≤ 3000) :
    Calls Tryz.prog 8 #[.agg q.cells, .agg #[.int .i64 m, pv], .slice ia its.length ic] w (RunEnd w (runQ q s its)) := by
  obtain ⟨p1, l1, e1, a1, b1, d1⟩ := h
  have f1 : m = s.mark ∧ pv = p1 := by simpa using e1
  obtain ⟨rfl, rfl⟩ := f1
  have hs := orun_any w q s.mark pv l1 ia ic its a1 b1 (fit_of hc d1) hI hk hn
  rw [← d1] at hs
  exact hs
theorem runS_nb {q : QueryL} : ∀ (l : List ItemL) (s : StateL) (o : List OutE) (n : Int), n ≤ (runS q s o n l).n ∧ (runS q s o n l).n ≤ n + (l.length : Int)
  | [], _, _, n => by simp [runS]
  | x :: l, s, o, n => by
    rw [runS_cons, List.length_cons]
    split
    · have h := runS_nb (q := q) l (stepS q s x).1 (o ++ (stepS q s x).2.1) (n + 1)
      omega
    · show n ≤ n ∧ n ≤ n + _
      omega
theorem runQ_nb (q : QueryL) (s : StateL) (l : List ItemL) : 0 ≤ (runQ q s l).n ∧ (runQ q s l).n ≤ (l.length : Int) := by
  unfold runQ
  split
  · exact ⟨Int.le_refl _, by show (0 : Int) ≤ _; omega⟩
  · have h := runS_nb (q := q) l s [] 0
    omega
theorem wpList_taken {P : Program} {ops : Array Oper} {rest : List Oper} {o : Oper} {a : Act} {w : World} {Q : Exit → Act → World → Prop} (hw : Region.wanted o (yielded ops a.tmps) = true)
    (h : ∀ K : Act → World → Prop, (∀ a w, wpList P ops Q rest a w → K a w) → o.wp P a w K Q) : wpList P ops Q (o :: rest) a w :=
  wpList_step fun K hK => by simp only [hw, if_true]; exact h K hK
set_option maxRecDepth 100000 in
set_option maxHeartbeats 8000000 in
theorem osplit_any (w : World) (q : QueryL) (ia : Option Addr) (ic : Nat) (its : List ItemL) (ct : Int) (hct : 0 ≤ ct ∧ ct ≤ 255) (hI : ItemsAt w ia its) (hk : ∀ x ∈ its, x.key.length ≤ 1048576) (hl : its.length ≤ 1048576) (hc : its.length ≤ ic) (h0 : ia = none → ic = 0)
    (hF : ∀ w', Calls Tryz.prog 6 #[] w' (Below0 w' (.bool true))) :
    Calls Tryz.prog 5 #[.agg q.cells, .slice ia its.length ic, .int .u8 ct] w (Below0 w (.bool true)) := by
  have mixed : Tryz.prog.follows .mixedOrders = true := by kernel_rfl
  have HF := Lib.hid hF
  obtain ⟨g, hg⟩ : ∃ g, g = greatL its := ⟨_, rfl⟩
  have HGt : Hid (∀ w', Below w.heap.size w w' → Calls Tryz.prog 7 #[.slice ia its.length ic] w' (Below0 w' (.int .i64 ((g : Nat) : Int)))) := by
    rw [hg]
    exact Lib.hid (fun w' hB => great_any w' ia ic its (hI.below hB) hk hl)
  obtain ⟨N, hN⟩ : ∃ N, N = its.length := ⟨_, rfl⟩
  have HA : Hid (ItemsAt w ia its ∧ N = its.length ∧ g = greatL its ∧ N ≤ ic ∧ (ia = none → ic = 0)) := Lib.hid ⟨hI, hN, hg, by omega, h0⟩
  rw [← hN] at HGt ⊢
  have hNb : N ≤ 1048576 := by omega
  obtain ⟨w1, hw1⟩ : ∃ W, W = w.alloc (.cells q.cells 23) := ⟨_, rfl⟩
  obtain ⟨qb, hqb⟩ : ∃ b, b = w.heap.size := ⟨_, rfl⟩
  have H1 : Hid (RowQ w1 qb q ∧ Below w.heap.size w w1) := by rw [hw1, hqb]; exact Lib.hid (box_q w q)
  clear hF hI hk hl hc h0 hN hg
  obtain ⟨Q, hQ⟩ : ∃ Q, Q = q := ⟨_, rfl⟩
  rw [← hQ] at H1
  obtain ⟨kind, size, slide, late, agg, kq⟩ := q
  have HQd : Hid (∀ w', RowQ w' qb Q → D6 w' qb kind size slide late agg kq) := by rw [hQ]; exact Lib.hid (fun w' h => h.d6)
  have HQe : Hid (Q = ⟨kind, size, slide, late, agg, kq⟩) := Lib.hid hQ
  unfold QueryL.cells at hw1 ⊢
  simp only at hw1 ⊢
  go_enter Tryz.func5, Tryz.ntmps5
  go_upto_region 1 with (fail)
  rw [← hw1, ← hqb]
  clear hw1 hqb
  go_wp2_with (fail)
  refine (HF.out w1).mono ?_
  rintro e w2 ⟨rfl, hB⟩
  have H2 : Hid (RowQ w2 qb Q ∧ Below w.heap.size w w2) := Lib.hid ⟨H1.out.1.below hB, H1.out.2.trans (hB.mono H1.out.2.size)⟩
  clear hB
  dsimp only
  by_cases hgr : 1500 < g
  · go_wp2_with (fail)
    refine (HGt.out w2 H2.out.2).mono ?_
    rintro e w3 ⟨rfl, hB⟩
    have HZ := Lib.hid (H2.out.2.trans (hB.mono H2.out.2.size))
    clear hB
    dsimp only
    go_wp2_with (fail)
    go_ret
    exact ⟨rfl, HZ.out⟩
  · go_wp2_with (fail)
    refine (HGt.out w2 H2.out.2).mono ?_
    rintro e w3 ⟨rfl, hB⟩
    have H3 : Hid (RowQ w3 qb Q ∧ Below w.heap.size w w3) := Lib.hid ⟨H2.out.1.below hB, H2.out.2.trans (hB.mono H2.out.2.size)⟩
    clear hB
    dsimp only
    have hN0 : ¬ ((N : Int) + 1 = 0) := by omega
    go_upto_region 6 with (fail)
    obtain ⟨kc, hK⟩ : ∃ kc : Nat, ct % ((N : Int) + 1) = (kc : Int) := ⟨(ct % ((N : Int) + 1)).toNat, by have := Int.emod_nonneg ct hN0; omega⟩
    have hKN : kc ≤ N := by have := Int.emod_lt_of_pos ct (show (0 : Int) < (N : Int) + 1 by omega); omega
    rw [hK]
    obtain ⟨r1, hr1⟩ : ∃ r, r = runQ Q newS its := ⟨_, rfl⟩
    obtain ⟨r2, hr2⟩ : ∃ r, r = runQ Q newS (its.take kc) := ⟨_, rfl⟩
    obtain ⟨S1, O1, N1, E1⟩ := r1
    obtain ⟨S2, O2, N2, E2⟩ := r2
    have hg15 : g ≤ 1500 := by omega
    have hkey : ∀ x ∈ its, x.key.length ≤ 1000000 := fun x hx => by have := greatL_mem hx; have := HA.out.2.2.1; omega
    have hlen : its.length ≤ 3000 := by have := greatL_length its; have := HA.out.2.2.1; omega
    have hfit0 : FitP [] := ⟨fun x hx => by simp at hx, by simp⟩
    have HR1 : Hid (∀ w', Below w.heap.size w w' → Calls Tryz.prog 8 #[.agg #[.int .i64 kind, .int .i64 size, .int .i64 slide, .int .i64 late, .int .i64 agg, .int .i64 kq], .agg #[.int .i64 (-1), .slice none 0 0], .slice ia N ic] w' (RunEnd w' ⟨S1, O1, N1, E1⟩)) := by
      refine Lib.hid (fun w' hB => ?_)
      have h := orun_any w' Q (-1) (.slice none 0 0) [] ia ic its (PanesIn.nil _) (fun y hy => by simp at hy) hfit0 (HA.out.1.below hB) hkey hlen
      rw [← HA.out.2.1, hQ] at h
      rw [hr1, hQ]
      exact h
    have HR2 : Hid (∀ w', Below w.heap.size w w' → Calls Tryz.prog 8 #[.agg #[.int .i64 kind, .int .i64 size, .int .i64 slide, .int .i64 late, .int .i64 agg, .int .i64 kq], .agg #[.int .i64 (-1), .slice none 0 0], .slice ia kc ic] w' (RunEnd w' ⟨S2, O2, N2, E2⟩)) := by
      refine Lib.hid (fun w' hB => ?_)
      have hlk : (its.take kc).length = kc := by rw [List.length_take]; have := HA.out.2.1; omega
      have h := orun_any w' Q (-1) (.slice none 0 0) [] ia ic (its.take kc) (PanesIn.nil _) (fun y hy => by simp at hy) hfit0 ((HA.out.1.below hB).take kc) (fun x hx => hkey x (List.mem_of_mem_take hx)) (by have := HA.out.2.1; omega)
      rw [hlk, hQ] at h
      rw [hr2, hQ]
      exact h
    have HRe : Hid (RunL.mk S1 O1 N1 E1 = runQ Q newS its ∧ RunL.mk S2 O2 N2 E2 = runQ Q newS (its.take kc)) := Lib.hid ⟨hr1, hr2⟩
    have HKk : Hid (ct % ((N : Int) + 1) = (kc : Int)) := Lib.hid hK
    have HKey2 : Hid (its.length ≤ 1500) := Lib.hid (by have := greatL_length its; have := HA.out.2.2.1; omega)
    have HKey : Hid ((∀ x ∈ its, x.key.length ≤ 1000000) ∧ its.length ≤ 3000 ∧ kc ≤ N) := Lib.hid ⟨hkey, hlen, hKN⟩
    clear hr1 hr2 hK hkey hlen hfit0 hN0 hg15 hct
    have HNew : Hid (∀ w', Calls Tryz.prog 9 #[] w' (fun e w'' => e = .returned (.agg #[.int .i64 (-1), nilV]) ∧ Below w'.heap.size w' w'')) := Lib.hid (fun w' => onew_any w')
    have HQw : Hid (∀ w', Below w3.heap.size w3 w' → D6 w' qb kind size slide late agg kq) := Lib.hid (fun w' h => HQd.out w' (H3.out.1.below h))
    have HG0 : Hid (Below w3.heap.size w3 w3.drew) := Lib.hid (Below.refl _ w3).drew
    refine wp_region_skipA (fun i => ([] : List Nat).contains i) (by kernel_rfl) [none, none, none, none, none, none, none, none, none, some 0, some 1, none, none, none] [9, 10] (VLs ((Value.agg #[.int .i64 kind, .int .i64 size, .int .i64 slide, .int .i64 late, .int .i64 agg, .int .i64 kq]) :: (Value.agg #[.int .i64 (-1), .slice none 0 0]) :: (Value.slice ia N ic) :: undef :: undef :: undef :: undef :: (Value.int .i64 N1) :: (Value.int .i64 E1) :: undef :: undef :: undef :: (Value.int .i64 N1) :: (Value.int .i64 E1) :: ([] : List Value)) (RuL 3 w3.heap.size (RunL.mk S1 O1 N1 E1))) (fun _ w' => Below w3.heap.size w3 w') (fun w w' => Below w.heap.size w w') (VLs_le _ _ RuL_le) (by kernel_rfl) (by kernel_rfl) (by kernel_rfl) HG0.out (fun _ => ⟨rfl, rfl, rfl, rfl, rfl, rfl, rfl, rfl, rfl, rfl, rfl, rfl, rfl, rfl, trivial⟩) (fun _ h => by simp at h) ?_ ?_
    · refine ⟨?_, ?_, ?_, ?_, ?_, ?_, ?_, ?_, ?_, ?_, ?_, ?_, ?_, ?_, trivial⟩
      · intro _ _ a w' hG hout hpre K hK
        have q3 := ev_of ((hout 3 rfl).trans (show _ = .pointer (some ⟨qb, 0, none⟩) from rfl))
        obtain ⟨d0, d1, d2, d3, d4, d5⟩ := HQw.out w' hG
        clear hout hpre
        go_step
        exact hK _ _ rfl hG (Below.refl _ _)
      · intro _ _ a w' hG hout hpre K hK
        clear hout hpre
        have HS := Lib.hid (HNew.out w')
        go_step
        refine HS.out.mono ?_
        rintro e w3_ ⟨rfl, hB⟩
        exact hK _ _ rfl (hG.trans (hB.mono hG.size)) hB
      · intro _ _ a w' hG hout hpre K hK
        have q1 := ev_of ((hout 1 rfl).trans (show _ = .slice ia N ic from rfl))
        clear hout hpre
        go_step
        exact hK _ _ rfl hG (Below.refl _ _)
      · intro _ _ a w' hG hout hpre K hK
        obtain ⟨p0, p1, p2, _⟩ := hpre
        have q32 := ev_of (show a.eval (.tmp 32) = .agg #[.int .i64 kind, .int .i64 size, .int .i64 slide, .int .i64 late, .int .i64 agg, .int .i64 kq] from p0)
        have q33 := ev_of (show a.eval (.tmp 33) = .agg #[.int .i64 (-1), .slice none 0 0] from p1)
        have q34 := ev_of (show a.eval (.tmp 34) = .slice ia N ic from p2)
        clear hout p0 p1 p2
        have HS := Lib.hid (HR1.out w' (H3.out.2.trans (hG.mono H3.out.2.size)))
        go_step
        refine HS.out.mono ?_
        rintro e w3_ ⟨sv, ov, rfl, hS, hO, hB⟩
        exact hK _ _ ⟨sv, ov, rfl, hS, hO⟩ (hG.trans (hB.mono hG.size)) hB
      · intro _ _ a w' hG hout hpre K hK
        obtain ⟨p0, _⟩ := hpre
        obtain ⟨sv, ov, hv, hS, hO⟩ := (show RuT (RunL.mk S1 O1 N1 E1) w' (a.eval (.tmp 35)) from p0)
        have q35 := ev_of hv
        clear hout 
        clear hv
        go_step
        exact hK _ _ ⟨sv, ov, rfl, hS, hO⟩ hG (Below.refl _ _)
      · intro _ _ a w' hG hout hpre K hK
        obtain ⟨p0, _⟩ := hpre
        obtain ⟨sv, ov, hv, hS, hO⟩ := (show RuT (RunL.mk S1 O1 N1 E1) w' (a.eval (.tmp 31)) from p0)
        have q31 := ev_of hv
        clear hout 
        clear hv
        go_step
        exact hK _ _ hS hG (Below.refl _ _)
      · intro _ _ a w' hG hout hpre K hK
        obtain ⟨p0, _⟩ := hpre
        obtain ⟨sv, ov, hv, hS, hO⟩ := (show RuT (RunL.mk S1 O1 N1 E1) w' (a.eval (.tmp 31)) from p0)
        have q31 := ev_of hv
        clear hout 
        clear hv
        go_step
        exact hK _ _ hO hG (Below.refl _ _)
      · intro _ _ a w' hG hout hpre K hK
        obtain ⟨p0, _⟩ := hpre
        obtain ⟨sv, ov, hv, hS, hO⟩ := (show RuT (RunL.mk S1 O1 N1 E1) w' (a.eval (.tmp 31)) from p0)
        have q31 := ev_of hv
        clear hout 
        clear hv
        go_step
        exact hK _ _ rfl hG (Below.refl _ _)
      · intro _ _ a w' hG hout hpre K hK
        obtain ⟨p0, _⟩ := hpre
        obtain ⟨sv, ov, hv, hS, hO⟩ := (show RuT (RunL.mk S1 O1 N1 E1) w' (a.eval (.tmp 31)) from p0)
        have q31 := ev_of hv
        clear hout 
        clear hv
        go_step
        exact hK _ _ rfl hG (Below.refl _ _)
      · intro _ a w' hG hout hpre K hK
        clear hout hpre
        go_step
        exact hK _ _ ⟨_, rfl, hG.size, by rw [if_pos (by decide)]; exact heap_alloc_new w' _⟩ (hG.trans (((Below.refl _ w').alloc (Nat.le_refl _) _).mono hG.size)) (VLs_keep _ (RuL_keep0 ((Below.refl _ w').alloc (Nat.le_refl _) _)))
      · intro _ a w' hG hout hpre K hK
        obtain ⟨p0, p1, _⟩ := hpre
        obtain ⟨b, hv, hbB, hrow⟩ := (show RuR w3.heap.size (RunL.mk S1 O1 N1 E1) 1 w' (a.eval (.tmp 8)) from p0)
        obtain ⟨pv, l, hv2, hPI, hPG, hPm⟩ := (show HasS w' (a.eval (.tmp 36)) S1 from p1)
        rw [if_pos (by decide)] at hrow
        refine wp_store_row _ (.tmp 8) (.tmp 36) rfl b #[.int .i64 S1.mark, pv] hv hv2 _ _ hrow state_size rfl (state_one hPI.one) ?_
        have hg : w'.grownBy (w'.setRow b #[.int .i64 S1.mark, pv]) (some b) := grown_setRow _ _ _
        exact hK _ _ rfl (hG.trans ⟨hg.os, hg.tape, hg.output, hg.size, fun k hk => hg.block k (by have := hG.size; omega) (by simp; omega)⟩) (VLs_keep _ (RuL_keep rfl hv hrow hbB hg (hrow.reset _ _) (HasS.store ⟨pv, l, rfl, hPI, hPG, hPm⟩ hrow hg)))
      · intro _ _ a w' hG hout hpre K hK
        obtain ⟨p0, _⟩ := hpre
        obtain hO := (show HasO w' (a.eval (.tmp 37)) O1 from p0)
        clear hout 
        obtain ⟨vo, hvo⟩ : ∃ v, a.eval (.tmp 37) = v := ⟨_, rfl⟩
        rw [hvo] at hO
        have q37 := ev_of hvo
        go_step
        exact hK _ _ hO hG (Below.refl _ _)
      · intro _ _ a w' hG hout hpre K hK
        obtain ⟨p0, _⟩ := hpre
        have q38 := ev_of (show a.eval (.tmp 38) = .int .i64 N1 from p0)
        clear hout p0
        go_step
        exact hK _ _ rfl hG (Below.refl _ _)
      · intro _ _ a w' hG hout hpre K hK
        obtain ⟨p0, _⟩ := hpre
        have q39 := ev_of (show a.eval (.tmp 39) = .int .i64 E1 from p0)
        clear hout p0
        go_step
        exact hK _ _ rfl hG (Below.refl _ _)
    · intro vs w4 hG hlen hV
      match vs, hlen, hV with
      | [v0, v1, v2, v3, v4, v5, v6, v7, v8, v9, v10, v11, v12, v13], _, hV =>
        obtain ⟨tb1, hvb, hTB, hrow⟩ := (show RuR w3.heap.size (RunL.mk S1 O1 N1 E1) 2 w4 v9 from hV 9 8 v9 rfl rfl)
        rw [if_neg (by decide)] at hrow
        obtain ⟨m1, pv1, hrow, hS⟩ := hrow
        have hO := (show HasO w4 v11 O1 from hV 11 9 v11 rfl rfl)
        obtain rfl : v12 = .int .i64 N1 := hV 12 10 v12 rfl rfl
        obtain rfl : v13 = .int .i64 E1 := hV 13 11 v13 rfl rfl
        subst hvb
        clear hV
        obtain ⟨o1, ho1⟩ : ∃ o, o = v11 := ⟨_, rfl⟩
        rw [← ho1] at hO
        rw [← ho1]
        have HN1 : Hid (Below w3.heap.size w3 w4 ∧ RowS w4 tb1 m1 pv1 ∧ HasS w4 (.agg #[.int .i64 m1, pv1]) S1 ∧ HasO w4 o1 O1) := Lib.hid ⟨hG, hrow, hS, hO⟩
        clear hrow hS hO hG hTB ho1
        simp only [putsL, List.tail_cons, List.headD_cons]
        simp only [Act.put, List.setIfInBounds_toArray, List.set_cons_succ, List.set_cons_zero]
        have H4 : Hid (RowQ w4 qb Q ∧ Below w.heap.size w w4 ∧ RowS w4 tb1 m1 pv1 ∧ HasS w4 (.agg #[.int .i64 m1, pv1]) S1 ∧ HasO w4 o1 O1) := Lib.hid ⟨H3.out.1.below HN1.out.1, H3.out.2.trans (HN1.out.1.mono H3.out.2.size), HN1.out.2⟩
        clear HN1 HG0 HQw H3
        go_upto_region 7 with (fail)
        have HSl : Hid (∀ w', (Instr.slice 24 (.slice ia N ic) none (some (.int .i64 (kc : Int))) none).run Tryz.prog w' = .ok (.slice ia kc ic) w') := Lib.hid (fun w' => items_to ia N ic kc (by have := HA.out.2.2.2.1; have := HKey.out.2.2; omega) w')
        have HQw4 : Hid (∀ w', Below w4.heap.size w4 w' → D6 w' qb kind size slide late agg kq) := Lib.hid (fun w' h => HQd.out w' (H4.out.1.below h))
        have HG4 : Hid (Below w4.heap.size w4 w4.drew) := Lib.hid (Below.refl _ w4).drew
        refine wp_region_skipA (fun i => ([] : List Nat).contains i) (by kernel_rfl) [none, none, none, none, none, none, none, none, none, none, none, some 0, some 1, none, none, none] [11, 12] (VLs ((Value.agg #[.int .i64 kind, .int .i64 size, .int .i64 slide, .int .i64 late, .int .i64 agg, .int .i64 kq]) :: (Value.agg #[.int .i64 (-1), .slice none 0 0]) :: (Value.slice ia N ic) :: (Value.int .i64 (kc : Int)) :: (Value.slice ia kc ic) :: undef :: undef :: undef :: undef :: (Value.int .i64 N2) :: (Value.int .i64 E2) :: undef :: undef :: undef :: (Value.int .i64 N2) :: (Value.int .i64 E2) :: ([] : List Value)) (RuL 5 w4.heap.size (RunL.mk S2 O2 N2 E2))) (fun _ w' => Below w4.heap.size w4 w') (fun w w' => Below w.heap.size w w') (VLs_le _ _ RuL_le) (by kernel_rfl) (by kernel_rfl) (by kernel_rfl) HG4.out (fun _ => ⟨rfl, rfl, rfl, rfl, rfl, rfl, rfl, rfl, rfl, rfl, rfl, rfl, rfl, rfl, rfl, rfl, trivial⟩) (fun _ h => by simp at h) ?_ ?_
        · refine ⟨?_, ?_, ?_, ?_, ?_, ?_, ?_, ?_, ?_, ?_, ?_, ?_, ?_, ?_, ?_, ?_, trivial⟩
          · intro _ _ a w' hG hout hpre K hK
            have q3 := ev_of ((hout 3 rfl).trans (show _ = .pointer (some ⟨qb, 0, none⟩) from rfl))
            obtain ⟨d0, d1, d2, d3, d4, d5⟩ := HQw4.out w' hG
            clear hout hpre
            go_step
            exact hK _ _ rfl hG (Below.refl _ _)
          · intro _ _ a w' hG hout hpre K hK
            clear hout hpre
            have HS := Lib.hid (HNew.out w')
            go_step
            refine HS.out.mono ?_
            rintro e w3_ ⟨rfl, hB⟩
            exact hK _ _ rfl (hG.trans (hB.mono hG.size)) hB
          · intro _ _ a w' hG hout hpre K hK
            have q1 := ev_of ((hout 1 rfl).trans (show _ = .slice ia N ic from rfl))
            clear hout hpre
            go_step
            exact hK _ _ rfl hG (Below.refl _ _)
          · intro _ _ a w' hG hout hpre K hK
            have q7 := ev_of ((hout 7 rfl).trans (show _ = .int .i64 (kc : Int) from rfl))
            clear hout hpre
            go_step
            exact hK _ _ rfl hG (Below.refl _ _)
          · intro _ _ a w' hG hout hpre K hK
            obtain ⟨p0, p1, _⟩ := hpre
            have q43 := ev_of (show a.eval (.tmp 43) = .slice ia N ic from p0)
            have q44 := ev_of (show a.eval (.tmp 44) = .int .i64 (kc : Int) from p1)
            have hsl := HSl.out
            clear hout p0 p1
            go_step
            exact hK _ _ rfl hG (Below.refl _ _)
          · intro _ _ a w' hG hout hpre K hK
            obtain ⟨p0, p1, p2, _⟩ := hpre
            have q41 := ev_of (show a.eval (.tmp 41) = .agg #[.int .i64 kind, .int .i64 size, .int .i64 slide, .int .i64 late, .int .i64 agg, .int .i64 kq] from p0)
            have q42 := ev_of (show a.eval (.tmp 42) = .agg #[.int .i64 (-1), .slice none 0 0] from p1)
            have q45 := ev_of (show a.eval (.tmp 45) = .slice ia kc ic from p2)
            clear hout p0 p1 p2
            have HS := Lib.hid (HR2.out w' (H4.out.2.1.trans (hG.mono H4.out.2.1.size)))
            go_step
            refine HS.out.mono ?_
            rintro e w3_ ⟨sv, ov, rfl, hS, hO, hB⟩
            exact hK _ _ ⟨sv, ov, rfl, hS, hO⟩ (hG.trans (hB.mono hG.size)) hB
          · intro _ _ a w' hG hout hpre K hK
            obtain ⟨p0, _⟩ := hpre
            obtain ⟨sv, ov, hv, hS, hO⟩ := (show RuT (RunL.mk S2 O2 N2 E2) w' (a.eval (.tmp 46)) from p0)
            have q46 := ev_of hv
            clear hout 
            clear hv
            go_step
            exact hK _ _ ⟨sv, ov, rfl, hS, hO⟩ hG (Below.refl _ _)
          · intro _ _ a w' hG hout hpre K hK
            obtain ⟨p0, _⟩ := hpre
            obtain ⟨sv, ov, hv, hS, hO⟩ := (show RuT (RunL.mk S2 O2 N2 E2) w' (a.eval (.tmp 40)) from p0)
            have q40 := ev_of hv
            clear hout 
            clear hv
            go_step
            exact hK _ _ hS hG (Below.refl _ _)
          · intro _ _ a w' hG hout hpre K hK
            obtain ⟨p0, _⟩ := hpre
            obtain ⟨sv, ov, hv, hS, hO⟩ := (show RuT (RunL.mk S2 O2 N2 E2) w' (a.eval (.tmp 40)) from p0)
            have q40 := ev_of hv
            clear hout 
            clear hv
            go_step
            exact hK _ _ hO hG (Below.refl _ _)
          · intro _ _ a w' hG hout hpre K hK
            obtain ⟨p0, _⟩ := hpre
            obtain ⟨sv, ov, hv, hS, hO⟩ := (show RuT (RunL.mk S2 O2 N2 E2) w' (a.eval (.tmp 40)) from p0)
            have q40 := ev_of hv
            clear hout 
            clear hv
            go_step
            exact hK _ _ rfl hG (Below.refl _ _)
          · intro _ _ a w' hG hout hpre K hK
            obtain ⟨p0, _⟩ := hpre
            obtain ⟨sv, ov, hv, hS, hO⟩ := (show RuT (RunL.mk S2 O2 N2 E2) w' (a.eval (.tmp 40)) from p0)
            have q40 := ev_of hv
            clear hout 
            clear hv
            go_step
            exact hK _ _ rfl hG (Below.refl _ _)
          · intro _ a w' hG hout hpre K hK
            clear hout hpre
            go_step
            exact hK _ _ ⟨_, rfl, hG.size, by rw [if_pos (by decide)]; exact heap_alloc_new w' _⟩ (hG.trans (((Below.refl _ w').alloc (Nat.le_refl _) _).mono hG.size)) (VLs_keep _ (RuL_keep0 ((Below.refl _ w').alloc (Nat.le_refl _) _)))
          · intro _ a w' hG hout hpre K hK
            obtain ⟨p0, p1, _⟩ := hpre
            obtain ⟨b, hv, hbB, hrow⟩ := (show RuR w4.heap.size (RunL.mk S2 O2 N2 E2) 1 w' (a.eval (.tmp 12)) from p0)
            obtain ⟨pv, l, hv2, hPI, hPG, hPm⟩ := (show HasS w' (a.eval (.tmp 47)) S2 from p1)
            rw [if_pos (by decide)] at hrow
            refine wp_store_row _ (.tmp 12) (.tmp 47) rfl b #[.int .i64 S2.mark, pv] hv hv2 _ _ hrow state_size rfl (state_one hPI.one) ?_
            have hg : w'.grownBy (w'.setRow b #[.int .i64 S2.mark, pv]) (some b) := grown_setRow _ _ _
            exact hK _ _ rfl (hG.trans ⟨hg.os, hg.tape, hg.output, hg.size, fun k hk => hg.block k (by have := hG.size; omega) (by simp; omega)⟩) (VLs_keep _ (RuL_keep rfl hv hrow hbB hg (hrow.reset _ _) (HasS.store ⟨pv, l, rfl, hPI, hPG, hPm⟩ hrow hg)))
          · intro _ _ a w' hG hout hpre K hK
            obtain ⟨p0, _⟩ := hpre
            obtain hO := (show HasO w' (a.eval (.tmp 48)) O2 from p0)
            clear hout 
            obtain ⟨vo, hvo⟩ : ∃ v, a.eval (.tmp 48) = v := ⟨_, rfl⟩
            rw [hvo] at hO
            have q48 := ev_of hvo
            go_step
            exact hK _ _ hO hG (Below.refl _ _)
          · intro _ _ a w' hG hout hpre K hK
            obtain ⟨p0, _⟩ := hpre
            have q49 := ev_of (show a.eval (.tmp 49) = .int .i64 N2 from p0)
            clear hout p0
            go_step
            exact hK _ _ rfl hG (Below.refl _ _)
          · intro _ _ a w' hG hout hpre K hK
            obtain ⟨p0, _⟩ := hpre
            have q50 := ev_of (show a.eval (.tmp 50) = .int .i64 E2 from p0)
            clear hout p0
            go_step
            exact hK _ _ rfl hG (Below.refl _ _)
        · intro vs w5 hG hlen hV
          match vs, hlen, hV with
          | [v0, v1, v2, v3, v4, v5, v6, v7, v8, v9, v10, v11, v12, v13, v14, v15], _, hV =>
            obtain ⟨tb2, hvb, hTB, hrow⟩ := (show RuR w4.heap.size (RunL.mk S2 O2 N2 E2) 2 w5 v11 from hV 11 12 v11 rfl rfl)
            rw [if_neg (by decide)] at hrow
            obtain ⟨m2, pv2, hrow, hS⟩ := hrow
            have hO := (show HasO w5 v13 O2 from hV 13 13 v13 rfl rfl)
            obtain rfl : v14 = .int .i64 N2 := hV 14 14 v14 rfl rfl
            obtain rfl : v15 = .int .i64 E2 := hV 15 15 v15 rfl rfl
            subst hvb
            clear hV
            obtain ⟨o2, ho2⟩ : ∃ o, o = v13 := ⟨_, rfl⟩
            rw [← ho2] at hO
            rw [← ho2]
            have HN2 : Hid (Below w4.heap.size w4 w5 ∧ RowS w5 tb2 m2 pv2 ∧ HasS w5 (.agg #[.int .i64 m2, pv2]) S2 ∧ HasO w5 o2 O2) := Lib.hid ⟨hG, hrow, hS, hO⟩
            clear hrow hS hO hG hTB ho2
            simp only [putsL, List.tail_cons, List.headD_cons]
            simp only [Act.put, List.setIfInBounds_toArray, List.set_cons_succ, List.set_cons_zero]
            have H5 : Hid (RowQ w5 qb Q ∧ Below w.heap.size w w5 ∧ RowS w5 tb1 m1 pv1 ∧ HasS w5 (.agg #[.int .i64 m1, pv1]) S1 ∧ HasO w5 o1 O1 ∧ RowS w5 tb2 m2 pv2 ∧ HasS w5 (.agg #[.int .i64 m2, pv2]) S2 ∧ HasO w5 o2 O2) := Lib.hid ⟨H4.out.1.below HN2.out.1, H4.out.2.1.trans (HN2.out.1.mono H4.out.2.1.size), H4.out.2.2.1.below HN2.out.1, H4.out.2.2.2.1.below HN2.out.1, H4.out.2.2.2.2.below HN2.out.1, HN2.out.2⟩
            clear HN2 HG4 HQw4 H4 HSl
            have HFt : Hid ((outsFit O1 ∧ O1.length ≤ 1000000 ∧ comeOk Q S1.panes 256) ∧ outsFit O2 ∧ O2.length ≤ 1000000 ∧ comeOk Q S2.panes 256) := by
              obtain ⟨hkey, hlen, hKN⟩ := HKey.out
              obtain ⟨k1, k2, k3⟩ := runQ_fit (q := Q) (s := newS) (its := its) (newS_ok Q) hkey
              obtain ⟨j1, j2, j3⟩ := runQ_fit (q := Q) (s := newS) (its := its.take kc) (newS_ok Q) (fun x hx => hkey x (List.mem_of_mem_take hx))
              rw [← HRe.out.1] at k1 k2 k3
              rw [← HRe.out.2] at j1 j2 j3
              have hlk : (its.take kc).length ≤ its.length := by rw [List.length_take]; omega
              simp only at k1 k2 k3 j1 j2 j3
              exact Lib.hid ⟨⟨k1, by omega, k3⟩, j1, by omega, j3⟩
            have HCut := Lib.hid (run_cut Q newS its kc (by have := HA.out.2.1; have := HKey.out.2.2; omega) HKey.out.1)
            by_cases he2 : E2 = 0
            · subst he2
              obtain ⟨r3, hr3⟩ : ∃ r, r = runQ Q S2 (its.drop kc) := ⟨_, rfl⟩
              obtain ⟨S3, O3, N3, E3⟩ := r3
              have hcut := HCut.out.2
              rw [← HRe.out.1, ← HRe.out.2] at hcut
              have hcut2 := hcut rfl
              simp only at hcut2
              rw [← hr3] at hcut2
              simp only at hcut2
              obtain ⟨rfl, he13, rfl, hs13, rfl⟩ := hcut2
              have he13 := he13.symm
              have hs13 := hs13.symm
              subst he13 hs13
              have hn3 : 0 ≤ N3 ∧ N3 ≤ 3000 := by
                have h := runQ_nb Q S2 (its.drop kc)
                rw [← hr3, List.length_drop] at h
                have := HKey.out.2.1
                simp only at h
                omega
              have hkc : kc ≤ 3000 := by have := HKey.out; have := HA.out.2.1; omega
              obtain ⟨n5, hn5⟩ : ∃ n, n = N - kc := ⟨_, rfl⟩
              have hff : ∃ a5 c5, (∀ w', (Instr.slice 24 (.slice ia N ic) (some (.int .i64 (kc : Int))) none none).run Tryz.prog w' = .ok (.slice a5 n5 c5) w') ∧ ItemsAt w5 a5 (its.drop kc) := by
                rw [hn5]
                exact items_from (HA.out.1.below H5.out.2.1) N ic kc HA.out.2.1 HKey.out.2.2 HA.out.2.2.2.1 HA.out.2.2.2.2
              obtain ⟨a5, c5, hsl, hI5⟩ := hff
              have HSl : Hid ((∀ w', (Instr.slice 24 (.slice ia N ic) (some (.int .i64 (kc : Int))) none none).run Tryz.prog w' = .ok (.slice a5 n5 c5) w') ∧ ItemsAt w5 a5 (its.drop kc)) := Lib.hid ⟨hsl, hI5⟩
              have HR3 : Hid (∀ w', Below w5.heap.size w5 w' → Calls Tryz.prog 8 #[.agg #[.int .i64 kind, .int .i64 size, .int .i64 slide, .int .i64 late, .int .i64 agg, .int .i64 kq], .agg #[.int .i64 m2, pv2], .slice a5 n5 c5] w' (RunEnd w' ⟨S3, O3, N3, E3⟩)) := by
                refine Lib.hid (fun w' hB => ?_)
                have hln : (its.drop kc).length = n5 := by rw [List.length_drop, hn5]; have := HA.out.2.1; omega
                have h := run_of (q := Q) (ia := a5) (ic := c5) (H5.out.2.2.2.2.2.2.1.below hB) HFt.out.2.2.2 (HSl.out.2.below hB) (fun x hx => HKey.out.1 x (List.mem_of_mem_drop hx)) (by rw [List.length_drop]; have := HKey.out.2.1; omega)
                rw [hln, ← hr3, HQe.out] at h
                exact h
              have HF3 : Hid (outsFit O3 ∧ O3.length ≤ 500000 ∧ O2.length ≤ 500000 ∧ comeOk Q S3.panes 256) := by
                obtain ⟨k1, k2, k3⟩ := runQ_fit (q := Q) (s := S2) (its := its.drop kc) HFt.out.2.2.2 (fun x hx => HKey.out.1 x (List.mem_of_mem_drop hx))
                obtain ⟨j1, j2, j3⟩ := runQ_fit (q := Q) (s := newS) (its := its.take kc) (newS_ok Q) (fun x hx => HKey.out.1 x (List.mem_of_mem_take hx))
                rw [← hr3] at k1 k2 k3
                rw [← HRe.out.2] at j2
                have hld := HKey.out.2.1
                rw [List.length_drop] at k2
                have hlk : (its.take kc).length ≤ its.length := by rw [List.length_take]; omega
                have hlt : its.length ≤ 1500 := HKey2.out
                simp only at k1 k2 k3 j2
                exact Lib.hid ⟨k1, by omega, by omega, k3⟩
              have HQw5 : Hid (∀ w', Below w5.heap.size w5 w' → D6 w' qb kind size slide late agg kq) := Lib.hid (fun w' h => HQd.out w' (H5.out.1.below h))
              have HG5 : Hid (Below w5.heap.size w5 w5.drew) := Lib.hid (Below.refl _ w5).drew
              clear hcut hr3 hsl hI5 hn5 HR1 HR2 HCut HRe
              go_upto_region 10 with (fail)
              refine wp_region_skipA (fun i => ([] : List Nat).contains i) (by kernel_rfl) [none, none, none, none, none, none, none, none, none, none, none, some 0, some 1, none, none, none] [11, 12] (VLs ((Value.agg #[.int .i64 kind, .int .i64 size, .int .i64 slide, .int .i64 late, .int .i64 agg, .int .i64 kq]) :: (Value.agg #[.int .i64 m2, pv2]) :: (Value.slice ia N ic) :: (Value.int .i64 (kc : Int)) :: (Value.slice a5 n5 c5) :: undef :: undef :: undef :: undef :: (Value.int .i64 N3) :: (Value.int .i64 E3) :: undef :: undef :: undef :: (Value.int .i64 N3) :: (Value.int .i64 E3) :: ([] : List Value)) (RuL 5 w5.heap.size (RunL.mk S3 O3 N3 E3))) (fun _ w' => Below w5.heap.size w5 w') (fun w w' => Below w.heap.size w w') (VLs_le _ _ RuL_le) (by kernel_rfl) (by kernel_rfl) (by kernel_rfl) HG5.out (fun _ => ⟨rfl, rfl, rfl, rfl, rfl, rfl, rfl, rfl, rfl, rfl, rfl, rfl, rfl, rfl, rfl, rfl, trivial⟩) (fun _ h => by simp at h) ?_ ?_
              · refine ⟨?_, ?_, ?_, ?_, ?_, ?_, ?_, ?_, ?_, ?_, ?_, ?_, ?_, ?_, ?_, ?_, trivial⟩
                · intro _ _ a w' hG hout hpre K hK
                  have q3 := ev_of ((hout 3 rfl).trans (show _ = .pointer (some ⟨qb, 0, none⟩) from rfl))
                  obtain ⟨d0, d1, d2, d3, d4, d5⟩ := HQw5.out w' hG
                  clear hout hpre
                  go_step
                  exact hK _ _ rfl hG (Below.refl _ _)
                · intro _ _ a w' hG hout hpre K hK
                  have q12 := ev_of ((hout 12 rfl).trans (show _ = .pointer (some ⟨tb2, 0, none⟩) from rfl))
                  obtain ⟨d0, d1⟩ := (H5.out.2.2.2.2.2.1.below hG).d2
                  clear hout hpre
                  go_step
                  exact hK _ _ rfl hG (Below.refl _ _)
                · intro _ _ a w' hG hout hpre K hK
                  have q1 := ev_of ((hout 1 rfl).trans (show _ = .slice ia N ic from rfl))
                  clear hout hpre
                  go_step
                  exact hK _ _ rfl hG (Below.refl _ _)
                · intro _ _ a w' hG hout hpre K hK
                  have q7 := ev_of ((hout 7 rfl).trans (show _ = .int .i64 (kc : Int) from rfl))
                  clear hout hpre
                  go_step
                  exact hK _ _ rfl hG (Below.refl _ _)
                · intro _ _ a w' hG hout hpre K hK
                  obtain ⟨p0, p1, _⟩ := hpre
                  have q74 := ev_of (show a.eval (.tmp 74) = .slice ia N ic from p0)
                  have q75 := ev_of (show a.eval (.tmp 75) = .int .i64 (kc : Int) from p1)
                  have hsl := HSl.out.1
                  clear hout p0 p1
                  go_step
                  exact hK _ _ rfl hG (Below.refl _ _)
                · intro _ _ a w' hG hout hpre K hK
                  obtain ⟨p0, p1, p2, _⟩ := hpre
                  have q72 := ev_of (show a.eval (.tmp 72) = .agg #[.int .i64 kind, .int .i64 size, .int .i64 slide, .int .i64 late, .int .i64 agg, .int .i64 kq] from p0)
                  have q73 := ev_of (show a.eval (.tmp 73) = .agg #[.int .i64 m2, pv2] from p1)
                  have q76 := ev_of (show a.eval (.tmp 76) = .slice a5 n5 c5 from p2)
                  clear hout p0 p1 p2
                  have HS := Lib.hid (HR3.out w' hG)
                  go_step
                  refine HS.out.mono ?_
                  rintro e w3_ ⟨sv, ov, rfl, hS, hO, hB⟩
                  exact hK _ _ ⟨sv, ov, rfl, hS, hO⟩ (hG.trans (hB.mono hG.size)) hB
                · intro _ _ a w' hG hout hpre K hK
                  obtain ⟨p0, _⟩ := hpre
                  obtain ⟨sv, ov, hv, hS, hO⟩ := (show RuT (RunL.mk S3 O3 N3 E3) w' (a.eval (.tmp 77)) from p0)
                  have q77 := ev_of hv
                  clear hout 
                  clear hv
                  go_step
                  exact hK _ _ ⟨sv, ov, rfl, hS, hO⟩ hG (Below.refl _ _)
                · intro _ _ a w' hG hout hpre K hK
                  obtain ⟨p0, _⟩ := hpre
                  obtain ⟨sv, ov, hv, hS, hO⟩ := (show RuT (RunL.mk S3 O3 N3 E3) w' (a.eval (.tmp 71)) from p0)
                  have q71 := ev_of hv
                  clear hout 
                  clear hv
                  go_step
                  exact hK _ _ hS hG (Below.refl _ _)
                · intro _ _ a w' hG hout hpre K hK
                  obtain ⟨p0, _⟩ := hpre
                  obtain ⟨sv, ov, hv, hS, hO⟩ := (show RuT (RunL.mk S3 O3 N3 E3) w' (a.eval (.tmp 71)) from p0)
                  have q71 := ev_of hv
                  clear hout 
                  clear hv
                  go_step
                  exact hK _ _ hO hG (Below.refl _ _)
                · intro _ _ a w' hG hout hpre K hK
                  obtain ⟨p0, _⟩ := hpre
                  obtain ⟨sv, ov, hv, hS, hO⟩ := (show RuT (RunL.mk S3 O3 N3 E3) w' (a.eval (.tmp 71)) from p0)
                  have q71 := ev_of hv
                  clear hout 
                  clear hv
                  go_step
                  exact hK _ _ rfl hG (Below.refl _ _)
                · intro _ _ a w' hG hout hpre K hK
                  obtain ⟨p0, _⟩ := hpre
                  obtain ⟨sv, ov, hv, hS, hO⟩ := (show RuT (RunL.mk S3 O3 N3 E3) w' (a.eval (.tmp 71)) from p0)
                  have q71 := ev_of hv
                  clear hout 
                  clear hv
                  go_step
                  exact hK _ _ rfl hG (Below.refl _ _)
                · intro _ a w' hG hout hpre K hK
                  clear hout hpre
                  go_step
                  exact hK _ _ ⟨_, rfl, hG.size, by rw [if_pos (by decide)]; exact heap_alloc_new w' _⟩ (hG.trans (((Below.refl _ w').alloc (Nat.le_refl _) _).mono hG.size)) (VLs_keep _ (RuL_keep0 ((Below.refl _ w').alloc (Nat.le_refl _) _)))
                · intro _ a w' hG hout hpre K hK
                  obtain ⟨p0, p1, _⟩ := hpre
                  obtain ⟨b, hv, hbB, hrow⟩ := (show RuR w5.heap.size (RunL.mk S3 O3 N3 E3) 1 w' (a.eval (.tmp 16)) from p0)
                  obtain ⟨pv, l, hv2, hPI, hPG, hPm⟩ := (show HasS w' (a.eval (.tmp 78)) S3 from p1)
                  rw [if_pos (by decide)] at hrow
                  refine wp_store_row _ (.tmp 16) (.tmp 78) rfl b #[.int .i64 S3.mark, pv] hv hv2 _ _ hrow state_size rfl (state_one hPI.one) ?_
                  have hg : w'.grownBy (w'.setRow b #[.int .i64 S3.mark, pv]) (some b) := grown_setRow _ _ _
                  exact hK _ _ rfl (hG.trans ⟨hg.os, hg.tape, hg.output, hg.size, fun k hk => hg.block k (by have := hG.size; omega) (by simp; omega)⟩) (VLs_keep _ (RuL_keep rfl hv hrow hbB hg (hrow.reset _ _) (HasS.store ⟨pv, l, rfl, hPI, hPG, hPm⟩ hrow hg)))
                · intro _ _ a w' hG hout hpre K hK
                  obtain ⟨p0, _⟩ := hpre
                  obtain hO := (show HasO w' (a.eval (.tmp 79)) O3 from p0)
                  clear hout 
                  obtain ⟨vo, hvo⟩ : ∃ v, a.eval (.tmp 79) = v := ⟨_, rfl⟩
                  rw [hvo] at hO
                  have q79 := ev_of hvo
                  go_step
                  exact hK _ _ hO hG (Below.refl _ _)
                · intro _ _ a w' hG hout hpre K hK
                  obtain ⟨p0, _⟩ := hpre
                  have q80 := ev_of (show a.eval (.tmp 80) = .int .i64 N3 from p0)
                  clear hout p0
                  go_step
                  exact hK _ _ rfl hG (Below.refl _ _)
                · intro _ _ a w' hG hout hpre K hK
                  obtain ⟨p0, _⟩ := hpre
                  have q81 := ev_of (show a.eval (.tmp 81) = .int .i64 E3 from p0)
                  clear hout p0
                  go_step
                  exact hK _ _ rfl hG (Below.refl _ _)
              · intro vs w6 hG hlen hV
                match vs, hlen, hV with
                | [v0, v1, v2, v3, v4, v5, v6, v7, v8, v9, v10, v11, v12, v13, v14, v15], _, hV =>
                  obtain ⟨tb3, hvb, hTB, hrow⟩ := (show RuR w5.heap.size (RunL.mk S3 O3 N3 E3) 2 w6 v11 from hV 11 16 v11 rfl rfl)
                  rw [if_neg (by decide)] at hrow
                  obtain ⟨m3, pv3, hrow, hS⟩ := hrow
                  have hO := (show HasO w6 v13 O3 from hV 13 17 v13 rfl rfl)
                  obtain rfl : v14 = .int .i64 N3 := hV 14 18 v14 rfl rfl
                  obtain rfl : v15 = .int .i64 E3 := hV 15 19 v15 rfl rfl
                  subst hvb
                  clear hV
                  obtain ⟨o3, ho3⟩ : ∃ o, o = v13 := ⟨_, rfl⟩
                  rw [← ho3] at hO
                  rw [← ho3]
                  have HN3 : Hid (Below w5.heap.size w5 w6 ∧ RowS w6 tb3 m3 pv3 ∧ HasS w6 (.agg #[.int .i64 m3, pv3]) S3 ∧ HasO w6 o3 O3) := Lib.hid ⟨hG, hrow, hS, hO⟩
                  clear hrow hS hO hG hTB ho3
                  simp only [putsL, List.tail_cons, List.headD_cons]
                  simp only [Act.put, List.setIfInBounds_toArray, List.set_cons_succ, List.set_cons_zero]
                  have H6 : Hid (Below w.heap.size w w6 ∧ RowS w6 tb1 m1 pv1 ∧ HasS w6 (.agg #[.int .i64 m1, pv1]) S3 ∧ HasO w6 o1 (O2 ++ O3) ∧ HasO w6 o2 O2 ∧ RowS w6 tb3 m3 pv3 ∧ HasS w6 (.agg #[.int .i64 m3, pv3]) S3 ∧ HasO w6 o3 O3) := Lib.hid ⟨H5.out.2.1.trans (HN3.out.1.mono H5.out.2.1.size), H5.out.2.2.1.below HN3.out.1, H5.out.2.2.2.1.below HN3.out.1, H5.out.2.2.2.2.1.below HN3.out.1, H5.out.2.2.2.2.2.2.2.below HN3.out.1, HN3.out.2⟩
                  clear HN3 HG5 HQw5 H5 HSl HR3
                  have HSm : Hid (Calls Tryz.prog 16 #[.agg #[.int .i64 m1, pv1], .agg #[.int .i64 m3, pv3]] w6 (Below0 w6 (.bool true))) := by
                    have h := same_of H6.out.2.2.1 H6.out.2.2.2.2.2.2.1 HFt.out.1.2.2 HF3.out.2.2.2
                    rw [decide_eq_true rfl] at h
                    exact Lib.hid h
                  obtain ⟨e0, e1⟩ := H6.out.2.1.d2
                  obtain ⟨f0, f1⟩ := H6.out.2.2.2.2.2.1.d2
                  have hee : (E3 == E3) = true := by simp
                  obtain ⟨xa, xc, lx, rfl, hxl, hxo, hxg, hxe⟩ := H6.out.2.2.2.2.1.open
                  obtain ⟨ya, yc, ly, rfl, hyl, hyo, hyg, hye⟩ := H6.out.2.2.2.2.2.2.2.open
                  obtain ⟨nx, hnx⟩ : ∃ n, n = lx.length := ⟨_, rfl⟩
                  obtain ⟨ny, hny⟩ : ∃ n, n = ly.length := ⟨_, rfl⟩
                  rw [← hnx, ← hny]
                  have HX : Hid (OutsAt w6 xa lx ∧ (∀ x ∈ lx, GoodO w6 x) ∧ O2 = lx.map OutV.o ∧ OutsAt w6 ya ly ∧ (∀ x ∈ ly, GoodO w6 x) ∧ O3 = ly.map OutV.o ∧ nx = lx.length ∧ ny = ly.length ∧ lx.length + ly.length ≤ 1000000) := Lib.hid ⟨hxo, hxg, hxe, hyo, hyg, hye, hnx, hny, by have := HF3.out.2.1; have := HF3.out.2.2.1; omega⟩
                  clear hxl hxo hxg hxe hyl hyo hyg hye hnx hny
                  go_upto_region 11 with (fail)
                  refine wp_region_lit ?_
                  iterate 44 go_step
                  refine wpList_taken rfl fun K hK => ?_
                  go_step
                  refine HSm.out.mono ?_
                  rintro e w7 ⟨rfl, hB⟩
                  refine hK _ _ ?_
                  have H7 : Hid (Below w.heap.size w w7 ∧ HasO w7 o1 (O2 ++ O3) ∧ OutsAt w7 xa lx ∧ OutsAt w7 ya ly ∧ (∀ x ∈ lx, GoodO w7 x) ∧ ∀ x ∈ ly, GoodO w7 x) := by
                    obtain ⟨k1, _, _, k4, _⟩ := H6.out
                    exact Lib.hid ⟨k1.trans (hB.mono k1.size), k4.below hB, HX.out.1.below hB, HX.out.2.2.2.1.below hB, fun x hx => (HX.out.2.1 x hx).below hB, fun x hx => (HX.out.2.2.2.2.1 x hx).below hB⟩
                  clear hB e0 e1 f0 f1 HSm H6 hK
                  iterate 8 go_step
                  iterate 2 go_step
                  obtain ⟨w8, hw8⟩ : ∃ W, W = w7.alloc (.cells #[] 50) := ⟨_, rfl⟩
                  obtain ⟨gb, hgb⟩ : ∃ b, b = w7.heap.size := ⟨_, rfl⟩
                  have H8 : Hid (OwnO w8 w7.heap.size (.slice (some ⟨gb, 0, none⟩) 0 0) [] ∧ Below w7.heap.size w7 w8) := by
                    rw [hw8, hgb]
                    exact Lib.hid ⟨OwnO.new0 w7 _ (Nat.le_refl _), (Below.refl _ w7).alloc (Nat.le_refl _) _⟩
                  rw [← hw8, ← hgb]
                  clear hw8 hgb
                  iterate 2 go_step
                  refine wpList_taken rfl fun K hK => ?_
                  refine wp_appendO (.tmp 104) (.tmp 105) rfl w7.heap.size (.slice (some ⟨gb, 0, none⟩) 0 0) [] lx rfl H8.out.1 xa xc nx HX.out.2.2.2.2.2.2.1 rfl (H7.out.2.2.1.below H8.out.2) (by have := HX.out.2.2.2.2.2.2.2.2; simp; omega) H8.out.2.size ?_
                  intro v9 w9 g1 g2 g3
                  refine hK _ _ ?_
                  have H9 : Hid (OwnO w9 w7.heap.size v9 lx ∧ Below w7.heap.size w7 w9) := Lib.hid ⟨by simpa using g1, H8.out.2.trans (OwnO.below H8.out.1 g2 H8.out.2.size)⟩
                  clear g1 g2 g3 hK H8
                  iterate 2 go_step
                  refine wpList_taken rfl fun K hK => ?_
                  refine wp_appendO (.tmp 106) (.tmp 107) rfl w7.heap.size v9 lx ly rfl H9.out.1 ya yc ny HX.out.2.2.2.2.2.2.2.1 rfl (H7.out.2.2.2.1.below H9.out.2) HX.out.2.2.2.2.2.2.2.2 H9.out.2.size ?_
                  intro v10 w10 g1 g2 g3
                  refine hK _ _ ?_
                  have H10 : Hid (OwnO w10 w7.heap.size v10 (lx ++ ly) ∧ Below w7.heap.size w7 w10) := Lib.hid ⟨g1, H9.out.2.trans (OwnO.below H9.out.1 g2 H9.out.2.size)⟩
                  clear g1 g2 g3 hK H9
                  have HSo : Hid (Calls Tryz.prog 13 #[o1, v10] w10 (Below0 w10 (.bool true))) := by
                    obtain ⟨za, zc, hz1, hz2, hz3⟩ := H10.out.1.form
                    have hO : HasO w10 v10 (O2 ++ O3) := by
                      refine ⟨za, zc, lx ++ ly, hz1, hz2, hz3, fun x hx => ?_, ?_⟩
                      · rcases List.mem_append.1 hx with hx | hx
                        · exact (H7.out.2.2.2.2.1 x hx).below H10.out.2
                        · exact (H7.out.2.2.2.2.2 x hx).below H10.out.2
                      · rw [HX.out.2.2.1, HX.out.2.2.2.2.2.1, List.map_append]
                    have h := sameOuts_of (H7.out.2.1.below H10.out.2) hO HFt.out.1.1 HFt.out.1.1 HFt.out.1.2.1 HFt.out.1.2.1
                    rw [decide_eq_true rfl] at h
                    exact Lib.hid h
                  go_wp2_with (fail)
                  refine HSo.out.mono ?_
                  rintro e w11 ⟨rfl, hB⟩
                  have HZ := Lib.hid (H7.out.1.trans ((H10.out.2.trans (hB.mono H10.out.2.size)).mono H7.out.1.size))
                  clear hB
                  dsimp only
                  go_wp2_with (fail)
                  go_ret
                  exact ⟨rfl, HZ.out⟩
            · have hr12 : RunL.mk S1 O1 N1 E1 = RunL.mk S2 O2 N2 E2 := by
                have h := HCut.out.1
                rw [← HRe.out.1, ← HRe.out.2] at h
                exact h he2
              obtain ⟨rfl, rfl, rfl, rfl⟩ := RunL.mk.inj hr12
              clear hr12 HR1 HR2 HCut HRe
              have hd : (E1 == 0) = false := by simpa using he2
              have hd2 : (E1 != 0) = true := by simpa using he2
              clear he2
              have HSm : Hid (∀ w', Below w5.heap.size w5 w' → Calls Tryz.prog 16 #[.agg #[.int .i64 m1, pv1], .agg #[.int .i64 m2, pv2]] w' (Below0 w' (.bool true))) := by
                refine Lib.hid (fun w' hB => ?_)
                have h := same_of (H5.out.2.2.2.1.below hB) (H5.out.2.2.2.2.2.2.1.below hB) HFt.out.1.2.2 HFt.out.2.2.2
                rw [decide_eq_true rfl] at h
                exact h
              have HSo : Hid (∀ w', Below w5.heap.size w5 w' → Calls Tryz.prog 13 #[o1, o2] w' (Below0 w' (.bool true))) := by
                refine Lib.hid (fun w' hB => ?_)
                have h := sameOuts_of (H5.out.2.2.2.2.1.below hB) (H5.out.2.2.2.2.2.2.2.below hB) HFt.out.1.1 HFt.out.1.1 HFt.out.1.2.1 HFt.out.1.2.1
                rw [decide_eq_true rfl] at h
                exact h
              obtain ⟨e0, e1⟩ := H5.out.2.2.1.d2
              obtain ⟨f0, f1⟩ := H5.out.2.2.2.2.2.1.d2
              go_wp2_with (fail)
              refine (HSm.out w5 (Below.refl _ _)).mono ?_
              rintro e w6 ⟨rfl, hB⟩
              have H6 := Lib.hid hB
              clear hB e0 e1 f0 f1
              dsimp only
              go_wp2_with (fail)
              refine (HSo.out w6 H6.out).mono ?_
              rintro e w7 ⟨rfl, hB⟩
              have HZ := Lib.hid (H5.out.2.1.trans ((H6.out.trans (hB.mono H6.out.size)).mono H5.out.2.1.size))
              clear hB
              dsimp only
              go_wp2_with (fail)
              go_ret
              exact ⟨rfl, HZ.out⟩
end Go.Proofs.YtjeeghafachebaaGreat
