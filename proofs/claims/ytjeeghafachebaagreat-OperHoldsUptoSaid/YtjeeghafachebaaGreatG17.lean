/-
  Part 17 of 53 of what the proof leans on.
-/
import Derived.Test.YtjeeghafachebaaGreatG15
import Derived.Test.YtjeeghafachebaaGreatG12
import Derived.Test.YtjeeghafachebaaGreatG16
import Derived.IntWalk
namespace Go.Proofs.YtjeeghafachebaaGreat
open Go Go.RowKit
set_option maxRecDepth 100000 in
set_option maxHeartbeats 2000000 in
theorem aright_any (w : World) (q : QueryL) (x : AggL) (tv z : Value) (hT : IntsAt w tv x.top) (hz : WholeZ z x.u x.v) (hn : x.top.length ≤ 1000000) :
    Calls Tryz.prog 32 #[.agg q.cells, .agg (aggC x.n x.a tv z)] w (Below0 w (.bool (x.rightB q))) := by
  obtain ⟨P, hP⟩ : ∃ P, P = Below0 w (.bool (x.rightB q)) := ⟨_, rfl⟩; rw [← hP]; rw [rightA_parts] at hP; obtain ⟨n, av, l, u, v⟩ := x; simp only at hT hz hn hP ⊢; have HT := Lib.hid hT; obtain ⟨ta, tc, rfl, _, _⟩ := hT; obtain ⟨L, hL⟩ : ∃ m, m = l.length := ⟨_, rfl⟩; rw [← hL] at hP HT hn ⊢; obtain ⟨r1, hr1⟩ : ∃ b, b = q.rightB := ⟨_, rfl⟩; obtain ⟨M, hM⟩ : ∃ m, m = mostN q.agg n := ⟨_, rfl⟩; obtain ⟨T, hTn⟩ : ∃ m, m = topsN q.agg q.k n := ⟨_, rfl⟩; obtain ⟨b1, hb1⟩ : ∃ b, b = withinB av M := ⟨_, rfl⟩; obtain ⟨b2, hb2⟩ : ∃ b, b = decide ((L : Int) = T) := ⟨_, rfl⟩; obtain ⟨b3, hb3⟩ : ∃ b, b = fallB l := ⟨_, rfl⟩; obtain ⟨b4, hb4⟩ : ∃ b, b = swingB q.agg n u v := ⟨_, rfl⟩
  have HP : Hid (∀ w' r, Below w.heap.size w w' → r = (r1 && (decide (0 ≤ n ∧ n ≤ 1073741824) && (b1 && (b2 && (b3 && b4))))) → P (.returned (.bool r)) w') := by
    refine Lib.hid (fun w' r h hr => ?_); rw [hP, hr, hr1, hb1, hb2, hb3, hb4, hTn, hM]; exact ⟨rfl, h⟩
  obtain ⟨w1, hw1⟩ : ∃ W, W = (w.alloc (.cells q.cells 23)).alloc (.cells (aggC n av (.slice ta L tc) z) 53) := ⟨_, rfl⟩; obtain ⟨qb, hqb⟩ : ∃ b, b = w.heap.size := ⟨_, rfl⟩; obtain ⟨ab, hab⟩ : ∃ b, b = w.heap.size + 1 := ⟨_, rfl⟩
  have H1 : Hid (RowQ w1 qb q ∧ RowA w1 ab n av (.slice ta L tc) z ∧ Below w.heap.size w w1) := by rw [hw1, hqb, hab]; exact Lib.hid (box_qa w q n av _ z)
  have hs1 : (w.alloc (.cells q.cells 23)).heap.size = w.heap.size + 1 := heap_alloc_size w _; obtain ⟨VQ, hVQ⟩ : ∃ V, V = Value.agg q.cells := ⟨_, rfl⟩; obtain ⟨VA, hVA⟩ : ∃ V, V = Value.agg (aggC n av (.slice ta L tc) z) := ⟨_, rfl⟩
  have HC1 : Hid (∀ w', Calls Tryz.prog 28 #[VQ] w' (Below0 w' (.bool r1))) := by rw [hVQ, hr1]; exact Lib.hid (fun w' => qright_any w' q)
  have HC2 : Hid (∀ w', Calls Tryz.prog 56 #[VQ, .int .i64 n] w' (Below0 w' (.int .i64 M))) := by rw [hVQ, hM]; exact Lib.hid (fun w' => amostA_any w' q n)
  have HC3 : Hid (∀ w', Calls Tryz.prog 55 #[.int .i64 av, .int .i64 M] w' (fun e w'' => e = .returned (.bool b1) ∧ w'' = w')) := by
    have hMb : 0 ≤ M ∧ M ≤ 4611686018427387904 := by
      rw [hM, mostN]; have := mostA_bd q.agg
      split <;> omega
    rw [hb1]; exact Lib.hid (fun w' => awithin_any w' av M hMb)
  have HC4 : Hid (∀ w', Calls Tryz.prog 57 #[VQ, .int .i64 n] w' (Below0 w' (.int .i64 T))) := by rw [hVQ, hTn]; exact Lib.hid (fun w' => atops_any w' q n)
  have HC5 : Hid (∀ w', Below w.heap.size w w' → Calls Tryz.prog 58 #[.slice ta L tc] w' (fun e w'' => e = .returned (.bool b3) ∧ w'' = w')) := by
    rw [hb3]
    exact Lib.hid (fun w' h => afalling_any w' _ l (HT.out.below h) (by omega))
  have HC6 : Hid (∀ w', Calls Tryz.prog 59 #[VQ, VA] w' (Below0 w' (.bool b4))) := by
    rw [hVQ, hVA, hb4]; exact Lib.hid (fun w' => aswing_any w' q n av _ z u v hz)
  have hLT : ((L : Int) == T) = b2 := by
    rw [hb2]
    by_cases h : (L : Int) = T
    · rw [decide_eq_true h]; simpa using h
    · rw [decide_eq_false h]; simpa using h
  have HLT := Lib.hid hLT; clear hz hn hr1 hM hTn hb1 hb2 hb3 hb4 hL hP hLT; obtain ⟨kind, size, slide, late, agg, k⟩ := q; have HV : Hid (VQ = Value.agg #[.int .i64 kind, .int .i64 size, .int .i64 slide, .int .i64 late, .int .i64 agg, .int .i64 k] ∧ VA = Value.agg #[.int .i64 n, .int .i64 av, .slice ta L tc, z]) := Lib.hid ⟨hVQ, hVA⟩; unfold QueryL.cells at hw1 hs1 ⊢; unfold aggC at hw1 ⊢; simp only at hw1 hs1; clear hVQ hVA; obtain ⟨d0, d1, d2, d3, d4, d5⟩ := H1.out.1.d6; obtain ⟨f0, f1, f2, f3⟩ := H1.out.2.1.d4; simp only at d0 d1 d2 d3 d4 d5
  go_enter Tryz.func32, Tryz.ntmps32
  go_upto_region 1 with (fail)
  rw [← hw1, ← hab, ← hqb]; clear hw1 hqb hab hs1
  have HC1' : Hid (Calls Tryz.prog 28 #[.agg #[.int .i64 kind, .int .i64 size, .int .i64 slide, .int .i64 late, .int .i64 agg, .int .i64 k]] w1 (Below0 w1 (.bool r1))) := by
    have h := HC1.out w1; rw [HV.out.1] at h; exact Lib.hid h
  go_wp2_with (fail); refine HC1'.out.mono ?_; rintro e w2 ⟨rfl, hB⟩; have H2 : Hid (RowQ w2 qb ⟨kind, size, slide, late, agg, k⟩ ∧ RowA w2 ab n av (.slice ta L tc) z ∧ Below w.heap.size w w2) := Lib.hid ⟨H1.out.1.below hB, H1.out.2.1.below hB, H1.out.2.2.trans (hB.mono H1.out.2.2.size)⟩; clear hB d0 d1 d2 d3 d4 d5 f0 f1 f2 f3 H1 HC1 HC1'; obtain ⟨f0, f1, f2, f3⟩ := H2.out.2.1.d4; dsimp only
  cases r1 with
  | false =>
    have HZ := Lib.hid (HP.out w2 false H2.out.2.2 rfl); go_wp2_with (fail); exact HZ.out
  | true =>
  by_cases h1 : n < 0
  · have HZ := Lib.hid (HP.out w2 false H2.out.2.2 (by rw [decide_eq_false (by omega)]; rfl))
    go_wp2_with (fail); exact HZ.out
  have e1 : decide (n < 0) = false := decide_eq_false h1
  by_cases h2 : (1073741824 : Int) < n
  · have HZ := Lib.hid (HP.out w2 false H2.out.2.2 (by rw [decide_eq_false (by omega)]; rfl))
    clear h1; go_wp2_with (fail); exact HZ.out
  have e2 : decide ((1073741824 : Int) < n) = false := decide_eq_false h2
  have HPr : Hid (∀ w' r, Below w2.heap.size w2 w' → r = (b1 && (b2 && (b3 && b4))) → P (.returned (.bool r)) w') := by
    refine Lib.hid (fun w' r h hr => HP.out w' r (H2.out.2.2.trans (h.mono H2.out.2.2.size)) ?_)
    rw [decide_eq_true (show 0 ≤ n ∧ n ≤ 1073741824 by omega), hr]
    rfl
  clear h1 h2
  go_upto_region 3 with (fail)
  clear f0 f1 f2 f3 e1 e2; have HR : Hid (∀ w', Below w2.heap.size w2 w' → D6 w' qb kind size slide late agg k ∧ D4 w' ab n av (.slice ta L tc) z) := Lib.hid (fun w' h => ⟨(H2.out.1.below h).d6, (H2.out.2.1.below h).d4⟩); have HC5' : Hid (∀ w', Below w2.heap.size w2 w' → Calls Tryz.prog 58 #[.slice ta L tc] w' (fun e w'' => e = .returned (.bool b3) ∧ w'' = w')) := Lib.hid (fun w' h => HC5.out w' (H2.out.2.2.trans (h.mono H2.out.2.2.size))); have HG0 : Hid (Below w2.heap.size w2 w2.drew) := (Below.refl _ w2).drew; clear HC5 H2 HP
  cases b1 with
  | false =>
    refine wp_region_skip_frame (fun i => ([8, 9, 10, 11, 12, 13, 14, 15, 18, 19, 20, 23, 24, 25] : List Nat).contains i) (by kernel_rfl) [none, none, none, none, none, none, none, none, none, none, none, none, none, none, none, none, none, none, none, none, none, none, none, none, none, none, none, none] [] (fun i_ _ _ v_ => v_ = (((Value.pointer (some ⟨ab, 1, none⟩)) :: (Value.int .i64 av) :: VQ :: (Value.pointer (some ⟨ab, 0, none⟩)) :: (Value.int .i64 n) :: (Value.int .i64 M) :: (Value.bool false) :: (Value.bool false) :: undef :: undef :: undef :: undef :: undef :: undef :: undef :: undef :: (Value.bool false) :: (Value.bool false) :: undef :: undef :: undef :: (Value.bool false) :: (Value.bool false) :: undef :: undef :: undef :: (Value.bool false) :: (Value.bool false) :: ([] : List Value))).getD i_ undef) (fun _ w' => Below w2.heap.size w2 w') (fun w w' => Below w.heap.size w w') (fun _ _ _ _ _ _ h => h) (by kernel_rfl) (by kernel_rfl) (by kernel_rfl) HG0.out (fun _ => ⟨rfl, rfl, rfl, rfl, rfl, rfl, rfl, rfl, fun _ _ h => .inl h, fun _ _ h => .inl h, fun _ _ h => .inl h, fun _ _ h => .inl h, fun _ _ h => .inl h, fun _ _ h => .inl h, fun _ _ h => .inl h, fun _ _ h => .inl h, rfl, rfl, fun _ _ h => .inl h, fun _ _ h => .inl h, fun _ _ h => .inl h, rfl, rfl, fun _ _ h => .inl h, fun _ _ h => .inl h, fun _ _ h => .inl h, rfl, rfl, trivial⟩) (fun i hi => by have hm := List.contains_iff_mem.1 hi; simp only [List.mem_cons, List.not_mem_nil, or_false] at hm; rcases hm with rfl | rfl | rfl | rfl | rfl | rfl | rfl | rfl | rfl | rfl | rfl | rfl | rfl | rfl <;> exact ⟨rfl, fun _ _ => rfl⟩) ?_ ?_
    · refine ⟨?_, ?_, ?_, ?_, ?_, ?_, ?_, ?_, ?_, ?_, ?_, ?_, ?_, ?_, ?_, ?_, ?_, ?_, ?_, ?_, ?_, ?_, ?_, ?_, ?_, ?_, ?_, ?_, trivial⟩
      · intro _ _ a w' hG hout hpre K hK; have q3 := ev_of ((hout 3 rfl).trans (show _ = .pointer (some ⟨ab, 0, none⟩) from rfl)); clear hout hpre; go_step; exact hK _ _ rfl hG (Below.refl _ _)
      · intro _ _ a w' hG hout hpre K hK; obtain ⟨p0, _⟩ := hpre; have q18 := ev_of (show a.eval (.tmp 18) = .pointer (some ⟨ab, 1, none⟩) from p0); obtain ⟨⟨d0, d1, d2, d3, d4, d5⟩, f0, f1, f2, f3⟩ := HR.out w' hG; clear hout p0; go_step; exact hK _ _ rfl hG (Below.refl _ _)
      · intro _ _ a w' hG hout hpre K hK; have q2 := ev_of ((hout 2 rfl).trans (show _ = .pointer (some ⟨qb, 0, none⟩) from rfl)); obtain ⟨⟨d0, d1, d2, d3, d4, d5⟩, f0, f1, f2, f3⟩ := HR.out w' hG; clear hout hpre; go_step; exact hK _ _ HV.out.1.symm hG (Below.refl _ _)
      · intro _ _ a w' hG hout hpre K hK; have q3 := ev_of ((hout 3 rfl).trans (show _ = .pointer (some ⟨ab, 0, none⟩) from rfl)); clear hout hpre; go_step; exact hK _ _ rfl hG (Below.refl _ _)
      · intro _ _ a w' hG hout hpre K hK; obtain ⟨p0, _⟩ := hpre; have q21 := ev_of (show a.eval (.tmp 21) = .pointer (some ⟨ab, 0, none⟩) from p0); obtain ⟨⟨d0, d1, d2, d3, d4, d5⟩, f0, f1, f2, f3⟩ := HR.out w' hG; clear hout p0; go_step; exact hK _ _ rfl hG (Below.refl _ _)
      · intro _ _ a w' hG hout hpre K hK; obtain ⟨p0, p1, _⟩ := hpre; have q20 := ev_of (show a.eval (.tmp 20) = VQ from p0); have q22 := ev_of (show a.eval (.tmp 22) = .int .i64 n from p1); have HS := Lib.hid (HC2.out w'); clear hout p0 p1; go_step; refine HS.out.mono ?_; rintro e w3 ⟨rfl, hB⟩; exact hK _ _ rfl (hG.trans (hB.mono hG.size)) hB
      · intro _ _ a w' hG hout hpre K hK; obtain ⟨p0, p1, _⟩ := hpre; have q19 := ev_of (show a.eval (.tmp 19) = .int .i64 av from p0); have q23 := ev_of (show a.eval (.tmp 23) = .int .i64 M from p1); have HS := Lib.hid (HC3.out w'); clear hout p0 p1; go_step; refine HS.out.mono ?_; rintro e w3 ⟨rfl, hw3⟩; subst w3; exact hK _ _ rfl hG (Below.refl _ _)
      · intro _ _ a w' hG hout hpre K hK; obtain ⟨p0, _⟩ := hpre; have q24 := ev_of (show a.eval (.tmp 24) = .bool false from p0); clear hout p0; go_step; exact hK _ _ rfl hG (Below.refl _ _)
      · exact fun h => absurd h (by decide)
      · exact fun h => absurd h (by decide)
      · exact fun h => absurd h (by decide)
      · exact fun h => absurd h (by decide)
      · exact fun h => absurd h (by decide)
      · exact fun h => absurd h (by decide)
      · exact fun h => absurd h (by decide)
      · exact fun h => absurd h (by decide)
      · intro _ _ a w' hG hout hpre K hK; obtain ⟨p0, p1, _⟩ := hpre; have q25 := ev_of (show a.eval (.tmp 25) = .bool false from p0); have q33 := ev_of (show a.eval (.tmp 33) = undef from p1); clear hout p0 p1; go_step; exact hK _ _ rfl hG (Below.refl _ _)
      · intro _ _ a w' hG hout hpre K hK; obtain ⟨p0, _⟩ := hpre; have q34 := ev_of (show a.eval (.tmp 34) = .bool false from p0); clear hout p0; go_step; exact hK _ _ rfl hG (Below.refl _ _)
      · exact fun h => absurd h (by decide)
      · exact fun h => absurd h (by decide)
      · exact fun h => absurd h (by decide)
      · intro _ _ a w' hG hout hpre K hK; obtain ⟨p0, p1, _⟩ := hpre; have q35 := ev_of (show a.eval (.tmp 35) = .bool false from p0); have q38 := ev_of (show a.eval (.tmp 38) = undef from p1); clear hout p0 p1; go_step; exact hK _ _ rfl hG (Below.refl _ _)
      · intro _ _ a w' hG hout hpre K hK; obtain ⟨p0, _⟩ := hpre; have q39 := ev_of (show a.eval (.tmp 39) = .bool false from p0); clear hout p0; go_step; exact hK _ _ rfl hG (Below.refl _ _)
      · exact fun h => absurd h (by decide)
      · exact fun h => absurd h (by decide)
      · exact fun h => absurd h (by decide)
      · intro _ _ a w' hG hout hpre K hK; obtain ⟨p0, p1, _⟩ := hpre; have q40 := ev_of (show a.eval (.tmp 40) = .bool false from p0); have q43 := ev_of (show a.eval (.tmp 43) = undef from p1); clear hout p0 p1; go_step; exact hK _ _ rfl hG (Below.refl _ _)
      · intro _ _ a w' hG hout hpre K hK; obtain ⟨p0, _⟩ := hpre; have q44 := ev_of (show a.eval (.tmp 44) = .bool false from p0); clear hout p0; go_step; exact hK _ _ rfl hG (Below.refl _ _)
    · intro vs w2_ hG hlen hV
      match vs, hlen, hV with
      | [v0, v1, v2, v3, v4, v5, v6, v7, v8, v9, v10, v11, v12, v13, v14, v15, v16, v17, v18, v19, v20, v21, v22, v23, v24, v25, v26, v27], _, hV =>
        obtain rfl : v27 = .bool false := (hV 27 4 v27 rfl rfl); clear hV; simp only [putsL, List.tail_cons, List.headD_cons]; simp only [Act.put, List.setIfInBounds_toArray, List.set_cons_succ, List.set_cons_zero]
        have HZ := Lib.hid (HPr.out w2_ false hG (by simp))
        clear hG; go_wp2_with (fail); exact HZ.out
  | true =>
  cases b2 with
  | false =>
    refine wp_region_skip_frame (fun i => ([18, 19, 20, 23, 24, 25] : List Nat).contains i) (by kernel_rfl) [none, none, none, none, none, none, none, none, none, none, none, none, none, none, none, none, none, none, none, none, none, none, none, none, none, none, none, none] [] (fun i_ _ _ v_ => v_ = (((Value.pointer (some ⟨ab, 1, none⟩)) :: (Value.int .i64 av) :: VQ :: (Value.pointer (some ⟨ab, 0, none⟩)) :: (Value.int .i64 n) :: (Value.int .i64 M) :: (Value.bool true) :: (Value.bool true) :: (Value.pointer (some ⟨ab, 2, none⟩)) :: (Value.slice ta L tc) :: (Value.int .i64 (L : Int)) :: VQ :: (Value.pointer (some ⟨ab, 0, none⟩)) :: (Value.int .i64 n) :: (Value.int .i64 T) :: (Value.bool false) :: (Value.bool false) :: (Value.bool false) :: undef :: undef :: undef :: (Value.bool false) :: (Value.bool false) :: undef :: undef :: undef :: (Value.bool false) :: (Value.bool false) :: ([] : List Value))).getD i_ undef) (fun _ w' => Below w2.heap.size w2 w') (fun w w' => Below w.heap.size w w') (fun _ _ _ _ _ _ h => h) (by kernel_rfl) (by kernel_rfl) (by kernel_rfl) HG0.out (fun _ => ⟨rfl, rfl, rfl, rfl, rfl, rfl, rfl, rfl, fun _ _ h => .inl h, fun _ _ h => .inl h, fun _ _ h => .inl h, fun _ _ h => .inl h, fun _ _ h => .inl h, fun _ _ h => .inl h, fun _ _ h => .inl h, fun _ _ h => .inl h, rfl, rfl, fun _ _ h => .inl h, fun _ _ h => .inl h, fun _ _ h => .inl h, rfl, rfl, fun _ _ h => .inl h, fun _ _ h => .inl h, fun _ _ h => .inl h, rfl, rfl, trivial⟩) (fun i hi => by have hm := List.contains_iff_mem.1 hi; simp only [List.mem_cons, List.not_mem_nil, or_false] at hm; rcases hm with rfl | rfl | rfl | rfl | rfl | rfl <;> exact ⟨rfl, fun _ _ => rfl⟩) ?_ ?_
    · refine ⟨?_, ?_, ?_, ?_, ?_, ?_, ?_, ?_, ?_, ?_, ?_, ?_, ?_, ?_, ?_, ?_, ?_, ?_, ?_, ?_, ?_, ?_, ?_, ?_, ?_, ?_, ?_, ?_, trivial⟩
      · intro _ _ a w' hG hout hpre K hK; have q3 := ev_of ((hout 3 rfl).trans (show _ = .pointer (some ⟨ab, 0, none⟩) from rfl)); clear hout hpre; go_step; exact hK _ _ rfl hG (Below.refl _ _)
      · intro _ _ a w' hG hout hpre K hK; obtain ⟨p0, _⟩ := hpre; have q18 := ev_of (show a.eval (.tmp 18) = .pointer (some ⟨ab, 1, none⟩) from p0); obtain ⟨⟨d0, d1, d2, d3, d4, d5⟩, f0, f1, f2, f3⟩ := HR.out w' hG; clear hout p0; go_step; exact hK _ _ rfl hG (Below.refl _ _)
      · intro _ _ a w' hG hout hpre K hK; have q2 := ev_of ((hout 2 rfl).trans (show _ = .pointer (some ⟨qb, 0, none⟩) from rfl)); obtain ⟨⟨d0, d1, d2, d3, d4, d5⟩, f0, f1, f2, f3⟩ := HR.out w' hG; clear hout hpre; go_step; exact hK _ _ HV.out.1.symm hG (Below.refl _ _)
      · intro _ _ a w' hG hout hpre K hK; have q3 := ev_of ((hout 3 rfl).trans (show _ = .pointer (some ⟨ab, 0, none⟩) from rfl)); clear hout hpre; go_step; exact hK _ _ rfl hG (Below.refl _ _)
      · intro _ _ a w' hG hout hpre K hK; obtain ⟨p0, _⟩ := hpre; have q21 := ev_of (show a.eval (.tmp 21) = .pointer (some ⟨ab, 0, none⟩) from p0); obtain ⟨⟨d0, d1, d2, d3, d4, d5⟩, f0, f1, f2, f3⟩ := HR.out w' hG; clear hout p0; go_step; exact hK _ _ rfl hG (Below.refl _ _)
      · intro _ _ a w' hG hout hpre K hK; obtain ⟨p0, p1, _⟩ := hpre; have q20 := ev_of (show a.eval (.tmp 20) = VQ from p0); have q22 := ev_of (show a.eval (.tmp 22) = .int .i64 n from p1); have HS := Lib.hid (HC2.out w'); clear hout p0 p1; go_step; refine HS.out.mono ?_; rintro e w3 ⟨rfl, hB⟩; exact hK _ _ rfl (hG.trans (hB.mono hG.size)) hB
      · intro _ _ a w' hG hout hpre K hK; obtain ⟨p0, p1, _⟩ := hpre; have q19 := ev_of (show a.eval (.tmp 19) = .int .i64 av from p0); have q23 := ev_of (show a.eval (.tmp 23) = .int .i64 M from p1); have HS := Lib.hid (HC3.out w'); clear hout p0 p1; go_step; refine HS.out.mono ?_; rintro e w3 ⟨rfl, hw3⟩; subst w3; exact hK _ _ rfl hG (Below.refl _ _)
      · intro _ _ a w' hG hout hpre K hK; obtain ⟨p0, _⟩ := hpre; have q24 := ev_of (show a.eval (.tmp 24) = .bool true from p0); clear hout p0; go_step; exact hK _ _ rfl hG (Below.refl _ _)
      · intro _ _ a w' hG hout hpre K hK; have q3 := ev_of ((hout 3 rfl).trans (show _ = .pointer (some ⟨ab, 0, none⟩) from rfl)); clear hout hpre; go_step; exact hK _ _ rfl hG (Below.refl _ _)
      · intro _ _ a w' hG hout hpre K hK; obtain ⟨p0, _⟩ := hpre; have q26 := ev_of (show a.eval (.tmp 26) = .pointer (some ⟨ab, 2, none⟩) from p0); obtain ⟨⟨d0, d1, d2, d3, d4, d5⟩, f0, f1, f2, f3⟩ := HR.out w' hG; clear hout p0; go_step; exact hK _ _ rfl hG (Below.refl _ _)
      · intro _ _ a w' hG hout hpre K hK; obtain ⟨p0, _⟩ := hpre; have q27 := ev_of (show a.eval (.tmp 27) = .slice ta L tc from p0); clear hout p0; go_step; exact hK _ _ rfl hG (Below.refl _ _)
      · intro _ _ a w' hG hout hpre K hK; have q2 := ev_of ((hout 2 rfl).trans (show _ = .pointer (some ⟨qb, 0, none⟩) from rfl)); obtain ⟨⟨d0, d1, d2, d3, d4, d5⟩, f0, f1, f2, f3⟩ := HR.out w' hG; clear hout hpre; go_step; exact hK _ _ HV.out.1.symm hG (Below.refl _ _)
      · intro _ _ a w' hG hout hpre K hK; have q3 := ev_of ((hout 3 rfl).trans (show _ = .pointer (some ⟨ab, 0, none⟩) from rfl)); clear hout hpre; go_step; exact hK _ _ rfl hG (Below.refl _ _)
      · intro _ _ a w' hG hout hpre K hK; obtain ⟨p0, _⟩ := hpre; have q30 := ev_of (show a.eval (.tmp 30) = .pointer (some ⟨ab, 0, none⟩) from p0); obtain ⟨⟨d0, d1, d2, d3, d4, d5⟩, f0, f1, f2, f3⟩ := HR.out w' hG; clear hout p0; go_step; exact hK _ _ rfl hG (Below.refl _ _)
      · intro _ _ a w' hG hout hpre K hK; obtain ⟨p0, p1, _⟩ := hpre; have q29 := ev_of (show a.eval (.tmp 29) = VQ from p0); have q31 := ev_of (show a.eval (.tmp 31) = .int .i64 n from p1); have HS := Lib.hid (HC4.out w'); clear hout p0 p1; go_step; refine HS.out.mono ?_; rintro e w3 ⟨rfl, hB⟩; exact hK _ _ rfl (hG.trans (hB.mono hG.size)) hB
      · intro _ _ a w' hG hout hpre K hK; obtain ⟨p0, p1, _⟩ := hpre; have q28 := ev_of (show a.eval (.tmp 28) = .int .i64 (L : Int) from p0); have q32 := ev_of (show a.eval (.tmp 32) = .int .i64 T from p1); have hq := HLT.out; clear hout p0 p1; go_step; exact hK _ _ rfl hG (Below.refl _ _)
      · intro _ _ a w' hG hout hpre K hK; obtain ⟨p0, p1, _⟩ := hpre; have q25 := ev_of (show a.eval (.tmp 25) = .bool true from p0); have q33 := ev_of (show a.eval (.tmp 33) = .bool false from p1); clear hout p0 p1; go_step; exact hK _ _ rfl hG (Below.refl _ _)
      · intro _ _ a w' hG hout hpre K hK; obtain ⟨p0, _⟩ := hpre; have q34 := ev_of (show a.eval (.tmp 34) = .bool false from p0); clear hout p0; go_step; exact hK _ _ rfl hG (Below.refl _ _)
      · exact fun h => absurd h (by decide)
      · exact fun h => absurd h (by decide)
      · exact fun h => absurd h (by decide)
      · intro _ _ a w' hG hout hpre K hK; obtain ⟨p0, p1, _⟩ := hpre; have q35 := ev_of (show a.eval (.tmp 35) = .bool false from p0); have q38 := ev_of (show a.eval (.tmp 38) = undef from p1); clear hout p0 p1; go_step; exact hK _ _ rfl hG (Below.refl _ _)
      · intro _ _ a w' hG hout hpre K hK; obtain ⟨p0, _⟩ := hpre; have q39 := ev_of (show a.eval (.tmp 39) = .bool false from p0); clear hout p0; go_step; exact hK _ _ rfl hG (Below.refl _ _)
      · exact fun h => absurd h (by decide)
      · exact fun h => absurd h (by decide)
      · exact fun h => absurd h (by decide)
      · intro _ _ a w' hG hout hpre K hK; obtain ⟨p0, p1, _⟩ := hpre; have q40 := ev_of (show a.eval (.tmp 40) = .bool false from p0); have q43 := ev_of (show a.eval (.tmp 43) = undef from p1); clear hout p0 p1; go_step; exact hK _ _ rfl hG (Below.refl _ _)
      · intro _ _ a w' hG hout hpre K hK; obtain ⟨p0, _⟩ := hpre; have q44 := ev_of (show a.eval (.tmp 44) = .bool false from p0); clear hout p0; go_step; exact hK _ _ rfl hG (Below.refl _ _)
    · intro vs w2_ hG hlen hV
      match vs, hlen, hV with
      | [v0, v1, v2, v3, v4, v5, v6, v7, v8, v9, v10, v11, v12, v13, v14, v15, v16, v17, v18, v19, v20, v21, v22, v23, v24, v25, v26, v27], _, hV =>
        obtain rfl : v27 = .bool false := (hV 27 4 v27 rfl rfl); clear hV; simp only [putsL, List.tail_cons, List.headD_cons]; simp only [Act.put, List.setIfInBounds_toArray, List.set_cons_succ, List.set_cons_zero]
        have HZ := Lib.hid (HPr.out w2_ false hG (by simp))
        clear hG; go_wp2_with (fail); exact HZ.out
  | true =>
  cases b3 with
  | false =>
    refine wp_region_skip_frame (fun i => ([23, 24, 25] : List Nat).contains i) (by kernel_rfl) [none, none, none, none, none, none, none, none, none, none, none, none, none, none, none, none, none, none, none, none, none, none, none, none, none, none, none, none] [] (fun i_ _ _ v_ => v_ = (((Value.pointer (some ⟨ab, 1, none⟩)) :: (Value.int .i64 av) :: VQ :: (Value.pointer (some ⟨ab, 0, none⟩)) :: (Value.int .i64 n) :: (Value.int .i64 M) :: (Value.bool true) :: (Value.bool true) :: (Value.pointer (some ⟨ab, 2, none⟩)) :: (Value.slice ta L tc) :: (Value.int .i64 (L : Int)) :: VQ :: (Value.pointer (some ⟨ab, 0, none⟩)) :: (Value.int .i64 n) :: (Value.int .i64 T) :: (Value.bool true) :: (Value.bool true) :: (Value.bool true) :: (Value.pointer (some ⟨ab, 2, none⟩)) :: (Value.slice ta L tc) :: (Value.bool false) :: (Value.bool false) :: (Value.bool false) :: undef :: undef :: undef :: (Value.bool false) :: (Value.bool false) :: ([] : List Value))).getD i_ undef) (fun _ w' => Below w2.heap.size w2 w') (fun w w' => Below w.heap.size w w') (fun _ _ _ _ _ _ h => h) (by kernel_rfl) (by kernel_rfl) (by kernel_rfl) HG0.out (fun _ => ⟨rfl, rfl, rfl, rfl, rfl, rfl, rfl, rfl, fun _ _ h => .inl h, fun _ _ h => .inl h, fun _ _ h => .inl h, fun _ _ h => .inl h, fun _ _ h => .inl h, fun _ _ h => .inl h, fun _ _ h => .inl h, fun _ _ h => .inl h, rfl, rfl, fun _ _ h => .inl h, fun _ _ h => .inl h, fun _ _ h => .inl h, rfl, rfl, fun _ _ h => .inl h, fun _ _ h => .inl h, fun _ _ h => .inl h, rfl, rfl, trivial⟩) (fun i hi => by have hm := List.contains_iff_mem.1 hi; simp only [List.mem_cons, List.not_mem_nil, or_false] at hm; rcases hm with rfl | rfl | rfl <;> exact ⟨rfl, fun _ _ => rfl⟩) ?_ ?_
    · refine ⟨?_, ?_, ?_, ?_, ?_, ?_, ?_, ?_, ?_, ?_, ?_, ?_, ?_, ?_, ?_, ?_, ?_, ?_, ?_, ?_, ?_, ?_, ?_, ?_, ?_, ?_, ?_, ?_, trivial⟩
      · intro _ _ a w' hG hout hpre K hK; have q3 := ev_of ((hout 3 rfl).trans (show _ = .pointer (some ⟨ab, 0, none⟩) from rfl)); clear hout hpre; go_step; exact hK _ _ rfl hG (Below.refl _ _)
      · intro _ _ a w' hG hout hpre K hK; obtain ⟨p0, _⟩ := hpre; have q18 := ev_of (show a.eval (.tmp 18) = .pointer (some ⟨ab, 1, none⟩) from p0); obtain ⟨⟨d0, d1, d2, d3, d4, d5⟩, f0, f1, f2, f3⟩ := HR.out w' hG; clear hout p0; go_step; exact hK _ _ rfl hG (Below.refl _ _)
      · intro _ _ a w' hG hout hpre K hK; have q2 := ev_of ((hout 2 rfl).trans (show _ = .pointer (some ⟨qb, 0, none⟩) from rfl)); obtain ⟨⟨d0, d1, d2, d3, d4, d5⟩, f0, f1, f2, f3⟩ := HR.out w' hG; clear hout hpre; go_step; exact hK _ _ HV.out.1.symm hG (Below.refl _ _)
      · intro _ _ a w' hG hout hpre K hK; have q3 := ev_of ((hout 3 rfl).trans (show _ = .pointer (some ⟨ab, 0, none⟩) from rfl)); clear hout hpre; go_step; exact hK _ _ rfl hG (Below.refl _ _)
      · intro _ _ a w' hG hout hpre K hK; obtain ⟨p0, _⟩ := hpre; have q21 := ev_of (show a.eval (.tmp 21) = .pointer (some ⟨ab, 0, none⟩) from p0); obtain ⟨⟨d0, d1, d2, d3, d4, d5⟩, f0, f1, f2, f3⟩ := HR.out w' hG; clear hout p0; go_step; exact hK _ _ rfl hG (Below.refl _ _)
      · intro _ _ a w' hG hout hpre K hK; obtain ⟨p0, p1, _⟩ := hpre; have q20 := ev_of (show a.eval (.tmp 20) = VQ from p0); have q22 := ev_of (show a.eval (.tmp 22) = .int .i64 n from p1); have HS := Lib.hid (HC2.out w'); clear hout p0 p1; go_step; refine HS.out.mono ?_; rintro e w3 ⟨rfl, hB⟩; exact hK _ _ rfl (hG.trans (hB.mono hG.size)) hB
      · intro _ _ a w' hG hout hpre K hK; obtain ⟨p0, p1, _⟩ := hpre; have q19 := ev_of (show a.eval (.tmp 19) = .int .i64 av from p0); have q23 := ev_of (show a.eval (.tmp 23) = .int .i64 M from p1); have HS := Lib.hid (HC3.out w'); clear hout p0 p1; go_step; refine HS.out.mono ?_; rintro e w3 ⟨rfl, hw3⟩; subst w3; exact hK _ _ rfl hG (Below.refl _ _)
      · intro _ _ a w' hG hout hpre K hK; obtain ⟨p0, _⟩ := hpre; have q24 := ev_of (show a.eval (.tmp 24) = .bool true from p0); clear hout p0; go_step; exact hK _ _ rfl hG (Below.refl _ _)
      · intro _ _ a w' hG hout hpre K hK; have q3 := ev_of ((hout 3 rfl).trans (show _ = .pointer (some ⟨ab, 0, none⟩) from rfl)); clear hout hpre; go_step; exact hK _ _ rfl hG (Below.refl _ _)
      · intro _ _ a w' hG hout hpre K hK; obtain ⟨p0, _⟩ := hpre; have q26 := ev_of (show a.eval (.tmp 26) = .pointer (some ⟨ab, 2, none⟩) from p0); obtain ⟨⟨d0, d1, d2, d3, d4, d5⟩, f0, f1, f2, f3⟩ := HR.out w' hG; clear hout p0; go_step; exact hK _ _ rfl hG (Below.refl _ _)
      · intro _ _ a w' hG hout hpre K hK; obtain ⟨p0, _⟩ := hpre; have q27 := ev_of (show a.eval (.tmp 27) = .slice ta L tc from p0); clear hout p0; go_step; exact hK _ _ rfl hG (Below.refl _ _)
      · intro _ _ a w' hG hout hpre K hK; have q2 := ev_of ((hout 2 rfl).trans (show _ = .pointer (some ⟨qb, 0, none⟩) from rfl)); obtain ⟨⟨d0, d1, d2, d3, d4, d5⟩, f0, f1, f2, f3⟩ := HR.out w' hG; clear hout hpre; go_step; exact hK _ _ HV.out.1.symm hG (Below.refl _ _)
      · intro _ _ a w' hG hout hpre K hK; have q3 := ev_of ((hout 3 rfl).trans (show _ = .pointer (some ⟨ab, 0, none⟩) from rfl)); clear hout hpre; go_step; exact hK _ _ rfl hG (Below.refl _ _)
      · intro _ _ a w' hG hout hpre K hK; obtain ⟨p0, _⟩ := hpre; have q30 := ev_of (show a.eval (.tmp 30) = .pointer (some ⟨ab, 0, none⟩) from p0); obtain ⟨⟨d0, d1, d2, d3, d4, d5⟩, f0, f1, f2, f3⟩ := HR.out w' hG; clear hout p0; go_step; exact hK _ _ rfl hG (Below.refl _ _)
      · intro _ _ a w' hG hout hpre K hK; obtain ⟨p0, p1, _⟩ := hpre; have q29 := ev_of (show a.eval (.tmp 29) = VQ from p0); have q31 := ev_of (show a.eval (.tmp 31) = .int .i64 n from p1); have HS := Lib.hid (HC4.out w'); clear hout p0 p1; go_step; refine HS.out.mono ?_; rintro e w3 ⟨rfl, hB⟩; exact hK _ _ rfl (hG.trans (hB.mono hG.size)) hB
      · intro _ _ a w' hG hout hpre K hK; obtain ⟨p0, p1, _⟩ := hpre; have q28 := ev_of (show a.eval (.tmp 28) = .int .i64 (L : Int) from p0); have q32 := ev_of (show a.eval (.tmp 32) = .int .i64 T from p1); have hq := HLT.out; clear hout p0 p1; go_step; exact hK _ _ rfl hG (Below.refl _ _)
      · intro _ _ a w' hG hout hpre K hK; obtain ⟨p0, p1, _⟩ := hpre; have q25 := ev_of (show a.eval (.tmp 25) = .bool true from p0); have q33 := ev_of (show a.eval (.tmp 33) = .bool true from p1); clear hout p0 p1; go_step; exact hK _ _ rfl hG (Below.refl _ _)
      · intro _ _ a w' hG hout hpre K hK; obtain ⟨p0, _⟩ := hpre; have q34 := ev_of (show a.eval (.tmp 34) = .bool true from p0); clear hout p0; go_step; exact hK _ _ rfl hG (Below.refl _ _)
      · intro _ _ a w' hG hout hpre K hK; have q3 := ev_of ((hout 3 rfl).trans (show _ = .pointer (some ⟨ab, 0, none⟩) from rfl)); clear hout hpre; go_step; exact hK _ _ rfl hG (Below.refl _ _)
      · intro _ _ a w' hG hout hpre K hK; obtain ⟨p0, _⟩ := hpre; have q36 := ev_of (show a.eval (.tmp 36) = .pointer (some ⟨ab, 2, none⟩) from p0); obtain ⟨⟨d0, d1, d2, d3, d4, d5⟩, f0, f1, f2, f3⟩ := HR.out w' hG; clear hout p0; go_step; exact hK _ _ rfl hG (Below.refl _ _)
      · intro _ _ a w' hG hout hpre K hK; obtain ⟨p0, _⟩ := hpre; have q37 := ev_of (show a.eval (.tmp 37) = .slice ta L tc from p0); have HS := Lib.hid (HC5'.out w' hG); clear hout p0; go_step; refine HS.out.mono ?_; rintro e w3 ⟨rfl, hw3⟩; subst w3; exact hK _ _ rfl hG (Below.refl _ _)
      · intro _ _ a w' hG hout hpre K hK; obtain ⟨p0, p1, _⟩ := hpre; have q35 := ev_of (show a.eval (.tmp 35) = .bool true from p0); have q38 := ev_of (show a.eval (.tmp 38) = .bool false from p1); clear hout p0 p1; go_step; exact hK _ _ rfl hG (Below.refl _ _)
      · intro _ _ a w' hG hout hpre K hK; obtain ⟨p0, _⟩ := hpre; have q39 := ev_of (show a.eval (.tmp 39) = .bool false from p0); clear hout p0; go_step; exact hK _ _ rfl hG (Below.refl _ _)
      · exact fun h => absurd h (by decide)
      · exact fun h => absurd h (by decide)
      · exact fun h => absurd h (by decide)
      · intro _ _ a w' hG hout hpre K hK; obtain ⟨p0, p1, _⟩ := hpre; have q40 := ev_of (show a.eval (.tmp 40) = .bool false from p0); have q43 := ev_of (show a.eval (.tmp 43) = undef from p1); clear hout p0 p1; go_step; exact hK _ _ rfl hG (Below.refl _ _)
      · intro _ _ a w' hG hout hpre K hK; obtain ⟨p0, _⟩ := hpre; have q44 := ev_of (show a.eval (.tmp 44) = .bool false from p0); clear hout p0; go_step; exact hK _ _ rfl hG (Below.refl _ _)
    · intro vs w2_ hG hlen hV
      match vs, hlen, hV with
      | [v0, v1, v2, v3, v4, v5, v6, v7, v8, v9, v10, v11, v12, v13, v14, v15, v16, v17, v18, v19, v20, v21, v22, v23, v24, v25, v26, v27], _, hV =>
        obtain rfl : v27 = .bool false := (hV 27 4 v27 rfl rfl); clear hV; simp only [putsL, List.tail_cons, List.headD_cons]; simp only [Act.put, List.setIfInBounds_toArray, List.set_cons_succ, List.set_cons_zero]
        have HZ := Lib.hid (HPr.out w2_ false hG (by simp))
        clear hG; go_wp2_with (fail); exact HZ.out
  | true =>
    refine wp_region_skip_frame (fun i => ([] : List Nat).contains i) (by kernel_rfl) [none, none, none, none, none, none, none, none, none, none, none, none, none, none, none, none, none, none, none, none, none, none, none, none, none, none, none, none] [] (fun i_ _ _ v_ => v_ = (((Value.pointer (some ⟨ab, 1, none⟩)) :: (Value.int .i64 av) :: VQ :: (Value.pointer (some ⟨ab, 0, none⟩)) :: (Value.int .i64 n) :: (Value.int .i64 M) :: (Value.bool true) :: (Value.bool true) :: (Value.pointer (some ⟨ab, 2, none⟩)) :: (Value.slice ta L tc) :: (Value.int .i64 (L : Int)) :: VQ :: (Value.pointer (some ⟨ab, 0, none⟩)) :: (Value.int .i64 n) :: (Value.int .i64 T) :: (Value.bool true) :: (Value.bool true) :: (Value.bool true) :: (Value.pointer (some ⟨ab, 2, none⟩)) :: (Value.slice ta L tc) :: (Value.bool true) :: (Value.bool true) :: (Value.bool true) :: VQ :: VA :: (Value.bool b4) :: (Value.bool b4) :: (Value.bool b4) :: ([] : List Value))).getD i_ undef) (fun _ w' => Below w2.heap.size w2 w') (fun w w' => Below w.heap.size w w') (fun _ _ _ _ _ _ h => h) (by kernel_rfl) (by kernel_rfl) (by kernel_rfl) HG0.out (fun _ => ⟨rfl, rfl, rfl, rfl, rfl, rfl, rfl, rfl, fun _ _ h => .inl h, fun _ _ h => .inl h, fun _ _ h => .inl h, fun _ _ h => .inl h, fun _ _ h => .inl h, fun _ _ h => .inl h, fun _ _ h => .inl h, fun _ _ h => .inl h, rfl, rfl, fun _ _ h => .inl h, fun _ _ h => .inl h, fun _ _ h => .inl h, rfl, rfl, fun _ _ h => .inl h, fun _ _ h => .inl h, fun _ _ h => .inl h, rfl, rfl, trivial⟩) (fun _ h => by simp at h) ?_ ?_
    · refine ⟨?_, ?_, ?_, ?_, ?_, ?_, ?_, ?_, ?_, ?_, ?_, ?_, ?_, ?_, ?_, ?_, ?_, ?_, ?_, ?_, ?_, ?_, ?_, ?_, ?_, ?_, ?_, ?_, trivial⟩
      · intro _ _ a w' hG hout hpre K hK; have q3 := ev_of ((hout 3 rfl).trans (show _ = .pointer (some ⟨ab, 0, none⟩) from rfl)); clear hout hpre; go_step; exact hK _ _ rfl hG (Below.refl _ _)
      · intro _ _ a w' hG hout hpre K hK; obtain ⟨p0, _⟩ := hpre; have q18 := ev_of (show a.eval (.tmp 18) = .pointer (some ⟨ab, 1, none⟩) from p0); obtain ⟨⟨d0, d1, d2, d3, d4, d5⟩, f0, f1, f2, f3⟩ := HR.out w' hG; clear hout p0; go_step; exact hK _ _ rfl hG (Below.refl _ _)
      · intro _ _ a w' hG hout hpre K hK; have q2 := ev_of ((hout 2 rfl).trans (show _ = .pointer (some ⟨qb, 0, none⟩) from rfl)); obtain ⟨⟨d0, d1, d2, d3, d4, d5⟩, f0, f1, f2, f3⟩ := HR.out w' hG; clear hout hpre; go_step; exact hK _ _ HV.out.1.symm hG (Below.refl _ _)
      · intro _ _ a w' hG hout hpre K hK; have q3 := ev_of ((hout 3 rfl).trans (show _ = .pointer (some ⟨ab, 0, none⟩) from rfl)); clear hout hpre; go_step; exact hK _ _ rfl hG (Below.refl _ _)
      · intro _ _ a w' hG hout hpre K hK; obtain ⟨p0, _⟩ := hpre; have q21 := ev_of (show a.eval (.tmp 21) = .pointer (some ⟨ab, 0, none⟩) from p0); obtain ⟨⟨d0, d1, d2, d3, d4, d5⟩, f0, f1, f2, f3⟩ := HR.out w' hG; clear hout p0; go_step; exact hK _ _ rfl hG (Below.refl _ _)
      · intro _ _ a w' hG hout hpre K hK; obtain ⟨p0, p1, _⟩ := hpre; have q20 := ev_of (show a.eval (.tmp 20) = VQ from p0); have q22 := ev_of (show a.eval (.tmp 22) = .int .i64 n from p1); have HS := Lib.hid (HC2.out w'); clear hout p0 p1; go_step; refine HS.out.mono ?_; rintro e w3 ⟨rfl, hB⟩; exact hK _ _ rfl (hG.trans (hB.mono hG.size)) hB
      · intro _ _ a w' hG hout hpre K hK; obtain ⟨p0, p1, _⟩ := hpre; have q19 := ev_of (show a.eval (.tmp 19) = .int .i64 av from p0); have q23 := ev_of (show a.eval (.tmp 23) = .int .i64 M from p1); have HS := Lib.hid (HC3.out w'); clear hout p0 p1; go_step; refine HS.out.mono ?_; rintro e w3 ⟨rfl, hw3⟩; subst w3; exact hK _ _ rfl hG (Below.refl _ _)
      · intro _ _ a w' hG hout hpre K hK; obtain ⟨p0, _⟩ := hpre; have q24 := ev_of (show a.eval (.tmp 24) = .bool true from p0); clear hout p0; go_step; exact hK _ _ rfl hG (Below.refl _ _)
      · intro _ _ a w' hG hout hpre K hK; have q3 := ev_of ((hout 3 rfl).trans (show _ = .pointer (some ⟨ab, 0, none⟩) from rfl)); clear hout hpre; go_step; exact hK _ _ rfl hG (Below.refl _ _)
      · intro _ _ a w' hG hout hpre K hK; obtain ⟨p0, _⟩ := hpre; have q26 := ev_of (show a.eval (.tmp 26) = .pointer (some ⟨ab, 2, none⟩) from p0); obtain ⟨⟨d0, d1, d2, d3, d4, d5⟩, f0, f1, f2, f3⟩ := HR.out w' hG; clear hout p0; go_step; exact hK _ _ rfl hG (Below.refl _ _)
      · intro _ _ a w' hG hout hpre K hK; obtain ⟨p0, _⟩ := hpre; have q27 := ev_of (show a.eval (.tmp 27) = .slice ta L tc from p0); clear hout p0; go_step; exact hK _ _ rfl hG (Below.refl _ _)
      · intro _ _ a w' hG hout hpre K hK; have q2 := ev_of ((hout 2 rfl).trans (show _ = .pointer (some ⟨qb, 0, none⟩) from rfl)); obtain ⟨⟨d0, d1, d2, d3, d4, d5⟩, f0, f1, f2, f3⟩ := HR.out w' hG; clear hout hpre; go_step; exact hK _ _ HV.out.1.symm hG (Below.refl _ _)
      · intro _ _ a w' hG hout hpre K hK; have q3 := ev_of ((hout 3 rfl).trans (show _ = .pointer (some ⟨ab, 0, none⟩) from rfl)); clear hout hpre; go_step; exact hK _ _ rfl hG (Below.refl _ _)
      · intro _ _ a w' hG hout hpre K hK; obtain ⟨p0, _⟩ := hpre; have q30 := ev_of (show a.eval (.tmp 30) = .pointer (some ⟨ab, 0, none⟩) from p0); obtain ⟨⟨d0, d1, d2, d3, d4, d5⟩, f0, f1, f2, f3⟩ := HR.out w' hG; clear hout p0; go_step; exact hK _ _ rfl hG (Below.refl _ _)
      · intro _ _ a w' hG hout hpre K hK; obtain ⟨p0, p1, _⟩ := hpre; have q29 := ev_of (show a.eval (.tmp 29) = VQ from p0); have q31 := ev_of (show a.eval (.tmp 31) = .int .i64 n from p1); have HS := Lib.hid (HC4.out w'); clear hout p0 p1; go_step; refine HS.out.mono ?_; rintro e w3 ⟨rfl, hB⟩; exact hK _ _ rfl (hG.trans (hB.mono hG.size)) hB
      · intro _ _ a w' hG hout hpre K hK; obtain ⟨p0, p1, _⟩ := hpre; have q28 := ev_of (show a.eval (.tmp 28) = .int .i64 (L : Int) from p0); have q32 := ev_of (show a.eval (.tmp 32) = .int .i64 T from p1); have hq := HLT.out; clear hout p0 p1; go_step; exact hK _ _ rfl hG (Below.refl _ _)
      · intro _ _ a w' hG hout hpre K hK; obtain ⟨p0, p1, _⟩ := hpre; have q25 := ev_of (show a.eval (.tmp 25) = .bool true from p0); have q33 := ev_of (show a.eval (.tmp 33) = .bool true from p1); clear hout p0 p1; go_step; exact hK _ _ rfl hG (Below.refl _ _)
      · intro _ _ a w' hG hout hpre K hK; obtain ⟨p0, _⟩ := hpre; have q34 := ev_of (show a.eval (.tmp 34) = .bool true from p0); clear hout p0; go_step; exact hK _ _ rfl hG (Below.refl _ _)
      · intro _ _ a w' hG hout hpre K hK; have q3 := ev_of ((hout 3 rfl).trans (show _ = .pointer (some ⟨ab, 0, none⟩) from rfl)); clear hout hpre; go_step; exact hK _ _ rfl hG (Below.refl _ _)
      · intro _ _ a w' hG hout hpre K hK; obtain ⟨p0, _⟩ := hpre; have q36 := ev_of (show a.eval (.tmp 36) = .pointer (some ⟨ab, 2, none⟩) from p0); obtain ⟨⟨d0, d1, d2, d3, d4, d5⟩, f0, f1, f2, f3⟩ := HR.out w' hG; clear hout p0; go_step; exact hK _ _ rfl hG (Below.refl _ _)
      · intro _ _ a w' hG hout hpre K hK; obtain ⟨p0, _⟩ := hpre; have q37 := ev_of (show a.eval (.tmp 37) = .slice ta L tc from p0); have HS := Lib.hid (HC5'.out w' hG); clear hout p0; go_step; refine HS.out.mono ?_; rintro e w3 ⟨rfl, hw3⟩; subst w3; exact hK _ _ rfl hG (Below.refl _ _)
      · intro _ _ a w' hG hout hpre K hK; obtain ⟨p0, p1, _⟩ := hpre; have q35 := ev_of (show a.eval (.tmp 35) = .bool true from p0); have q38 := ev_of (show a.eval (.tmp 38) = .bool true from p1); clear hout p0 p1; go_step; exact hK _ _ rfl hG (Below.refl _ _)
      · intro _ _ a w' hG hout hpre K hK; obtain ⟨p0, _⟩ := hpre; have q39 := ev_of (show a.eval (.tmp 39) = .bool true from p0); clear hout p0; go_step; exact hK _ _ rfl hG (Below.refl _ _)
      · intro _ _ a w' hG hout hpre K hK; have q2 := ev_of ((hout 2 rfl).trans (show _ = .pointer (some ⟨qb, 0, none⟩) from rfl)); obtain ⟨⟨d0, d1, d2, d3, d4, d5⟩, f0, f1, f2, f3⟩ := HR.out w' hG; clear hout hpre; go_step; exact hK _ _ HV.out.1.symm hG (Below.refl _ _)
      · intro _ _ a w' hG hout hpre K hK; have q3 := ev_of ((hout 3 rfl).trans (show _ = .pointer (some ⟨ab, 0, none⟩) from rfl)); obtain ⟨⟨d0, d1, d2, d3, d4, d5⟩, f0, f1, f2, f3⟩ := HR.out w' hG; clear hout hpre; go_step; exact hK _ _ HV.out.2.symm hG (Below.refl _ _)
      · intro _ _ a w' hG hout hpre K hK; obtain ⟨p0, p1, _⟩ := hpre; have q41 := ev_of (show a.eval (.tmp 41) = VQ from p0); have q42 := ev_of (show a.eval (.tmp 42) = VA from p1); have HS := Lib.hid (HC6.out w'); clear hout p0 p1; go_step; refine HS.out.mono ?_; rintro e w3 ⟨rfl, hB⟩; exact hK _ _ rfl (hG.trans (hB.mono hG.size)) hB
      · intro _ _ a w' hG hout hpre K hK; obtain ⟨p0, p1, _⟩ := hpre; have q40 := ev_of (show a.eval (.tmp 40) = .bool true from p0); have q43 := ev_of (show a.eval (.tmp 43) = .bool b4 from p1); clear hout p0 p1; go_step; exact hK _ _ rfl hG (Below.refl _ _)
      · intro _ _ a w' hG hout hpre K hK; obtain ⟨p0, _⟩ := hpre; have q44 := ev_of (show a.eval (.tmp 44) = .bool b4 from p0); clear hout p0; go_step; exact hK _ _ rfl hG (Below.refl _ _)
    · intro vs w2_ hG hlen hV
      match vs, hlen, hV with
      | [v0, v1, v2, v3, v4, v5, v6, v7, v8, v9, v10, v11, v12, v13, v14, v15, v16, v17, v18, v19, v20, v21, v22, v23, v24, v25, v26, v27], _, hV =>
        obtain rfl : v27 = .bool b4 := (hV 27 4 v27 rfl rfl); clear hV; simp only [putsL, List.tail_cons, List.headD_cons]; simp only [Act.put, List.setIfInBounds_toArray, List.set_cons_succ, List.set_cons_zero]
        have HZ := Lib.hid (HPr.out w2_ b4 hG (by simp))
        clear hG; go_wp2_with (fail); exact HZ.out
end Go.Proofs.YtjeeghafachebaaGreat
namespace Go.Proofs.YtjeeghafachebaaGreat
open Go Go.RowKit
theorem IntsAt.one {w : World} {v : Value} {l : List Int} (h : IntsAt w v l) : v.oneCell' = true := by
  obtain ⟨a, c, rfl, _⟩ := h; rfl
theorem CRep.one {z : Value} {u v : Int} (h : CRep z u v) : z.oneCell' = true := by
  obtain ⟨p, q, rfl, _⟩ := h; rfl
theorem agg_one {n a : Int} {tv z : Value} (h1 : tv.oneCell' = true) (h2 : z.oneCell' = true) : (aggC n a tv z).all (·.oneCell') = true := by
  rw [Array.all_eq_true']; intro v hv; simp only [aggC, List.mem_toArray, List.mem_cons, List.not_mem_nil, or_false] at hv
  rcases hv with rfl | rfl | rfl | rfl
  · rfl
  · rfl
  · exact h1
  · exact h2
def nilV : Value := .slice none 0 0
def zeroC : Array Value := aggC 0 0 nilV zeroZ
theorem RowA.fro {w : World} {b : Nat} {n a : Int} {tv z : Value} (h : RowA w b n a tv z) (i : Nat) : w.frozen? ⟨b, i, none⟩ = false := by
  unfold RowA at h; simp [World.frozen?, h]
theorem RowA.set1 {w : World} {b : Nat} {n a : Int} {tv z : Value} (h : RowA w b n a tv z) (x : Int) : RowA (w.setCell ⟨b, 1, none⟩ (.int .i64 x)) b n x tv z := by
  unfold RowA at *; rw [setCell_eq_setRow w b 1 _ _ (0, 0) _ h]; exact setRow_heap w b _ _ _ _ h
theorem RowA.set2 {w : World} {b : Nat} {n a : Int} {tv z : Value} (h : RowA w b n a tv z) (x : Value) : RowA (w.setCell ⟨b, 2, none⟩ x) b n a x z := by
  unfold RowA at *; rw [setCell_eq_setRow w b 2 _ _ (0, 0) _ h]; exact setRow_heap w b _ _ _ _ h
theorem RowA.set3 {w : World} {b : Nat} {n a : Int} {tv z : Value} (h : RowA w b n a tv z) (x : Value) : RowA (w.setCell ⟨b, 3, none⟩ x) b n a tv x := by
  unfold RowA at *; rw [setCell_eq_setRow w b 3 _ _ (0, 0) _ h]; exact setRow_heap w b _ _ _ _ h
theorem RowA.reset {w : World} {b : Nat} {n a : Int} {tv z : Value} (h : RowA w b n a tv z) (n' a' : Int) (tv' z' : Value) : RowA (w.setRow b (aggC n' a' tv' z')) b n' a' tv' z' := setRow_heap w b _ _ _ _ h
theorem RowA.grown {w w' : World} {b : Nat} {n a : Int} {tv z : Value} {row : Option Nat} (h : RowA w b n a tv z) (hg : w.grownBy w' row) (hne : some b ≠ row) : RowA w' b n a tv z := (hg.block b h.lt hne).trans h
theorem below_set {w : World} {B b : Nat} {w' : World} (hg : w.grownBy w' (some b)) (h : B ≤ b) (hB : B ≤ w.heap.size) : Below B w w' :=
  ⟨hg.os, hg.tape, hg.output, hg.size, fun k hk => hg.block k (by omega) (by simp; omega)⟩
theorem box_qaa (w : World) (q : QueryL) (n a : Int) (tv z : Value) (n' a' : Int) (tv' z' : Value) :
    let W := ((w.alloc (.cells q.cells 23)).alloc (.cells (aggC n a tv z) 53)).alloc (.cells (aggC n' a' tv' z') 53)
    RowQ W w.heap.size q ∧ RowA W (w.heap.size + 1) n a tv z ∧ RowA W (w.heap.size + 2) n' a' tv' z' ∧ Below w.heap.size w W ∧ W.heap.size = w.heap.size + 3 := by
  intro W; obtain ⟨k1, k2, k3⟩ := box_qa w q n a tv z
  have hs : ((w.alloc (.cells q.cells 23)).alloc (.cells (aggC n a tv z) 53)).heap.size = w.heap.size + 2 := by rw [heap_alloc_size, heap_alloc_size]
  have k4 := (Below.refl _ ((w.alloc (.cells q.cells 23)).alloc (.cells (aggC n a tv z) 53))).alloc (Nat.le_refl _) (.cells (aggC n' a' tv' z') 53)
  refine ⟨k1.below k4, k2.below k4, ?_, k3.trans (k4.mono k3.size), by show (World.alloc _ _).heap.size = _; rw [heap_alloc_size, hs]⟩
  rw [← hs]; exact heap_alloc_new _ _
def edgeQ (agg n1 a1 n2 a2 : Int) : Int := if n1 = 0 then a2 else if n2 = 0 then a1 else if agg = 3 then min a1 a2 else max a1 a2
set_option maxRecDepth 100000 in
theorem aedge_any (w : World) (q : QueryL) (n1 a1 : Int) (tv1 z1 : Value) (n2 a2 : Int) (tv2 z2 : Value) :
    Calls Tryz.prog 142 #[.agg q.cells, .agg (aggC n1 a1 tv1 z1), .agg (aggC n2 a2 tv2 z2)] w (Below0 w (.int .i64 (edgeQ q.agg n1 a1 n2 a2))) := by
  obtain ⟨r, hr⟩ : ∃ r, r = edgeQ q.agg n1 a1 n2 a2 := ⟨_, rfl⟩; rw [← hr]; obtain ⟨w1, hw1⟩ : ∃ W, W = ((w.alloc (.cells q.cells 23)).alloc (.cells (aggC n1 a1 tv1 z1) 53)).alloc (.cells (aggC n2 a2 tv2 z2) 53) := ⟨_, rfl⟩; obtain ⟨qb, hqb⟩ : ∃ b, b = w.heap.size := ⟨_, rfl⟩; obtain ⟨b1, hb1⟩ : ∃ b, b = w.heap.size + 1 := ⟨_, rfl⟩; obtain ⟨b2, hb2⟩ : ∃ b, b = w.heap.size + 2 := ⟨_, rfl⟩
  have H1 : Hid (RowQ w1 qb q ∧ RowA w1 b1 n1 a1 tv1 z1 ∧ RowA w1 b2 n2 a2 tv2 z2 ∧ Below w.heap.size w w1 ∧ w1.heap.size = w.heap.size + 3) := by rw [hw1, hqb, hb1, hb2]; exact Lib.hid (box_qaa w q n1 a1 tv1 z1 n2 a2 tv2 z2)
  have hs1 : (w.alloc (.cells q.cells 23)).heap.size = w.heap.size + 1 := heap_alloc_size w _
  have hs2 : ((w.alloc (.cells q.cells 23)).alloc (.cells (aggC n1 a1 tv1 z1) 53)).heap.size = w.heap.size + 2 := by rw [heap_alloc_size, heap_alloc_size]
  obtain ⟨kind, size, slide, late, agg, k⟩ := q; unfold QueryL.cells at hw1 hs1 hs2 ⊢; unfold aggC at hw1 hs2 ⊢; simp only at hw1 hr hs1 hs2; obtain ⟨d0, d1, d2, d3, d4, d5⟩ := H1.out.1.d6; obtain ⟨f0, f1, f2, f3⟩ := H1.out.2.1.d4; obtain ⟨g0, g1, g2, g3⟩ := H1.out.2.2.1.d4; simp only at d0 d1 d2 d3 d4 d5; unfold edgeQ at hr
  by_cases h1 : n1 = 0
  · subst h1
    obtain rfl : r = a2 := by rw [hr, if_pos rfl]
    clear hr
    go_enter Tryz.func142, Tryz.ntmps142
    go_upto_region 1 with (fail)
    rw [← hw1, ← hb2, ← hb1, ← hqb]; clear hw1 hqb hb1 hb2 hs1 hs2; go_wp2_with (fail); go_ret; exact ⟨rfl, H1.out.2.2.2.1⟩
  have e1 : (n1 == 0) = false := by simpa using h1
  rw [if_neg h1] at hr; clear h1
  by_cases h2 : n2 = 0
  · subst h2
    obtain rfl : r = a1 := by rw [hr, if_pos rfl]
    clear hr
    go_enter Tryz.func142, Tryz.ntmps142
    go_upto_region 1 with (fail)
    rw [← hw1, ← hb2, ← hb1, ← hqb]; clear hw1 hqb hb1 hb2 hs1 hs2; go_wp2_with (fail); go_ret; exact ⟨rfl, H1.out.2.2.2.1⟩
  have e2 : (n2 == 0) = false := by simpa using h2
  rw [if_neg h2] at hr; clear h2
  by_cases h3 : agg = 3
  · subst h3; rw [if_pos rfl] at hr
    have e4 : (if a2 < a1 then a2 else a1) = r := by rw [hr]; split <;> omega
    clear hr
    go_enter Tryz.func142, Tryz.ntmps142
    go_upto_region 1 with (fail)
    rw [← hw1, ← hb2, ← hb1, ← hqb]; clear hw1 hqb hb1 hb2 hs1 hs2; go_wp2_with (fail); go_ret; exact ⟨rfl, H1.out.2.2.2.1⟩
  have e3 : (agg == 3) = false := by simpa using h3
  rw [if_neg h3] at hr; clear h3
  have e4 : (if a1 < a2 then a2 else a1) = r := by rw [hr]; split <;> omega
  clear hr
  go_enter Tryz.func142, Tryz.ntmps142
  go_upto_region 1 with (fail)
  rw [← hw1, ← hb2, ← hb1, ← hqb]; clear hw1 hqb hb1 hb2 hs1 hs2; go_wp2_with (fail); go_ret; exact ⟨rfl, H1.out.2.2.2.1⟩
def downQ (s n : Int) : Int := s / n
theorem adown_any (w : World) (s n : Int) (hs : -4398046511104 ≤ s ∧ s ≤ 4398046511104) (hn : 0 < n ∧ n ≤ 1073741824) : Calls Tryz.prog 33 #[.int .i64 s, .int .i64 n] w (fun e w' => e = .returned (.int .i64 (downQ s n)) ∧ w' = w) := by
  obtain ⟨r, hr⟩ : ∃ r, r = downQ s n := ⟨_, rfl⟩; rw [← hr]; unfold downQ at hr; obtain ⟨t, ht⟩ : ∃ t, t = Int.tmod s n := ⟨_, rfl⟩; obtain ⟨d, hd⟩ : ∃ d, d = Int.tdiv s n := ⟨_, rfl⟩
  have hmul : n * d + t = s := by rw [ht, hd]; exact Int.mul_tdiv_add_tmod s n
  have htb : -n < t ∧ t < n ∧ (0 ≤ s → 0 ≤ t) ∧ (s ≤ 0 → t ≤ 0) := by
    rw [ht]; refine ⟨?_, Int.tmod_lt_of_pos s hn.1, fun h => Int.tmod_nonneg n h, fun h => ?_⟩
    · have := Int.tmod_lt_of_pos (-s) hn.1; rw [Int.neg_tmod] at this; omega
    · have := Int.tmod_nonneg n (show 0 ≤ -s by omega)
      rw [Int.neg_tmod] at this; omega
  have hn0 : ¬ n = 0 := by omega
  have hr2 : r = if t < 0 then d - 1 else d := by
    rw [hr]
    split
    · rename_i h
      refine Int.ediv_eq_iff_of_pos hn.1 |>.2 ?_
      have e : n * (d - 1) = n * d - n := by rw [Int.mul_sub, Int.mul_one]
      have e2 : (d - 1) * n = n * d - n := by rw [Int.mul_comm]; exact e
      constructor
      · rw [e2]; omega
      · rw [e2]; omega
    · rename_i h
      refine Int.ediv_eq_iff_of_pos hn.1 |>.2 ?_
      constructor
      · rw [Int.mul_comm]; omega
      · rw [Int.mul_comm]; omega
  have htm : Int.tmod s n = t := ht.symm; have htd : Int.tdiv s n = d := hd.symm
  have hdb : -4398046511104 ≤ d ∧ d ≤ 4398046511104 := by
    have h1 : d.natAbs ≤ s.natAbs := by rw [hd]; exact Int.natAbs_tdiv_le_natAbs s n
    omega
  have hw1 : IntKind.i64.wrap d = d := IntWalk.i64_in _ (by omega)
  have hw2 : IntKind.i64.wrap (d - 1) = d - 1 := IntWalk.i64_in _ (by omega)
  clear ht hd hmul htb hdb hr hs hn
  by_cases h : t < 0
  · rw [if_pos h] at hr2; subst hr2
    go_enter Tryz.func33, Tryz.ntmps33
    go_wp2_with (fail); go_ret; exact ⟨rfl, rfl⟩
  · rw [if_neg h] at hr2; subst hr2; have e1 : decide (t < 0) = false := decide_eq_false h; clear h
    go_enter Tryz.func33, Tryz.ntmps33
    go_wp2_with (fail); go_ret; exact ⟨rfl, rfl⟩
end Go.Proofs.YtjeeghafachebaaGreat
