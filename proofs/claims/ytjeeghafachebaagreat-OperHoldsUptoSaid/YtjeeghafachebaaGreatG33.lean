/-
  Part 33 of 53 of what the proof leans on.
-/
import Derived.Test.YtjeeghafachebaaGreatG21
import Derived.Test.YtjeeghafachebaaGreatG19
import Derived.Test.YtjeeghafachebaaGreatG12
namespace Go.Proofs.YtjeeghafachebaaGreat
open Go Go.RowKit
def firstQ (q : QueryL) (t : Int) : Int := if q.kind = 3 then t else loK q t * stepQ q
theorem firstQ_one {q : QueryL} {t : Int} (hr : q.rightB = true) (ht0 : 0 ≤ t) (hk : q.kind = 1) : firstQ q t = t - t % q.size := by
  have hst : stepQ q = q.size := by rw [stepQ, if_neg (by rw [hk]; decide)]
  obtain ⟨s1, s2, s3, s4, s5⟩ := stepQ_pos hr; have hb := loK_bd hr ht0; have hs := fun k hk => loK_spec hr (t := t) k hk; rw [hst] at hb
  have hm : t / q.size * q.size = t - t % q.size := by
    have := Int.mul_ediv_add_emod t q.size; rw [Int.mul_comm]; omega
  have hlo : loK q t = t / q.size := by
    by_cases h0 : t / q.size - 1 < 0
    · omega
    · have h := not_congr (hs (t / q.size - 1) (by omega))
      rw [hst, Int.sub_mul, Int.one_mul, hm] at h
      have he := Int.emod_nonneg t (show q.size ≠ 0 by omega)
      have := h.1 (by omega)
      omega
  rw [firstQ, if_neg (by rw [hk]; decide), hst, hlo, hm]
theorem firstQ_two {q : QueryL} {t : Int} (hr : q.rightB = true) (hk : q.kind = 2) : firstQ q t = (max (t - q.size + 1) 0 + q.slide - 1) / q.slide * q.slide := by
  have hst : stepQ q = q.slide := by rw [stepQ, if_pos hk]
  obtain ⟨s1, s2, s3, s4, s5⟩ := stepQ_pos hr; rw [hst] at s1
  rw [firstQ, if_neg (by rw [hk]; decide), hst, loK, hst]
  congr 1
  by_cases h : t < q.size
  · rw [if_pos h, show max (t - q.size + 1) 0 = 0 by omega, Int.zero_add, Int.ediv_eq_zero_of_lt (by omega) (by omega)]
  · rw [if_neg h, show max (t - q.size + 1) 0 + q.slide - 1 = t - q.size + 1 * q.slide by omega, Int.add_mul_ediv_right _ _ (by omega)]
theorem firstQ_bd {q : QueryL} {t : Int} (hr : q.rightB = true) (ht0 : 0 ≤ t) : 0 ≤ firstQ q t ∧ firstQ q t ≤ t := by
  obtain ⟨s1, s2, s3, s4, s5⟩ := stepQ_pos hr; obtain ⟨b1, b2, b3⟩ := loK_bd hr ht0; unfold firstQ
  split
  · omega
  · have h1 := Int.mul_nonneg b1 (show 0 ≤ stepQ q by omega)
    have h2 : loK q t * stepQ q ≤ t / stepQ q * stepQ q := Int.mul_le_mul_of_nonneg_right b2 (by omega)
    have h3 : t / stepQ q * stepQ q ≤ t := Int.ediv_mul_le _ (by omega)
    omega
set_option maxRecDepth 100000 in
set_option maxHeartbeats 1000000 in
theorem wstarts_any (w : World) (q : QueryL) (t : Int) (hr : q.rightB = true) (h0 : 0 ≤ t) (h1 : t ≤ 1099511627776) :
    Calls Tryz.prog 94 #[.agg q.cells, .int .i64 t] w (Below0 w (.tuple #[.int .i64 (firstQ q t), .int .i64 (stepQ q)])) := by
  obtain ⟨w1, hw1⟩ : ∃ W, W = w.alloc (.cells q.cells 23) := ⟨_, rfl⟩; obtain ⟨qb, hqb⟩ : ∃ b, b = w.heap.size := ⟨_, rfl⟩
  have H1 : Hid (Below w.heap.size w w1 ∧ RowQ w1 qb q) := by
    rw [hw1, hqb]; exact Lib.hid ⟨(Below.refl _ w).alloc (Nat.le_refl _) _, heap_alloc_new w _⟩
  have HD : Hid (∀ w', Below w1.heap.size w1 w' → D6 w' qb q.kind q.size q.slide q.late q.agg q.k) := Lib.hid (fun w' h => (H1.out.2.below h).d6); have HG0 : Hid (Below w1.heap.size w1 w1.drew) := (Below.refl _ w1).drew; obtain ⟨s1, s2, s3, s4, s5⟩ := stepQ_pos hr; obtain ⟨b1, b2⟩ := firstQ_bd hr h0; obtain ⟨c1, _, c3, c4, _⟩ := rightQ_cases hr; have e1 := fun hk => firstQ_one hr h0 hk; have e2 := fun hk => firstQ_two (t := t) hr hk
  have e3 : q.kind = 3 → firstQ q t = t := fun hk => by rw [firstQ, if_pos hk]
  have e4 : stepQ q = if q.kind = 2 then q.slide else q.size := rfl
  obtain ⟨F, hF⟩ : ∃ F, F = firstQ q t := ⟨_, rfl⟩; obtain ⟨S, hS⟩ : ∃ S, S = stepQ q := ⟨_, rfl⟩; rw [← hF] at b1 b2 e1 e2 e3 ⊢; rw [← hS] at s1 s2 s3 e4 ⊢; clear hF hS hr c1; obtain ⟨kind, size, st, late, agg, tk⟩ := q; unfold QueryL.cells at hw1 ⊢; simp only at hw1 HD s2 s3 s4 s5 c3 c4 e1 e2 e3 e4 ⊢; obtain ⟨d0, d1, d2, d3, d4, d5⟩ := HD.out w1 (Below.refl _ _); clear d3 d4 d5
  by_cases k1 : kind = 1
  · have hF := e1 k1
    obtain rfl : size = S := by rw [e4, if_neg (by omega)]
    obtain ⟨r, hr⟩ : ∃ r, r = t % size := ⟨_, rfl⟩; rw [← hr] at hF
    have hm0 := Int.emod_nonneg t (show size ≠ 0 by omega)
    rw [← hr] at hm0; subst k1; have HN := Lib.hid (And.intro hr (And.intro hF (And.intro b1 (And.intro b2 (And.intro s4 (And.intro h1 hm0)))))); clear e1 e2 e3 e4 c3 c4 hr hF hm0 b1 b2 s1 s2 s3
    go_enter Tryz.func94, Tryz.ntmps94
    go_upto_region 1 with (fail)
    rw [← hw1, ← hqb]; clear hw1 hqb
    go_upto_region 3 with (fail)
    refine wp_region_seq_frame (by kernel_rfl) [none, none, none, none, none, none, none, none, none, none] [] (vOfC [.int .i64 t, .int .i64 t, .pointer (some ⟨qb, 1, none⟩), .int .i64 size, .int .i64 r, .int .i64 F, .pointer (some ⟨qb, 1, none⟩), .int .i64 size, .int .i64 F, .int .i64 size]) (fun _ w' => Below w1.heap.size w1 w') (fun _ _ => True) (fun _ _ _ _ _ h => h) (by kernel_rfl) (by kernel_rfl) (by kernel_rfl) HG0.out ⟨trivial, trivial, trivial, trivial, trivial, trivial, trivial, trivial, trivial, trivial, trivial⟩ ?_ ?_
    · refine ⟨?_, ?_, ?_, ?_, ?_, ?_, ?_, ?_, ?_, ?_, trivial⟩
      · intro k a w' hG hout hpre K hK; have q1 := ev_of ((hout 1 rfl).trans (show _ = .int .i64 t from rfl)); clear hout hpre; go_step; exact hK _ _ rfl hG trivial
      · intro k a w' hG hout hpre K hK; have q1 := ev_of ((hout 1 rfl).trans (show _ = .int .i64 t from rfl)); clear hout hpre; go_step; exact hK _ _ rfl hG trivial
      · intro k a w' hG hout hpre K hK; have q2 := ev_of ((hout 2 rfl).trans (show _ = .pointer (some ⟨qb, 0, none⟩) from rfl)); clear hout hpre; go_step; exact hK _ _ rfl hG trivial
      · intro k a w' hG hout hpre K hK; obtain ⟨p0, _⟩ := hpre; have q13 := ev_of (show a.eval (.tmp 13) = .pointer (some ⟨qb, 1, none⟩) from p0); have hc := (HD.out w' hG).2.1; clear hout p0; go_step; exact hK _ _ rfl hG trivial
      · intro k a w' hG hout hpre K hK; obtain ⟨p0, p1, _⟩ := hpre; have q12 := ev_of (show a.eval (.tmp 12) = .int .i64 t from p0); have q14 := ev_of (show a.eval (.tmp 14) = .int .i64 size from p1); obtain ⟨n1, n2, n3, n4, n5, n6, n7⟩ := HN.out; clear hout p0 p1; go_step
        rw [if_neg (show ¬ size = 0 by omega)]
        exact hK _ _ (by show _ = Value.int .i64 r; rw [n1]) hG trivial
      · intro k a w' hG hout hpre K hK; obtain ⟨p0, p1, _⟩ := hpre; have q11 := ev_of (show a.eval (.tmp 11) = .int .i64 t from p0); have q15 := ev_of (show a.eval (.tmp 15) = .int .i64 r from p1); obtain ⟨n1, n2, n3, n4, n5, n6, n7⟩ := HN.out; clear hout p0 p1; go_step
        exact hK _ _ (by rw [n2]; go_num) hG trivial
      · intro k a w' hG hout hpre K hK; have q2 := ev_of ((hout 2 rfl).trans (show _ = .pointer (some ⟨qb, 0, none⟩) from rfl)); clear hout hpre; go_step; exact hK _ _ rfl hG trivial
      · intro k a w' hG hout hpre K hK; obtain ⟨p0, _⟩ := hpre; have q17 := ev_of (show a.eval (.tmp 17) = .pointer (some ⟨qb, 1, none⟩) from p0); have hc := (HD.out w' hG).2.1; clear hout p0; go_step; exact hK _ _ rfl hG trivial
      · intro k a w' hG hout hpre K hK; obtain ⟨p0, _⟩ := hpre; have q16 := ev_of (show a.eval (.tmp 16) = .int .i64 F from p0); clear hout p0; go_step; exact hK _ _ rfl hG trivial
      · intro k a w' hG hout hpre K hK; obtain ⟨p0, _⟩ := hpre; have q18 := ev_of (show a.eval (.tmp 18) = .int .i64 size from p0); clear hout p0; go_step; exact hK _ _ rfl hG trivial
    · intro vs w2 hG hlen hV
      match vs, hlen, hV with
      | [v0, v1, v2, v3, v4, v5, v6, v7, v8, v9], _, hV =>
        obtain rfl : v8 = .int .i64 F := hV 8 4 v8 rfl rfl; obtain rfl : v9 = .int .i64 size := hV 9 5 v9 rfl rfl; clear hV; simp only [putsL, List.tail_cons, List.headD_cons]; simp only [Act.put, List.setIfInBounds_toArray, List.set_cons_succ, List.set_cons_zero]; have HG2 : Hid (Below w.heap.size w w2) := Lib.hid (H1.out.1.trans (hG.mono H1.out.1.size)); clear hG HN; go_wp2_with (fail); refine bodyPost_ret (results_tmp2 rfl _ _ _) rfl ?_; exact ⟨rfl, HG2.out⟩
  by_cases k3 : kind = 3
  · obtain rfl : t = F := (e3 k3).symm
    obtain rfl : size = S := by rw [e4, if_neg (by omega)]
    subst k3; have HN := Lib.hid h1; clear e1 e2 e3 e4 c3 c4 b1 b2 s1 s2 s3
    go_enter Tryz.func94, Tryz.ntmps94
    go_upto_region 1 with (fail)
    rw [← hw1, ← hqb]; clear hw1 hqb
    go_upto_region 7 with (fail)
    refine wp_region_seq_frame (by kernel_rfl) [none, none, none, none, none] [] (vOfC [.int .i64 t, .pointer (some ⟨qb, 1, none⟩), .int .i64 size, .int .i64 t, .int .i64 size]) (fun _ w' => Below w1.heap.size w1 w') (fun _ _ => True) (fun _ _ _ _ _ h => h) (by kernel_rfl) (by kernel_rfl) (by kernel_rfl) HG0.out ⟨trivial, trivial, trivial, trivial, trivial, trivial⟩ ?_ ?_
    · refine ⟨?_, ?_, ?_, ?_, ?_, trivial⟩
      · intro k a w' hG hout hpre K hK; have q1 := ev_of ((hout 1 rfl).trans (show _ = .int .i64 t from rfl)); clear hout hpre; go_step; exact hK _ _ rfl hG trivial
      · intro k a w' hG hout hpre K hK; have q2 := ev_of ((hout 2 rfl).trans (show _ = .pointer (some ⟨qb, 0, none⟩) from rfl)); clear hout hpre; go_step; exact hK _ _ rfl hG trivial
      · intro k a w' hG hout hpre K hK; obtain ⟨p0, _⟩ := hpre; have q41 := ev_of (show a.eval (.tmp 41) = .pointer (some ⟨qb, 1, none⟩) from p0); have hc := (HD.out w' hG).2.1; clear hout p0; go_step; exact hK _ _ rfl hG trivial
      · intro k a w' hG hout hpre K hK; obtain ⟨p0, _⟩ := hpre; have q40 := ev_of (show a.eval (.tmp 40) = .int .i64 t from p0); clear hout p0; go_step; exact hK _ _ rfl hG trivial
      · intro k a w' hG hout hpre K hK; obtain ⟨p0, _⟩ := hpre; have q42 := ev_of (show a.eval (.tmp 42) = .int .i64 size from p0); clear hout p0; go_step; exact hK _ _ rfl hG trivial
    · intro vs w2 hG hlen hV
      match vs, hlen, hV with
      | [v0, v1, v2, v3, v4], _, hV =>
        obtain rfl : v3 = .int .i64 t := hV 3 4 v3 rfl rfl; obtain rfl : v4 = .int .i64 size := hV 4 5 v4 rfl rfl; clear hV; simp only [putsL, List.tail_cons, List.headD_cons]; simp only [Act.put, List.setIfInBounds_toArray, List.set_cons_succ, List.set_cons_zero]; have HG2 : Hid (Below w.heap.size w w2) := Lib.hid (H1.out.1.trans (hG.mono H1.out.1.size)); clear hG; go_wp2_with (fail); refine bodyPost_ret (results_tmp2 rfl _ _ _) rfl ?_; exact ⟨rfl, HG2.out⟩
  have k2 : kind = 2 := by omega
  have hF := e2 k2
  obtain rfl : st = S := by rw [e4, if_pos k2]
  subst k2; obtain ⟨lst, hlst⟩ : ∃ l, l = max (t - size + 1) 0 := ⟨_, rfl⟩; rw [← hlst] at hF
  have l0 : 0 ≤ lst ∧ lst ≤ 1099511627776 := by
    omega
  obtain ⟨kq, hk1⟩ : ∃ k, k = (lst + st - 1) / st := ⟨_, rfl⟩; rw [← hk1] at hF; have hk := hk1; have HL := Lib.hid hlst
  have HL2 : Hid (lst = if t - size + 1 < 0 then 0 else t - size + 1) := Lib.hid (by rw [hlst]; split <;> omega)
  have HN := Lib.hid (And.intro hk (And.intro hF (And.intro b1 (And.intro b2 (And.intro s1 (And.intro h1 (And.intro s2 (And.intro s5 l0)))))))); clear e1 e2 e3 e4 c3 c4 b1 b2 s2 s3 hF hk hk1 hlst
  go_enter Tryz.func94, Tryz.ntmps94
  go_upto_region 1 with (fail)
  rw [← hw1, ← hqb]; clear hw1 hqb
  go_upto_region 6 with (fail)
  first | rw [← HL.out] | rw [← HL2.out]
  refine wp_region_seq_frame (by kernel_rfl) [none, none, none, none, none, none, none, none, none, none, none, none, none, none, none] [] (vOfC [.int .i64 lst, .pointer (some ⟨qb, 2, none⟩), .int .i64 st, .int .i64 (lst + st), .int .i64 (lst + st - 1), .pointer (some ⟨qb, 2, none⟩), .int .i64 st, .int .i64 kq, .pointer (some ⟨qb, 2, none⟩), .int .i64 st, .int .i64 F, .pointer (some ⟨qb, 2, none⟩), .int .i64 st, .int .i64 F, .int .i64 st]) (fun _ w' => Below w1.heap.size w1 w') (fun _ _ => True) (fun _ _ _ _ _ h => h) (by kernel_rfl) (by kernel_rfl) (by kernel_rfl) HG0.out ⟨trivial, trivial, trivial, trivial, trivial, trivial, trivial, trivial, trivial, trivial, trivial, trivial, trivial, trivial, trivial, trivial⟩ ?_ ?_
  · refine ⟨?_, ?_, ?_, ?_, ?_, ?_, ?_, ?_, ?_, ?_, ?_, ?_, ?_, ?_, ?_, trivial⟩
    · intro k a w' hG hout hpre K hK; have q6 := ev_of ((hout 6 rfl).trans (show _ = .int .i64 lst from rfl)); clear hout hpre; go_step; exact hK _ _ rfl hG trivial
    · intro k a w' hG hout hpre K hK; have q2 := ev_of ((hout 2 rfl).trans (show _ = .pointer (some ⟨qb, 0, none⟩) from rfl)); clear hout hpre; go_step; exact hK _ _ rfl hG trivial
    · intro k a w' hG hout hpre K hK; obtain ⟨p0, _⟩ := hpre; have q28 := ev_of (show a.eval (.tmp 28) = .pointer (some ⟨qb, 2, none⟩) from p0); have hc := (HD.out w' hG).2.2.1; clear hout p0; go_step; exact hK _ _ rfl hG trivial
    · intro k a w' hG hout hpre K hK; obtain ⟨p0, p1, _⟩ := hpre; have q27 := ev_of (show a.eval (.tmp 27) = .int .i64 lst from p0); have q29 := ev_of (show a.eval (.tmp 29) = .int .i64 st from p1); obtain ⟨n1, n2, n3, n4, n5, n6, n7, n8, n9, n10⟩ := HN.out; clear hout p0 p1; go_step
      exact hK _ _ (by go_num) hG trivial
    · intro k a w' hG hout hpre K hK; obtain ⟨p0, _⟩ := hpre; have q30 := ev_of (show a.eval (.tmp 30) = .int .i64 (lst + st) from p0); obtain ⟨n1, n2, n3, n4, n5, n6, n7, n8, n9, n10⟩ := HN.out; clear hout p0; go_step
      exact hK _ _ (by go_num) hG trivial
    · intro k a w' hG hout hpre K hK; have q2 := ev_of ((hout 2 rfl).trans (show _ = .pointer (some ⟨qb, 0, none⟩) from rfl)); clear hout hpre; go_step; exact hK _ _ rfl hG trivial
    · intro k a w' hG hout hpre K hK; obtain ⟨p0, _⟩ := hpre; have q32 := ev_of (show a.eval (.tmp 32) = .pointer (some ⟨qb, 2, none⟩) from p0); have hc := (HD.out w' hG).2.2.1; clear hout p0; go_step; exact hK _ _ rfl hG trivial
    · intro k a w' hG hout hpre K hK; obtain ⟨p0, p1, _⟩ := hpre; have q31 := ev_of (show a.eval (.tmp 31) = .int .i64 (lst + st - 1) from p0); have q33 := ev_of (show a.eval (.tmp 33) = .int .i64 st from p1); obtain ⟨n1, n2, n3, n4, n5, n6, n7, n8, n9, n10⟩ := HN.out; clear hout p0 p1; go_step
      rw [if_neg (show ¬ st = 0 by omega)]
      exact hK _ _ (by show _ = Value.int .i64 kq; rw [n1]) hG trivial
    · intro k a w' hG hout hpre K hK; have q2 := ev_of ((hout 2 rfl).trans (show _ = .pointer (some ⟨qb, 0, none⟩) from rfl)); clear hout hpre; go_step; exact hK _ _ rfl hG trivial
    · intro k a w' hG hout hpre K hK; obtain ⟨p0, _⟩ := hpre; have q35 := ev_of (show a.eval (.tmp 35) = .pointer (some ⟨qb, 2, none⟩) from p0); have hc := (HD.out w' hG).2.2.1; clear hout p0; go_step; exact hK _ _ rfl hG trivial
    · intro k a w' hG hout hpre K hK; obtain ⟨p0, p1, _⟩ := hpre; have q34 := ev_of (show a.eval (.tmp 34) = .int .i64 kq from p0); have q36 := ev_of (show a.eval (.tmp 36) = .int .i64 st from p1); obtain ⟨n1, n2, n3, n4, n5, n6, n7, n8, n9, n10⟩ := HN.out
      have hw : wrap64 (kq * st) = F := by rw [← n2]; exact IntWalk.wrap64_in _ (by omega)
      clear hout p0 p1; go_step
      exact hK _ _ (by show _ = Value.int .i64 F; rw [← n1, hw]) hG trivial
    · intro k a w' hG hout hpre K hK; have q2 := ev_of ((hout 2 rfl).trans (show _ = .pointer (some ⟨qb, 0, none⟩) from rfl)); clear hout hpre; go_step; exact hK _ _ rfl hG trivial
    · intro k a w' hG hout hpre K hK; obtain ⟨p0, _⟩ := hpre; have q38 := ev_of (show a.eval (.tmp 38) = .pointer (some ⟨qb, 2, none⟩) from p0); have hc := (HD.out w' hG).2.2.1; clear hout p0; go_step; exact hK _ _ rfl hG trivial
    · intro k a w' hG hout hpre K hK; obtain ⟨p0, _⟩ := hpre; have q37 := ev_of (show a.eval (.tmp 37) = .int .i64 F from p0); clear hout p0; go_step; exact hK _ _ rfl hG trivial
    · intro k a w' hG hout hpre K hK; obtain ⟨p0, _⟩ := hpre; have q39 := ev_of (show a.eval (.tmp 39) = .int .i64 st from p0); clear hout p0; go_step; exact hK _ _ rfl hG trivial
  · intro vs w2 hG hlen hV
    match vs, hlen, hV with
    | [v0, v1, v2, v3, v4, v5, v6, v7, v8, v9, v10, v11, v12, v13, v14], _, hV =>
      obtain rfl : v13 = .int .i64 F := hV 13 4 v13 rfl rfl; obtain rfl : v14 = .int .i64 st := hV 14 5 v14 rfl rfl; clear hV; simp only [putsL, List.tail_cons, List.headD_cons]; simp only [Act.put, List.setIfInBounds_toArray, List.set_cons_succ, List.set_cons_zero]; have HG2 : Hid (Below w.heap.size w w2) := Lib.hid (H1.out.1.trans (hG.mono H1.out.1.size)); clear hG HN; go_wp2_with (fail); refine bodyPost_ret (results_tmp2 rfl _ _ _) rfl ?_; exact ⟨rfl, HG2.out⟩
end Go.Proofs.YtjeeghafachebaaGreat
namespace Go.Proofs.YtjeeghafachebaaGreat
open Go Go.RowKit
def genW (key : List (BitVec 8)) (F st size : Int) (m : Nat) : List WindowL := (List.range m).map fun (i : Nat) => ⟨key, F + (i : Int) * st, F + (i : Int) * st + size⟩
theorem genW_length (key : List (BitVec 8)) (F st size : Int) (m : Nat) : (genW key F st size m).length = m := by simp [genW]
theorem genW_snoc (key : List (BitVec 8)) (F st size : Int) (m : Nat) : genW key F st size (m + 1) = genW key F st size m ++ [⟨key, F + (m : Int) * st, F + (m : Int) * st + size⟩] := by
  simp [genW, List.range_succ]
theorem ofW_gen {q : QueryL} {key : List (BitVec 8)} {t : Int} (hok : okAsk q key t = true) :
    ∃ m : Nat, m ≤ 16 ∧ ofW q key t = genW key (firstQ q t) (stepQ q) q.size m ∧ ∀ j : Nat, firstQ q t + (j : Int) * stepQ q ≤ t ↔ j < m := by
  have hok2 := hok; simp only [okAsk, Bool.and_eq_true, decide_eq_true_eq] at hok2; obtain ⟨⟨hr, _⟩, ht0, ht1⟩ := hok2; obtain ⟨s1, s2, s3, s4, s5⟩ := stepQ_pos hr
  by_cases k3 : q.kind = 3
  · refine ⟨1, by decide, ?_, fun j => ?_⟩
    · rw [ofW, if_pos hok, if_pos k3, firstQ, if_pos k3]; simp [genW]
    · rw [firstQ, if_pos k3]
      by_cases h : j < 1
      · obtain rfl : j = 0 := by omega
        simp
      · have : (1 : Int) * stepQ q ≤ (j : Int) * stepQ q := Int.mul_le_mul_of_nonneg_right (by omega) (by omega)
        omega
  · have hb := loK_bd hr ht0
    refine ⟨(t / stepQ q + 1 - loK q t).toNat, by omega, ?_, fun j => ?_⟩
    · rw [ofW, if_pos hok, if_neg k3, runW, genW, firstQ, if_neg k3]; refine List.map_congr_left fun i _ => ?_; rw [winAt, Int.add_mul]
    · rw [firstQ, if_neg k3, ← Int.add_mul, ← Int.le_ediv_iff_mul_le (by omega)]
      omega
def OfRel (w : World) (key : List (BitVec 8)) (F st size : Int) (m : Nat) (out f : Value) (wr : World) : Prop :=
  ∃ j : Nat, j ≤ m ∧ f = .int .i64 (F + (j : Int) * st) ∧ OwnW wr w.heap.size out (genW key F st size j) ∧ Below w.heap.size w wr
set_option maxRecDepth 100000 in
set_option maxHeartbeats 2000000 in
theorem wof_any (w : World) (q : QueryL) (key : List (BitVec 8)) (t : Int) (hl : key.length ≤ 1000000) :
    Calls Tryz.prog 62 #[.agg q.cells, Sv key, .int .i64 t] w (WinsEnd w (ofW q key t)) := by
  obtain ⟨w1, hw1⟩ : ∃ W, W = w.alloc (.cells q.cells 23) := ⟨_, rfl⟩; obtain ⟨qb, hqb⟩ : ∃ b, b = w.heap.size := ⟨_, rfl⟩
  have H1 : Hid (Below w.heap.size w w1 ∧ RowQ w1 qb q) := by
    rw [hw1, hqb]; exact Lib.hid ⟨(Below.refl _ w).alloc (Nat.le_refl _) _, heap_alloc_new w _⟩
  obtain ⟨P, hP⟩ : ∃ P, P = WinsEnd w (ofW q key t) := ⟨_, rfl⟩; rw [← hP]; have HP := Lib.hid hP; obtain ⟨Q0, hQ0⟩ : ∃ X : QueryL, X = q := ⟨_, rfl⟩; have HQ0 := Lib.hid hQ0; obtain ⟨r, hr⟩ : ∃ r, r = q.rightB := ⟨_, rfl⟩; obtain ⟨nb, hnb⟩ : ∃ r, r = nameB key := ⟨_, rfl⟩; obtain ⟨tb, htb⟩ : ∃ r, r = decide (0 ≤ t ∧ t ≤ 1099511627776) := ⟨_, rfl⟩
  have HRt : Hid (∀ w', Calls Tryz.prog 28 #[.agg q.cells] w' (Below0 w' (.bool r))) := by
    rw [hr]; exact Lib.hid (fun w' => qright_any w' q)
  have HNm : Hid (∀ w', Calls Tryz.prog 61 #[Sv key] w' fun e w'' => e = .returned (.bool nb) ∧ w'' = w') := by
    rw [hnb]; exact Lib.hid (fun w' => ename_any w' key hl)
  have HTm : Hid (∀ w', Calls Tryz.prog 86 #[.int .i64 t] w' fun e w'' => e = .returned (.bool tb) ∧ w'' = w') := by
    rw [htb]; exact Lib.hid (fun w' => wtime_any w' t)
  have HOkE : Hid (okAsk Q0 key t = (r && nb && tb)) := by
    rw [hr, hnb, htb, hQ0]; exact Lib.hid rfl
  rw [← hQ0] at H1; clear hP hr hnb htb hl; obtain ⟨kind, size, slide, late, agg, tk⟩ := q; unfold QueryL.cells at hw1 HRt; unfold QueryL.cells; simp only at hw1 HRt ⊢
  have HNo : Hid (∀ wz, okAsk Q0 key t = false → Below w.heap.size w wz → P (.returned (.slice none 0 0)) wz) := by
    refine Lib.hid (fun wz h hB => ?_)
    rw [HP.out, ← HQ0.out, ofW, h, if_neg (by decide)]
    exact ⟨none, 0, rfl, Nat.le_refl _, .inl rfl, hB⟩
  have HD : Hid (∀ w', Below w1.heap.size w1 w' → D6 w' qb kind size slide late agg tk) := by
    refine Lib.hid (fun w' h => ?_); have h2 := (H1.out.2.below h).d6; rw [HQ0.out] at h2; exact h2
  obtain ⟨d0, d1, d2, d3, d4, d5⟩ := HD.out w1 (Below.refl _ _); clear hQ0
  go_enter Tryz.func62, Tryz.ntmps62
  go_upto_region 1 with (fail)
  rw [← hw1, ← hqb]; clear hw1 hqb
  cases r with
  | false =>
    go_wp2_with (fail); refine (HRt.out w1).mono ?_; rintro e w2 ⟨rfl, hB⟩; have H2 := Lib.hid (H1.out.1.trans (hB.mono H1.out.1.size)); clear hB d0 d1 d2 d3 d4 d5; dsimp only; go_wp2_with (fail)
    exact HNo.out _ (by rw [HOkE.out]; rfl) H2.out
  | true =>
  cases nb with
  | false =>
    go_wp2_with (fail); refine (HRt.out w1).mono ?_; rintro e w2 ⟨rfl, hB⟩; have H2 := Lib.hid (H1.out.1.trans (hB.mono H1.out.1.size)); clear hB d0 d1 d2 d3 d4 d5; dsimp only; go_wp2_with (fail); refine (HNm.out w2).mono ?_; rintro e w3 ⟨rfl, hw3⟩; subst w3; dsimp only; go_wp2_with (fail)
    exact HNo.out _ (by rw [HOkE.out]; rfl) H2.out
  | true =>
  cases tb with
  | false =>
    go_wp2_with (fail); refine (HRt.out w1).mono ?_; rintro e w2 ⟨rfl, hB⟩; have H2 := Lib.hid (H1.out.1.trans (hB.mono H1.out.1.size)); clear hB d0 d1 d2 d3 d4 d5; dsimp only; go_wp2_with (fail); refine (HNm.out w2).mono ?_; rintro e w3 ⟨rfl, hw3⟩; subst w3; dsimp only; go_wp2_with (fail); refine (HTm.out w2).mono ?_; rintro e w3 ⟨rfl, hw3⟩; subst w3; dsimp only; go_wp2_with (fail)
    exact HNo.out _ (by rw [HOkE.out]; rfl) H2.out
  | true =>
  have hok : okAsk Q0 key t = true := by rw [HOkE.out]; rfl
  have hok2 := hok; simp only [okAsk, Bool.and_eq_true, decide_eq_true_eq] at hok2; obtain ⟨⟨hQr, _⟩, ht0, ht1⟩ := hok2; obtain ⟨s1, s2, s3, s4, s5⟩ := stepQ_pos hQr; obtain ⟨f0, f1⟩ := firstQ_bd hQr ht0
  have hsz : Q0.size = size := by rw [HQ0.out]
  obtain ⟨m, hm, hof, hcnt⟩ := ofW_gen hok; rw [hsz] at hof s2 s4 s5
  have HSt : Hid (∀ w', Calls Tryz.prog 94 #[.agg #[.int .i64 kind, .int .i64 size, .int .i64 slide, .int .i64 late, .int .i64 agg, .int .i64 tk], .int .i64 t] w' (Below0 w' (.tuple #[.int .i64 (firstQ Q0 t), .int .i64 (stepQ Q0)]))) := by
    refine Lib.hid (fun w' => ?_); have h := wstarts_any w' Q0 t hQr ht0 ht1; rw [HQ0.out] at h ⊢; exact h
  obtain ⟨F, hF⟩ : ∃ F, F = firstQ Q0 t := ⟨_, rfl⟩; obtain ⟨st, hst⟩ : ∃ s, s = stepQ Q0 := ⟨_, rfl⟩; rw [← hF, ← hst] at hof hcnt HSt; rw [← hF] at f0 f1; rw [← hst] at s1 s2
  have HYes : Hid (∀ wz B v, OwnW wz B v (genW key F st size m) → Below w.heap.size w wz → P (.returned v) wz) := by
    refine Lib.hid (fun wz B v ho hB => ?_); rw [HP.out, ← HQ0.out, hof]; obtain ⟨a, c', e1, e2, e3⟩ := ho.form
    exact ⟨a, c', by rw [e1], e2, e3, hB⟩
  have HM := Lib.hid (And.intro hm (And.intro hcnt (And.intro f0 (And.intro f1 (And.intro s1 (And.intro s2 (And.intro s4 (And.intro s5 (And.intro ht0 ht1))))))))); clear hok hQr ht0 ht1 s1 s2 s3 s4 s5 f0 f1 hsz hm hof hcnt hF hst HP HQ0 HOkE HNo; go_wp2_with (fail); refine (HRt.out w1).mono ?_; rintro e w2 ⟨rfl, hB⟩; have H2 := Lib.hid hB; clear hB d0 d1 d2 d3 d4 d5; dsimp only; go_wp2_with (fail); refine (HNm.out w2).mono ?_; rintro e w3 ⟨rfl, hw3⟩; subst w3; dsimp only; go_wp2_with (fail); refine (HTm.out w2).mono ?_; rintro e w3 ⟨rfl, hw3⟩; subst w3; dsimp only; obtain ⟨d0, d1, d2, d3, d4, d5⟩ := HD.out w2 H2.out; go_wp2_with (fail); refine (HSt.out w2).mono ?_; rintro e ws ⟨rfl, hB⟩; have HS := Lib.hid (H2.out.trans (hB.mono H2.out.size)); clear hB d0 d1 d2 d3 d4 d5; dsimp only; go_wp2_with (fail); obtain ⟨Sr, hSr⟩ : ∃ S, S = OfRel w1 key F st size m := ⟨_, rfl⟩
  have HRel : Hid (∀ o f wr, Sr o f wr ↔ ∃ j : Nat, j ≤ m ∧ f = .int .i64 (F + (j : Int) * st) ∧ OwnW wr w1.heap.size o (genW key F st size j) ∧ Below w1.heap.size w1 wr) := by
    rw [hSr]; exact Lib.hid (fun _ _ _ => Iff.rfl)
  clear hSr
  go_loopw [7, 10] Sr (fun _ f _ => (t + 1 - intOf f).toNat)
  case atStart => exact (HRel.out _ _ _).2 ⟨0, Nat.zero_le _, by rw [Int.natCast_zero, Int.zero_mul, Int.add_zero], OwnW.nil _ _, HS.out⟩
  case round =>
    obtain ⟨j, hj, rfl, hO, hB⟩ := (HRel.out _ _ _).1 hrel; obtain ⟨a, c, hu, hcap, hWa⟩ := hO.form; subst hu; rw [genW_length] at hO ⊢; have HO := Lib.hid (And.intro hO hB); clear hcap hWa; obtain ⟨d0, d1, d2, d3, d4, d5⟩ := HD.out wr hB; obtain ⟨n1, n2, n3, n4, n5, n6, n7, n8, n9, n10⟩ := HM.out; obtain ⟨f, hf⟩ : ∃ f, f = F + (j : Int) * st := ⟨_, rfl⟩; rw [← hf]
    have hp0 : 0 ≤ (j : Int) * st := Int.mul_nonneg (by omega) (by omega)
    have hf0 : 0 ≤ f := by omega
    have hfj : f ≤ t ↔ j < m := by rw [hf]; exact n2 j
    by_cases hlt : j < m
    · have hft : f ≤ t := hfj.2 hlt
      have hnx : F + ((j + 1 : Nat) : Int) * st = f + st := by
        rw [hf, Int.natCast_add, Int.add_mul, Int.natCast_one, Int.one_mul]; omega
      obtain ⟨x, hx⟩ : ∃ x, x = WindowL.mk key f (f + size) := ⟨_, rfl⟩
      have hsn : genW key F st size (j + 1) = genW key F st size j ++ [x] := by rw [genW_snoc, ← hf, hx]
      have hbuilt := built_window key f (f + size); rw [← hx] at hbuilt; have HN := Lib.hid (And.intro hnx (And.intro hlt (And.intro hsn n1))); clear hO hB hlt n1 n2 n3 n4 hj hnx hsn hfj hf hp0
      go_upto_region 8 with (fail)
      refine wp_region_lit ?_
      iterate 21 go_step
      refine wpList_build_on (by kernel_rfl) 47 _ rfl x.cells (by simp only [List.map_toArray, List.map_cons, List.map_nil]; exact hbuilt) ?_
      clear hbuilt hx; refine wpList_slice1_W rfl (.tmp 44) rfl x rfl ?_
      have HW : Hid (OwnW (wr.alloc (.cells x.cells 47)) w1.heap.size (.slice a j c) (genW key F st size j) ∧ Below w1.heap.size w1 (wr.alloc (.cells x.cells 47))) := by
        obtain ⟨h1, h2⟩ := HO.out; have hn : Below wr.heap.size wr (wr.alloc (.cells x.cells 47)) := (Below.refl _ wr).alloc (Nat.le_refl _) _; exact Lib.hid ⟨h1.far hn, h2.trans (hn.mono h2.size)⟩
      have HU : Hid (∀ i z, x.cells[i]? = some z → (wr.alloc (.cells x.cells 47)).cell? ⟨wr.heap.size, i, none⟩ = some z) := by
        refine Lib.hid (fun i z hz => ?_); rw [cell_of_row _ _ _ _ _ _ (heap_alloc_new wr _)]; exact hz
      clear d0 d1 d2 d3 d4 d5; obtain ⟨gn, hgn⟩ : ∃ b, b = wr.heap.size := ⟨_, rfl⟩; obtain ⟨wn, hwn⟩ : ∃ W, W = wr.alloc (.cells x.cells 47) := ⟨_, rfl⟩; rw [← hwn, ← hgn] at HU ⊢; rw [← hwn] at HW; clear hwn hgn
      refine wpList_pushW rfl (.tmp 37) (.tmp 45) rfl w1.heap.size (.slice a j c) (genW key F st size j) rfl HW.out.1 x gn rfl HU.out (by rw [genW_length]; have := HN.out.2.1; have := HN.out.2.2.2; omega) HW.out.2.size ?_
      intro v' w3 g1 g2 g3
      have HR3 : Hid (Sr v' (.int .i64 (f + st)) w3) := by
        obtain ⟨h1, h2⟩ := HW.out
        refine Lib.hid ((HRel.out _ _ _).2 ⟨j + 1, HN.out.2.1, by rw [HN.out.1], ?_, h2.trans (h1.below g2 h2.size)⟩)
        rw [HN.out.2.2.1]; exact g1
      clear g1 g2 g3; go_wp2_with (fail); go_roundw
      case rel => exact HR3.out
      case measure => simp [intOf]; omega
    · obtain rfl : j = m := by omega
      have hft : ¬ f ≤ t := fun h => by
        have := hfj.1 h; omega
      have HZ : Hid (P (.returned (.slice a j c)) wr) := Lib.hid (HYes.out wr w1.heap.size _ HO.out.1 (H1.out.1.trans (HO.out.2.mono H1.out.1.size))); clear hO hB hlt n1 n2 n3 n4 n5 n6 n7 n8 n9 n10 hj hfj hf hp0 d0 d1 d2 d3 d4 d5; go_wp2_with (fail); exact HZ.out
end Go.Proofs.YtjeeghafachebaaGreat
