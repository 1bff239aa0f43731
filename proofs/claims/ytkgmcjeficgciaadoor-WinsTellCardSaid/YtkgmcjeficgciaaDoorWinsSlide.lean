/-
  Package wins's starts: where the windows of a time start, and how far they are apart.
-/
import Derived.Test.YtkgmcjeficgciaaDoorWinsRight
import Derived.Test.YtkgmcjeficgciaaDoorWinsMore
import Derived.Test.YtkgmcjeficgciaaDoorQueryRight
namespace Go.Proofs.YtkgmcjeficgciaaDoor
open Go Go.RowKit

def firstQ (q : QueryL) (t : Int) : Int := if q.kind = 3 then t else loK q t * stepQ q
theorem firstQ_one {q : QueryL} {t : Int} (hr : q.rightB = true) (ht0 : 0 ≤ t) (hk : q.kind = 1) : firstQ q t = t - t % q.size := by
  have hst : stepQ q = q.size := by rw [stepQ, if_neg (by rw [hk]; decide)]
  obtain ⟨s1, s2, s3, s4, s5⟩ := stepQ_pos hr
  have hb := loK_bd hr ht0
  have hs := fun k hk => loK_spec hr (t := t) k hk
  rw [hst] at hb
  have hm : t / q.size * q.size = t - t % q.size := by
    have := Int.mul_ediv_add_emod t q.size
    rw [Int.mul_comm]
    omega
  have hlo : loK q t = t / q.size := by
    by_cases h0 : t / q.size - 1 < 0
    · omega
    · have h := not_congr (hs (t / q.size - 1) (by omega))
      rw [hst, Int.sub_mul, Int.one_mul, hm] at h
      have he := Int.emod_nonneg t (show q.size ≠ 0 by omega)
      have := h.1 (by omega)
      omega
  rw [firstQ, if_neg (by rw [hk]; decide), hst, hlo, hm]
/-- The least start from which the time is still in, and the first multiple from there on. -/
theorem firstQ_two {q : QueryL} {t : Int} (hr : q.rightB = true) (hk : q.kind = 2) : firstQ q t = (max (t - q.size + 1) 0 + q.slide - 1) / q.slide * q.slide := by
  have hst : stepQ q = q.slide := by rw [stepQ, if_pos hk]
  obtain ⟨s1, s2, s3, s4, s5⟩ := stepQ_pos hr
  rw [hst] at s1
  rw [firstQ, if_neg (by rw [hk]; decide), hst, loK, hst]
  congr 1
  by_cases h : t < q.size
  · rw [if_pos h, show max (t - q.size + 1) 0 = 0 by omega, Int.zero_add, Int.ediv_eq_zero_of_lt (by omega) (by omega)]
  · rw [if_neg h, show max (t - q.size + 1) 0 + q.slide - 1 = t - q.size + 1 * q.slide by omega, Int.add_mul_ediv_right _ _ (by omega)]
theorem firstQ_bd {q : QueryL} {t : Int} (hr : q.rightB = true) (ht0 : 0 ≤ t) : 0 ≤ firstQ q t ∧ firstQ q t ≤ t := by
  obtain ⟨s1, s2, s3, s4, s5⟩ := stepQ_pos hr
  obtain ⟨b1, b2, b3⟩ := loK_bd hr ht0
  unfold firstQ
  split
  · omega
  · have h1 := Int.mul_nonneg b1 (show 0 ≤ stepQ q by omega)
    have h2 : loK q t * stepQ q ≤ t / stepQ q * stepQ q := Int.mul_le_mul_of_nonneg_right b2 (by omega)
    have h3 : t / stepQ q * stepQ q ≤ t := Int.ediv_mul_le _ (by omega)
    omega
set_option maxRecDepth 100000 in
set_option maxHeartbeats 1000000 in
theorem wstarts_any (w : World) (q : QueryL) (t : Int) (hr : q.rightB = true) (h0 : 0 ≤ t) (h1 : t ≤ 1099511627776) :
    Calls Tryd.prog 39 #[.agg q.cells, .int .i64 t] w (Below0 w (.tuple #[.int .i64 (firstQ q t), .int .i64 (stepQ q)])) := by
  obtain ⟨w1, hw1⟩ : ∃ W, W = w.alloc (.cells q.cells 23) := ⟨_, rfl⟩
  obtain ⟨qb, hqb⟩ : ∃ b, b = w.heap.size := ⟨_, rfl⟩
  have H1 : Hid (Below w.heap.size w w1 ∧ RowQ w1 qb q) := by
    rw [hw1, hqb]
    exact Lib.hid ⟨(Below.refl _ w).alloc (Nat.le_refl _) _, heap_alloc_new w _⟩
  have HD : Hid (∀ w', Below w1.heap.size w1 w' → D6 w' qb q.kind q.size q.slide q.late q.agg q.k) := Lib.hid (fun w' h => (H1.out.2.below h).d6)
  have HG0 : Hid (Below w1.heap.size w1 w1.drew) := (Below.refl _ w1).drew
  obtain ⟨s1, s2, s3, s4, s5⟩ := stepQ_pos hr
  obtain ⟨b1, b2⟩ := firstQ_bd hr h0
  obtain ⟨c1, _, c3, c4, _⟩ := rightQ_cases hr
  have e1 := fun hk => firstQ_one hr h0 hk
  have e2 := fun hk => firstQ_two (t := t) hr hk
  have e3 : q.kind = 3 → firstQ q t = t := fun hk => by rw [firstQ, if_pos hk]
  have e4 : stepQ q = if q.kind = 2 then q.slide else q.size := rfl
  obtain ⟨F, hF⟩ : ∃ F, F = firstQ q t := ⟨_, rfl⟩
  obtain ⟨S, hS⟩ : ∃ S, S = stepQ q := ⟨_, rfl⟩
  rw [← hF] at b1 b2 e1 e2 e3 ⊢
  rw [← hS] at s1 s2 s3 e4 ⊢
  clear hF hS hr c1
  obtain ⟨kind, size, st, late, agg, tk⟩ := q
  unfold QueryL.cells at hw1 ⊢
  simp only at hw1 HD s2 s3 s4 s5 c3 c4 e1 e2 e3 e4 ⊢
  obtain ⟨d0, d1, d2, d3, d4, d5⟩ := HD.out w1 (Below.refl _ _)
  clear d3 d4 d5
  by_cases k1 : kind = 1
  · have hF := e1 k1
    obtain rfl : size = S := by rw [e4, if_neg (by omega)]
    obtain ⟨r, hr⟩ : ∃ r, r = t % size := ⟨_, rfl⟩
    rw [← hr] at hF
    have hm0 := Int.emod_nonneg t (show size ≠ 0 by omega)
    rw [← hr] at hm0
    subst k1
    have HN := Lib.hid (And.intro hr (And.intro hF (And.intro b1 (And.intro b2 (And.intro s4 (And.intro h1 hm0))))))
    clear e1 e2 e3 e4 c3 c4 hr hF hm0 b1 b2 s1 s2 s3
    go_enter Tryd.func39, Tryd.ntmps39
    go_upto_region 1 with (fail)
    rw [← hw1, ← hqb]
    clear hw1 hqb
    go_upto_region 3 with (fail)
    refine wp_region_seq_frame (by kernel_rfl) [none, none, none, none, none, none, none, none, none, none] [] (vOfC [.int .i64 t, .int .i64 t, .pointer (some ⟨qb, 1, none⟩), .int .i64 size, .int .i64 r, .int .i64 F, .pointer (some ⟨qb, 1, none⟩), .int .i64 size, .int .i64 F, .int .i64 size]) (fun _ w' => Below w1.heap.size w1 w') (fun _ _ => True) (fun _ _ _ _ _ h => h) (by kernel_rfl) (by kernel_rfl) (by kernel_rfl) HG0.out ⟨trivial, trivial, trivial, trivial, trivial, trivial, trivial, trivial, trivial, trivial, trivial⟩ ?_ ?_
    · refine ⟨?_, ?_, ?_, ?_, ?_, ?_, ?_, ?_, ?_, ?_, trivial⟩
      · intro k a w' hG hout hpre K hK
        have q1 := ev_of ((hout 1 rfl).trans (show _ = .int .i64 t from rfl))
        clear hout hpre
        go_step
        exact hK _ _ rfl hG trivial
      · intro k a w' hG hout hpre K hK
        have q1 := ev_of ((hout 1 rfl).trans (show _ = .int .i64 t from rfl))
        clear hout hpre
        go_step
        exact hK _ _ rfl hG trivial
      · intro k a w' hG hout hpre K hK
        have q2 := ev_of ((hout 2 rfl).trans (show _ = .pointer (some ⟨qb, 0, none⟩) from rfl))
        clear hout hpre
        go_step
        exact hK _ _ rfl hG trivial
      · intro k a w' hG hout hpre K hK
        obtain ⟨p0, _⟩ := hpre
        have q13 := ev_of (show a.eval (.tmp 13) = .pointer (some ⟨qb, 1, none⟩) from p0)
        have hc := (HD.out w' hG).2.1
        clear hout p0
        go_step
        exact hK _ _ rfl hG trivial
      · intro k a w' hG hout hpre K hK
        obtain ⟨p0, p1, _⟩ := hpre
        have q12 := ev_of (show a.eval (.tmp 12) = .int .i64 t from p0)
        have q14 := ev_of (show a.eval (.tmp 14) = .int .i64 size from p1)
        obtain ⟨n1, n2, n3, n4, n5, n6, n7⟩ := HN.out
        clear hout p0 p1
        go_step
        rw [if_neg (show ¬ size = 0 by omega)]
        exact hK _ _ (by show _ = Value.int .i64 r; rw [n1]) hG trivial
      · intro k a w' hG hout hpre K hK
        obtain ⟨p0, p1, _⟩ := hpre
        have q11 := ev_of (show a.eval (.tmp 11) = .int .i64 t from p0)
        have q15 := ev_of (show a.eval (.tmp 15) = .int .i64 r from p1)
        obtain ⟨n1, n2, n3, n4, n5, n6, n7⟩ := HN.out
        clear hout p0 p1
        go_step
        exact hK _ _ (by rw [n2]; go_num) hG trivial
      · intro k a w' hG hout hpre K hK
        have q2 := ev_of ((hout 2 rfl).trans (show _ = .pointer (some ⟨qb, 0, none⟩) from rfl))
        clear hout hpre
        go_step
        exact hK _ _ rfl hG trivial
      · intro k a w' hG hout hpre K hK
        obtain ⟨p0, _⟩ := hpre
        have q17 := ev_of (show a.eval (.tmp 17) = .pointer (some ⟨qb, 1, none⟩) from p0)
        have hc := (HD.out w' hG).2.1
        clear hout p0
        go_step
        exact hK _ _ rfl hG trivial
      · intro k a w' hG hout hpre K hK
        obtain ⟨p0, _⟩ := hpre
        have q16 := ev_of (show a.eval (.tmp 16) = .int .i64 F from p0)
        clear hout p0
        go_step
        exact hK _ _ rfl hG trivial
      · intro k a w' hG hout hpre K hK
        obtain ⟨p0, _⟩ := hpre
        have q18 := ev_of (show a.eval (.tmp 18) = .int .i64 size from p0)
        clear hout p0
        go_step
        exact hK _ _ rfl hG trivial
    · intro vs w2 hG hlen hV
      match vs, hlen, hV with
      | [v0, v1, v2, v3, v4, v5, v6, v7, v8, v9], _, hV =>
        obtain rfl : v8 = .int .i64 F := hV 8 4 v8 rfl rfl
        obtain rfl : v9 = .int .i64 size := hV 9 5 v9 rfl rfl
        clear hV
        simp only [putsL, List.tail_cons, List.headD_cons]
        simp only [Act.put, List.setIfInBounds_toArray, List.set_cons_succ, List.set_cons_zero]
        have HG2 : Hid (Below w.heap.size w w2) := Lib.hid (H1.out.1.trans (hG.mono H1.out.1.size))
        clear hG HN
        go_wp2_with (fail)
        refine bodyPost_ret (results_tmp2 rfl _ _ _) rfl ?_
        exact ⟨rfl, HG2.out⟩
  by_cases k3 : kind = 3
  · obtain rfl : t = F := (e3 k3).symm
    obtain rfl : size = S := by rw [e4, if_neg (by omega)]
    subst k3
    have HN := Lib.hid h1
    clear e1 e2 e3 e4 c3 c4 b1 b2 s1 s2 s3
    go_enter Tryd.func39, Tryd.ntmps39
    go_upto_region 1 with (fail)
    rw [← hw1, ← hqb]
    clear hw1 hqb
    go_upto_region 7 with (fail)
    refine wp_region_seq_frame (by kernel_rfl) [none, none, none, none, none] [] (vOfC [.int .i64 t, .pointer (some ⟨qb, 1, none⟩), .int .i64 size, .int .i64 t, .int .i64 size]) (fun _ w' => Below w1.heap.size w1 w') (fun _ _ => True) (fun _ _ _ _ _ h => h) (by kernel_rfl) (by kernel_rfl) (by kernel_rfl) HG0.out ⟨trivial, trivial, trivial, trivial, trivial, trivial⟩ ?_ ?_
    · refine ⟨?_, ?_, ?_, ?_, ?_, trivial⟩
      · intro k a w' hG hout hpre K hK
        have q1 := ev_of ((hout 1 rfl).trans (show _ = .int .i64 t from rfl))
        clear hout hpre
        go_step
        exact hK _ _ rfl hG trivial
      · intro k a w' hG hout hpre K hK
        have q2 := ev_of ((hout 2 rfl).trans (show _ = .pointer (some ⟨qb, 0, none⟩) from rfl))
        clear hout hpre
        go_step
        exact hK _ _ rfl hG trivial
      · intro k a w' hG hout hpre K hK
        obtain ⟨p0, _⟩ := hpre
        have q41 := ev_of (show a.eval (.tmp 41) = .pointer (some ⟨qb, 1, none⟩) from p0)
        have hc := (HD.out w' hG).2.1
        clear hout p0
        go_step
        exact hK _ _ rfl hG trivial
      · intro k a w' hG hout hpre K hK
        obtain ⟨p0, _⟩ := hpre
        have q40 := ev_of (show a.eval (.tmp 40) = .int .i64 t from p0)
        clear hout p0
        go_step
        exact hK _ _ rfl hG trivial
      · intro k a w' hG hout hpre K hK
        obtain ⟨p0, _⟩ := hpre
        have q42 := ev_of (show a.eval (.tmp 42) = .int .i64 size from p0)
        clear hout p0
        go_step
        exact hK _ _ rfl hG trivial
    · intro vs w2 hG hlen hV
      match vs, hlen, hV with
      | [v0, v1, v2, v3, v4], _, hV =>
        obtain rfl : v3 = .int .i64 t := hV 3 4 v3 rfl rfl
        obtain rfl : v4 = .int .i64 size := hV 4 5 v4 rfl rfl
        clear hV
        simp only [putsL, List.tail_cons, List.headD_cons]
        simp only [Act.put, List.setIfInBounds_toArray, List.set_cons_succ, List.set_cons_zero]
        have HG2 : Hid (Below w.heap.size w w2) := Lib.hid (H1.out.1.trans (hG.mono H1.out.1.size))
        clear hG
        go_wp2_with (fail)
        refine bodyPost_ret (results_tmp2 rfl _ _ _) rfl ?_
        exact ⟨rfl, HG2.out⟩
  have k2 : kind = 2 := by omega
  have hF := e2 k2
  obtain rfl : st = S := by rw [e4, if_pos k2]
  subst k2
  obtain ⟨lst, hlst⟩ : ∃ l, l = max (t - size + 1) 0 := ⟨_, rfl⟩
  rw [← hlst] at hF
  have l0 : 0 ≤ lst ∧ lst ≤ 1099511627776 := by
    omega
  obtain ⟨kq, hk1⟩ : ∃ k, k = (lst + st - 1) / st := ⟨_, rfl⟩
  rw [← hk1] at hF
  have hk := hk1
  have HL := Lib.hid hlst
  have HN := Lib.hid (And.intro hk (And.intro hF (And.intro b1 (And.intro b2 (And.intro s1 (And.intro h1 (And.intro s2 (And.intro s5 l0))))))))
  clear e1 e2 e3 e4 c3 c4 b1 b2 s2 s3 hF hk hk1 hlst
  go_enter Tryd.func39, Tryd.ntmps39
  go_upto_region 1 with (fail)
  rw [← hw1, ← hqb]
  clear hw1 hqb
  go_upto_region 6 with (fail)
  rw [← HL.out]
  refine wp_region_seq_frame (by kernel_rfl) [none, none, none, none, none, none, none, none, none, none, none, none, none, none, none] [] (vOfC [.int .i64 lst, .pointer (some ⟨qb, 2, none⟩), .int .i64 st, .int .i64 (lst + st), .int .i64 (lst + st - 1), .pointer (some ⟨qb, 2, none⟩), .int .i64 st, .int .i64 kq, .pointer (some ⟨qb, 2, none⟩), .int .i64 st, .int .i64 F, .pointer (some ⟨qb, 2, none⟩), .int .i64 st, .int .i64 F, .int .i64 st]) (fun _ w' => Below w1.heap.size w1 w') (fun _ _ => True) (fun _ _ _ _ _ h => h) (by kernel_rfl) (by kernel_rfl) (by kernel_rfl) HG0.out ⟨trivial, trivial, trivial, trivial, trivial, trivial, trivial, trivial, trivial, trivial, trivial, trivial, trivial, trivial, trivial, trivial⟩ ?_ ?_
  · refine ⟨?_, ?_, ?_, ?_, ?_, ?_, ?_, ?_, ?_, ?_, ?_, ?_, ?_, ?_, ?_, trivial⟩
    · intro k a w' hG hout hpre K hK
      have q6 := ev_of ((hout 6 rfl).trans (show _ = .int .i64 lst from rfl))
      clear hout hpre
      go_step
      exact hK _ _ rfl hG trivial
    · intro k a w' hG hout hpre K hK
      have q2 := ev_of ((hout 2 rfl).trans (show _ = .pointer (some ⟨qb, 0, none⟩) from rfl))
      clear hout hpre
      go_step
      exact hK _ _ rfl hG trivial
    · intro k a w' hG hout hpre K hK
      obtain ⟨p0, _⟩ := hpre
      have q28 := ev_of (show a.eval (.tmp 28) = .pointer (some ⟨qb, 2, none⟩) from p0)
      have hc := (HD.out w' hG).2.2.1
      clear hout p0
      go_step
      exact hK _ _ rfl hG trivial
    · intro k a w' hG hout hpre K hK
      obtain ⟨p0, p1, _⟩ := hpre
      have q27 := ev_of (show a.eval (.tmp 27) = .int .i64 lst from p0)
      have q29 := ev_of (show a.eval (.tmp 29) = .int .i64 st from p1)
      obtain ⟨n1, n2, n3, n4, n5, n6, n7, n8, n9, n10⟩ := HN.out
      clear hout p0 p1
      go_step
      exact hK _ _ (by go_num) hG trivial
    · intro k a w' hG hout hpre K hK
      obtain ⟨p0, _⟩ := hpre
      have q30 := ev_of (show a.eval (.tmp 30) = .int .i64 (lst + st) from p0)
      obtain ⟨n1, n2, n3, n4, n5, n6, n7, n8, n9, n10⟩ := HN.out
      clear hout p0
      go_step
      exact hK _ _ (by go_num) hG trivial
    · intro k a w' hG hout hpre K hK
      have q2 := ev_of ((hout 2 rfl).trans (show _ = .pointer (some ⟨qb, 0, none⟩) from rfl))
      clear hout hpre
      go_step
      exact hK _ _ rfl hG trivial
    · intro k a w' hG hout hpre K hK
      obtain ⟨p0, _⟩ := hpre
      have q32 := ev_of (show a.eval (.tmp 32) = .pointer (some ⟨qb, 2, none⟩) from p0)
      have hc := (HD.out w' hG).2.2.1
      clear hout p0
      go_step
      exact hK _ _ rfl hG trivial
    · intro k a w' hG hout hpre K hK
      obtain ⟨p0, p1, _⟩ := hpre
      have q31 := ev_of (show a.eval (.tmp 31) = .int .i64 (lst + st - 1) from p0)
      have q33 := ev_of (show a.eval (.tmp 33) = .int .i64 st from p1)
      obtain ⟨n1, n2, n3, n4, n5, n6, n7, n8, n9, n10⟩ := HN.out
      clear hout p0 p1
      go_step
      rw [if_neg (show ¬ st = 0 by omega)]
      exact hK _ _ (by show _ = Value.int .i64 kq; rw [n1]) hG trivial
    · intro k a w' hG hout hpre K hK
      have q2 := ev_of ((hout 2 rfl).trans (show _ = .pointer (some ⟨qb, 0, none⟩) from rfl))
      clear hout hpre
      go_step
      exact hK _ _ rfl hG trivial
    · intro k a w' hG hout hpre K hK
      obtain ⟨p0, _⟩ := hpre
      have q35 := ev_of (show a.eval (.tmp 35) = .pointer (some ⟨qb, 2, none⟩) from p0)
      have hc := (HD.out w' hG).2.2.1
      clear hout p0
      go_step
      exact hK _ _ rfl hG trivial
    · intro k a w' hG hout hpre K hK
      obtain ⟨p0, p1, _⟩ := hpre
      have q34 := ev_of (show a.eval (.tmp 34) = .int .i64 kq from p0)
      have q36 := ev_of (show a.eval (.tmp 36) = .int .i64 st from p1)
      obtain ⟨n1, n2, n3, n4, n5, n6, n7, n8, n9, n10⟩ := HN.out
      have hw : wrap64 (kq * st) = F := by rw [← n2]; exact IntWalk.wrap64_in _ (by omega)
      clear hout p0 p1
      go_step
      exact hK _ _ (by show _ = Value.int .i64 F; rw [← n1, hw]) hG trivial
    · intro k a w' hG hout hpre K hK
      have q2 := ev_of ((hout 2 rfl).trans (show _ = .pointer (some ⟨qb, 0, none⟩) from rfl))
      clear hout hpre
      go_step
      exact hK _ _ rfl hG trivial
    · intro k a w' hG hout hpre K hK
      obtain ⟨p0, _⟩ := hpre
      have q38 := ev_of (show a.eval (.tmp 38) = .pointer (some ⟨qb, 2, none⟩) from p0)
      have hc := (HD.out w' hG).2.2.1
      clear hout p0
      go_step
      exact hK _ _ rfl hG trivial
    · intro k a w' hG hout hpre K hK
      obtain ⟨p0, _⟩ := hpre
      have q37 := ev_of (show a.eval (.tmp 37) = .int .i64 F from p0)
      clear hout p0
      go_step
      exact hK _ _ rfl hG trivial
    · intro k a w' hG hout hpre K hK
      obtain ⟨p0, _⟩ := hpre
      have q39 := ev_of (show a.eval (.tmp 39) = .int .i64 st from p0)
      clear hout p0
      go_step
      exact hK _ _ rfl hG trivial
  · intro vs w2 hG hlen hV
    match vs, hlen, hV with
    | [v0, v1, v2, v3, v4, v5, v6, v7, v8, v9, v10, v11, v12, v13, v14], _, hV =>
      obtain rfl : v13 = .int .i64 F := hV 13 4 v13 rfl rfl
      obtain rfl : v14 = .int .i64 st := hV 14 5 v14 rfl rfl
      clear hV
      simp only [putsL, List.tail_cons, List.headD_cons]
      simp only [Act.put, List.setIfInBounds_toArray, List.set_cons_succ, List.set_cons_zero]
      have HG2 : Hid (Below w.heap.size w w2) := Lib.hid (H1.out.1.trans (hG.mono H1.out.1.size))
      clear hG HN
      go_wp2_with (fail)
      refine bodyPost_ret (results_tmp2 rfl _ _ _) rfl ?_
      exact ⟨rfl, HG2.out⟩
end Go.Proofs.YtkgmcjeficgciaaDoor
