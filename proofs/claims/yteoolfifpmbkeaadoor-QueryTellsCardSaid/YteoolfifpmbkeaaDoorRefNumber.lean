/-
  The contract of the reference's Number: a whole number's text, as it is told.
-/
import Derived.Test.YteoolfifpmbkeaaDoorRefSplit
namespace Go.Proofs.YteoolfifpmbkeaaDoor
open Go Go.RowKit

/-- The loop over a number's digits: what it has come to. -/
def RNu (w : World) (s : List (BitVec 8)) (n i : Value) (wr : World) : Prop :=
  ∃ t : Nat, t ≤ s.length ∧ i = .int .i64 (t : Int) ∧ n = .int .i64 ((valL (s.take t) : Nat) : Int) ∧ (s.take t).all digitC = true ∧ wr = w
theorem valL_lt (l : List (BitVec 8)) (h : l.all digitC = true) : valL l < 10 ^ l.length := by
  have key : ∀ (n : Nat) (l : List (BitVec 8)), l.length = n → l.all digitC = true → valL l < 10 ^ n := by
    intro n
    induction n with
    | zero =>
      intro l hl _
      rw [List.eq_nil_of_length_eq_zero hl]
      decide
    | succ n ih =>
      intro l hl hd
      have hne : l ≠ [] := by intro e; rw [e] at hl; simp at hl
      obtain ⟨a, c, rfl⟩ : ∃ a c, l = a ++ [c] := ⟨l.dropLast, l.getLast hne, (List.dropLast_concat_getLast hne).symm⟩
      rw [List.all_append, Bool.and_eq_true] at hd
      have hc : digitC c = true := by simpa using hd.2
      simp only [digitC, decide_eq_true_eq] at hc
      have hi := ih a (by simpa using hl) hd.1
      rw [valL_snoc, Nat.pow_succ]
      omega
  exact key _ l rfl h
/-- The text behind a minus, and the sign. -/
def restN (s : List (BitVec 8)) : List (BitVec 8) := if negN s = true then s.tail else s
def signN (s : List (BitVec 8)) : Int := if negN s = true then -1 else 1
theorem refNum_eq (s : List (BitVec 8)) : refNum s = if negN s = true ∧ restN s = [48] then (0, false) else if plainN (restN s) = true then (signN s * (valL (restN s) : Int), true) else (0, false) := by
  unfold refNum restN signN
  cases negN s with
  | true =>
    simp only [if_true, true_and]
    split
    · rfl
    · split
      · simp only [Prod.mk.injEq, and_true]
        omega
      · rfl
  | false =>
    simp only [Bool.false_eq_true, if_false, false_and]
    split
    · simp only [Prod.mk.injEq, and_true]
      omega
    · rfl
theorem plain_early {d : List (BitVec 8)} (h : d = [] ∨ 18 < d.length ∨ (d.head? = some 48 ∧ d ≠ [48])) : plainN d = false := by
  have e : (decide (d = []) || (decide (18 < d.length) || (decide (d.head? = some 48) && !decide (d = [48])))) = true := by
    rcases h with h | h | ⟨h1, h2⟩
    · simp [h]
    · simp [h]
    · rw [decide_eq_true h1, decide_eq_false h2]
      simp
  rw [plainN, e]
  rfl
theorem plain_late {d : List (BitVec 8)} (h1 : d ≠ []) (h2 : d.length ≤ 18) (h3 : d.head? = some 48 → d = [48]) : plainN d = d.all digitC := by
  have e : (decide (d = []) || (decide (18 < d.length) || (decide (d.head? = some 48) && !decide (d = [48])))) = false := by
    by_cases h : d.head? = some 48
    · rw [h3 h]
      rfl
    · rw [decide_eq_false h1, decide_eq_false h, decide_eq_false (show ¬ 18 < d.length by omega)]
      rfl
  rw [plainN, e]
  rfl
set_option maxRecDepth 100000 in
set_option maxHeartbeats 2000000 in
theorem erNumber_any (w : World) (s : List (BitVec 8)) (hl : s.length ≤ 1000000) :
    Calls Tryd.prog 24 #[Sv s] w fun e w' => e = .returned (.tuple #[.int .i64 (refNum s).1, .bool (refNum s).2]) ∧ w' = w := by
  obtain ⟨L, hL⟩ : ∃ L, L = s.length := ⟨_, rfl⟩
  have hlen : ∀ w ty, (Builtin.len_ #[9] ty #[Sv s]).run Tryd.prog w = .ok (.int .i64 (L : Int)) w := by
    rw [hL]
    exact fun w ty => run_len_Sv w ty s
  obtain ⟨k, hk⟩ : ∃ k, k = (gl s 0).toNat := ⟨_, rfl⟩
  obtain ⟨neg, hneg⟩ : ∃ n, n = negN s := ⟨_, rfl⟩
  have HN : Hid ((L ≤ 1 → neg = false) ∧ (1 < L → k ≠ 45 → neg = false) ∧ (1 < L → k = 45 → neg = true)) := by
    have hh : 1 < L → (s.head? = some 45 ↔ k = 45) := by
      intro h
      rw [hk]
      cases s with
      | nil => simp at hL; omega
      | cons c r =>
        simp only [List.head?_cons, Option.some.injEq, gl, List.getD_eq_getElem?_getD, List.getElem?_cons_zero, Option.getD_some]
        constructor
        · intro e
          rw [e]
          rfl
        · intro e
          exact BitVec.eq_of_toNat_eq (by rw [e]; rfl)
    refine Lib.hid ⟨fun h => ?_, fun h h2 => ?_, fun h h2 => ?_⟩
    · rw [hneg, negN, decide_eq_false_iff_not]
      omega
    · rw [hneg, negN, decide_eq_false_iff_not]
      exact fun e => h2 ((hh h).1 e.2)
    · rw [hneg, negN, decide_eq_true_eq]
      exact ⟨by omega, (hh h).2 h2⟩
  have HX : Hid (1 < L → ∀ w, (Instr.index 9 (Sv s) (.int .i64 0)).run Tryd.prog w = .ok (.int .u8 (k : Int)) w) := by
    refine Lib.hid (fun h w => ?_)
    rw [hk]
    exact run_index_Sv w s 0 (by omega)
  obtain ⟨d, hd⟩ : ∃ d, d = restN s := ⟨_, rfl⟩
  obtain ⟨sg, hsg⟩ : ∃ g, g = signN s := ⟨_, rfl⟩
  have hdrop : neg = true → ∀ w, (Instr.slice 9 (Sv s) (some (.int .i64 1)) none none).run Tryd.prog w = .ok (Sv d) w := by
    intro h w
    have hn := h
    rw [hneg] at hn
    rw [hd, restN, if_pos hn, ← List.drop_one]
    refine run_drop_Sv w s 1 ?_
    rw [negN, decide_eq_true_eq] at hn
    omega
  have hd48 : ∀ w, (binOp .eql 9 (Sv d) (.string ⟨#[48]⟩)).run Tryd.prog w = .ok (.bool (decide (d = [48]))) w := fun w => run_eql_Sv w d [48]
  have HE : Hid (refNum s = if neg = true ∧ d = [48] then (0, false) else if plainN d = true then (sg * (valL d : Int), true) else (0, false)) := by
    rw [hneg, hd, hsg]
    exact Lib.hid (refNum_eq s)
  have HS : Hid ((neg = true → d = s.tail ∧ sg = -1) ∧ (neg = false → d = s ∧ sg = 1)) := by
    rw [hneg, hd, hsg, restN, signN]
    exact Lib.hid ⟨fun h => by rw [if_pos h, if_pos h]; exact ⟨rfl, rfl⟩, fun h => by rw [h]; exact ⟨rfl, rfl⟩⟩
  clear hk hneg hd hsg
  go_enter Tryd.func24, Tryd.ntmps24
  go_upto_region 2 with (fail)
  go_cut [14] from 7 to 14 (fun s14 wx => s14 = .bool neg ∧ wx = w)
  case first =>
    by_cases h1 : 1 < L
    · have h1' : (1 : Int) < (L : Int) := by omega
      have hx := HX.out h1
      by_cases h2 : k = 45
      · have hn := HN.out.2.2 h1 h2
        have HQ := Lib.hid hn
        subst h2
        clear h1 hn
        go_wp2_with (fail)
        go_meet
        exact ⟨by rw [HQ.out], rfl⟩
      · have hn := HN.out.2.1 h1 h2
        have hq : ((k : Int) == 45) = false := by simp; omega
        have HQ := Lib.hid hn
        clear h1 h2 hn
        go_wp2_with (fail)
        go_meet
        exact ⟨by rw [HQ.out], rfl⟩
    · have h1' : ¬ (1 : Int) < (L : Int) := by omega
      have hn := HN.out.1 (by omega)
      have HQ := Lib.hid hn
      clear h1 hn
      go_wp2_with (fail)
      go_meet
      exact ⟨by rw [HQ.out], rfl⟩
  case rest =>
    obtain ⟨rfl, hw⟩ := hcut
    subst wc
    by_cases hA : neg = true ∧ d = [48]
    · obtain ⟨rfl, h48⟩ := hA
      have hdr := hdrop (by trivial)
      have hd' : ∀ w, (binOp .eql 9 (Sv d) (.string ⟨#[48]⟩)).run Tryd.prog w = .ok (.bool true) w := fun w => by rw [hd48, decide_eq_true h48]
      have HR : Hid (refNum s = (0, false)) := by
        rw [HE.out]
        exact Lib.hid (if_pos ⟨rfl, h48⟩)
      clear h48
      clear hdrop hd48 HE HS
      go_wp2_with (fail)
      refine bodyPost_ret (results_tmp2 rfl _ _ _) rfl ?_
      rw [HR.out]
      exact ⟨rfl, rfl⟩
    have HE2 : Hid (refNum s = if plainN d = true then (sg * (valL d : Int), true) else (0, false)) := by
      rw [HE.out]
      exact Lib.hid (if_neg hA)
    have HA := Lib.hid hA
    clear hA HE
    go_upto_if 14 with (fail)
    go_cut [0, 4] from 15 to 18 (fun s0 s4 wx => s0 = Sv d ∧ s4 = .int .i64 sg ∧ wx = w)
    case first =>
      cases neg with
      | true =>
        have hdr := hdrop (by trivial)
        have hd' : ∀ w, (binOp .eql 9 (Sv d) (.string ⟨#[48]⟩)).run Tryd.prog w = .ok (.bool false) w := fun w => by
          rw [hd48, decide_eq_false fun e => HA.out ⟨rfl, e⟩]
        have HQ := Lib.hid (HS.out.1 (by trivial)).2
        clear hdrop hd48
        go_wp2_with (fail)
        go_meet
        exact ⟨rfl, by rw [HQ.out], rfl⟩
      | false =>
        have HQ := Lib.hid (HS.out.2 (by trivial))
        clear hdrop hd48
        go_wp2_with (fail)
        go_meet
        exact ⟨by rw [HQ.out.1], by rw [HQ.out.2], rfl⟩
    case rest =>
      obtain ⟨rfl, rfl, hw⟩ := hcut
      subst wc
      have HSG : Hid (sg = 1 ∨ sg = -1) := by
        refine Lib.hid ?_
        cases neg with
        | true => exact .inr (HS.out.1 (by trivial)).2
        | false => exact .inl (HS.out.2 (by trivial)).2
      have HDL : Hid (d.length ≤ 1000000) := by
        refine Lib.hid ?_
        cases neg with
        | true =>
          rw [(HS.out.1 (by trivial)).1, List.length_tail]
          omega
        | false =>
          rw [(HS.out.2 (by trivial)).1]
          exact hl
      clear hlen hl hL HN HX hdrop HS HA
      obtain ⟨M, hM⟩ : ∃ M, M = d.length := ⟨_, rfl⟩
      have hlen : ∀ w ty, (Builtin.len_ #[9] ty #[Sv d]).run Tryd.prog w = .ok (.int .i64 (M : Int)) w := by
        rw [hM]
        exact fun w ty => run_len_Sv w ty d
      have hM6 : M ≤ 1000000 := by rw [hM]; exact HDL.out
      obtain ⟨j, hj⟩ : ∃ j, j = (gl d 0).toNat := ⟨_, rfl⟩
      have HX : Hid (0 < M → ∀ w, (Instr.index 9 (Sv d) (.int .i64 0)).run Tryd.prog w = .ok (.int .u8 (j : Int)) w) := by
        refine Lib.hid (fun h w => ?_)
        rw [hj]
        exact run_index_Sv w d 0 (by omega)
      have HH : Hid (0 < M → (d.head? = some 48 ↔ j = 48)) := by
        refine Lib.hid (fun h => ?_)
        rw [hj]
        cases d with
        | nil => simp at hM; omega
        | cons c r =>
          simp only [List.head?_cons, Option.some.injEq, gl, List.getD_eq_getElem?_getD, List.getElem?_cons_zero, Option.getD_some]
          constructor
          · intro e
            rw [e]
            rfl
          · intro e
            exact BitVec.eq_of_toNat_eq (by rw [e]; rfl)
      obtain ⟨bad, hbad⟩ : ∃ b, b = decide (d = [] ∨ 18 < d.length ∨ (d.head? = some 48 ∧ d ≠ [48])) := ⟨_, rfl⟩
      have hne48 : ∀ w, (binOp .neq 9 (Sv d) (.string ⟨#[48]⟩)).run Tryd.prog w = .ok (.bool (!decide (d = [48]))) w := fun w => run_neq_Sv w d [48]
      have hem : ∀ w, (binOp .eql 9 (Sv d) (.string ⟨#[]⟩)).run Tryd.prog w = .ok (.bool (decide (d = []))) w := fun w => run_eql_Sv w d []
      have HB := Lib.hid hbad
      have HMd := Lib.hid hM
      have HNE := Lib.hid hne48
      have HEM := Lib.hid hem
      clear hj hbad hM hne48 hem hd48
      go_upto_region 7 with (fail)
      go_cut [34] from 19 to 34 (fun s34 wx => s34 = .bool bad ∧ wx = w)
      case first =>
        by_cases h0 : d = []
        · have hem : ∀ w, (binOp .eql 9 (Sv d) (.string ⟨#[]⟩)).run Tryd.prog w = .ok (.bool true) w := fun w => by rw [HEM.out, decide_eq_true h0]
          have HQ : Hid (bad = true) := Lib.hid (by rw [HB.out]; exact decide_eq_true (.inl h0))
          clear h0
          go_wp2_with (fail)
          go_meet
          exact ⟨by rw [HQ.out], rfl⟩
        have hem : ∀ w, (binOp .eql 9 (Sv d) (.string ⟨#[]⟩)).run Tryd.prog w = .ok (.bool false) w := fun w => by rw [HEM.out, decide_eq_false h0]
        have hM0 : 0 < M := by rw [HMd.out]; exact List.length_pos_iff.2 h0
        by_cases h18 : 18 < M
        · have h18' : (18 : Int) < (M : Int) := by omega
          have HQ : Hid (bad = true) := Lib.hid (by rw [HB.out]; exact decide_eq_true (.inr (.inl (by rw [← HMd.out]; exact h18))))
          clear h0 h18
          go_wp2_with (fail)
          go_meet
          exact ⟨by rw [HQ.out], rfl⟩
        have h18' : ¬ (18 : Int) < (M : Int) := by omega
        have hx := HX.out hM0
        by_cases h48 : j = 48
        · have hhd := (HH.out hM0).2 h48
          by_cases h1 : d = [48]
          · have hne : ∀ w, (binOp .neq 9 (Sv d) (.string ⟨#[48]⟩)).run Tryd.prog w = .ok (.bool false) w := fun w => by rw [HNE.out, decide_eq_true h1]; rfl
            have HQ : Hid (bad = false) := Lib.hid (by rw [HB.out]; refine decide_eq_false ?_; rw [← HMd.out]; rintro (e | e | e); exact h0 e; exact h18 e; exact e.2 h1)
            subst h48
            clear h0 h18 hhd h1
            go_wp2_with (fail)
            go_meet
            exact ⟨by rw [HQ.out], rfl⟩
          · have hne : ∀ w, (binOp .neq 9 (Sv d) (.string ⟨#[48]⟩)).run Tryd.prog w = .ok (.bool true) w := fun w => by rw [HNE.out, decide_eq_false h1]; rfl
            have HQ : Hid (bad = true) := Lib.hid (by rw [HB.out]; exact decide_eq_true (.inr (.inr ⟨hhd, h1⟩)))
            subst h48
            clear h0 h18 hhd h1
            go_wp2_with (fail)
            go_meet
            exact ⟨by rw [HQ.out], rfl⟩
        · have hq : ((j : Int) == 48) = false := by simp; omega
          have HQ : Hid (bad = false) := Lib.hid (by rw [HB.out]; refine decide_eq_false ?_; rw [← HMd.out]; rintro (e | e | e); exact h0 e; exact h18 e; exact h48 ((HH.out hM0).1 e.1))
          clear h0 h18 h48
          go_wp2_with (fail)
          go_meet
          exact ⟨by rw [HQ.out], rfl⟩
      case rest =>
        obtain ⟨rfl, hw⟩ := hcut
        subst wc
        cases bad with
        | true =>
          have HR : Hid (refNum s = (0, false)) := by
            rw [HE2.out, plain_early (of_decide_eq_true HB.out.symm)]
            exact Lib.hid rfl
          go_wp2_with (fail)
          refine bodyPost_ret (results_tmp2 rfl _ _ _) rfl ?_
          rw [HR.out]
          exact ⟨rfl, rfl⟩
        | false =>
          have HR : Hid (d.length ≤ 18 ∧ refNum s = if d.all digitC = true then (sg * (valL d : Int), true) else (0, false)) := by
            have h := of_decide_eq_false HB.out.symm
            rw [HE2.out, plain_late (fun e => h (.inl e)) (by omega) (fun e => Classical.byContradiction fun e2 => h (.inr (.inr ⟨e, e2⟩)))]
            exact Lib.hid ⟨by omega, rfl⟩
          clear HE2 HB HNE HEM HX HH
          go_wp2_with (fail)
          go_loopw [5, 6] (RNu w d) (fun _ i _ => M - (intOf i).toNat)
          case atStart => exact ⟨0, Nat.zero_le _, rfl, rfl, rfl, rfl⟩
          case round =>
            obtain ⟨t, ht, rfl, rfl, hall, hw⟩ := hrel
            subst wr
            rw [← HMd.out] at ht
            obtain ⟨n, hn⟩ : ∃ n, n = valL (d.take t) := ⟨_, rfl⟩
            rw [← hn]
            have hn17 : t < M → (n : Int) ≤ 99999999999999999 := by
              intro hlt
              have h1 := valL_lt _ hall
              have h2 : (d.take t).length ≤ 17 := by
                rw [List.length_take]
                have := HMd.out
                have := HR.out.1
                omega
              have h3 : 10 ^ (d.take t).length ≤ 10 ^ 17 := Nat.pow_le_pow_right (by decide) h2
              omega
            by_cases hlt : t < M
            · have hi0 : (0 : Int) ≤ (t : Int) ∧ (t : Int) < (M : Int) := by omega
              have hn0 : (0 : Int) ≤ (n : Int) ∧ (n : Int) ≤ 99999999999999999 := ⟨by omega, hn17 hlt⟩
              obtain ⟨j, hj⟩ : ∃ j, j = (gl d t).toNat := ⟨_, rfl⟩
              have hix : ∀ w, (Instr.index 9 (Sv d) (.int .i64 (t : Int))).run Tryd.prog w = .ok (.int .u8 (j : Int)) w := fun w => by
                rw [hj]
                exact run_index_Sv w d t (by have := HMd.out; omega)
              have hj8 : (0 : Int) ≤ (j : Int) ∧ (j : Int) ≤ 255 := by
                have := (gl d t).isLt
                omega
              have hts : d.take (t + 1) = d.take t ++ [gl d t] := by
                have ht' : t < d.length := by have := HMd.out; omega
                rw [List.take_succ_eq_append_getElem ht']
                simp [gl, ht']
              have HT : Hid (valL (d.take (t + 1)) = 10 * n + (j - 48) ∧ (d.take (t + 1)).all digitC = decide (48 ≤ j ∧ j ≤ 57) ∧ (gl d t).toNat = j ∧ t < d.length ∧ t < M) := by
                refine Lib.hid ⟨?_, ?_, hj.symm, by have := HMd.out; omega, hlt⟩
                · rw [hts, valL_snoc, hn, hj]
                · rw [hts, List.all_append, hall, hj]
                  simp [digitC]
              clear hn hn17 hj hts hall hlt ht
              by_cases hlow : j < 48
              · have q1 : (j : Int) < 48 := by omega
                have HZ : Hid (refNum s = (0, false)) := by
                  rw [HR.out.2]
                  refine Lib.hid (if_neg fun h => ?_)
                  have h2 := List.all_eq_true.1 h (gl d t) (by have := HT.out.2.2.2.1; simp [gl, this])
                  simp only [digitC, decide_eq_true_eq] at h2
                  have := HT.out.2.2.1
                  omega
                clear hlow
                go_wp2_with (fail)
                refine bodyPost_ret (results_tmp2 rfl _ _ _) rfl ?_
                rw [HZ.out]
                exact ⟨rfl, rfl⟩
              have q1 : ¬ (j : Int) < 48 := by omega
              by_cases hhigh : 57 < j
              · have q2 : (57 : Int) < (j : Int) := by omega
                have HZ : Hid (refNum s = (0, false)) := by
                  rw [HR.out.2]
                  refine Lib.hid (if_neg fun h => ?_)
                  have h2 := List.all_eq_true.1 h (gl d t) (by have := HT.out.2.2.2.1; simp [gl, this])
                  simp only [digitC, decide_eq_true_eq] at h2
                  have := HT.out.2.2.1
                  omega
                clear hlow hhigh
                go_wp2_with (fail)
                refine bodyPost_ret (results_tmp2 rfl _ _ _) rfl ?_
                rw [HZ.out]
                exact ⟨rfl, rfl⟩
              have q2 : ¬ (57 : Int) < (j : Int) := by omega
              have HZ : Hid (RNu w d (.int .i64 (10 * (n : Int) + (j : Int) - 48)) (.int .i64 ((t : Int) + 1)) w) := by
                refine Lib.hid ⟨t + 1, by have := HT.out; omega, by go_num, ?_, ?_, rfl⟩
                · rw [HT.out.1]
                  congr 1
                  omega
                · rw [HT.out.2.1]
                  exact decide_eq_true (by omega)
              clear hlow hhigh
              go_wp2_with (fail)
              have := HT.out.2.2.2.2
              refine ⟨HZ.out, by simp [intOf]; omega⟩
            · obtain rfl : t = M := by omega
              have HZ : Hid (refNum s = (sg * (n : Int), true)) := by
                rw [HMd.out, List.take_length] at hn hall
                rw [HR.out.2, if_pos hall, hn]
                exact Lib.hid rfl
              have hn0 : (0 : Int) ≤ (n : Int) ∧ (n : Int) ≤ 999999999999999999 := by
                have h1 := valL_lt _ hall
                have h2 : (d.take t).length ≤ 18 := by
                  rw [List.length_take]
                  have := HR.out.1
                  omega
                have h3 : 10 ^ (d.take t).length ≤ 10 ^ 18 := Nat.pow_le_pow_right (by decide) h2
                omega
              clear hn hn17 hall hlt ht
              rcases HSG.out with h | h
              · obtain rfl : sg = 1 := h
                go_wp2_with (fail)
                refine bodyPost_ret (results_tmp2 rfl _ _ _) rfl ?_
                rw [HZ.out]
                exact ⟨by simp, rfl⟩
              · obtain rfl : sg = -1 := h
                go_wp2_with (fail)
                refine bodyPost_ret (results_tmp2 rfl _ _ _) rfl ?_
                rw [HZ.out]
                exact ⟨by simp, rfl⟩
end Go.Proofs.YteoolfifpmbkeaaDoor
