/-
  A query's text read again, plain; what the reference parses is what Parse parses.
-/
import Derived.Test.YteoolfifpmbkeaaDoorQueryParse
namespace Go.Proofs.YteoolfifpmbkeaaDoor
open Go Go.RowKit

theorem cut_join (a b : List (BitVec 8)) (r : List (List (BitVec 8))) (h : ∀ c ∈ a, c ≠ 32) : cutL (joinL (a :: b :: r)) = (a, joinL (b :: r)) := by
  rw [joinL, bBlank, List.append_assoc]
  exact cutL_text a _ h
theorem cut_join1 (a : List (BitVec 8)) (h : ∀ c ∈ a, c ≠ 32) : cutL (joinL [a]) = (a, []) := cutL_last a h
theorem late_noBlank : ∀ c ∈ wLate, c ≠ 32 := by decide
theorem words_of (q : QueryL) : q.words = kindW q.kind :: itoaL q.size :: ((if q.kind = 2 then [itoaL q.slide] else []) ++ wLate :: itoaL q.late :: aggW q.agg :: (if q.agg = 6 then [itoaL q.k] else [])) := rfl
theorem asked_text {q : QueryL} (h : q.rightB = true) : askedL q.text = q := by
  obtain ⟨h1, h2, h3, h4, h5, h6, h7, h8⟩ := rightQ_cases h
  have hk := kindOf_W h3
  have ha := aggOf_W h6
  obtain ⟨b1, b2, b3, b4, b5, b6, b7, b8, b9, b10, b11, b12⟩ := rightQ_bd h
  have n1 := numL_itoa q.size (by omega)
  have n2 := numL_itoa q.slide (by omega)
  have n3 := numL_itoa q.late (by omega)
  have n4 := numL_itoa q.k (by omega)
  have bk := kindW_noBlank q.kind
  have ba := aggW_noBlank q.agg
  have bi := itoaL_noBlank
  obtain ⟨kind, size, slide, late, agg, k⟩ := q
  simp only at h1 h2 h3 h4 h5 h6 h7 h8 hk ha n1 n2 n3 n4 bk ba
  rw [text_join, words_of]
  simp only
  by_cases k2 : kind = 2
  · subst k2
    by_cases a6 : agg = 6
    · subst a6
      rw [if_pos rfl, if_pos rfl, List.cons_append, List.nil_append]
      simp only [askedL, cut_join _ _ _ bk, cut_join _ _ _ (bi _), cut_join _ _ _ late_noBlank, cut_join _ _ _ ba, cut_join1 _ (bi _), hk, ha, if_true, n1, n2, n3, n4]
    · rw [if_pos rfl, if_neg a6, List.cons_append, List.nil_append]
      simp only [askedL, cut_join _ _ _ bk, cut_join _ _ _ (bi _), cut_join _ _ _ late_noBlank, cut_join1 _ ba, hk, ha, a6, if_true, if_false, n1, n2, n3]
      rw [h8 a6]
  · by_cases a6 : agg = 6
    · subst a6
      rw [if_neg k2, if_pos rfl, List.nil_append]
      simp only [askedL, cut_join _ _ _ bk, cut_join _ _ _ (bi _), cut_join _ _ _ late_noBlank, cut_join _ _ _ ba, cut_join1 _ (bi _), hk, ha, k2, if_true, if_false, n1, n3, n4]
      rw [h5 k2]
    · rw [if_neg k2, if_neg a6, List.nil_append]
      simp only [askedL, cut_join _ _ _ bk, cut_join _ _ _ (bi _), cut_join _ _ _ late_noBlank, cut_join1 _ ba, hk, ha, k2, a6, if_false, n1, n3]
      rw [h5 k2, h8 a6]
theorem parse_text {q : QueryL} (h : q.rightB = true) : parseQ q.text = (q, true) := by
  rw [parseQ, asked_text h, if_pos ⟨h, rfl⟩]
theorem textQ_short {q : QueryL} (h : q.rightB = true) : q.text.length ≤ 1000 := by
  obtain ⟨b1, b2, b3, b4, b5, b6, b7, b8, b9, b10, b11, b12⟩ := rightQ_bd h
  have l1 := itoaL_length q.size (by omega)
  have l2 := itoaL_length q.slide (by omega)
  have l3 := itoaL_length q.late (by omega)
  have l4 := itoaL_length q.k (by omega)
  have l5 := kindW_len q.kind
  have l6 := aggW_len q.agg
  have e1 : bBlank.length = 1 := rfl
  have e2 : wLate.length = 4 := rfl
  unfold QueryL.text
  by_cases h1 : q.kind = 2 <;> by_cases h2 : q.agg = 6 <;> simp only [h1, h2, if_true, if_false, List.length_append, List.length_nil, e1, e2] at l5 l6 ⊢ <;> omega
/-- The numbers ahead of "late". -/
def numsF : List (List (BitVec 8)) → List Int → Option (List Int × List (List (BitVec 8)))
  | [], ns => some (ns, [])
  | w :: r, ns => if w = wLate then some (ns, w :: r) else if (refNum w).2 = true then numsF r (ns ++ [(refNum w).1]) else none
def badPre (kd : Int) (ns : List Int) (post : List (List (BitVec 8))) : Bool := decide (ns.length < 1) || decide (2 < ns.length) || (decide (ns.length = 2) && decide (kd ≠ 2)) || decide (post.length ≤ 2)
/-- What the reference makes of the words from "late" on. -/
def tailQ (kd sz sl : Int) (lw aw : List (BitVec 8)) (rest : List (List (BitVec 8))) : QueryL × Bool :=
  if aggOf aw = 6 ∧ rest.length = 1 then
    (if ((refNum lw).2 = true ∧ (refNum (rest.headD [])).2 = true) ∧ (QueryL.mk kd sz sl (refNum lw).1 (aggOf aw) (refNum (rest.headD [])).1).rightB = true then (⟨kd, sz, sl, (refNum lw).1, aggOf aw, (refNum (rest.headD [])).1⟩, true) else (zeroQ, false))
  else (if ((refNum lw).2 = true ∧ rest = []) ∧ (QueryL.mk kd sz sl (refNum lw).1 (aggOf aw) 0).rightB = true then (⟨kd, sz, sl, (refNum lw).1, aggOf aw, 0⟩, true) else (zeroQ, false))
def refW (w0 : List (BitVec 8)) (r : List (List (BitVec 8))) : QueryL × Bool :=
  match numsF r [] with
  | none => (zeroQ, false)
  | some (ns, post) => if badPre (kindOf w0) ns post = true then (zeroQ, false)
    else tailQ (kindOf w0) (ns.getD 0 0) (if ns.length = 2 then ns.getD 1 0 else 0) (post.getD 1 []) (post.getD 2 []) (post.drop 3)
def refQ (ws : List (List (BitVec 8))) : QueryL × Bool := refW (ws.headD []) ws.tail
theorem numsF_spec : ∀ (r : List (List (BitVec 8))) (ns0 ns : List Int) (post : List (List (BitVec 8))), numsF r ns0 = some (ns, post) → ∃ ms, ns = ns0 ++ ms ∧ r = ms.map itoaL ++ post ∧ (post = [] ∨ ∃ t, post = wLate :: t)
  | [], ns0, ns, post, h => by
    simp only [numsF, Option.some.injEq, Prod.mk.injEq] at h
    exact ⟨[], by simp [h.1], by simp [h.2], .inl h.2.symm⟩
  | w :: r, ns0, ns, post, h => by
    rw [numsF] at h
    by_cases hl : w = wLate
    · rw [if_pos hl] at h
      simp only [Option.some.injEq, Prod.mk.injEq] at h
      exact ⟨[], by simp [h.1], by simp [h.2], .inr ⟨r, by rw [← h.2, hl]⟩⟩
    · rw [if_neg hl] at h
      by_cases hn : (refNum w).2 = true
      · rw [if_pos hn] at h
        obtain ⟨ms, h1, h2, h3⟩ := numsF_spec r _ ns post h
        have hw : w = itoaL (refNum w).1 := refNum_sound (Prod.ext rfl hn)
        exact ⟨(refNum w).1 :: ms, by rw [h1]; simp, by rw [List.map_cons, List.cons_append, ← hw, ← h2], h3⟩
      · rw [if_neg hn] at h
        cases h
theorem itoa_not_late (n : Int) (h : -1099511627776 ≤ n ∧ n ≤ 1099511627776) : itoaL n ≠ wLate := fun e => by
  have := refNum_itoa n h
  rw [e] at this
  have h2 : (refNum wLate).2 = false := by decide
  rw [this] at h2
  cases h2
theorem rightQ_kind {q : QueryL} (h : q.rightB = true) : q.kind ≠ 0 ∧ q.agg ≠ 0 := by
  obtain ⟨_, _, h3, _, _, h6, _, _⟩ := rightQ_cases h
  omega
theorem tailQ_sound {kd sz sl : Int} {lw aw : List (BitVec 8)} {rest : List (List (BitVec 8))} {q : QueryL} (h : tailQ kd sz sl lw aw rest = (q, true)) :
    q.rightB = true ∧ q.kind = kd ∧ q.size = sz ∧ q.slide = sl ∧ lw = itoaL q.late ∧ aw = aggW q.agg ∧ rest = if q.agg = 6 then [itoaL q.k] else [] := by
  unfold tailQ at h
  by_cases h6 : aggOf aw = 6 ∧ rest.length = 1
  · rw [if_pos h6] at h
    by_cases hc : ((refNum lw).2 = true ∧ (refNum (rest.headD [])).2 = true) ∧ (QueryL.mk kd sz sl (refNum lw).1 (aggOf aw) (refNum (rest.headD [])).1).rightB = true
    · rw [if_pos hc] at h
      obtain ⟨⟨c1, c2⟩, c3⟩ := hc
      simp only [Prod.mk.injEq, and_true] at h
      subst h
      obtain ⟨x, rfl⟩ : ∃ x, rest = [x] := by
        match rest, h6.2 with
        | [x], _ => exact ⟨x, rfl⟩
      refine ⟨c3, rfl, rfl, rfl, refNum_sound (Prod.ext rfl c1), (aggW_of (rightQ_kind c3).2).symm, ?_⟩
      simp only
      rw [if_pos h6.1]
      have : x = itoaL (refNum x).1 := refNum_sound (Prod.ext rfl c2)
      rw [List.headD_cons, ← this]
    · rw [if_neg hc] at h
      simp at h
  · rw [if_neg h6] at h
    by_cases hc : ((refNum lw).2 = true ∧ rest = []) ∧ (QueryL.mk kd sz sl (refNum lw).1 (aggOf aw) 0).rightB = true
    · rw [if_pos hc] at h
      obtain ⟨⟨c1, c2⟩, c3⟩ := hc
      simp only [Prod.mk.injEq, and_true] at h
      subst h
      have hn6 : aggOf aw ≠ 6 := fun e => by
        have := (rightQ_cases c3).2.2.2.2.2.2.1 e
        simp at this
      exact ⟨c3, rfl, rfl, rfl, refNum_sound (Prod.ext rfl c1), (aggW_of (rightQ_kind c3).2).symm, by rw [if_neg hn6]; exact c2⟩
    · rw [if_neg hc] at h
      simp at h
theorem refQ_sound {ws : List (List (BitVec 8))} (hne : ws ≠ []) {q : QueryL} (h : refQ ws = (q, true)) : q.rightB = true ∧ ws = q.words := by
  obtain ⟨w0, r, rfl⟩ : ∃ w0 r, ws = w0 :: r := by
    cases ws with
    | nil => exact absurd rfl hne
    | cons a b => exact ⟨a, b, rfl⟩
  have h : refW w0 r = (q, true) := h
  unfold refW at h
  cases hn : numsF r [] with
  | none => rw [hn] at h; simp at h
  | some p =>
    obtain ⟨ns, post⟩ := p
    rw [hn] at h
    simp only at h
    by_cases hb : badPre (kindOf w0) ns post = true
    · rw [if_pos hb] at h; simp at h
    · rw [if_neg hb] at h
      have hb' : badPre (kindOf w0) ns post = false := by simpa using hb
      simp only [badPre, Bool.or_eq_false_iff, Bool.and_eq_false_iff, decide_eq_false_iff_not] at hb'
      obtain ⟨⟨⟨b1, b2⟩, b3⟩, b4⟩ := hb'
      obtain ⟨ms, e1, e2, e3⟩ := numsF_spec r [] ns post hn
      rw [List.nil_append] at e1
      subst e1
      obtain ⟨hr, hk, hs, hsl, hl, ha, hrest⟩ := tailQ_sound h
      obtain ⟨t, rfl⟩ : ∃ t, post = wLate :: t := by
        rcases e3 with e3 | e3
        · rw [e3] at b4; simp at b4
        · exact e3
      obtain ⟨x, y, t', rfl⟩ : ∃ x y t', t = x :: y :: t' := by
        match t, b4 with
        | [], b4 => simp at b4
        | [_], b4 => simp at b4
        | x :: y :: t', _ => exact ⟨x, y, t', rfl⟩
      have g1 : (wLate :: x :: y :: t').getD 1 [] = x := rfl
      have g2 : (wLate :: x :: y :: t').getD 2 [] = y := rfl
      have g3 : (wLate :: x :: y :: t').drop 3 = t' := rfl
      rw [g1] at hl
      rw [g2] at ha
      rw [g3] at hrest
      have hkw : w0 = kindW q.kind := by
        rw [hk]
        refine (kindW_of ?_).symm
        rw [← hk]
        exact (rightQ_kind hr).1
      refine ⟨hr, ?_⟩
      rw [words_of, e2, ← hkw, ← hl, ← ha, ← hrest]
      match ns, b1, b2, b3, hs, hsl with
      | [a], _, _, _, hs, hsl =>
        have hn2 : q.kind ≠ 2 := fun e => by
          have := (rightQ_cases hr).2.2.2.1 e
          have hsl' : q.slide = 0 := hsl
          omega
        have hs' : q.size = a := hs
        rw [if_neg hn2, hs']
        rfl
      | [a, b], _, _, b3, hs, hsl =>
        have h2 : q.kind = 2 := by
          rw [hk]
          rcases b3 with b3 | b3
          · simp at b3
          · simpa using b3
        have hs' : q.size = a := hs
        have hsl' : q.slide = b := hsl
        rw [if_pos h2, hs', hsl']
        rfl
      | [], b1, _, _, _, _ => simp at b1
      | _ :: _ :: _ :: _, _, b2, _, _, _ => simp at b2
theorem numsF_one (n : Int) (h : -1099511627776 ≤ n ∧ n ≤ 1099511627776) (r : List (List (BitVec 8))) (ns : List Int) : numsF (itoaL n :: r) ns = numsF r (ns ++ [n]) := by
  rw [numsF, if_neg (itoa_not_late n h), refNum_itoa n h, if_pos rfl]
theorem numsF_late (r : List (List (BitVec 8))) (ns : List Int) : numsF (wLate :: r) ns = some (ns, wLate :: r) := by rw [numsF, if_pos rfl]
theorem refQ_words {q : QueryL} (h : q.rightB = true) : refQ q.words = (q, true) := by
  obtain ⟨h1, h2, h3, h4, h5, h6, h7, h8⟩ := rightQ_cases h
  obtain ⟨b1, b2, b3, b4, b5, b6, b7, b8, b9, b10, b11, b12⟩ := rightQ_bd h
  have hk := kindOf_W h3
  have ha := aggOf_W h6
  have n1 := numsF_one q.size (by omega)
  have n2 := numsF_one q.slide (by omega)
  have n3 := refNum_itoa q.late (by omega)
  have n4 := refNum_itoa q.k (by omega)
  have ht : ∀ sl, sl = q.slide → tailQ q.kind q.size sl (itoaL q.late) (aggW q.agg) (if q.agg = 6 then [itoaL q.k] else []) = (q, true) := by
    intro sl hsl
    rw [hsl]
    unfold tailQ
    by_cases a6 : q.agg = 6
    · rw [if_pos a6, if_pos ⟨by rw [ha, a6], rfl⟩, List.headD_cons, n3, n4, ha, if_pos ⟨⟨rfl, rfl⟩, h⟩]
    · have e0 : q.k = 0 := h8 a6
      have hq : (QueryL.mk q.kind q.size q.slide q.late q.agg 0) = q := by rw [← e0]
      rw [if_neg a6, if_neg (by rw [ha]; exact fun e => a6 e.1), n3, ha]
      simp only [hq]
      rw [if_pos ⟨⟨trivial, trivial⟩, h⟩]
  rw [words_of]
  show refW (kindW q.kind) (itoaL q.size :: ((if q.kind = 2 then [itoaL q.slide] else []) ++ wLate :: itoaL q.late :: aggW q.agg :: (if q.agg = 6 then [itoaL q.k] else []))) = _
  unfold refW
  rw [hk]
  by_cases k2 : q.kind = 2
  · rw [if_pos k2, List.cons_append, List.nil_append, n1, n2, numsF_late]
    simp only [List.nil_append, List.cons_append]
    rw [if_neg (by simp [badPre, k2]), ← ht q.slide rfl]
    rfl
  · rw [if_neg k2, List.nil_append, n1, numsF_late]
    simp only [List.nil_append]
    rw [if_neg (by simp [badPre]), ← ht 0 (h5 k2).symm]
    rfl
theorem tailQ_no {kd sz sl : Int} {lw aw : List (BitVec 8)} {rest : List (List (BitVec 8))} (h : (tailQ kd sz sl lw aw rest).2 = false) : tailQ kd sz sl lw aw rest = (zeroQ, false) := by
  unfold tailQ at h ⊢
  by_cases h6 : aggOf aw = 6 ∧ rest.length = 1
  · rw [if_pos h6] at h ⊢
    by_cases hc : ((refNum lw).2 = true ∧ (refNum (rest.headD [])).2 = true) ∧ (QueryL.mk kd sz sl (refNum lw).1 (aggOf aw) (refNum (rest.headD [])).1).rightB = true
    · rw [if_pos hc] at h
      cases h
    · rw [if_neg hc]
  · rw [if_neg h6] at h ⊢
    by_cases hc : ((refNum lw).2 = true ∧ rest = []) ∧ (QueryL.mk kd sz sl (refNum lw).1 (aggOf aw) 0).rightB = true
    · rw [if_pos hc] at h
      cases h
    · rw [if_neg hc]
theorem refQ_eq (s : List (BitVec 8)) : refQ (splitL s) = parseQ s := by
  have hne : splitL s ≠ [] := by unfold splitL; simp
  cases hr : (refQ (splitL s)).2 with
  | true =>
    obtain ⟨h1, h2⟩ := refQ_sound (q := (refQ (splitL s)).1) hne (Prod.ext rfl hr)
    have hs : s = (refQ (splitL s)).1.text := by rw [text_join, ← h2, join_split]
    have := parse_text h1
    rw [← hs] at this
    rw [this]
    exact Prod.ext rfl hr
  | false =>
    have hz : refQ (splitL s) = (zeroQ, false) := by
      have key : ∀ ws, (refQ ws).2 = false → refQ ws = (zeroQ, false) := by
        intro ws h
        unfold refQ refW at h ⊢
        split
        · rfl
        · rename_i ns post e
          rw [e] at h
          simp only at h
          by_cases hb : badPre (kindOf (ws.headD [])) ns post = true
          · rw [if_pos hb]
          · rw [if_neg hb] at h ⊢
            exact tailQ_no h
      exact key _ hr
    rw [hz, parseQ]
    by_cases hc : (askedL s).rightB = true ∧ (askedL s).text = s
    · have h2 := refQ_words hc.1
      rw [← split_text, hc.2, hz] at h2
      simp at h2
    · rw [if_neg hc]
end Go.Proofs.YteoolfifpmbkeaaDoor
