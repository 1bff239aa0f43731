/-
  Part 43 of 53 of what the proof leans on.
-/
import Derived.Test.YtjeeghafachebaaGreatG40
namespace Go.Proofs.YtjeeghafachebaaGreat
open Go Go.RowKit
theorem comeOk.mono {q : QueryL} {l : List PaneL} {n k : Nat} (h : comeOk q l n) (hk : n ≤ k) : comeOk q l k := ⟨h.1, h.2.1, Nat.le_trans h.2.2 hk⟩
theorem rightS_ok {q : QueryL} {s : StateL} (h : rightS q s = true) : comeOk q s.panes 256 := by
  unfold rightS at h; simp only [Bool.and_eq_true, decide_eq_true_eq, List.all_eq_true] at h; obtain ⟨_, _, h3, h4, h5⟩ := h; refine ⟨h5, fun x hx => ?_, h3⟩; obtain ⟨h6, h7⟩ := h4 x hx; unfold wholeB at h6; unfold openB at h7; simp only [Bool.and_eq_true, decide_eq_true_eq] at h6 h7; have ha := right_facts h6.2.2.2; have hw := rightW_cases h6.1
  refine ⟨h7.2.1, ?_, by omega⟩
  omega
theorem winQ_ok {q : QueryL} {mark v : Int} {c : ComeL} {W : WindowL} {n : Nat} (h : comeOk q c.panes n) (hW : W.rightB = true ∧ W.key.length ≤ 1000000) (he : (winQ q mark v c W).e = 0) : comeOk q (winQ q mark v c W).panes (n + 1) := by
  unfold winQ at he ⊢
  split at he
  · rename_i h1
    rw [if_pos h1]
    exact h.mono (by omega)
  · rename_i h1
    rw [if_neg h1]
    split at he
    · rename_i h2
      exact absurd he h2
    · rename_i h2
      rw [if_neg h2]
      split at he
      · cases he
      · rename_i h3
        rw [if_neg h3]; obtain ⟨A, B, _, hr, hA, hB⟩ := home_split h.1 hW.1; obtain ⟨k1, k2⟩ := h.ins hW.1 hW.2 hr hA hB (Decidable.not_not.1 h2) h3
        show comeOk q (insP _ _) _
        rw [k2]; exact k1
theorem winsQ_ok {q : QueryL} {mark v : Int} : ∀ (ws : List WindowL) (c : ComeL) (n : Nat), comeOk q c.panes n → (∀ W ∈ ws, W.rightB = true ∧ W.key.length ≤ 1000000) → (winsQ q mark v ws c).e = 0 → comeOk q (winsQ q mark v ws c).panes (n + ws.length)
  | [], _, _, h, _, _ => h
  | W :: ws, c, n, h, hW, he => by
    unfold winsQ at he ⊢
    split at he
    · rename_i h1
      rw [if_pos h1]
      have h2 := winsQ_ok ws _ (n + 1) (winQ_ok h (hW W (by simp)) h1) (fun x hx => hW x (by simp [hx])) he
      rw [List.length_cons, show n + (ws.length + 1) = n + 1 + ws.length by omega]
      exact h2
    · rename_i h1
      exact absurd he h1
theorem comeQ_ok {q : QueryL} {s : StateL} {x : ItemL} (h : comeOk q s.panes 256) (hk : x.key.length ≤ 1000000) (he : (comeQ q s x).2.2 = 0) : comeOk q (comeQ q s x).1.panes 256 := by
  unfold comeQ at he ⊢
  split at he
  · rename_i h1
    exact absurd he h1
  · rename_i h1
    rw [if_neg h1]
    split at he
    · rename_i h2
      rw [if_pos h2]; exact h
    · rename_i h2
      rw [if_neg h2]
      split at he
      · cases he
      · rename_i h3
        rw [if_neg h3]
        have h4 := winsQ_ok (ofW q x.key x.time) ⟨s.panes, [], true, 0⟩ 256 h (fun W hW => by obtain ⟨_, k1, _, _, _, k2⟩ := ofW_good hW; exact ⟨k1, by rw [k2]; exact hk⟩) (Decidable.not_not.1 h1)
        exact ⟨h4.1, h4.2.1, Nat.le_of_not_lt h3⟩
theorem firedP_w (t : Int) (p : PaneL) : (firedP t p).w = p.w ∧ (firedP t p).a = p.a := by
  unfold firedP
  split <;> exact ⟨rfl, rfl⟩
theorem markQ_ok {q : QueryL} {s : StateL} {t : Int} {n : Nat} (h : comeOk q s.panes n) : comeOk q (markQ q s t).1.panes n := by
  unfold markQ
  split
  · exact h
  · show comeOk q (marksP q t s.panes) n
    have hsub : (wsP (marksP q t s.panes)).Sublist (wsP s.panes) := by
      have e : wsP (s.panes.map (firedP t)) = wsP s.panes := by
        unfold wsP; rw [List.map_map]; exact List.map_congr_left fun x _ => (firedP_w t x).1
      rw [← e]; exact List.filter_sublist.map _
    refine ⟨?_, fun x hx => ?_, ?_⟩
    · have hp := h.1; unfold placedB at hp ⊢
      by_cases hk : q.kind = 3
      · rw [if_pos hk] at hp ⊢; have hs := of_decide_eq_true hp; exact decide_eq_true ⟨fun x hx => hs.1 x (hsub.subset hx), hs.2.sublist hsub⟩
      · rw [if_neg hk] at hp ⊢; exact decide_eq_true ((of_decide_eq_true hp).sublist hsub)
    · obtain ⟨y, hy, rfl⟩ := List.mem_map.1 (List.mem_filter.1 hx).1; obtain ⟨k1, k2, k3⟩ := h.2.1 y hy; rw [(firedP_w t y).1, (firedP_w t y).2]; refine ⟨?_, k2, k3⟩; unfold firedP
      split
      · show (0 : Int) ≤ 1 ∧ (1 : Int) ≤ 1073741824
        decide
      · exact k1
    · have h1 := List.length_filter_le (fun p => !goneW q p.w t) (s.panes.map (firedP t)); rw [List.length_map] at h1; exact Nat.le_trans h1 h.2.2
theorem stepS_ok {q : QueryL} {s : StateL} {x : ItemL} (h : comeOk q s.panes 256) (hk : x.key.length ≤ 1000000) (he : (stepS q s x).2.2 = 0) : comeOk q (stepS q s x).1.panes 256 := by
  unfold stepS at he ⊢
  split at he
  · rename_i h1
    rw [if_pos h1]
    split at he
    · rename_i h2
      rw [if_pos h2]; exact comeQ_ok h hk he
    · rename_i h2
      rw [if_neg h2]; exact markQ_ok h
  · cases he
theorem winQ_outs {q : QueryL} {mark v : Int} {c : ComeL} {W : WindowL} : (winQ q mark v c W).outs.length ≤ c.outs.length + 1 := by
  unfold winQ
  split
  · omega
  · split
    · simp
    · split
      · simp
      · rw [List.length_append]
        split <;> simp
theorem winsQ_outs {q : QueryL} {mark v : Int} : ∀ (ws : List WindowL) (c : ComeL), (winsQ q mark v ws c).outs.length ≤ c.outs.length + ws.length
  | [], _ => by simp [winsQ]
  | W :: ws, c => by
    have h1 := winQ_outs (q := q) (mark := mark) (v := v) (c := c) (W := W); unfold winsQ
    split
    · have h2 := winsQ_outs (q := q) (mark := mark) (v := v) ws (winQ q mark v c W); rw [List.length_cons]; omega
    · rw [List.length_cons]; omega
theorem sortO_length (l : List OutE) : (sortO l).length = l.length := by
  have hi : ∀ (l : List OutE) (x : OutE), (insO l x).length = l.length + 1 := by
    intro l x
    induction l with
    | nil => rfl
    | cons y l ih =>
      unfold insO
      split
      · rfl
      · rw [List.length_cons, ih, List.length_cons]
  have h : ∀ (l acc : List OutE), (l.foldl insO acc).length = acc.length + l.length := by
    intro l
    induction l with
    | nil => intro acc; rfl
    | cons y l ih =>
      intro acc; rw [List.foldl_cons, ih, hi, List.length_cons]; omega
  unfold sortO; rw [h]; simp
theorem stepS_outs {q : QueryL} {s : StateL} {x : ItemL} {n : Nat} (h : s.panes.length ≤ n) (hn : 16 ≤ n) : (stepS q s x).2.1.length ≤ n := by
  unfold stepS
  split
  · split
    · unfold comeQ; have h1 := winsQ_outs (q := q) (mark := s.mark) (v := x.value) (ofW q x.key x.time) ⟨s.panes, [], true, 0⟩; have h2 := ofW_len q x.key x.time; simp only [List.length_nil] at h1
      split
      · simp
      · split
        · simp; omega
        · split
          · simp
          · show (winsQ _ _ _ _ _).outs.length ≤ n
            omega
    · unfold markQ
      split
      · simp
      · show (sortO (marksO q x.time s.panes)).length ≤ n
        rw [sortO_length, marksO, List.length_map]; exact Nat.le_trans (List.length_filter_le _ _) h
  · simp
end Go.Proofs.YtjeeghafachebaaGreat
