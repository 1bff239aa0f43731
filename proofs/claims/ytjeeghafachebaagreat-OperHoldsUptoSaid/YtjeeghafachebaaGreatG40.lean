/-
  Part 40 of 53 of what the proof leans on.
-/
import Derived.Test.YtjeeghafachebaaGreatG31
import Derived.Test.YtjeeghafachebaaGreatG22
namespace Go.Proofs.YtjeeghafachebaaGreat
open Go Go.RowKit
theorem insP_at {A B : List PaneL} {p : PaneL} (hA : ∀ a ∈ A, aheadP a.w p.w) (hB : ∀ x ∈ B, aheadP p.w x.w) : insP (A ++ B) p = A ++ p :: B := by
  induction A with
  | nil =>
    cases B with
    | nil => rfl
    | cons x B =>
      show (if aheadP p.w x.w then p :: x :: B else x :: insP B p) = _
      rw [if_pos (hB x (by simp))]
      rfl
  | cons a A ih =>
    show (if aheadP p.w a.w then p :: a :: (A ++ B) else a :: insP (A ++ B) p) = _
    rw [if_neg (fun h => aheadP.asymm (hA a (by simp)) h), ih (fun x hx => hA x (by simp [hx]))]
    rfl
theorem placed_ins {q : QueryL} {ps A B : List PaneL} {W : WindowL} {p : PaneL} (hp : placedB q ps = true) (hW : W.rightB = true) (hr : restP q ps W = A ++ B)
    (hA : ∀ a ∈ A, aheadP a.w (becQ q ps W)) (hB : ∀ x ∈ B, aheadP (becQ q ps W) x.w) (hw : p.w = becQ q ps W) : placedB q (A ++ p :: B) = true := by
  by_cases hk : q.kind = 3
  · obtain ⟨t1, _, _⟩ := home_session hk hp hW hr hA hB
    have hset : Settled (wsP ps) := by
      unfold placedB at hp; rw [if_pos hk] at hp; exact of_decide_eq_true hp
    rw [takeL_yes hset hW] at t1
    have e : wsP (A ++ p :: B) = takeS (wsP ps) W := by
      rw [(Prod.mk.inj t1).1, wsP, List.map_append, List.map_cons, hw]; rfl
    unfold placedB; rw [if_pos hk, e]; exact decide_eq_true (takeS_spec hset hW).1
  · have hs : (A ++ B).Pairwise aheadPP := by
      rw [← hr, restP]; exact (placed_sorted hp).sublist List.filter_sublist
    rw [List.pairwise_append] at hs; unfold placedB; rw [if_neg hk]; refine decide_eq_true (wsP_sorted.2 ?_); rw [List.pairwise_append, List.pairwise_cons]; refine ⟨hs.1, ⟨fun x hx => ?_, hs.2.1⟩, fun a ha x hx => ?_⟩
    · show aheadP p.w x.w
      rw [hw]; exact hB x hx
    · rcases List.mem_cons.1 hx with rfl | hx
      · show aheadP a.w x.w
        rw [hw]; exact hA a ha
      · exact hs.2.2 a ha x hx
theorem mergeQ_ok {q : QueryL} {x y : AggL} (h : (mergeQ q x y).2 = 0) : (mergeQ q x y).1.rightB q = true := by
  unfold mergeQ at h ⊢
  split at h
  · rename_i h1
    rw [if_pos h1]
    split at h
    · rename_i h2
      rw [if_pos h2]; exact h2.2
    · cases h
  · cases h
theorem addQ_ok {q : QueryL} {x : AggL} {v : Int} (h : (addQ q x v).2 = 0) : (addQ q x v).1.rightB q = true := by
  unfold addQ at h ⊢
  split at h
  · rename_i h1
    rw [if_pos h1]; exact mergeQ_ok h
  · cases h
theorem growQ_r {q : QueryL} {b : WindowL} : ∀ (l : List PaneL) (p : AggL × Int), (0 ≤ p.2 ∧ p.2 ≤ 1073741824) → (∀ o ∈ l, 0 ≤ o.r ∧ o.r ≤ 1073741824) → 0 ≤ (growQ q b l p).2.1 ∧ (growQ q b l p).2.1 ≤ 1073741824
  | [], p, h, _ => h
  | o :: l, p, h, hl => by
    unfold growQ
    split
    · refine growQ_r l _ ?_ fun x hx => hl x (by simp [hx])
      simp only
      split
      · exact hl o (by simp)
      · exact h
    · simp
theorem grownQ_ok {q : QueryL} {b : WindowL} {l : List PaneL} {v : Int} (h : (grownQ q b l v).2 = 0) (hl : ∀ o ∈ l, 0 ≤ o.r ∧ o.r ≤ 1073741824) :
    (grownQ q b l v).1.w = b ∧ (0 ≤ (grownQ q b l v).1.r ∧ (grownQ q b l v).1.r ≤ 1073741824) ∧ (grownQ q b l v).1.a.rightB q = true := by
  unfold grownQ at h ⊢
  split at h
  · rename_i h1
    rw [if_pos h1]
    split at h
    · rename_i h2
      rw [if_pos h2]
      exact ⟨rfl, growQ_r l _ (by simp) hl, addQ_ok h2⟩
    · rename_i h2
      exact absurd h h2
  · rename_i h1
    exact absurd h h1
def comeOk (q : QueryL) (l : List PaneL) (n : Nat) : Prop := placedB q l = true ∧ (∀ x ∈ l, (0 ≤ x.r ∧ x.r ≤ 1073741824) ∧ x.w.key.length ≤ 1000000 ∧ x.a.top.length ≤ 1000000) ∧ l.length ≤ n
theorem becQ_key {q : QueryL} {l : List PaneL} {W : WindowL} (hW : W.rightB = true) : (becQ q l W).key = W.key := by
  rw [becQ]
  split
  · exact (became_spec (l := wsP l) hW).2.1
  · rfl
theorem comeOk.ins {q : QueryL} {ps A B : List PaneL} {W : WindowL} {n : Nat} {v mark : Int} (h : comeOk q ps n) (hW : W.rightB = true) (hWk : W.key.length ≤ 1000000) (hr : restP q ps W = A ++ B)
    (hA : ∀ a ∈ A, aheadP a.w (becQ q ps W)) (hB : ∀ x ∈ B, aheadP (becQ q ps W) x.w) (he : (grownQ q (becQ q ps W) (gaveP q ps W) v).2 = 0)
    (hR : ¬ 1073741824 < (fireP (grownQ q (becQ q ps W) (gaveP q ps W) v).1 mark).r) :
    comeOk q (A ++ fireP (grownQ q (becQ q ps W) (gaveP q ps W) v).1 mark :: B) (n + 1) ∧ insP (restP q ps W) (fireP (grownQ q (becQ q ps W) (gaveP q ps W) v).1 mark) = A ++ fireP (grownQ q (becQ q ps W) (gaveP q ps W) v).1 mark :: B := by
  obtain ⟨k1, k2, k3⟩ := grownQ_ok he (fun o ho => ((h.2.1 o (List.mem_filter.1 ho).1).1))
  have hf : (fireP (grownQ q (becQ q ps W) (gaveP q ps W) v).1 mark).w = becQ q ps W ∧ (fireP (grownQ q (becQ q ps W) (gaveP q ps W) v).1 mark).a.rightB q = true ∧ 0 ≤ (fireP (grownQ q (becQ q ps W) (gaveP q ps W) v).1 mark).r := by
    unfold fireP
    split
    · exact ⟨k1, k3, by show 0 ≤ _ + 1; omega⟩
    · exact ⟨k1, k3, k2.1⟩
  obtain ⟨p, hp⟩ : ∃ p, p = fireP (grownQ q (becQ q ps W) (gaveP q ps W) v).1 mark := ⟨_, rfl⟩; rw [← hp] at hf hR ⊢
  refine ⟨⟨placed_ins h.1 hW hr hA hB hf.1, fun x hx => ?_, ?_⟩, by rw [hr]; exact insP_at (by rw [hf.1]; exact hA) (by rw [hf.1]; exact hB)⟩
  · have hold : ∀ x ∈ A ++ B, (0 ≤ x.r ∧ x.r ≤ 1073741824) ∧ x.w.key.length ≤ 1000000 ∧ x.a.top.length ≤ 1000000 := fun x hx => by
      rw [← hr] at hx; exact h.2.1 x (List.mem_filter.1 hx).1
    rcases List.mem_append.1 hx with hx | hx
    · exact hold x (List.mem_append.2 (.inl hx))
    · rcases List.mem_cons.1 hx with rfl | hx
      · have hb := right_facts hf.2.1
        exact ⟨⟨hf.2.2, by omega⟩, by rw [hf.1, becQ_key hW]; exact hWk, by omega⟩
      · exact hold x (List.mem_append.2 (.inr hx))
  · have hl : (A ++ B).length ≤ ps.length := by rw [← hr]; exact List.length_filter_le _ _
    have := h.2.2; simp only [List.length_append, List.length_cons] at hl ⊢; omega
theorem winsQ_step {q : QueryL} {mark v : Int} {ws : List WindowL} {c0 c : ComeL} {i : Nat} {W : WindowL} (h : winsQ q mark v ws c0 = winsQ q mark v (ws.drop i) c) (hW : ws[i]? = some W) :
    winsQ q mark v ws c0 = if (winQ q mark v c W).e = 0 then winsQ q mark v (ws.drop (i + 1)) (winQ q mark v c W) else winQ q mark v c W := by
  rw [h, List.drop_eq_getElem?_toList_append, hW]; rfl
theorem winsQ_end {q : QueryL} {mark v : Int} {ws : List WindowL} {c0 c : ComeL} {i : Nat} (h : winsQ q mark v ws c0 = winsQ q mark v (ws.drop i) c) (hi : ¬ i < ws.length) : winsQ q mark v ws c0 = c := by
  rw [h, List.drop_eq_nil_of_le (by omega)]
  rfl
end Go.Proofs.YtjeeghafachebaaGreat
