/-
  Part 31 of 53 of what the proof leans on.
-/
import Derived.Test.YtjeeghafachebaaGreatG22
import Derived.Test.YtjeeghafachebaaGreatG27
namespace Go.Proofs.YtjeeghafachebaaGreat
open Go Go.RowKit
theorem sorted_ext_gen {α : Type} {R : α → α → Prop} (irr : ∀ a, ¬ R a a) (asy : ∀ a b, R a b → R b a → False) : ∀ {l m : List α}, l.Pairwise R → m.Pairwise R → (∀ x, x ∈ l ↔ x ∈ m) → l = m
  | [], [], _, _, _ => rfl
  | [], y :: m, _, _, h => absurd ((h y).2 (by simp)) (by simp)
  | x :: l, [], _, _, h => absurd ((h x).1 (by simp)) (by simp)
  | x :: l, y :: m, hl, hm, h => by
    rw [List.pairwise_cons] at hl hm
    have e : x = y := by
      rcases List.mem_cons.1 ((h x).1 (by simp)) with e | hx
      · exact e
      · rcases List.mem_cons.1 ((h y).2 (by simp)) with e | hy
        · exact e.symm
        · exact (asy _ _ (hm.1 x hx) (hl.1 y hy)).elim
    subst e
    congr 1
    refine sorted_ext_gen irr asy hl.2 hm.2 fun z => ?_; have hz := h z; simp only [List.mem_cons] at hz
    constructor
    · intro h1
      rcases hz.1 (.inr h1) with rfl | h2
      · exact (irr _ (hl.1 z h1)).elim
      · exact h2
    · intro h1
      rcases hz.2 (.inr h1) with rfl | h2
      · exact (irr _ (hm.1 z h1)).elim
      · exact h2
def aheadPP (x y : PaneL) : Prop := aheadP x.w y.w
theorem wsP_sorted {ps : List PaneL} : (wsP ps).Pairwise aheadP ↔ ps.Pairwise aheadPP := by
  unfold wsP; rw [List.pairwise_map]; exact Iff.rfl
theorem three {ps : List PaneL} {g : PaneL → Bool} {b : WindowL} (hs : ps.Pairwise aheadPP) (h1 : ∀ x ∈ ps, g x = false → aheadP x.w b → ∀ y ∈ ps, g y = true → aheadP x.w y.w)
    (h2 : ∀ x ∈ ps, g x = false → ¬ aheadP x.w b → aheadP b x.w ∧ ∀ y ∈ ps, g y = true → aheadP y.w x.w) :
    ∃ A B, ps = A ++ ps.filter g ++ B ∧ (ps.filter fun x => !g x) = A ++ B ∧ (∀ a ∈ A, aheadP a.w b) ∧ ∀ x ∈ B, aheadP b x.w := by
  have irr : ∀ a : PaneL, ¬ aheadPP a a := fun a h => aheadP.irrefl h; have asy : ∀ a b : PaneL, aheadPP a b → aheadPP b a → False := fun a b h h' => aheadP.asymm h h'; obtain ⟨A, hA⟩ : ∃ A, A = ps.filter (fun x => !g x && decide (aheadP x.w b)) := ⟨_, rfl⟩; obtain ⟨B, hB⟩ : ∃ B, B = ps.filter (fun x => !g x && !decide (aheadP x.w b)) := ⟨_, rfl⟩
  have mA : ∀ x, x ∈ A ↔ x ∈ ps ∧ g x = false ∧ aheadP x.w b := fun x => by rw [hA, List.mem_filter]; simp
  have mB : ∀ x, x ∈ B ↔ x ∈ ps ∧ g x = false ∧ ¬ aheadP x.w b := fun x => by rw [hB, List.mem_filter]; simp
  have mG : ∀ x, x ∈ ps.filter g ↔ x ∈ ps ∧ g x = true := fun x => List.mem_filter
  have pA : A.Pairwise aheadPP := by rw [hA]; exact hs.sublist List.filter_sublist
  have pB : B.Pairwise aheadPP := by rw [hB]; exact hs.sublist List.filter_sublist
  have pG : (ps.filter g).Pairwise aheadPP := hs.sublist List.filter_sublist
  have cAB : ∀ a ∈ A, ∀ x ∈ B, aheadPP a x := fun a ha x hx => by
    have h := (mA a).1 ha; have h' := (mB x).1 hx; exact h.2.2.trans (h2 x h'.1 h'.2.1 h'.2.2).1
  refine ⟨A, B, ?_, ?_, fun a ha => ((mA a).1 ha).2.2, fun x hx => by have h := (mB x).1 hx; exact (h2 x h.1 h.2.1 h.2.2).1⟩
  · refine sorted_ext_gen irr asy hs ?_ fun x => ?_
    · rw [List.pairwise_append, List.pairwise_append]; refine ⟨⟨pA, pG, fun a ha y hy => ?_⟩, pB, fun a ha x hx => ?_⟩
      · have h := (mA a).1 ha; have h' := (mG y).1 hy; exact h1 a h.1 h.2.1 h.2.2 y h'.1 h'.2
      · rcases List.mem_append.1 ha with ha | ha
        · exact cAB a ha x hx
        · have h := (mG a).1 ha; have h' := (mB x).1 hx; exact (h2 x h'.1 h'.2.1 h'.2.2).2 a h.1 h.2
    · simp only [List.mem_append, mA, mB, mG]
      cases g x <;> by_cases h : aheadP x.w b <;> simp [h]
  · refine sorted_ext_gen irr asy (hs.sublist List.filter_sublist) ?_ fun x => ?_
    · rw [List.pairwise_append]; exact ⟨pA, pB, cAB⟩
    · simp only [List.mem_append, mA, mB, List.mem_filter]
      cases g x <;> by_cases h : aheadP x.w b <;> simp [h]
theorem placed_sorted {q : QueryL} {ps : List PaneL} (h : placedB q ps = true) : ps.Pairwise aheadPP := by
  unfold placedB at h
  split at h
  · exact wsP_sorted.1 ((of_decide_eq_true h).2.imp fun h => h.1)
  · exact wsP_sorted.1 (of_decide_eq_true h)
theorem home_split {q : QueryL} {ps : List PaneL} {W : WindowL} (hp : placedB q ps = true) (hW : W.rightB = true) :
    ∃ A B, ps = A ++ gaveP q ps W ++ B ∧ restP q ps W = A ++ B ∧ (∀ a ∈ A, aheadP a.w (becQ q ps W)) ∧ ∀ x ∈ B, aheadP (becQ q ps W) x.w := by
  have hs := placed_sorted hp; unfold gaveP restP
  by_cases hk : q.kind = 3
  · have hset : Settled (wsP ps) := by
      unfold placedB at hp; rw [if_pos hk] at hp; exact of_decide_eq_true hp
    have hb : becQ q ps W = became (wsP ps) W := by rw [becQ, if_pos hk]
    have hg : ∀ x, givesB q W x = joinsB x.w W := fun x => by rw [givesB, if_pos hk]
    rw [hb]; obtain ⟨b0, b1, b2, b3, b4, _⟩ := became_spec (l := wsP ps) hW; have rb := rightW_cases b0
    have hin : ∀ y ∈ ps, givesB q W y = true → y.w.key = (became (wsP ps) W).key ∧ (became (wsP ps) W).lo ≤ y.w.lo ∧ y.w.hi ≤ (became (wsP ps) W).hi ∧ y.w.lo < y.w.hi := fun y hy hgy => by
      rw [hg] at hgy; have hm : y.w ∈ wsP ps := List.mem_map.2 ⟨y, hy, rfl⟩; have h4 := b4 y.w hm hgy; have hj := (joinsB_iff _ _).1 hgy; have ry := rightW_cases hj.1
      exact ⟨hj.2.2.1.trans b1.symm, h4.1, h4.2, by omega⟩
    have hno : ∀ x ∈ ps, givesB q W x = false → x.w.key = (became (wsP ps) W).key → ¬ (x.w.lo ≤ (became (wsP ps) W).hi ∧ (became (wsP ps) W).lo ≤ x.w.hi) := fun x hx hgx hkey h => by
      have hm : x.w ∈ wsP ps := List.mem_map.2 ⟨x, hx, rfl⟩; rw [hg] at hgx; have h' := rest_apart hset hW (restW_mem.2 ⟨hm, hgx⟩); rw [Bool.eq_false_iff] at h'; exact h' ((joinsB_iff _ _).2 ⟨hset.1 _ hm, b0, hkey, h.1, h.2⟩)
    have hlt : ∀ x ∈ ps, x.w.lo < x.w.hi := fun x hx => by
      have := rightW_cases (hset.1 x.w (List.mem_map.2 ⟨x, hx, rfl⟩)); omega
    refine three hs (fun x hx hgx ha y hy hgy => ?_) (fun x hx hgx ha => ?_)
    · obtain ⟨y1, y2, y3, y4⟩ := hin y hy hgy
      rcases ha with ha | ⟨hk', ha⟩
      · exact .inl (by rw [y1]; exact ha)
      · have h := hno x hx hgx hk'; have := hlt x hx
        exact .inr ⟨hk'.trans y1.symm, .inl (by omega)⟩
    · have hne : x.w ≠ became (wsP ps) W := fun e => by
        refine hno x hx hgx (by rw [e]) ?_
        rw [e]; omega
      have hab : aheadP (became (wsP ps) W) x.w := (aheadP_total hne).resolve_left ha; refine ⟨hab, fun y hy hgy => ?_⟩; obtain ⟨y1, y2, y3, y4⟩ := hin y hy hgy
      rcases hab with hab | ⟨hk', hab⟩
      · exact .inl (by rw [y1]; exact hab)
      · have h := hno x hx hgx hk'.symm; have := hlt x hx
        exact .inr ⟨y1.trans hk', .inl (by omega)⟩
  · have hb : becQ q ps W = W := by rw [becQ, if_neg hk]
    have hg : ∀ x, givesB q W x = decide (x.w = W) := fun x => by rw [givesB, if_neg hk]
    rw [hb]; refine three hs (fun x hx hgx ha y hy hgy => ?_) (fun x hx hgx ha => ?_)
    · rw [hg, decide_eq_true_eq] at hgy; rw [hgy]; exact ha
    · rw [hg, decide_eq_false_iff_not] at hgx; have h := (aheadP_total hgx).resolve_left ha; refine ⟨h, fun y hy hgy => ?_⟩; rw [hg, decide_eq_true_eq] at hgy; rw [hgy]; exact h
theorem gaveW_length (l : List WindowL) (w : WindowL) : (gaveW l w).length = (l.filter fun o => joinsB o w).length := by
  have e : l = (List.range l.length).map (fun i => l.getD i zeroW) := by
    apply List.ext_getElem?
    intro i; rw [List.getElem?_map]
    by_cases h : i < l.length
    · rw [List.getElem?_range h, Option.map_some, List.getD_eq_getElem?_getD, List.getElem?_eq_getElem h]; rfl
    · rw [List.getElem?_eq_none (by omega), List.getElem?_eq_none (by simpa using h)]
      rfl
  conv => rhs; rw [e, List.filter_map, List.length_map]
  rfl
theorem gave_wins {q : QueryL} (hk : q.kind = 3) (ps : List PaneL) (W : WindowL) : ((wsP ps).filter fun o => joinsB o W).length = (gaveP q ps W).length := by
  unfold wsP gaveP; rw [List.filter_map, List.length_map]
  congr 1
  apply List.filter_congr
  intro x _; rw [givesB, if_pos hk]; rfl
theorem rest_wins {q : QueryL} (hk : q.kind = 3) (ps : List PaneL) (W : WindowL) : restW (wsP ps) W = wsP (restP q ps W) := by
  unfold wsP restP restW; rw [List.filter_map]
  congr 1
  apply List.filter_congr
  intro x _; rw [givesB, if_pos hk]; rfl
theorem atW_map (A B : List WindowL) (i : Nat) : (i < A.length → atW (A ++ B) i ∈ A) ∧ (A.length ≤ i → i < A.length + B.length → atW (A ++ B) i ∈ B) := by
  constructor
  · intro h
    rw [atW_some (x := A[i]) (by rw [List.getElem?_append_left h, List.getElem?_eq_getElem h])]
    exact List.getElem_mem h
  · intro h h'
    rw [atW_some (x := B[i - A.length]'(by omega)) (by rw [List.getElem?_append_right h, List.getElem?_eq_getElem])]
    exact List.getElem_mem _
theorem placeAt_mid {A B : List WindowL} {b : WindowL} (hA : ∀ a ∈ A, aheadP a b) (hB : ∀ x ∈ B, ¬ aheadP x b) : placeAt (A ++ B) b A.length := by
  refine ⟨by simp, fun i hi => hA _ ((atW_map A B i).1 hi), fun i h1 h2 => hB _ ((atW_map A B i).2 h1 (by simpa using h2))⟩
theorem placeAt_one {l : List WindowL} {t : WindowL} {p p' : Nat} (h : placeAt l t p) (h' : placeAt l t p') : p = p' := by
  obtain ⟨a1, a2, a3⟩ := h; obtain ⟨b1, b2, b3⟩ := h'
  rcases Nat.lt_trichotomy p p' with h | h | h
  · exact absurd (b2 p h) (a3 p (Nat.le_refl _) (by omega))
  · exact h
  · exact absurd (a2 p' h) (b3 p' (Nat.le_refl _) (by omega))
theorem home_session {q : QueryL} {ps A B : List PaneL} {W : WindowL} (hk : q.kind = 3) (hp : placedB q ps = true) (hW : W.rightB = true) (hR : restP q ps W = A ++ B) (hA : ∀ a ∈ A, aheadP a.w (becQ q ps W)) (hB : ∀ x ∈ B, aheadP (becQ q ps W) x.w) :
    takeL (wsP ps) W = (wsP A ++ becQ q ps W :: wsP B, becQ q ps W, gaveW (wsP ps) W) ∧ (gaveW (wsP ps) W).length = (gaveP q ps W).length ∧ becQ q ps W ∉ wsP A := by
  have hset : Settled (wsP ps) := by
    unfold placedB at hp; rw [if_pos hk] at hp; exact of_decide_eq_true hp
  have hb : becQ q ps W = became (wsP ps) W := by rw [becQ, if_pos hk]
  have hr : restW (wsP ps) W = wsP A ++ wsP B := by rw [rest_wins hk, hR, wsP, List.map_append]; rfl
  have mem : ∀ {L : List PaneL} {x : WindowL}, x ∈ wsP L → ∃ y ∈ L, y.w = x := fun h => List.mem_map.1 h; rw [hb] at hA hB ⊢
  refine ⟨?_, by rw [gaveW_length, gave_wins hk], fun h => ?_⟩
  · have hpl : placeAt (restW (wsP ps) W) (became (wsP ps) W) (wsP A).length := by
      rw [hr]; refine placeAt_mid (fun a ha => ?_) (fun x hx hc => ?_)
      · obtain ⟨y, hy, rfl⟩ := mem ha; exact hA y hy
      · obtain ⟨y, hy, rfl⟩ := mem hx; exact (hB y hy).asymm hc
    have ht := takeS_insert hset hW hpl; rw [hr, List.take_left' rfl, List.drop_left' rfl] at ht; rw [takeL_yes hset hW, ← ht]; simp
  · obtain ⟨y, hy, e⟩ := mem h; have := hA y hy; rw [e] at this; exact this.irrefl
theorem home_plain {q : QueryL} {ps A B : List PaneL} {W : WindowL} {p : Nat} {b : Bool} (hk : q.kind ≠ 3) (hp : placedB q ps = true) (hS : ps = A ++ gaveP q ps W ++ B) (hA : ∀ a ∈ A, aheadP a.w (becQ q ps W)) (hB : ∀ x ∈ B, aheadP (becQ q ps W) x.w)
    (h1 : placeAt (wsP ps) W p) (h2 : b = true ↔ p < (wsP ps).length ∧ atW (wsP ps) p = W) : becQ q ps W = W ∧ p = A.length ∧ (gaveP q ps W).length = if b = true then 1 else 0 := by
  have hb : becQ q ps W = W := by rw [becQ, if_neg hk]
  rw [hb] at hA hB
  have hG : ∀ x ∈ gaveP q ps W, x.w = W := fun x hx => by
    have := (List.mem_filter.1 hx).2; rw [givesB, if_neg hk] at this; exact of_decide_eq_true this
  have hs := placed_sorted hp; have hGs : (gaveP q ps W).Pairwise aheadPP := hs.sublist List.filter_sublist; have mem : ∀ {L : List PaneL} {x : WindowL}, x ∈ wsP L → ∃ y ∈ L, y.w = x := fun h => List.mem_map.1 h; obtain ⟨G, hGe⟩ : ∃ G, G = gaveP q ps W := ⟨_, rfl⟩; rw [← hGe] at hS hG hGs ⊢
  have hws : wsP ps = wsP A ++ (wsP G ++ wsP B) := by
    rw [hS]; simp [wsP]
  have hpl : placeAt (wsP ps) W (wsP A).length := by
    rw [hws]; refine placeAt_mid (fun a ha => ?_) (fun x hx hc => ?_)
    · obtain ⟨y, hy, rfl⟩ := mem ha; exact hA y hy
    · rcases List.mem_append.1 hx with hx | hx
      · obtain ⟨y, hy, rfl⟩ := mem hx; rw [hG y hy] at hc; exact hc.irrefl
      · obtain ⟨y, hy, rfl⟩ := mem hx; exact (hB y hy).asymm hc
  have hpA : p = (wsP A).length := placeAt_one h1 hpl
  have hAl : (wsP A).length = A.length := by simp [wsP]
  refine ⟨hb, by rw [hpA, hAl], ?_⟩
  cases hb' : b with
  | true =>
    obtain ⟨hlt, hat⟩ := h2.1 hb'; rw [if_pos rfl]
    match hm : G, hG, hGs with
    | [], _, _ =>
      rw [hpA, hws, show wsP ([] : List PaneL) = [] from rfl, List.nil_append] at hat; rw [hpA, hws, show wsP ([] : List PaneL) = [] from rfl, List.nil_append, List.length_append] at hlt; have := (atW_map (wsP A) (wsP B) (wsP A).length).2 (Nat.le_refl _) hlt; rw [hat] at this; obtain ⟨y, hy, e⟩ := mem this; have := hB y hy; rw [e] at this; exact this.irrefl.elim
    | [x], _, _ => rfl
    | x :: y :: r, hG, hGs =>
      rw [List.pairwise_cons] at hGs
      have := hGs.1 y (by simp)
      unfold aheadPP at this
      rw [hG x (by simp), hG y (by simp)] at this
      exact this.irrefl.elim
  | false =>
    rw [if_neg (by simp)]
    match hm : G, hG with
    | [], _ => rfl
    | x :: r, hG =>
      exfalso
      have hx := hG x (by simp)
      have : b = true := h2.2 ⟨by rw [hpA, hws]; simp [wsP], by
        rw [hpA, hws]; refine atW_some ?_; rw [List.getElem?_append_right (Nat.le_refl _), Nat.sub_self]
        simp [wsP, hx]⟩
      rw [hb'] at this
      cases this
end Go.Proofs.YtjeeghafachebaaGreat
