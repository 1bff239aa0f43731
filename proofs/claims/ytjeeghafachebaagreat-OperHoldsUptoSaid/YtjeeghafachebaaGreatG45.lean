/-
  Part 45 of 53 of what the proof leans on.
-/
import Derived.Test.YtjeeghafachebaaGreatG43
namespace Go.Proofs.YtjeeghafachebaaGreat
open Go Go.RowKit
theorem ofW_self {q : QueryL} {key : List (BitVec 8)} {t : Int} {W : WindowL} (hk : q.kind ≠ 3) (hW : W ∈ ofW q key t) : W ∈ ofW q W.key W.lo := by
  obtain ⟨hq, hr, hlo, _, _, hkey⟩ := ofW_good hW; have rw0 := rightW_cases hr; unfold ofW at hW
  split at hW
  · rename_i hok
    simp only [okAsk, Bool.and_eq_true, decide_eq_true_eq] at hok; obtain ⟨s1, s2, s3, s4, s5⟩ := stepQ_pos hq; obtain ⟨i, hi, rfl⟩ := List.mem_map.1 hW; obtain ⟨b1, b2, b3⟩ := loK_bd hq hok.2.1; obtain ⟨k, hke⟩ : ∃ k, k = loK q t + (i : Int) := ⟨_, rfl⟩; rw [← hke] at hlo hr hkey rw0 ⊢
    have hk0 : 0 ≤ k := by omega
    have hl : (winAt q key k).lo = k * stepQ q := rfl; have hky : (winAt q key k).key = key := rfl; rw [hl] at hlo rw0; rw [hl, hky]
    have hok2 : okAsk q key (k * stepQ q) = true := by
      simp only [okAsk, Bool.and_eq_true, decide_eq_true_eq]
      exact ⟨⟨hq, hok.1.2⟩, by omega⟩
    have hdiv : k * stepQ q / stepQ q = k := Int.mul_ediv_cancel k (by omega)
    have hlk : loK q (k * stepQ q) ≤ k := (loK_spec hq (t := k * stepQ q) k (by omega)).1 (by omega)
    unfold ofW; rw [if_pos hok2, if_neg hk, hdiv]
    refine List.mem_map.2 ⟨(k - loK q (k * stepQ q)).toNat, List.mem_range.2 (by omega), ?_⟩
    congr 1
    omega
  · simp at hW
theorem mergeQ_n {q : QueryL} {x y : AggL} (h : (mergeQ q x y).2 = 0) : (mergeQ q x y).1.n = x.n + y.n ∧ x.rightB q = true ∧ y.rightB q = true := by
  unfold mergeQ at h ⊢
  split at h
  · rename_i h1
    rw [if_pos h1]
    split at h
    · rename_i h2
      rw [if_pos h2]; exact ⟨rfl, h1⟩
    · cases h
  · cases h
theorem addQ_n {q : QueryL} {x : AggL} {v : Int} (h : (addQ q x v).2 = 0) : 0 < (addQ q x v).1.n := by
  unfold addQ at h ⊢
  split at h
  · rename_i h1
    rw [if_pos h1]; obtain ⟨k1, k2, _⟩ := mergeQ_n h; have := right_facts k2; rw [k1]
    show 0 < x.n + 1
    omega
  · cases h
theorem growQ_none {q : QueryL} {b : WindowL} {mark : Int} (hb : ripeW b mark = false) : ∀ (l : List PaneL) (p : AggL × Int), p.2 = 0 → (∀ o ∈ l, openB q o mark = true) → (growQ q b l p).2.1 = 0
  | [], p, h, _ => h
  | o :: l, p, h, hl => by
    unfold growQ
    split
    · refine growQ_none hb l _ ?_ fun x hx => hl x (by simp [hx])
      simp only
      split
      · rename_i he
        have ho := hl o (by simp)
        unfold openB at ho; simp only [Bool.and_eq_true, decide_eq_true_eq, beq_iff_eq] at ho; have h2 := ho.2.2; rw [he, hb] at h2; have := of_decide_eq_false h2.symm; omega
      · exact h
    · rfl
def allOk (q : QueryL) (mark : Int) (l : List PaneL) : Prop := ∀ p ∈ l, wholeB q p = true ∧ openB q p mark = true
theorem insP_mem {l : List PaneL} {p x : PaneL} (h : x ∈ insP l p) : x = p ∨ x ∈ l := by
  induction l with
  | nil => exact .inl (List.mem_singleton.1 h)
  | cons y l ih =>
    unfold insP at h
    split at h
    · rcases List.mem_cons.1 h with h | h
      · exact .inl h
      · exact .inr h
    · rcases List.mem_cons.1 h with h | h
      · exact .inr (by simp [h])
      · rcases ih h with h | h
        · exact .inl h
        · exact .inr (by simp [h])
theorem winQ_all {q : QueryL} {mark v : Int} {c : ComeL} {W : WindowL} {key : List (BitVec 8)} {t : Int} (hW : W ∈ ofW q key t) (h : allOk q mark c.panes) (he : (winQ q mark v c W).e = 0) : allOk q mark (winQ q mark v c W).panes := by
  obtain ⟨hq, hWr, hlo, hhi, _, hkey⟩ := ofW_good hW; unfold winQ at he ⊢
  split at he
  · rename_i h1
    rw [if_pos h1]; exact h
  · rename_i h1
    rw [if_neg h1]
    split at he
    · rename_i h2
      exact absurd he h2
    · rename_i h2
      rw [if_neg h2]
      split at he
      · cases he
      · rename_i h3
        rw [if_neg h3]; have he2 := Decidable.not_not.1 h2; have hgv : ∀ o ∈ gaveP q c.panes W, openB q o mark = true := fun o ho => (h o (List.mem_filter.1 ho).1).2
        have hrd : ∀ o ∈ gaveP q c.panes W, 0 ≤ o.r ∧ o.r ≤ 1073741824 := fun o ho => by
          have := hgv o ho; unfold openB at this; simp only [Bool.and_eq_true, decide_eq_true_eq] at this; exact this.2.1
        obtain ⟨k1, k2, k3⟩ := grownQ_ok he2 hrd
        have k4 : 0 < (grownQ q (becQ q c.panes W) (gaveP q c.panes W) v).1.a.n := by
          unfold grownQ at he2 ⊢
          split at he2
          · rename_i g1
            rw [if_pos g1]
            split at he2
            · rename_i g2
              rw [if_pos g2]; exact addQ_n g2
            · rename_i g2
              exact absurd he2 g2
          · rename_i g1
            exact absurd he2 g1
        have k5 : ripeW (becQ q c.panes W) mark = false → (grownQ q (becQ q c.panes W) (gaveP q c.panes W) v).1.r = 0 := fun hb => by
          unfold grownQ at he2 ⊢
          split at he2
          · rename_i g1
            rw [if_pos g1]
            split at he2
            · rename_i g2
              rw [if_pos g2]; exact growQ_none hb _ _ rfl hgv
            · rename_i g2
              exact absurd he2 g2
          · rename_i g1
            exact absurd he2 g1
        have hbr : (becQ q c.panes W).rightB = true := by
          rw [becQ]
          split
          · exact (became_spec (l := wsP c.panes) hWr).1
          · exact hWr
        have hmd : madeB q (becQ q c.panes W) = true := by
          unfold madeB
          by_cases hk : q.kind = 3
          · rw [if_pos hk, becQ, if_pos hk]; obtain ⟨_, _, b1, b2, _⟩ := became_spec (l := wsP c.panes) hWr
            have hsz : W.hi - W.lo = q.size := by
              unfold ofW at hW
              split at hW
              · rw [List.mem_singleton] at hW; rw [hW]
                show t + q.size - t = q.size
                omega
              · simp at hW
            exact decide_eq_true (by omega)
          · rw [if_neg hk, becQ, if_neg hk]; exact decide_eq_true (ofW_self hk hW)
        obtain ⟨gp, hgp⟩ : ∃ p, p = (grownQ q (becQ q c.panes W) (gaveP q c.panes W) v).1 := ⟨_, rfl⟩; rw [← hgp] at k1 k2 k3 k4 k5 h3 ⊢; obtain ⟨b, hbe⟩ : ∃ b, b = becQ q c.panes W := ⟨_, rfl⟩; rw [← hbe] at k1 k5 h1 hbr hmd; intro p hp
        rcases insP_mem hp with rfl | hp
        · have hfw : (fireP gp mark).w = b ∧ (fireP gp mark).a = gp.a := by
            unfold fireP
            split
            · exact ⟨k1, rfl⟩
            · exact ⟨k1, rfl⟩
          refine ⟨?_, ?_⟩
          · unfold wholeB; rw [hfw.1, hfw.2, hbr, hmd, k3, decide_eq_true k4]; rfl
          · unfold openB; rw [hfw.1]; simp only [Bool.and_eq_true, decide_eq_true_eq, beq_iff_eq, Bool.not_eq_true']
            have h1' : goneW q b mark = false := by
              cases hx : goneW q b mark with
              | false => rfl
              | true => exact absurd hx h1
            refine ⟨h1', ⟨?_, Int.not_lt.1 h3⟩, ?_⟩
            · unfold fireP
              split
              · show 0 ≤ gp.r + 1
                omega
              · exact k2.1
            · unfold fireP; rw [k1]
              cases hx : ripeW b mark with
              | true =>
                rw [if_pos rfl]
                exact (decide_eq_true (show 0 < gp.r + 1 by omega)).symm
              | false =>
                rw [if_neg (by decide), k5 hx]
                rfl
        · exact h p (List.mem_filter.1 hp).1
theorem winsQ_all {q : QueryL} {mark v : Int} {key : List (BitVec 8)} {t : Int} : ∀ (ws : List WindowL) (c : ComeL), (∀ W ∈ ws, W ∈ ofW q key t) → allOk q mark c.panes → (winsQ q mark v ws c).e = 0 → allOk q mark (winsQ q mark v ws c).panes
  | [], _, _, h, _ => h
  | W :: ws, c, hW, h, he => by
    unfold winsQ at he ⊢
    split at he
    · rename_i h1
      rw [if_pos h1]
      exact winsQ_all ws _ (fun x hx => hW x (by simp [hx])) (winQ_all (hW W (by simp)) h h1) he
    · rename_i h1
      exact absurd he h1
theorem comeQ_all {q : QueryL} {s : StateL} {x : ItemL} (h : allOk q s.mark s.panes) (he : (comeQ q s x).2.2 = 0) : allOk q (comeQ q s x).1.mark (comeQ q s x).1.panes ∧ (comeQ q s x).1.mark = s.mark := by
  unfold comeQ at he ⊢
  split at he
  · rename_i h1
    exact absurd he h1
  · rename_i h1
    rw [if_neg h1]
    split at he
    · rename_i h2
      rw [if_pos h2]; exact ⟨h, rfl⟩
    · rename_i h2
      rw [if_neg h2]
      split at he
      · cases he
      · rename_i h3
        rw [if_neg h3]; exact ⟨winsQ_all (ofW q x.key x.time) ⟨s.panes, [], true, 0⟩ (fun W hW => hW) h (Decidable.not_not.1 h1), rfl⟩
theorem ripeW_mono {w : WindowL} {m t : Int} (h : ripeW w m = true) (ht : m ≤ t) : ripeW w t = true := by
  unfold ripeW at h ⊢; simp only [Bool.and_eq_true, decide_eq_true_eq] at h ⊢
  exact ⟨h.1, by omega⟩
theorem marksP_all {q : QueryL} {m t : Int} {l : List PaneL} (h : allOk q m l) (ht : m ≤ t) : allOk q t (marksP q t l) := by
  intro p hp; obtain ⟨hp1, hp2⟩ := List.mem_filter.1 hp; obtain ⟨y, hy, rfl⟩ := List.mem_map.1 hp1; obtain ⟨k1, k2⟩ := h y hy; refine ⟨?_, ?_⟩
  · unfold wholeB at k1 ⊢; rw [(firedP_w t y).1, (firedP_w t y).2]; exact k1
  · unfold openB at k2 ⊢; rw [(firedP_w t y).1] at hp2 ⊢; simp only [Bool.and_eq_true, decide_eq_true_eq, beq_iff_eq] at k2 ⊢; refine ⟨hp2, ?_⟩; unfold firedP
    by_cases hf : firesB t y = true
    · rw [if_pos hf]; unfold firesB at hf; simp only [Bool.and_eq_true, decide_eq_true_eq] at hf; rw [hf.2]
      exact ⟨by show (0 : Int) ≤ 1 ∧ (1 : Int) ≤ 1073741824; decide, rfl⟩
    · rw [if_neg hf]; refine ⟨k2.2.1, ?_⟩
      by_cases hr : 0 < y.r
      · rw [decide_eq_true hr] at k2 ⊢; exact ripeW_mono k2.2.2 ht
      · rw [decide_eq_false hr]
        have h0 : y.r = 0 := by omega
        unfold firesB at hf; rw [h0] at hf
        simpa using hf
theorem rightS_iff {q : QueryL} {s : StateL} : rightS q s = true ↔ q.rightB = true ∧ (-1 ≤ s.mark ∧ s.mark ≤ 1099511627776) ∧ s.panes.length ≤ 256 ∧ allOk q s.mark s.panes ∧ placedB q s.panes = true := by
  unfold rightS allOk; simp only [Bool.and_eq_true, decide_eq_true_eq, List.all_eq_true]
theorem stepS_right {q : QueryL} {s : StateL} {x : ItemL} (hk : x.key.length ≤ 1000000) (h : rightS q s = true) (he : (stepS q s x).2.2 = 0) : rightS q (stepS q s x).1 = true := by
  have hok := stepS_ok (rightS_ok h) hk he; obtain ⟨h1, h2, h3, h4, h5⟩ := rightS_iff.1 h; refine rightS_iff.2 ⟨h1, ?_⟩
  suffices hs : (-1 ≤ (stepS q s x).1.mark ∧ (stepS q s x).1.mark ≤ 1099511627776) ∧ allOk q (stepS q s x).1.mark (stepS q s x).1.panes from ⟨hs.1, hok.2.2, hs.2, hok.1⟩
  clear hok; unfold stepS at he ⊢
  split at he
  · rename_i hx
    rw [if_pos hx]
    split at he
    · rename_i hk1
      rw [if_pos hk1]; obtain ⟨k1, k2⟩ := comeQ_all h4 he
      exact ⟨by rw [k2]; exact h2, k1⟩
    · rename_i hk1
      rw [if_neg hk1]
      show (-1 ≤ (markQ q s x.time).1.mark ∧ (markQ q s x.time).1.mark ≤ 1099511627776) ∧ allOk q (markQ q s x.time).1.mark (markQ q s x.time).1.panes
      unfold markQ
      split
      · exact ⟨h2, h4⟩
      · rename_i ht
        have hb : 0 ≤ x.time ∧ x.time ≤ 1099511627776 := by
          unfold ItemL.rightB at hx; simp only [Bool.and_eq_true, decide_eq_true_eq] at hx; exact hx.1
        exact ⟨⟨by show -1 ≤ x.time; omega, hb.2⟩, marksP_all h4 (Int.le_of_lt (Int.not_le.1 ht))⟩
  · cases he
theorem runS_cons (q : QueryL) (s : StateL) (o : List OutE) (n : Int) (x : ItemL) (l : List ItemL) : runS q s o n (x :: l) = if (stepS q s x).2.2 = 0 then runS q (stepS q s x).1 (o ++ (stepS q s x).2.1) (n + 1) l else ⟨s, o, n, (stepS q s x).2.2⟩ := rfl
theorem newS_right {q : QueryL} (h : q.rightB = true) : rightS q newS = true := by
  refine rightS_iff.2 ⟨h, by decide, by decide, fun p hp => by simp [newS] at hp, ?_⟩
  unfold placedB newS wsP
  split
  · exact decide_eq_true Settled.nil
  · exact decide_eq_true List.Pairwise.nil
end Go.Proofs.YtjeeghafachebaaGreat
namespace Go.Proofs.YtjeeghafachebaaGreat
open Go Go.RowKit
theorem valueQ_len {q : QueryL} {a : AggL} (h : a.top.length ≤ 1000000) : (valueQ q a).length ≤ 1000000 := by
  unfold valueQ
  repeat' split
  all_goals first | exact h | simp
def outsFit (o : List OutE) : Prop := ∀ x ∈ o, x.v.length ≤ 1000000
theorem sortO_mem {l : List OutE} {x : OutE} (h : x ∈ sortO l) : x ∈ l := by
  have hi : ∀ (l : List OutE) (y : OutE), x ∈ insO l y → x = y ∨ x ∈ l := by
    intro l y
    induction l with
    | nil =>
      intro h; exact .inl (List.mem_singleton.1 h)
    | cons z l ih =>
      intro h; unfold insO at h
      split at h
      · rcases List.mem_cons.1 h with h | h
        · exact .inl h
        · exact .inr h
      · rcases List.mem_cons.1 h with h | h
        · exact .inr (by simp [h])
        · rcases ih h with h | h
          · exact .inl h
          · exact .inr (by simp [h])
  have hf : ∀ (l acc : List OutE), x ∈ l.foldl insO acc → x ∈ acc ∨ x ∈ l := by
    intro l
    induction l with
    | nil => exact fun _ h => .inl h
    | cons y l ih =>
      intro acc h
      rcases ih _ h with h | h
      · rcases hi _ _ h with h | h
        · exact .inr (by simp [h])
        · exact .inl h
      · exact .inr (by simp [h])
  rcases hf l [] h with h | h
  · simp at h
  · exact h
end Go.Proofs.YtjeeghafachebaaGreat
