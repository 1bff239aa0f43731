/-
  Part 50 of 56 of what the proof leans on.
-/
import Derived.Test.YtjeeghafachebaaGreatK48
namespace Go.Proofs.YtjeeghafachebaaGreat
open Go Go.RowKit
theorem ofW_self {q : QueryL} {key : List (BitVec 8)} {t : Int} {W : WindowL} (hk : q.kind ≠ 3) (hW : W ∈ ofW q key t) : W ∈ ofW q W.key W.lo := by
  obtain ⟨hq, hr, hlo, _, _, hkey⟩ := ofW_good hW
  have rw0 := rightW_cases hr
  unfold ofW at hW
  split at hW
  · rename_i hok
    simp only [okAsk, Bool.and_eq_true, decide_eq_true_eq] at hok
    obtain ⟨s1, s2, s3, s4, s5⟩ := stepQ_pos hq
    obtain ⟨i, hi, rfl⟩ := List.mem_map.1 hW
    obtain ⟨b1, b2, b3⟩ := loK_bd hq hok.2.1
    obtain ⟨k, hke⟩ : ∃ k, k = loK q t + (i : Int) := ⟨_, rfl⟩
    rw [← hke] at hlo hr hkey rw0 ⊢
    have hk0 : 0 ≤ k := by omega
    have hl : (winAt q key k).lo = k * stepQ q := rfl
    have hky : (winAt q key k).key = key := rfl
    rw [hl] at hlo rw0
    rw [hl, hky]
    have hok2 : okAsk q key (k * stepQ q) = true := by
      simp only [okAsk, Bool.and_eq_true, decide_eq_true_eq]
      exact ⟨⟨hq, hok.1.2⟩, by omega⟩
    have hdiv : k * stepQ q / stepQ q = k := Int.mul_ediv_cancel k (by omega)
    have hlk : loK q (k * stepQ q) ≤ k := (loK_spec hq (t := k * stepQ q) k (by omega)).1 (by omega)
    unfold ofW
    rw [if_pos hok2, if_neg hk, hdiv]
    refine List.mem_map.2 ⟨(k - loK q (k * stepQ q)).toNat, List.mem_range.2 (by omega), ?_⟩
    congr 1
    omega
  · simp at hW
theorem mergeQ_n {q : QueryL} {x y : AggL} (h : (mergeQ q x y).2 = 0) : (mergeQ q x y).1.n = x.n + y.n ∧ x.rightB q = true ∧ y.rightB q = true := by
  unfold mergeQ at h ⊢
  split at h
  · rename_i h1
    rw [if_pos h1]
    split at h
    · rename_i h2
      rw [if_pos h2]
      exact ⟨rfl, h1⟩
    · cases h
  · cases h
theorem addQ_n {q : QueryL} {x : AggL} {v : Int} (h : (addQ q x v).2 = 0) : 0 < (addQ q x v).1.n := by
  unfold addQ at h ⊢
  split at h
  · rename_i h1
    rw [if_pos h1]
    obtain ⟨k1, k2, _⟩ := mergeQ_n h
    have := right_facts k2
    rw [k1]
    show 0 < x.n + 1
    omega
  · cases h
theorem growQ_none {q : QueryL} {b : WindowL} {mark : Int} (hb : ripeW b mark = false) : ∀ (l : List PaneL) (p : AggL × Int), p.2 = 0 → (∀ o ∈ l, openB q o mark = true) → (growQ q b l p).2.1 = 0
  | [], p, h, _ => h
  | o :: l, p, h, hl => by
    unfold growQ
    split
    · refine growQ_none hb l _ ?_ fun x hx => hl x (by simp [hx])
      simp only
      split
      · rename_i he
        have ho := hl o (by simp)
        unfold openB at ho
        simp only [Bool.and_eq_true, decide_eq_true_eq, beq_iff_eq] at ho
        have h2 := ho.2.2
        rw [he, hb] at h2
        have := of_decide_eq_false h2.symm
        omega
      · exact h
    · rfl
def allOk (q : QueryL) (mark : Int) (l : List PaneL) : Prop := ∀ p ∈ l, wholeB q p = true ∧ openB q p mark = true
theorem insP_mem {l : List PaneL} {p x : PaneL} (h : x ∈ insP l p) : x = p ∨ x ∈ l := by
  induction l with
  | nil => exact .inl (List.mem_singleton.1 h)
  | cons y l ih =>
    unfold insP at h
    split at h
    · rcases List.mem_cons.1 h with h | h
      · exact .inl h
      · exact .inr h
    · rcases List.mem_cons.1 h with h | h
      · exact .inr (by simp [h])
      · rcases ih h with h | h
        · exact .inl h
        · exact .inr (by simp [h])
theorem winQ_all {q : QueryL} {mark v : Int} {c : ComeL} {W : WindowL} {key : List (BitVec 8)} {t : Int} (hW : W ∈ ofW q key t) (h : allOk q mark c.panes) (he : (winQ q mark v c W).e = 0) : allOk q mark (winQ q mark v c W).panes := by
  obtain ⟨hq, hWr, hlo, hhi, _, hkey⟩ := ofW_good hW
  unfold winQ at he ⊢
  split at he
  · rename_i h1
    rw [if_pos h1]
    exact h
  · rename_i h1
    rw [if_neg h1]
    split at he
    · rename_i h2
      exact absurd he h2
    · rename_i h2
      rw [if_neg h2]
      split at he
      · cases he
      · rename_i h3
        rw [if_neg h3]
        have he2 := Decidable.not_not.1 h2
        have hgv : ∀ o ∈ gaveP q c.panes W, openB q o mark = true := fun o ho => (h o (List.mem_filter.1 ho).1).2
        have hrd : ∀ o ∈ gaveP q c.panes W, 0 ≤ o.r ∧ o.r ≤ 1073741824 := fun o ho => by
          have := hgv o ho
          unfold openB at this
          simp only [Bool.and_eq_true, decide_eq_true_eq] at this
          exact this.2.1
        obtain ⟨k1, k2, k3⟩ := grownQ_ok he2 hrd
        have k4 : 0 < (grownQ q (becQ q c.panes W) (gaveP q c.panes W) v).1.a.n := by
          unfold grownQ at he2 ⊢
          split at he2
          · rename_i g1
            rw [if_pos g1]
            split at he2
            · rename_i g2
              rw [if_pos g2]
              exact addQ_n g2
            · rename_i g2
              exact absurd he2 g2
          · rename_i g1
            exact absurd he2 g1
        have k5 : ripeW (becQ q c.panes W) mark = false → (grownQ q (becQ q c.panes W) (gaveP q c.panes W) v).1.r = 0 := fun hb => by
          unfold grownQ at he2 ⊢
          split at he2
          · rename_i g1
            rw [if_pos g1]
            split at he2
            · rename_i g2
              rw [if_pos g2]
              exact growQ_none hb _ _ rfl hgv
            · rename_i g2
              exact absurd he2 g2
          · rename_i g1
            exact absurd he2 g1
        have hbr : (becQ q c.panes W).rightB = true := by
          rw [becQ]
          split
          · exact (became_spec (l := wsP c.panes) hWr).1
          · exact hWr
        have hmd : madeB q (becQ q c.panes W) = true := by
          unfold madeB
          by_cases hk : q.kind = 3
          · rw [if_pos hk, becQ, if_pos hk]
            obtain ⟨_, _, b1, b2, _⟩ := became_spec (l := wsP c.panes) hWr
            have hsz : W.hi - W.lo = q.size := by
              unfold ofW at hW
              split at hW
              · rw [List.mem_singleton] at hW
                rw [hW]
                show t + q.size - t = q.size
                omega
              · simp at hW
            exact decide_eq_true (by omega)
          · rw [if_neg hk, becQ, if_neg hk]
            exact decide_eq_true (ofW_self hk hW)
        obtain ⟨gp, hgp⟩ : ∃ p, p = (grownQ q (becQ q c.panes W) (gaveP q c.panes W) v).1 := ⟨_, rfl⟩
        rw [← hgp] at k1 k2 k3 k4 k5 h3 ⊢
        obtain ⟨b, hbe⟩ : ∃ b, b = becQ q c.panes W := ⟨_, rfl⟩
        rw [← hbe] at k1 k5 h1 hbr hmd
        intro p hp
        rcases insP_mem hp with rfl | hp
        · have hfw : (fireP gp mark).w = b ∧ (fireP gp mark).a = gp.a := by
            unfold fireP
            split
            · exact ⟨k1, rfl⟩
            · exact ⟨k1, rfl⟩
          refine ⟨?_, ?_⟩
          · unfold wholeB
            rw [hfw.1, hfw.2, hbr, hmd, k3, decide_eq_true k4]
            rfl
          · unfold openB
            rw [hfw.1]
            simp only [Bool.and_eq_true, decide_eq_true_eq, beq_iff_eq, Bool.not_eq_true']
            have h1' : goneW q b mark = false := by
              cases hx : goneW q b mark with
              | false => rfl
              | true => exact absurd hx h1
            refine ⟨h1', ⟨?_, Int.not_lt.1 h3⟩, ?_⟩
            · unfold fireP
              split
              · show 0 ≤ gp.r + 1
                omega
              · exact k2.1
            · unfold fireP
              rw [k1]
              cases hx : ripeW b mark with
              | true =>
                rw [if_pos rfl]
                exact (decide_eq_true (show 0 < gp.r + 1 by omega)).symm
              | false =>
                rw [if_neg (by decide), k5 hx]
                rfl
        · exact h p (List.mem_filter.1 hp).1
theorem winsQ_all {q : QueryL} {mark v : Int} {key : List (BitVec 8)} {t : Int} : ∀ (ws : List WindowL) (c : ComeL), (∀ W ∈ ws, W ∈ ofW q key t) → allOk q mark c.panes → (winsQ q mark v ws c).e = 0 → allOk q mark (winsQ q mark v ws c).panes
  | [], _, _, h, _ => h
  | W :: ws, c, hW, h, he => by
    unfold winsQ at he ⊢
    split at he
    · rename_i h1
      rw [if_pos h1]
      exact winsQ_all ws _ (fun x hx => hW x (by simp [hx])) (winQ_all (hW W (by simp)) h h1) he
    · rename_i h1
      exact absurd he h1
theorem comeQ_all {q : QueryL} {s : StateL} {x : ItemL} (h : allOk q s.mark s.panes) (he : (comeQ q s x).2.2 = 0) : allOk q (comeQ q s x).1.mark (comeQ q s x).1.panes ∧ (comeQ q s x).1.mark = s.mark := by
  unfold comeQ at he ⊢
  split at he
  · rename_i h1
    exact absurd he h1
  · rename_i h1
    rw [if_neg h1]
    split at he
    · rename_i h2
      rw [if_pos h2]
      exact ⟨h, rfl⟩
    · rename_i h2
      rw [if_neg h2]
      split at he
      · cases he
      · rename_i h3
        rw [if_neg h3]
        exact ⟨winsQ_all (ofW q x.key x.time) ⟨s.panes, [], true, 0⟩ (fun W hW => hW) h (Decidable.not_not.1 h1), rfl⟩
theorem ripeW_mono {w : WindowL} {m t : Int} (h : ripeW w m = true) (ht : m ≤ t) : ripeW w t = true := by
  unfold ripeW at h ⊢
  simp only [Bool.and_eq_true, decide_eq_true_eq] at h ⊢
  exact ⟨h.1, by omega⟩
theorem marksP_all {q : QueryL} {m t : Int} {l : List PaneL} (h : allOk q m l) (ht : m ≤ t) : allOk q t (marksP q t l) := by
  intro p hp
  obtain ⟨hp1, hp2⟩ := List.mem_filter.1 hp
  obtain ⟨y, hy, rfl⟩ := List.mem_map.1 hp1
  obtain ⟨k1, k2⟩ := h y hy
  refine ⟨?_, ?_⟩
  · unfold wholeB at k1 ⊢
    rw [(firedP_w t y).1, (firedP_w t y).2]
    exact k1
  · unfold openB at k2 ⊢
    rw [(firedP_w t y).1] at hp2 ⊢
    simp only [Bool.and_eq_true, decide_eq_true_eq, beq_iff_eq] at k2 ⊢
    refine ⟨hp2, ?_⟩
    unfold firedP
    by_cases hf : firesB t y = true
    · rw [if_pos hf]
      unfold firesB at hf
      simp only [Bool.and_eq_true, decide_eq_true_eq] at hf
      rw [hf.2]
      exact ⟨by show (0 : Int) ≤ 1 ∧ (1 : Int) ≤ 1073741824; decide, rfl⟩
    · rw [if_neg hf]
      refine ⟨k2.2.1, ?_⟩
      by_cases hr : 0 < y.r
      · rw [decide_eq_true hr] at k2 ⊢
        exact ripeW_mono k2.2.2 ht
      · rw [decide_eq_false hr]
        have h0 : y.r = 0 := by omega
        unfold firesB at hf
        rw [h0] at hf
        simpa using hf
theorem rightS_iff {q : QueryL} {s : StateL} : rightS q s = true ↔ q.rightB = true ∧ (-1 ≤ s.mark ∧ s.mark ≤ 1099511627776) ∧ s.panes.length ≤ 256 ∧ allOk q s.mark s.panes ∧ placedB q s.panes = true := by
  unfold rightS allOk
  simp only [Bool.and_eq_true, decide_eq_true_eq, List.all_eq_true]
theorem stepS_right {q : QueryL} {s : StateL} {x : ItemL} (hk : x.key.length ≤ 1000000) (h : rightS q s = true) (he : (stepS q s x).2.2 = 0) : rightS q (stepS q s x).1 = true := by
  have hok := stepS_ok (rightS_ok h) hk he
  obtain ⟨h1, h2, h3, h4, h5⟩ := rightS_iff.1 h
  refine rightS_iff.2 ⟨h1, ?_⟩
  suffices hs : (-1 ≤ (stepS q s x).1.mark ∧ (stepS q s x).1.mark ≤ 1099511627776) ∧ allOk q (stepS q s x).1.mark (stepS q s x).1.panes from ⟨hs.1, hok.2.2, hs.2, hok.1⟩
  clear hok
  unfold stepS at he ⊢
  split at he
  · rename_i hx
    rw [if_pos hx]
    split at he
    · rename_i hk1
      rw [if_pos hk1]
      obtain ⟨k1, k2⟩ := comeQ_all h4 he
      exact ⟨by rw [k2]; exact h2, k1⟩
    · rename_i hk1
      rw [if_neg hk1]
      show (-1 ≤ (markQ q s x.time).1.mark ∧ (markQ q s x.time).1.mark ≤ 1099511627776) ∧ allOk q (markQ q s x.time).1.mark (markQ q s x.time).1.panes
      unfold markQ
      split
      · exact ⟨h2, h4⟩
      · rename_i ht
        have hb : 0 ≤ x.time ∧ x.time ≤ 1099511627776 := by
          unfold ItemL.rightB at hx
          simp only [Bool.and_eq_true, decide_eq_true_eq] at hx
          exact hx.1
        exact ⟨⟨by show -1 ≤ x.time; omega, hb.2⟩, marksP_all h4 (Int.le_of_lt (Int.not_le.1 ht))⟩
  · cases he
theorem runS_cons (q : QueryL) (s : StateL) (o : List OutE) (n : Int) (x : ItemL) (l : List ItemL) : runS q s o n (x :: l) = if (stepS q s x).2.2 = 0 then runS q (stepS q s x).1 (o ++ (stepS q s x).2.1) (n + 1) l else ⟨s, o, n, (stepS q s x).2.2⟩ := rfl
theorem runS_append {q : QueryL} : ∀ (l1 l2 : List ItemL) (s : StateL) (o : List OutE) (n : Int), runS q s o n (l1 ++ l2) = if (runS q s o n l1).e = 0 then runS q (runS q s o n l1).s (runS q s o n l1).outs (runS q s o n l1).n l2 else runS q s o n l1
  | [], l2, s, o, n => by
    show runS q s o n l2 = if (0 : Int) = 0 then runS q s o n l2 else _
    rw [if_pos rfl]
  | x :: l1, l2, s, o, n => by
    rw [List.cons_append, runS_cons, runS_cons]
    by_cases h : (stepS q s x).2.2 = 0
    · rw [if_pos h, if_pos h]
      exact runS_append l1 l2 _ _ _
    · rw [if_neg h, if_neg h, if_neg h]
theorem runS_from {q : QueryL} : ∀ (l : List ItemL) (s : StateL) (o : List OutE) (n : Int), runS q s o n l = ⟨(runS q s [] 0 l).s, o ++ (runS q s [] 0 l).outs, n + (runS q s [] 0 l).n, (runS q s [] 0 l).e⟩
  | [], s, o, n => by simp [runS]
  | x :: l, s, o, n => by
    rw [runS_cons, runS_cons]
    by_cases h : (stepS q s x).2.2 = 0
    · rw [if_pos h, if_pos h, runS_from l _ (o ++ _) (n + 1), runS_from l _ ([] ++ _) (0 + 1)]
      simp only [List.nil_append, List.append_assoc, RunL.mk.injEq, true_and, and_true]
      omega
    · rw [if_neg h, if_neg h]
      simp
theorem runS_right {q : QueryL} : ∀ (l : List ItemL) (s : StateL) (o : List OutE) (n : Int), (∀ x ∈ l, x.key.length ≤ 1000000) → rightS q s = true → rightS q (runS q s o n l).s = true
  | [], _, _, _, _, h => h
  | x :: l, s, o, n, hk, h => by
    rw [runS_cons]
    split
    · rename_i he
      exact runS_right l _ _ _ (fun y hy => hk y (by simp [hy])) (stepS_right (hk x (by simp)) h he)
    · exact h
end Go.Proofs.YtjeeghafachebaaGreat
namespace Go.Proofs.YtjeeghafachebaaGreat
open Go Go.RowKit
theorem runS_n {q : QueryL} : ∀ (l : List ItemL) (s : StateL) (o : List OutE) (n : Int), (runS q s o n l).e = 0 → (runS q s o n l).n = n + (l.length : Int)
  | [], _, _, n, _ => by simp [runS]
  | x :: l, s, o, n, he => by
    rw [runS_cons] at he ⊢
    split at he
    · rename_i h
      rw [if_pos h, runS_n l _ _ _ he, List.length_cons]
      omega
    · rename_i h
      exact absurd he h
theorem runQ_right {q : QueryL} {s : StateL} (h : rightS q s = true) (l : List ItemL) : runQ q s l = runS q s [] 0 l := by
  unfold runQ
  rw [if_neg (by rw [h]; simp)]
theorem runQ_nil (q : QueryL) (s : StateL) : runQ q s [] = ⟨s, [], 0, 0⟩ := by
  unfold runQ
  rw [if_neg (by simp)]
  rfl
theorem runQ_wrong {q : QueryL} {s : StateL} (h : rightS q s = false) {l : List ItemL} (hl : l ≠ []) : runQ q s l = ⟨s, [], 0, 2⟩ := by
  unfold runQ
  rw [if_pos ⟨hl, h⟩]
theorem run_cut (q : QueryL) (s : StateL) (l : List ItemL) (p : Nat) (hp : p ≤ l.length) (hk : ∀ x ∈ l, x.key.length ≤ 1000000) :
    ((runQ q s (l.take p)).e ≠ 0 → runQ q s l = runQ q s (l.take p)) ∧
      ((runQ q s (l.take p)).e = 0 → (runQ q s (l.take p)).n = (p : Int) ∧ (runQ q s l).e = (runQ q (runQ q s (l.take p)).s (l.drop p)).e ∧
        (runQ q s l).n = (runQ q s (l.take p)).n + (runQ q (runQ q s (l.take p)).s (l.drop p)).n ∧ (runQ q s l).s = (runQ q (runQ q s (l.take p)).s (l.drop p)).s ∧
        (runQ q s l).outs = (runQ q s (l.take p)).outs ++ (runQ q (runQ q s (l.take p)).s (l.drop p)).outs) := by
  have hlen : (l.take p).length = p := by rw [List.length_take]; omega
  cases hr : rightS q s with
  | false =>
    by_cases ht : l.take p = []
    · have hp0 : p = 0 := by rw [ht] at hlen; exact hlen.symm
      subst hp0
      rw [List.take_zero, List.drop_zero, runQ_nil]
      exact ⟨fun h => absurd rfl h, fun _ => ⟨rfl, rfl, by simp, rfl, rfl⟩⟩
    · have hl : l ≠ [] := fun e => by rw [e] at ht; simp at ht
      rw [runQ_wrong hr ht, runQ_wrong hr hl]
      exact ⟨fun _ => rfl, fun h => absurd h (show ¬ (2 : Int) = 0 by decide)⟩
  | true =>
    rw [runQ_right hr, runQ_right hr]
    have ha := runS_append (q := q) (l.take p) (l.drop p) s [] 0
    rw [List.take_append_drop] at ha
    refine ⟨fun h => by rw [ha, if_neg h], fun h => ?_⟩
    have hs := runS_right (q := q) (l.take p) s [] 0 (fun x hx => hk x (List.mem_of_mem_take hx)) hr
    have hn := runS_n (q := q) (l.take p) s [] 0 h
    rw [runQ_right hs]
    rw [if_pos h, runS_from (l.drop p)] at ha
    rw [hlen] at hn
    exact ⟨by omega, by rw [ha], by rw [ha], by rw [ha], by rw [ha]⟩
end Go.Proofs.YtjeeghafachebaaGreat
namespace Go.Proofs.YtjeeghafachebaaGreat
open Go Go.RowKit
theorem valueQ_len {q : QueryL} {a : AggL} (h : a.top.length ≤ 1000000) : (valueQ q a).length ≤ 1000000 := by
  unfold valueQ
  repeat' split
  all_goals first | exact h | simp
def outsFit (o : List OutE) : Prop := ∀ x ∈ o, x.v.length ≤ 1000000
theorem outsFit.append {a b : List OutE} (ha : outsFit a) (hb : outsFit b) : outsFit (a ++ b) := fun x hx => by
  rcases List.mem_append.1 hx with h | h
  · exact ha x h
  · exact hb x h
theorem winQ_fit {q : QueryL} {mark v : Int} {c : ComeL} {W : WindowL} {n : Nat} (hc : comeOk q c.panes n) (h : outsFit c.outs) : outsFit (winQ q mark v c W).outs := by
  unfold winQ
  split
  · exact h
  · split
    · exact fun x hx => by simp at hx
    · rename_i h2
      split
      · exact fun x hx => by simp at hx
      · refine h.append fun x hx => ?_
        split at hx
        · obtain ⟨_, _, k3⟩ := grownQ_ok (Decidable.not_not.1 h2) (fun o ho => ((hc.2.1 o (List.mem_filter.1 ho).1).1))
          rw [List.mem_singleton.1 hx]
          refine valueQ_len ?_
          have hr := right_facts k3
          unfold fireP
          split
          · show (grownQ q _ _ v).1.a.top.length ≤ 1000000
            omega
          · omega
        · simp at hx
theorem winsQ_fit {q : QueryL} {mark v : Int} : ∀ (ws : List WindowL) (c : ComeL) (n : Nat), comeOk q c.panes n → (∀ W ∈ ws, W.rightB = true ∧ W.key.length ≤ 1000000) → outsFit c.outs → outsFit (winsQ q mark v ws c).outs
  | [], _, _, _, _, h => h
  | W :: ws, c, n, hc, hW, h => by
    unfold winsQ
    split
    · rename_i he
      exact winsQ_fit ws _ (n + 1) (winQ_ok hc (hW W (by simp)) he) (fun x hx => hW x (by simp [hx])) (winQ_fit hc h)
    · exact winQ_fit hc h
theorem sortO_mem {l : List OutE} {x : OutE} (h : x ∈ sortO l) : x ∈ l := by
  have hi : ∀ (l : List OutE) (y : OutE), x ∈ insO l y → x = y ∨ x ∈ l := by
    intro l y
    induction l with
    | nil =>
      intro h
      exact .inl (List.mem_singleton.1 h)
    | cons z l ih =>
      intro h
      unfold insO at h
      split at h
      · rcases List.mem_cons.1 h with h | h
        · exact .inl h
        · exact .inr h
      · rcases List.mem_cons.1 h with h | h
        · exact .inr (by simp [h])
        · rcases ih h with h | h
          · exact .inl h
          · exact .inr (by simp [h])
  have hf : ∀ (l acc : List OutE), x ∈ l.foldl insO acc → x ∈ acc ∨ x ∈ l := by
    intro l
    induction l with
    | nil => exact fun _ h => .inl h
    | cons y l ih =>
      intro acc h
      rcases ih _ h with h | h
      · rcases hi _ _ h with h | h
        · exact .inr (by simp [h])
        · exact .inl h
      · exact .inr (by simp [h])
  rcases hf l [] h with h | h
  · simp at h
  · exact h
theorem stepS_fit {q : QueryL} {s : StateL} {x : ItemL} {n : Nat} (hc : comeOk q s.panes n) (hk : x.key.length ≤ 1000000) : outsFit (stepS q s x).2.1 := by
  unfold stepS
  split
  · split
    · unfold comeQ
      have hf := winsQ_fit (q := q) (mark := s.mark) (v := x.value) (ofW q x.key x.time) ⟨s.panes, [], true, 0⟩ n hc (fun W hW => by obtain ⟨_, k1, _, _, _, k2⟩ := ofW_good hW; exact ⟨k1, by rw [k2]; exact hk⟩) (fun x hx => by simp at hx)
      split
      · exact fun x hx => by simp at hx
      · split
        · exact fun y hy => by rw [List.mem_singleton.1 hy]; simp [lateO]
        · split
          · exact fun x hx => by simp at hx
          · exact hf
    · unfold markQ
      split
      · exact fun x hx => by simp at hx
      · intro o ho
        obtain ⟨p, hp, rfl⟩ := List.mem_map.1 (sortO_mem ho)
        refine valueQ_len ?_
        rw [(firedP_w _ p).2]
        exact (hc.2.1 p (List.mem_filter.1 hp).1).2.2
  · exact fun x hx => by simp at hx
theorem runS_fit {q : QueryL} : ∀ (l : List ItemL) (s : StateL) (o : List OutE) (n : Int), comeOk q s.panes 256 → (∀ x ∈ l, x.key.length ≤ 1000000) → outsFit o → outsFit (runS q s o n l).outs ∧ (runS q s o n l).outs.length ≤ o.length + 256 * l.length ∧ comeOk q (runS q s o n l).s.panes 256
  | [], _, _, _, hc, _, h => ⟨h, by simp [runS], hc⟩
  | x :: l, s, o, n, hc, hk, h => by
    rw [runS_cons]
    split
    · rename_i he
      have hx := hk x (by simp)
      obtain ⟨k1, k2, k3⟩ := runS_fit l _ (o ++ (stepS q s x).2.1) (n + 1) (stepS_ok hc hx he) (fun y hy => hk y (by simp [hy])) (h.append (stepS_fit hc hx))
      refine ⟨k1, ?_, k3⟩
      have h1 := stepS_outs (q := q) (s := s) (x := x) (n := 256) hc.2.2 (by decide)
      rw [List.length_append] at k2
      rw [List.length_cons]
      omega
    · exact ⟨h, Nat.le_add_right _ _, hc⟩
end Go.Proofs.YtjeeghafachebaaGreat
