/-
  Part 47 of 53 of what the proof leans on.
-/
import Derived.Test.YtjeeghafachebaaGreatG45
namespace Go.Proofs.YtjeeghafachebaaGreat
open Go Go.RowKit
def outIn (q : QueryL) (mark : Int) (l : List PaneL) (o : OutE) : Prop := o.late = false ∧ (0 ≤ o.w.hi ∧ o.w.hi ≤ mark) ∧ 1 ≤ o.r ∧ ∃ p ∈ l, p.w = o.w ∧ p.r = o.r ∧ valueQ q p.a = o.v
theorem insP_self (p : PaneL) : ∀ l : List PaneL, p ∈ insP l p
  | [] => by simp [insP]
  | x :: l => by
    unfold insP
    split
    · simp
    · exact List.mem_cons_of_mem _ (insP_self p l)
theorem insP_old {p x : PaneL} : ∀ {l : List PaneL}, x ∈ l → x ∈ insP l p
  | y :: l, h => by
    unfold insP
    split
    · exact List.mem_cons_of_mem _ h
    · rcases List.mem_cons.1 h with h | h
      · simp [h]
      · exact List.mem_cons_of_mem _ (insP_old h)
theorem ofW_apart (q : QueryL) (key : List (BitVec 8)) (t : Int) : (ofW q key t).Pairwise (fun a b => q.kind ≠ 3 ∧ a ≠ b) := by
  unfold ofW
  split
  · rename_i hok
    simp only [okAsk, Bool.and_eq_true, decide_eq_true_eq] at hok; obtain ⟨s1, _⟩ := stepQ_pos hok.1.1
    split
    · simp
    · rename_i hk
      unfold runW; rw [List.pairwise_map]; refine (List.pairwise_lt_range).imp ?_; intro i j hij; refine ⟨hk, fun e => ?_⟩; have e1 := congrArg WindowL.lo e; simp only [winAt] at e1
      have e2 : (loK q t + (i : Int)) = loK q t + (j : Int) := Int.eq_of_mul_eq_mul_right (by omega) e1
      omega
  · simp
theorem winQ_out {q : QueryL} {mark v : Int} {c : ComeL} {W : WindowL} (h : allOk q mark c.panes) (he : (winQ q mark v c W).e = 0)
    (ho : ∀ o ∈ c.outs, outIn q mark c.panes o ∧ ∀ p : PaneL, p.w = o.w → givesB q W p = false) :
    ∀ o ∈ (winQ q mark v c W).outs, outIn q mark (winQ q mark v c W).panes o ∧ (o ∈ c.outs ∨ o.w = becQ q c.panes W) := by
  unfold winQ at he ⊢
  split at he
  · rename_i h1
    rw [if_pos h1]; exact fun o hx => ⟨(ho o hx).1, .inl hx⟩
  · rename_i h1
    rw [if_neg h1]
    split at he
    · rename_i h2
      exact absurd he h2
    · rename_i h2
      rw [if_neg h2]
      split at he
      · cases he
      · rename_i h3
        rw [if_neg h3]; have he2 := Decidable.not_not.1 h2
        have hrd : ∀ o ∈ gaveP q c.panes W, 0 ≤ o.r ∧ o.r ≤ 1073741824 := fun o hg => by
          have := (h o (List.mem_filter.1 hg).1).2; unfold openB at this; simp only [Bool.and_eq_true, decide_eq_true_eq] at this; exact this.2.1
        obtain ⟨k1, k2, k3⟩ := grownQ_ok he2 hrd; obtain ⟨gp, hgp⟩ : ∃ p, p = (grownQ q (becQ q c.panes W) (gaveP q c.panes W) v).1 := ⟨_, rfl⟩; rw [← hgp] at k1 k2 k3 h3 ⊢; intro o hx; simp only at hx ⊢
        rcases List.mem_append.1 hx with hx | hx
        · obtain ⟨⟨a1, a2, a3, p, hp, a4⟩, hg⟩ := ho o hx; refine ⟨⟨a1, a2, a3, p, insP_old ?_, a4⟩, .inl hx⟩; unfold restP; rw [List.mem_filter, hg p a4.1]; exact ⟨hp, rfl⟩
        · split at hx
          · rename_i hr
            rw [List.mem_singleton] at hx; rw [hx]
            have hf : (fireP gp mark).w = becQ q c.panes W ∧ 1 ≤ (fireP gp mark).r := by
              unfold fireP; rw [k1, if_pos hr]
              exact ⟨rfl, by show 1 ≤ gp.r + 1; omega⟩
            refine ⟨⟨rfl, ?_, hf.2, _, insP_self _ _, rfl, rfl, rfl⟩, .inr hf.1⟩
            show 0 ≤ (fireP gp mark).w.hi ∧ (fireP gp mark).w.hi ≤ mark
            rw [hf.1]; unfold ripeW at hr; simp only [Bool.and_eq_true, decide_eq_true_eq] at hr; have := rightW_cases hr.1
            exact ⟨by omega, hr.2⟩
          · simp at hx
theorem winsQ_out {q : QueryL} {mark v : Int} {key : List (BitVec 8)} {t : Int} : ∀ (ws : List WindowL) (c : ComeL), (∀ W ∈ ws, W ∈ ofW q key t) → ws.Pairwise (fun a b => q.kind ≠ 3 ∧ a ≠ b) → allOk q mark c.panes → (winsQ q mark v ws c).e = 0 →
    (∀ o ∈ c.outs, outIn q mark c.panes o ∧ ∀ W ∈ ws, ∀ p : PaneL, p.w = o.w → givesB q W p = false) → ∀ o ∈ (winsQ q mark v ws c).outs, outIn q mark (winsQ q mark v ws c).panes o
  | [], _, _, _, _, _, ho => fun o hx => (ho o hx).1
  | W :: ws, c, hW, hP, h, he, ho => by
    obtain ⟨p1, p2⟩ := List.pairwise_cons.1 hP; unfold winsQ at he ⊢
    split at he
    · rename_i h1
      rw [if_pos h1]
      have hs := winQ_out (v := v) h h1 (fun o hx => ⟨(ho o hx).1, (ho o hx).2 W (by simp)⟩)
      refine winsQ_out ws _ (fun x hx => hW x (by simp [hx])) p2 (winQ_all (hW W (by simp)) h h1) he (fun o hx => ⟨(hs o hx).1, fun W' hW' p hp => ?_⟩)
      rcases (hs o hx).2 with hc | hb
      · exact (ho o hc).2 W' (by simp [hW']) p hp
      · obtain ⟨hk, hne⟩ := p1 W' hW'; rw [becQ, if_neg hk] at hb; rw [givesB, if_neg hk]; refine decide_eq_false fun e => hne ?_; rw [← e, hp, hb]
    · rename_i h1
      exact absurd he h1
def outOk (q : QueryL) (s : StateL) (x : ItemL) (t : StateL) (o : OutE) : Prop :=
  (o.late = true → o.item = x ∧ t = s) ∧ (o.late = false → (o.w.hi + q.late ≤ t.mark ∨ ∃ p ∈ t.panes, p.w = o.w ∧ p.r = o.r ∧ valueQ q p.a = o.v) ∧ (0 ≤ o.w.hi ∧ o.w.hi ≤ t.mark) ∧ 1 ≤ o.r)
theorem stepS_out {q : QueryL} {s : StateL} {x : ItemL} (h : rightS q s = true) (he : (stepS q s x).2.2 = 0) : s.mark ≤ (stepS q s x).1.mark ∧ ∀ o ∈ (stepS q s x).2.1, outOk q s x (stepS q s x).1 o := by
  obtain ⟨h1, h2, h3, h4, h5⟩ := rightS_iff.1 h; unfold stepS at he ⊢
  split at he
  · rename_i hx
    rw [if_pos hx]
    split at he
    · rename_i hk1
      rw [if_pos hk1]; unfold comeQ at he ⊢
      split at he
      · rename_i g1
        exact absurd he g1
      · rename_i g1
        rw [if_neg g1]
        split at he
        · rename_i g2
          rw [if_pos g2]; refine ⟨Int.le_refl _, fun o ho => ?_⟩; rw [List.mem_singleton.1 ho]; exact ⟨fun _ => ⟨rfl, rfl⟩, fun e => Bool.noConfusion e⟩
        · rename_i g2
          rw [if_neg g2]
          split at he
          · cases he
          · rename_i g3
            rw [if_neg g3]; refine ⟨Int.le_refl _, fun o ho => ?_⟩
            obtain ⟨a1, a2, a3, a4⟩ := winsQ_out (v := x.value) (ofW q x.key x.time) ⟨s.panes, [], true, 0⟩ (fun W hW => hW) (ofW_apart q x.key x.time) h4 (Decidable.not_not.1 g1) (fun o hx => by simp at hx) o ho
            exact ⟨fun e => Bool.noConfusion (a1.symm.trans e), fun _ => ⟨.inr a4, a2, a3⟩⟩
    · rename_i hk1
      rw [if_neg hk1]
      show s.mark ≤ (markQ q s x.time).1.mark ∧ ∀ o ∈ (markQ q s x.time).2, outOk q s x (markQ q s x.time).1 o
      unfold markQ
      split
      · exact ⟨Int.le_refl _, fun o ho => by simp at ho⟩
      · rename_i ht
        refine ⟨Int.le_of_lt (Int.not_le.1 ht), fun o ho => ?_⟩; obtain ⟨p, hp, rfl⟩ := List.mem_map.1 (sortO_mem ho); obtain ⟨hp1, hp2⟩ := List.mem_filter.1 hp
        have hf : firedP x.time p = ⟨p.w, p.a, 1⟩ := by unfold firedP; rw [if_pos hp2]
        have hr : ripeW p.w x.time = true := by
          unfold firesB at hp2; simp only [Bool.and_eq_true] at hp2; exact hp2.2
        have hrw := hr; unfold ripeW at hr; simp only [Bool.and_eq_true, decide_eq_true_eq] at hr; rw [hf]; have hw0 := rightW_cases hr.1
        refine ⟨fun e => Bool.noConfusion e, fun _ => ⟨?_, ⟨(by show 0 ≤ p.w.hi; omega), hr.2⟩, (by show (1 : Int) ≤ 1; decide)⟩⟩
        by_cases hg : goneW q p.w x.time = true
        · left
          unfold goneW at hg; simp only [Bool.and_eq_true, decide_eq_true_eq] at hg; exact hg.2
        · right
          refine ⟨firedP x.time p, ?_, by rw [hf]; exact ⟨rfl, rfl, rfl⟩⟩
          show firedP x.time p ∈ marksP q x.time s.panes
          unfold marksP; rw [List.mem_filter]; refine ⟨List.mem_map.2 ⟨p, hp1, rfl⟩, ?_⟩; rw [(firedP_w x.time p).1]
          simpa using hg
  · cases he
theorem run_one (q : QueryL) (s : StateL) (x : ItemL) (h : rightS q s = true) : runQ q s [x] = if (stepS q s x).2.2 = 0 then ⟨(stepS q s x).1, (stepS q s x).2.1, 1, 0⟩ else ⟨s, [], 0, (stepS q s x).2.2⟩ := by
  unfold runQ
  rw [if_neg (by rw [h]; simp), runS_cons]
  split <;> rfl
end Go.Proofs.YtjeeghafachebaaGreat
