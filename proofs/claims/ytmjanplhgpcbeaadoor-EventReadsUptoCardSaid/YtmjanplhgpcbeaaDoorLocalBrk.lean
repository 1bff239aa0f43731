/-
  A region that draws its order, one of whose operations (bk) writes to what earlier ones (wk) made: what the operations wk left holds until bk, and only the early ones (er) may ask for it; what all others leave is no matter of memory.
-/
import Derived.Test.YtmjanplhgpcbeaaDoorLocalSeq
namespace Go.Proofs.YtmjanplhgpcbeaaDoor
open Go
section
variable {P : Program}

def VBk (wk er : Nat → Bool) (V : Nat → World → Value → Prop) (i : Nat) : Nat → World → Value → Prop := fun j w v => (er i = true ∨ wk j = false) → V j w v
def LocB (P : Program) (l : List Oper) (V : Nat → World → Value → Prop) (G : World → Prop) (le : World → World → Prop) (wk er : Nat → Bool) (bk : Nat) (a0 : Act) (Q : Exit → Act → World → Prop) (i : Nat) (o : Oper) : Prop :=
  ∀ (a : Act) (w : World), G w → OutL l a0 a → PreL l (VBk wk er V i) a w o.after.toList → ∀ K : Act → World → Prop, (∀ v w', V i w' v → G w' → (i ≠ bk → le w w') → K (a.put o.dst v) w') → o.wp P a w K Q
def OblB (P : Program) (l : List Oper) (V : Nat → World → Value → Prop) (G : World → Prop) (le : World → World → Prop) (wk er : Nat → Bool) (bk : Nat) (a0 : Act) (Q : Exit → Act → World → Prop) : Nat → List Oper → Prop
  | _, [] => True
  | i, o :: r => LocB P l V G le wk er bk a0 Q i o ∧ OblB P l V G le wk er bk a0 Q (i + 1) r
theorem OblB.at {l : List Oper} {V : Nat → World → Value → Prop} {G : World → Prop} {le : World → World → Prop} {wk er : Nat → Bool} {bk : Nat} {a0 : Act} {Q : Exit → Act → World → Prop} :
    ∀ (r : List Oper) (k i : Nat) (o : Oper), OblB P l V G le wk er bk a0 Q k r → r[i]? = some o → LocB P l V G le wk er bk a0 Q (k + i) o
  | [], _, _, _, _, h => by simp at h
  | o :: r, k, 0, o', h, h' => by simp at h'; subst h'; exact h.1
  | o :: r, k, i + 1, o', h, h' => by
    have := OblB.at r (k + 1) i o' h.2 (by simpa using h')
    rw [show k + 1 + i = k + (i + 1) by omega] at this
    exact this
/-- The early ones are bk, and what bk waits for; no guard is one of wk. -/
def earlyB (l : List Oper) (wk er : Nat → Bool) (bk : Nat) : Bool :=
  ((List.range l.length).all fun i => !er i || i == bk || (match l[bk]? with | some o => o.after.toList.any fun e => Region.binds .any e && e.on == i | none => false)) &&
    l.all fun o => match o.guard with | none => true | some (j, _) => !wk j

structure BInv (l : List Oper) (V : Nat → World → Value → Prop) (G : World → Prop) (wk : Nat → Bool) (bk : Nat) (a0 : Act) (listed : Array Bool) (a : Act) (w : World) : Prop where
  good : G w
  defers : a.defers = a0.defers
  size : a.tmps.size = a0.tmps.size
  lsize : listed.size = l.length
  out : OutL l a0 a
  left : ∀ i d, dstAt l i = some d → listed.getD i false = true → (wk i = true → listed.getD bk false = false) → V i w (a.eval (.tmp d))
  closed : ∀ o, l[bk]? = some o → listed.getD bk false = true → ∀ e ∈ o.after.toList, Region.binds .any e = true → listed.getD e.on false = true

theorem BInv.step {l : List Oper} {V : Nat → World → Value → Prop} {G : World → Prop} {le : World → World → Prop} {wk : Nat → Bool} {bk : Nat} {a0 a : Act} {w w' : World} {listed : Array Bool} (hst : ∀ i w w' v, le w w' → V i w v → V i w' v)
    (hfree : ∀ i w w' v, wk i = false → V i w v → V i w' v)
    (h : BInv l V G wk bk a0 listed a w) {n : Nat} (hn : n = a0.tmps.size) (hB : localB l n = true) {i : Nat} {o : Oper} (hi : l[i]? = some o) (hrd : ∀ e ∈ o.after.toList, Region.binds .any e = true → listed.getD e.on false = true)
    {v : Value} (hv : V i w' v) (hG : G w') (hle : i ≠ bk → le w w') :
    BInv l V G wk bk a0 (listed.setIfInBounds i true) (a.put o.dst v) w' := by
  obtain ⟨_, _, h3⟩ := localB_spec hB hi
  have hil : i < l.length := (List.getElem?_eq_some_iff.1 hi).1
  have hdi : dstAt l i = o.dst := by simp [dstAt, hi]
  have hsame : (listed.setIfInBounds i true).getD i false = true := getD_set_same (by rw [h.lsize]; exact hil)
  have grow : ∀ j, listed.getD j false = true → (listed.setIfInBounds i true).getD j false = true := fun j hj => by
    by_cases e : i = j
    · subst e
      exact hsame
    · rw [getD_set_ne false e]
      exact hj
  have hclosed : ∀ o', l[bk]? = some o' → (listed.setIfInBounds i true).getD bk false = true → ∀ e ∈ o'.after.toList, Region.binds .any e = true → (listed.setIfInBounds i true).getD e.on false = true := by
    intro o' ho' hb e he hbi
    by_cases eb : i = bk
    · subst eb
      rw [hi] at ho'
      cases ho'
      exact grow _ (hrd e he hbi)
    · rw [getD_set_ne false eb] at hb
      exact grow _ (h.closed o' ho' hb e he hbi)
  have carry : ∀ j u, V j w u → (wk j = true → (listed.setIfInBounds i true).getD bk false = false) → V j w' u := fun j u hj hw => by
    cases hwk : wk j with
    | false => exact hfree _ _ _ _ hwk hj
    | true =>
      refine hst _ _ _ _ (hle ?_) hj
      rintro rfl
      rw [hw hwk] at hsame
      cases hsame
  have oldw : ∀ j, (wk j = true → (listed.setIfInBounds i true).getD bk false = false) → (wk j = true → listed.getD bk false = false) := fun j hw hwk => by
    have := hw hwk
    by_cases eb : i = bk
    · subst eb
      rw [hsame] at this
      cases this
    · rw [getD_set_ne false eb] at this
      exact this
  cases hd : o.dst with
  | none =>
    refine ⟨hG, h.defers, h.size, by simp [h.lsize], h.out, fun j d hj hl hw => ?_, hclosed⟩
    by_cases e : i = j
    · subst e
      rw [hdi, hd] at hj
      cases hj
    · rw [getD_set_ne false e] at hl
      exact carry _ _ (h.left j d hj hl (oldw j hw)) hw
  | some d =>
    obtain ⟨hdn, hu⟩ := h3 d hd
    refine ⟨hG, h.defers, by simp [Act.put, h.size], by simp [h.lsize], fun s hs => ?_, fun j d' hj hl hw => ?_, hclosed⟩
    · rw [eval_put, if_neg]
      · exact h.out s hs
      · rintro ⟨rfl, _⟩
        have := List.all_eq_true.1 hs o (List.mem_of_getElem? hi)
        simp [hd] at this
    · rw [eval_put]
      by_cases e : i = j
      · subst e
        rw [hdi, hd] at hj
        cases hj
        rw [if_pos ⟨rfl, by rw [h.size, ← hn]; exact hdn⟩]
        exact hv
      · rw [if_neg]
        · rw [getD_set_ne false e] at hl
          exact carry _ _ (h.left j d' hj hl (oldw j hw)) hw
        · rintro ⟨rfl, _⟩
          exact hu j (fun e' => e e'.symm) hj

/-- Whatever order is drawn. -/
theorem wpAny_of_brk {l : List Oper} {V : Nat → World → Value → Prop} {G : World → Prop} {le : World → World → Prop} {wk er : Nat → Bool} {bk : Nat} {a0 : Act} {Q : Exit → Act → World → Prop}
    (hst : ∀ i w w' v, le w w' → V i w v → V i w' v) (hfree : ∀ i w w' v, wk i = false → V i w v → V i w' v) (hB : localB l a0.tmps.size = true) (hE : earlyB l wk er bk = true) (hO : OblB P l V G le wk er bk a0 Q 0 l) (hg : Gd l V l)
    (hQ : ∀ a w, G w → a.defers = a0.defers → a.tmps.size = a0.tmps.size → OutL l a0 a → (∀ i d, dstAt l i = some d → wk i = false → V i w (a.eval (.tmp d))) → Q .normal a w) :
    ∀ (fuel : Nat) (listed : Array Bool) (a : Act) (w : World), (List.range l.length).countP (fun i => !listed.getD i true) ≤ fuel → BInv l V G wk bk a0 listed a w → wpAny P .any l.toArray Q fuel listed a w := by
  have done : ∀ (listed : Array Bool) (a : Act) (w : World), BInv l V G wk bk a0 listed a w → Region.ready .any l.toArray listed = [] → Q .normal a w := by
    intro listed a w inv hr
    refine hQ a w inv.good inv.defers inv.size inv.out fun i d hd hwk => ?_
    have all : ∀ n i, i < n → i < l.length → listed.getD i true = true := by
      intro n
      induction n with
      | zero => intro i hi; omega
      | succ n ih =>
        intro i hin hil
        cases hl : listed.getD i true with
        | true => rfl
        | false =>
          have hmem : i ∈ Region.ready .any l.toArray listed := by
            refine mem_ready.2 ⟨hl, l[i], by simp [hil], fun e he hb => ?_⟩
            have hlt := (localB_spec hB (List.getElem?_eq_getElem hil)).1 e (by simpa using he) hb
            have := ih e.on (by omega) (by omega)
            have hs : e.on < listed.size := by rw [inv.lsize]; omega
            simp [hs] at this ⊢
            exact this
          rw [hr] at hmem
          cases hmem
    have hil : i < l.length := by
      rcases Nat.lt_or_ge i l.length with h | h
      · exact h
      · simp [dstAt, List.getElem?_eq_none h] at hd
    have h1 := all (i + 1) i (by omega) hil
    refine inv.left i d hd ?_ (fun h => by rw [hwk] at h; cases h)
    have hs : i < listed.size := by rw [inv.lsize]; exact hil
    simp [hs] at h1 ⊢
    exact h1
  intro fuel
  induction fuel with
  | zero =>
    intro listed a w hc inv
    have hr : Region.ready .any l.toArray listed = [] := by
      rw [List.eq_nil_iff_forall_not_mem]
      intro i hi
      have hun := (mem_ready.1 hi).1
      have hil : i < l.length := by
        obtain ⟨_, o, ho, _⟩ := mem_ready.1 hi
        have := (Array.getElem?_eq_some_iff.1 ho).1
        simpa using this
      have : 0 < (List.range l.length).countP (fun i => !listed.getD i true) := List.countP_pos_iff.2 ⟨i, List.mem_range.2 hil, by rw [hun]; rfl⟩
      omega
    exact ⟨hr, done listed a w inv hr⟩
  | succ fuel ih =>
    intro listed a w hc inv
    refine ⟨fun hr => done listed a w inv hr, fun i hi => ?_⟩
    obtain ⟨hun, o, ho, hall⟩ := mem_ready.1 hi
    have hlo : l[i]? = some o := by simpa using ho
    have hil : i < l.length := (List.getElem?_eq_some_iff.1 hlo).1
    have hisz : i < listed.size := by rw [inv.lsize]; exact hil
    have hunf : listed.getD i false = false := by
      simp [hisz] at hun ⊢
      exact hun
    have hloc := OblB.at l 0 i o hO hlo
    rw [Nat.zero_add] at hloc
    have hpre : PreL l (VBk wk er V i) a w o.after.toList := by
      refine pre_of (fun j d hj hl hor => inv.left j d hj hl fun hwk => ?_) _ fun e he hb => hall e (by simpa using he) hb
      rcases hor with her | hno
      · cases hbl : listed.getD bk false with
        | false => rfl
        | true =>
          exfalso
          have h1 := List.all_eq_true.1 (Bool.and_eq_true_iff.1 hE).1 i (List.mem_range.2 hil)
          rw [her] at h1
          simp only [Bool.not_true, Bool.false_or, Bool.or_eq_true, beq_iff_eq] at h1
          rcases h1 with rfl | h1
          · rw [hunf] at hbl
            cases hbl
          · cases hbo : l[bk]? with
            | none => rw [hbo] at h1; cases h1
            | some ob =>
              rw [hbo] at h1
              obtain ⟨e, he, hb⟩ := List.any_eq_true.1 h1
              simp only [Bool.and_eq_true, beq_iff_eq] at hb
              have := inv.closed ob hbo hbl e he hb.1
              rw [hb.2, hunf] at this
              cases this
      · rw [hno] at hwk
        cases hwk
    have hcount : (List.range l.length).countP (fun j => !(listed.setIfInBounds i true).getD j true) ≤ fuel := by
      have : (List.range l.length).countP (fun j => !(listed.setIfInBounds i true).getD j true) < (List.range l.length).countP (fun j => !listed.getD j true) := by
        refine countP_lt _ i (List.mem_range.2 hil) ?_ ?_ ?_
        · intro j _ hj
          by_cases e : i = j
          · subst e
            simp [hisz] at hj
          · rw [getD_set_ne true e] at hj
            exact hj
        · simp [hisz]
        · rw [hun]; rfl
      omega
    have hwant : Region.wanted o (yielded l.toArray a.tmps) = true := by
      unfold Region.wanted
      cases hgd : o.guard with
      | none => rfl
      | some jb =>
        obtain ⟨j, b⟩ := jb
        obtain ⟨⟨e, he, hb, rfl⟩, hds⟩ := (localB_spec hB hlo).2.1 j b hgd
        obtain ⟨d, hd⟩ := Option.isSome_iff_exists.1 hds
        have hlj := hall e (by simpa using he) hb
        have hnw : wk e.on = false := by
          have h2 := List.all_eq_true.1 (Bool.and_eq_true_iff.1 hE).2 o (List.mem_of_getElem? hlo)
          rw [hgd] at h2
          simpa using h2
        have hv := inv.left e.on d hd hlj (fun h => by rw [hnw] at h; cases h)
        have hgv := Gd.at l i o hg hlo
        rw [hgd] at hgv
        have hval := hgv w _ hv
        have hej : e.on < l.length := by
          rcases Nat.lt_or_ge e.on l.length with h | h
          · exact h
          · simp [dstAt, List.getElem?_eq_none h] at hd
        have hdn := ((localB_spec hB (List.getElem?_eq_getElem hej)).2.2 d (by simpa [dstAt, hej] using hd)).1
        have hdt : d < a.tmps.size := by rw [inv.size]; exact hdn
        have h3 : a.tmps[d]? = some (.bool b) := by
          have e1 : a.eval (.tmp d) = a.tmps[d] := by simp [Act.eval, hdt]
          rw [e1] at hval
          rw [Array.getElem?_eq_getElem hdt, hval]
        have h4 : (l.toArray[e.on]?.bind (·.dst)) = some d := by simpa [dstAt] using hd
        simp only [yielded, h4, Option.bind_some, h3]
        simp
    unfold wpOp
    simp only [ho, hwant, if_true]
    exact .inl (hloc a w inv.good inv.out hpre _ fun v w' hv hG hle => ih _ _ _ hcount (inv.step hst hfree rfl hB hlo (fun e he hb => hall e (by simpa using he) hb) hv hG hle))

theorem wp_region_brk {id : Nat} {l : List Oper} {a0 : Act} {w : World} {Q : Exit → Act → World → Prop} (hm : P.follows .mixedOrders = true) (V : Nat → World → Value → Prop) (G : World → Prop) (le : World → World → Prop) (wk er : Nat → Bool) (bk : Nat)
    (hst : ∀ i w w' v, le w w' → V i w v → V i w' v) (hfree : ∀ i w w' v, wk i = false → V i w v → V i w' v) (hB : localB l a0.tmps.size = true) (hE : earlyB l wk er bk = true) (hG : G { w with drawn := w.drawn + 1 }) (hg : Gd l V l) (hO : OblB P l V G le wk er bk a0 Q 0 l)
    (hQ : ∀ a w, G w → a.defers = a0.defers → a.tmps.size = a0.tmps.size → OutL l a0 a → (∀ i d, dstAt l i = some d → wk i = false → V i w (a.eval (.tmp d))) → Q .normal a w) :
    (Code.region id l.toArray true).wp P Q a0 w := by
  refine wp_region_any hm ?_
  have := wpAny_of_brk hst hfree hB hE hO hg hQ l.toArray.size (Array.replicate l.toArray.size false) a0 { w with drawn := w.drawn + 1 } (Nat.le_trans List.countP_le_length (by simp))
    ⟨hG, rfl, rfl, by simp, fun _ _ => rfl, (fun i d _ hl => by rw [getD_replicate_false] at hl; cases hl), (fun o _ hl => by rw [getD_replicate_false] at hl; cases hl)⟩
  exact this
end
end Go.Proofs.YtmjanplhgpcbeaaDoor
