/-
  A region that draws its order and of which an operation reads a slot that a later one writes ('s += f(x)'): it finds there what stood there ahead of the region. Else as wp_region_seq_frame.
-/
import Derived.Test.YtbfioekbahcicaaLocal
namespace Go.Proofs.Ytbfioekbahcicaa
open Go
section
variable {P : Program}

/-- j waits for i. -/
def needsB (l : List Oper) : Nat → Nat → Nat → Bool
  | 0, _, _ => false
  | f + 1, j, i => match l[j]? with | none => false | some o => o.after.toList.any fun e => Region.binds .any e && (e.on == i || needsB l f e.on i)
/-- Whoever writes slot s waits for i. -/
def lateB (l : List Oper) (i s : Nat) : Bool := (List.range l.length).all fun j => dstAt l j != some s || needsB l l.length j i
def OutAt (l : List Oper) (a0 a : Act) (i : Nat) : Prop := ∀ s, lateB l i s = true → a.eval (.tmp s) = a0.eval (.tmp s)
theorem needs_listed {l : List Oper} {listed : Array Bool} (hc : ∀ j o, l[j]? = some o → listed.getD j false = true → ∀ e ∈ o.after.toList, Region.binds .any e = true → listed.getD e.on false = true) :
    ∀ (f j i : Nat), needsB l f j i = true → listed.getD j false = true → listed.getD i false = true
  | 0, _, _, h, _ => by simp [needsB] at h
  | f + 1, j, i, h, hj => by
    rw [needsB] at h
    cases ho : l[j]? with
    | none => rw [ho] at h; cases h
    | some o =>
      rw [ho] at h
      obtain ⟨e, he, hb⟩ := List.any_eq_true.1 h
      simp only [Bool.and_eq_true, Bool.or_eq_true, beq_iff_eq] at hb
      have h1 := hc j o ho hj e he hb.1
      rcases hb.2 with rfl | hb
      · exact h1
      · exact needs_listed hc f _ _ hb h1
theorem out_of_late {l : List Oper} {a0 a : Act} {listed : Array Bool} (h : ∀ s, (∀ j, dstAt l j = some s → listed.getD j false = false) → a.eval (.tmp s) = a0.eval (.tmp s)) : OutL l a0 a := fun s hs =>
  h s fun j hj => by
    rw [dstAt] at hj
    cases ho : l[j]? with
    | none => rw [ho] at hj; cases hj
    | some o =>
      rw [ho] at hj
      have h1 := List.all_eq_true.1 hs o (List.mem_of_getElem? ho)
      have hj' : o.dst = some s := hj
      simp [hj'] at h1
def LocZ (P : Program) (l : List Oper) (V : Nat → World → Value → Prop) (Ga Gb : World → Prop) (le : World → World → Prop) (a0 : Act) (Q : Exit → Act → World → Prop) (i : Nat) (o : Oper) : Prop :=
  ∀ (a : Act) (w : World), Ga w → OutAt l a0 a i → PreL l V a w o.after.toList → ∀ K : Act → World → Prop, (∀ v w', V i w' v → Gb w' → le w w' → K (a.put o.dst v) w') → o.wp P a w K Q
def OblZ (P : Program) (l : List Oper) (V : Nat → World → Value → Prop) (G : Nat → World → Prop) (le : World → World → Prop) (a0 : Act) (Q : Exit → Act → World → Prop) : Nat → List (Option Nat) → List Oper → Prop
  | _, _, [] => True
  | i, [], o :: r => (∀ k, LocZ P l V (G k) (G k) le a0 Q i o) ∧ OblZ P l V G le a0 Q (i + 1) [] r
  | i, none :: st, o :: r => (∀ k, LocZ P l V (G k) (G k) le a0 Q i o) ∧ OblZ P l V G le a0 Q (i + 1) st r
  | i, some s :: st, o :: r => LocZ P l V (G s) (G (s + 1)) le a0 Q i o ∧ OblZ P l V G le a0 Q (i + 1) st r
theorem OblZ.at {l : List Oper} {V : Nat → World → Value → Prop} {G : Nat → World → Prop} {le : World → World → Prop} {a0 : Act} {Q : Exit → Act → World → Prop} :
    ∀ (r : List Oper) (st : List (Option Nat)) (k i : Nat) (o : Oper), OblZ P l V G le a0 Q k st r → r[i]? = some o →
      match stageAt st i with | none => ∀ q, LocZ P l V (G q) (G q) le a0 Q (k + i) o | some s => LocZ P l V (G s) (G (s + 1)) le a0 Q (k + i) o
  | [], _, _, _, _, _, h => by simp at h
  | o :: r, [], k, 0, o', h, h' => by simp at h'; subst h'; exact h.1
  | o :: r, none :: st, k, 0, o', h, h' => by simp at h'; subst h'; exact h.1
  | o :: r, some s :: st, k, 0, o', h, h' => by simp at h'; subst h'; exact h.1
  | o :: r, [], k, i + 1, o', h, h' => by
    have := OblZ.at r [] (k + 1) i o' h.2 (by simpa using h')
    rw [show k + 1 + i = k + (i + 1) by omega] at this
    simpa [stageAt] using this
  | o :: r, none :: st, k, i + 1, o', h, h' => by
    have := OblZ.at r st (k + 1) i o' h.2 (by simpa using h')
    rw [show k + 1 + i = k + (i + 1) by omega] at this
    simpa [stageAt] using this
  | o :: r, some s :: st, k, i + 1, o', h, h' => by
    have := OblZ.at r st (k + 1) i o' h.2 (by simpa using h')
    rw [show k + 1 + i = k + (i + 1) by omega] at this
    simpa [stageAt] using this


structure ZInv (l : List Oper) (S : List Nat) (V : Nat → World → Value → Prop) (G : Nat → World → Prop) (a0 : Act) (listed : Array Bool) (a : Act) (w : World) : Prop where
  stage : ∃ k, G k w ∧ k ≤ S.length ∧ ∀ s i, S[s]? = some i → (listed.getD i false = true ↔ s < k)
  defers : a.defers = a0.defers
  size : a.tmps.size = a0.tmps.size
  lsize : listed.size = l.length
  late : ∀ s, (∀ j, dstAt l j = some s → listed.getD j false = false) → a.eval (.tmp s) = a0.eval (.tmp s)
  closed : ∀ j o, l[j]? = some o → listed.getD j false = true → ∀ e ∈ o.after.toList, Region.binds .any e = true → listed.getD e.on false = true
  left : ∀ i d, dstAt l i = some d → listed.getD i false = true → V i w (a.eval (.tmp d))


theorem ZInv.step {l : List Oper} {S : List Nat} {V : Nat → World → Value → Prop} {G : Nat → World → Prop} {le : World → World → Prop} {a0 a : Act} {w w' : World} {listed : Array Bool} (hst : ∀ i w w' v, le w w' → V i w v → V i w' v)
    (h : ZInv l S V G a0 listed a w) {n : Nat} (hn : n = a0.tmps.size) (hB : localB l n = true) {i : Nat} {o : Oper} (hi : l[i]? = some o) (hrd : ∀ e ∈ o.after.toList, Region.binds .any e = true → listed.getD e.on false = true) {v : Value} (hv : V i w' v) (hle : le w w')
    (hG : ∃ k, G k w' ∧ k ≤ S.length ∧ ∀ s j, S[s]? = some j → ((listed.setIfInBounds i true).getD j false = true ↔ s < k)) :
    ZInv l S V G a0 (listed.setIfInBounds i true) (a.put o.dst v) w' := by
  obtain ⟨_, _, h3⟩ := localB_spec hB hi
  have hil : i < l.length := (List.getElem?_eq_some_iff.1 hi).1
  have hdi : dstAt l i = o.dst := by simp [dstAt, hi]
  have hsame : (listed.setIfInBounds i true).getD i false = true := getD_set_same (by rw [h.lsize]; exact hil)
  have grow : ∀ j, listed.getD j false = true → (listed.setIfInBounds i true).getD j false = true := fun j hj => by
    by_cases e : i = j
    · subst e
      exact hsame
    · rw [getD_set_ne false e]
      exact hj
  have back : ∀ j, (listed.setIfInBounds i true).getD j false = false → listed.getD j false = false := fun j hj => by
    cases hq : listed.getD j false with
    | false => rfl
    | true => rw [grow j hq] at hj; cases hj
  have hclosed : ∀ j o', l[j]? = some o' → (listed.setIfInBounds i true).getD j false = true → ∀ e ∈ o'.after.toList, Region.binds .any e = true → (listed.setIfInBounds i true).getD e.on false = true := by
    intro j o' ho' hb e he hbi
    by_cases ej : i = j
    · subst ej
      rw [hi] at ho'
      cases ho'
      exact grow _ (hrd e he hbi)
    · rw [getD_set_ne false ej] at hb
      exact grow _ (h.closed j o' ho' hb e he hbi)
  cases hd : o.dst with
  | none =>
    refine ⟨hG, h.defers, h.size, by simp [h.lsize], fun s hs => h.late s fun j hj => back j (hs j hj), hclosed, fun j d hj hl => ?_⟩
    by_cases e : i = j
    · subst e
      rw [hdi, hd] at hj
      cases hj
    · rw [getD_set_ne false e] at hl
      exact hst _ _ _ _ hle (h.left j d hj hl)
  | some d =>
    obtain ⟨hdn, hu⟩ := h3 d hd
    refine ⟨hG, h.defers, by simp [Act.put, h.size], by simp [h.lsize], fun s hs => ?_, hclosed, fun j d' hj hl => ?_⟩
    · rw [eval_put, if_neg]
      · exact h.late s fun j hj => back j (hs j hj)
      · rintro ⟨rfl, _⟩
        have := hs i (by rw [hdi, hd])
        rw [hsame] at this
        cases this
    · rw [eval_put]
      by_cases e : i = j
      · subst e
        rw [hdi, hd] at hj
        cases hj
        rw [if_pos ⟨rfl, by rw [h.size, ← hn]; exact hdn⟩]
        exact hv
      · rw [if_neg]
        · rw [getD_set_ne false e] at hl
          exact hst _ _ _ _ hle (h.left j d' hj hl)
        · rintro ⟨rfl, _⟩
          exact hu j (fun e' => e e'.symm) hj

/-- Whatever order is drawn. -/
theorem wpAny_of_late {l : List Oper} {st : List (Option Nat)} {S : List Nat} {V : Nat → World → Value → Prop} {G : Nat → World → Prop} {le : World → World → Prop} {a0 : Act} {Q : Exit → Act → World → Prop}
    (hst : ∀ i w w' v, le w w' → V i w v → V i w' v) (hB : localB l a0.tmps.size = true) (hS : seqB l S = true) (hT : stageB l.length st S = true) (hO : OblZ P l V G le a0 Q 0 st l) (hg : Gd l V l)
    (hQ : ∀ a w, G S.length w → a.defers = a0.defers → a.tmps.size = a0.tmps.size → OutL l a0 a → (∀ i d, dstAt l i = some d → V i w (a.eval (.tmp d))) → Q .normal a w) :
    ∀ (fuel : Nat) (listed : Array Bool) (a : Act) (w : World), (List.range l.length).countP (fun i => !listed.getD i true) ≤ fuel → ZInv l S V G a0 listed a w → wpAny P .any l.toArray Q fuel listed a w := by
  have done : ∀ (listed : Array Bool) (a : Act) (w : World), ZInv l S V G a0 listed a w → Region.ready .any l.toArray listed = [] → Q .normal a w := by
    intro listed a w inv hr
    have all : ∀ n i, i < n → i < l.length → listed.getD i true = true := by
      intro n
      induction n with
      | zero => intro i hi; omega
      | succ n ih =>
        intro i hin hil
        cases hl : listed.getD i true with
        | true => rfl
        | false =>
          have hmem : i ∈ Region.ready .any l.toArray listed := by
            refine mem_ready.2 ⟨hl, l[i], by simp [hil], fun e he hb => ?_⟩
            have hlt := (localB_spec hB (List.getElem?_eq_getElem hil)).1 e (by simpa using he) hb
            have := ih e.on (by omega) (by omega)
            have hs : e.on < listed.size := by rw [inv.lsize]; omega
            simp [hs] at this ⊢
            exact this
          rw [hr] at hmem
          cases hmem
    have allF : ∀ i, i < l.length → listed.getD i false = true := fun i hil => by
      have h1 := all (i + 1) i (by omega) hil
      have hs : i < listed.size := by rw [inv.lsize]; exact hil
      simp [hs] at h1 ⊢
      exact h1
    obtain ⟨k, hGk, hk, hks⟩ := inv.stage
    have hke : k = S.length := by
      rcases Nat.lt_or_ge k S.length with h | h
      · have h1 := (hks k S[k] (List.getElem?_eq_getElem h))
        have h2 := List.all_eq_true.1 (Bool.and_eq_true_iff.1 hS).1 S[k] (List.getElem_mem h)
        have := h1.1 (allF _ (by simpa using h2))
        omega
      · omega
    subst hke
    refine hQ a w hGk inv.defers inv.size (out_of_late inv.late) fun i d hd => ?_
    have hil : i < l.length := by
      rcases Nat.lt_or_ge i l.length with h | h
      · exact h
      · simp [dstAt, List.getElem?_eq_none h] at hd
    exact inv.left i d hd (allF i hil)
  intro fuel
  induction fuel with
  | zero =>
    intro listed a w hc inv
    have hr : Region.ready .any l.toArray listed = [] := by
      rw [List.eq_nil_iff_forall_not_mem]
      intro i hi
      have hun := (mem_ready.1 hi).1
      have hil : i < l.length := by
        obtain ⟨_, o, ho, _⟩ := mem_ready.1 hi
        have := (Array.getElem?_eq_some_iff.1 ho).1
        simpa using this
      have : 0 < (List.range l.length).countP (fun i => !listed.getD i true) := List.countP_pos_iff.2 ⟨i, List.mem_range.2 hil, by rw [hun]; rfl⟩
      omega
    exact ⟨hr, done listed a w inv hr⟩
  | succ fuel ih =>
    intro listed a w hc inv
    refine ⟨fun hr => done listed a w inv hr, fun i hi => ?_⟩
    obtain ⟨hun, o, ho, hall⟩ := mem_ready.1 hi
    have hlo : l[i]? = some o := by simpa using ho
    have hil : i < l.length := (List.getElem?_eq_some_iff.1 hlo).1
    have hloc := OblZ.at l st 0 i o hO hlo
    rw [Nat.zero_add] at hloc
    have hunf : listed.getD i false = false := by
      have hs : i < listed.size := by rw [inv.lsize]; exact hil
      simp [hs] at hun ⊢
      exact hun
    have hout : OutAt l a0 a i := fun s hs => inv.late s fun j hj => by
      cases hq : listed.getD j false with
      | false => rfl
      | true =>
        have hjl : j < l.length := by
          rcases Nat.lt_or_ge j l.length with h | h
          · exact h
          · simp [dstAt, List.getElem?_eq_none h] at hj
        have h1 := List.all_eq_true.1 hs j (List.mem_range.2 hjl)
        simp only [hj, bne_self_eq_false, Bool.false_or] at h1
        rw [needs_listed inv.closed _ _ _ h1 hq] at hunf
        cases hunf
    have hpre : PreL l V a w o.after.toList := pre_of inv.left _ fun e he hb => hall e (by simpa using he) hb
    have hcount : (List.range l.length).countP (fun j => !(listed.setIfInBounds i true).getD j true) ≤ fuel := by
      have : (List.range l.length).countP (fun j => !(listed.setIfInBounds i true).getD j true) < (List.range l.length).countP (fun j => !listed.getD j true) := by
        refine countP_lt _ i (List.mem_range.2 hil) ?_ ?_ ?_
        · intro j _ hj
          by_cases e : i = j
          · subst e
            have hs : i < listed.size := by rw [inv.lsize]; exact hil
            simp [hs] at hj
          · rw [getD_set_ne true e] at hj
            exact hj
        · have hs : i < listed.size := by rw [inv.lsize]; exact hil
          simp [hs]
        · rw [hun]; rfl
      omega
    have hwant : Region.wanted o (yielded l.toArray a.tmps) = true := by
      unfold Region.wanted
      cases hgd : o.guard with
      | none => rfl
      | some jb =>
        obtain ⟨j, b⟩ := jb
        obtain ⟨⟨e, he, hb, rfl⟩, hds⟩ := (localB_spec hB hlo).2.1 j b hgd
        obtain ⟨d, hd⟩ := Option.isSome_iff_exists.1 hds
        have hlj := hall e (by simpa using he) hb
        have hv := inv.left e.on d hd hlj
        have hgv := Gd.at l i o hg hlo
        rw [hgd] at hgv
        have hval := hgv w _ hv
        have hej : e.on < l.length := by
          rcases Nat.lt_or_ge e.on l.length with h | h
          · exact h
          · simp [dstAt, List.getElem?_eq_none h] at hd
        have hdn := ((localB_spec hB (List.getElem?_eq_getElem hej)).2.2 d (by simpa [dstAt, hej] using hd)).1
        have hdt : d < a.tmps.size := by rw [inv.size]; exact hdn
        have h3 : a.tmps[d]? = some (.bool b) := by
          have e1 : a.eval (.tmp d) = a.tmps[d] := by simp [Act.eval, hdt]
          rw [e1] at hval
          rw [Array.getElem?_eq_getElem hdt, hval]
        have h4 : (l.toArray[e.on]?.bind (·.dst)) = some d := by simpa [dstAt] using hd
        simp only [yielded, h4, Option.bind_some, h3]
        simp
    obtain ⟨k, hGk, hkl, hks⟩ := inv.stage
    have hT1 := List.all_eq_true.1 (Bool.and_eq_true_iff.1 hT).1 i (List.mem_range.2 hil)
    have hisz : i < listed.size := by rw [inv.lsize]; exact hil
    unfold wpOp
    simp only [ho, hwant, if_true]
    left
    cases hs : stageAt st i with
    | none =>
      rw [hs] at hloc hT1
      refine hloc k a w hGk hout hpre _ fun v w' hv hG hle => ih _ _ _ hcount (inv.step hst rfl hB hlo (fun e he hb => hall e (by simpa using he) hb) hv hle ⟨k, hG, hkl, fun s j hj => ?_⟩)
      have hne : i ≠ j := by
        rintro rfl
        have : S.contains i = true := by
          rw [List.contains_iff_mem]
          exact List.mem_of_getElem? hj
        simp only [this, Bool.not_true] at hT1
        cases hT1
      rw [getD_set_ne false hne]
      exact hks s j hj
    | some s =>
      rw [hs] at hloc hT1
      have hSs : S[s]? = some i := by simpa using hT1
      have hsl : s < S.length := (List.getElem?_eq_some_iff.1 hSs).1
      have hunF : listed.getD i false = false := by
        simp [hisz] at hun ⊢
        exact hun
      have hk1 : ¬ s < k := fun h => by
        have := (hks s i hSs).2 h
        rw [hunF] at this
        cases this
      have hk2 : s ≤ k := by
        match s, hSs with
        | 0, _ => omega
        | s + 1, hSs =>
          have h1 := List.all_eq_true.1 (Bool.and_eq_true_iff.1 hS).2 (s + 1) (List.mem_range.2 hsl)
          have hSj : S[s]? = some S[s] := List.getElem?_eq_getElem (by omega)
          simp only [hSs, hSj, hlo, Bool.and_eq_true] at h1
          obtain ⟨e, he, hb⟩ := List.any_eq_true.1 h1.2
          simp only [Bool.and_eq_true, beq_iff_eq] at hb
          have hlj := hall e (by simpa using he) hb.1
          rw [hb.2] at hlj
          have := (hks s S[s] hSj).1 hlj
          omega
      have hke : k = s := by omega
      subst hke
      refine hloc a w hGk hout hpre _ fun v w' hv hG hle => ih _ _ _ hcount (inv.step hst rfl hB hlo (fun e he hb => hall e (by simpa using he) hb) hv hle ⟨k + 1, hG, by omega, fun s' j hj => ?_⟩)
      by_cases hij : i = j
      · subst hij
        have hsl' : s' < S.length := (List.getElem?_eq_some_iff.1 hj).1
        have h2 := List.all_eq_true.1 (Bool.and_eq_true_iff.1 hT).2 s' (List.mem_range.2 hsl')
        simp only [hj, hs] at h2
        have : k = s' := by simpa using h2
        subst this
        simp [hisz]
      · rw [getD_set_ne false hij, hks s' j hj]
        refine ⟨fun h => by omega, fun h => ?_⟩
        have : s' ≠ k := by
          rintro rfl
          rw [hSs] at hj
          injection hj with hj
          exact hij hj
        omega

theorem wp_region_late_frame {id : Nat} {l : List Oper} {a0 : Act} {w : World} {Q : Exit → Act → World → Prop} (hm : P.follows .mixedOrders = true) (st : List (Option Nat)) (S : List Nat) (V : Nat → World → Value → Prop) (G : Nat → World → Prop) (le : World → World → Prop)
    (hst : ∀ i w w' v, le w w' → V i w v → V i w' v) (hB : localB l a0.tmps.size = true) (hS : seqB l S = true) (hT : stageB l.length st S = true) (hG : G 0 { w with drawn := w.drawn + 1 }) (hg : Gd l V l) (hO : OblZ P l V G le a0 Q 0 st l)
    (hQ : ∀ vs w, G S.length w → vs.length = l.length → (∀ i d v, dstAt l i = some d → vs[i]? = some v → V i w v) → Q .normal (putsL l vs a0) w) :
    (Code.region id l.toArray true).wp P Q a0 w := by
  refine wp_region_any hm ?_
  refine wpAny_of_late hst hB hS hT hO hg (fun a w hGw hd hs hout hleft => ?_) l.toArray.size (Array.replicate l.toArray.size false) a0 { w with drawn := w.drawn + 1 } (Nat.le_trans List.countP_le_length (by simp))
    ⟨⟨0, hG, Nat.zero_le _, fun s i _ => ⟨fun h => (by rw [getD_replicate_false] at h; cases h), fun h => (by omega)⟩⟩, rfl, rfl, by simp, fun _ _ => rfl, fun i o _ hl => (by rw [getD_replicate_false] at hl; cases hl), fun i d _ hl => by rw [getD_replicate_false] at hl; cases hl⟩
  have e : putsL l (valsOf a l) a0 = a := act_ext ((putsL_defers _ _ _).trans hd.symm) ((putsL_size _ _ _).trans hs.symm) (putsL_eval a l a0 hs hout)
  rw [← e]
  refine hQ _ w hGw (by simp [valsOf]) fun i d v hid hv => ?_
  have h := hleft i d hid
  have hil : (valsOf a l)[i]? = some (a.eval (.tmp d)) := by
    rw [dstAt] at hid
    cases ho : l[i]? with
    | none => rw [ho] at hid; cases hid
    | some o =>
      rw [ho] at hid
      have hod : o.dst = some d := hid
      simp [valsOf, ho, hod]
  rw [hil] at hv
  injection hv with hv
  rw [← hv]
  exact h
end
end Go.Proofs.Ytbfioekbahcicaa
