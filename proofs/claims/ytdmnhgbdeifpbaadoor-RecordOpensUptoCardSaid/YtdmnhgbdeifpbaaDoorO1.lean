/-
  Part 1 of 42 of what the proof leans on.
-/
import Derived.StillTail
import Derived.ScopeJumps
namespace Go.Proofs.YtdmnhgbdeifpbaaDoor
open Go
section
variable {P : Program}
def dstAt (l : List Oper) (i : Nat) : Option Tmp := (l[i]?).bind (·.dst)
def PreL (l : List Oper) (V : Nat → World → Value → Prop) (a : Act) (w : World) : List Edge → Prop
  | [] => True
  | e :: r => (if Region.binds .any e then (match dstAt l e.on with | some d => V e.on w (a.eval (.tmp d)) | none => True) else True) ∧ PreL l V a w r
def OutL (l : List Oper) (a0 a : Act) : Prop := ∀ s, (l.all fun o => o.dst != some s) = true → a.eval (.tmp s) = a0.eval (.tmp s)
def Loc (P : Program) (l : List Oper) (V : Nat → World → Value → Prop) (G : World → Prop) (le : World → World → Prop) (a0 : Act) (Q : Exit → Act → World → Prop) (i : Nat) (o : Oper) : Prop :=
  ∀ (a : Act) (w : World), G w → OutL l a0 a → PreL l V a w o.after.toList → ∀ K : Act → World → Prop, (∀ v w', V i w' v → G w' → le w w' → K (a.put o.dst v) w') → o.wp P a w K Q
def Obl (P : Program) (l : List Oper) (V : Nat → World → Value → Prop) (G : World → Prop) (le : World → World → Prop) (a0 : Act) (Q : Exit → Act → World → Prop) : Nat → List Oper → Prop
  | _, [] => True
  | i, o :: r => Loc P l V G le a0 Q i o ∧ Obl P l V G le a0 Q (i + 1) r
theorem Obl.at {l : List Oper} {V : Nat → World → Value → Prop} {G : World → Prop} {le : World → World → Prop} {a0 : Act} {Q : Exit → Act → World → Prop} :
    ∀ (r : List Oper) (k i : Nat) (o : Oper), Obl P l V G le a0 Q k r → r[i]? = some o → Loc P l V G le a0 Q (k + i) o
  | [], _, _, _, _, h => by simp at h
  | o :: r, k, 0, o', h, h' => by simp at h'; subst h'; exact h.1
  | o :: r, k, i + 1, o', h, h' => by
    have := Obl.at r (k + 1) i o' h.2 (by simpa using h')
    rwa [show k + 1 + i = k + (i + 1) by omega] at this
def Gd (l : List Oper) (V : Nat → World → Value → Prop) : List Oper → Prop
  | [] => True
  | o :: r => (match o.guard with | none => True | some (j, b) => ∀ w v, V j w v → v = .bool b) ∧ Gd l V r
theorem Gd.at {l : List Oper} {V : Nat → World → Value → Prop} : ∀ (r : List Oper) (i : Nat) (o : Oper), Gd l V r → r[i]? = some o → match o.guard with | none => True | some (j, b) => ∀ w v, V j w v → v = .bool b
  | [], _, _, _, h => by simp at h
  | o :: r, 0, o', h, h' => by simp at h'; subst h'; exact h.1
  | o :: r, i + 1, o', h, h' => Gd.at r i o' h.2 (by simpa using h')
def localB (l : List Oper) (n : Nat) : Bool :=
  (List.range l.length).all fun i => match l[i]? with
    | none => true
    | some o =>
      (o.after.toList.all fun e => !Region.binds .any e || decide (e.on < i)) &&
      (match o.guard with | none => true | some (j, _) => (o.after.toList.any fun e => Region.binds .any e && e.on == j) && (dstAt l j).isSome) &&
      (match o.dst with | none => true | some d => decide (d < n) && (List.range l.length).all fun j => j == i || dstAt l j != some d)
theorem localB_spec {l : List Oper} {n : Nat} (h : localB l n = true) {i : Nat} {o : Oper} (hi : l[i]? = some o) :
    (∀ e ∈ o.after.toList, Region.binds .any e = true → e.on < i) ∧
    (∀ j b, o.guard = some (j, b) → (∃ e ∈ o.after.toList, Region.binds .any e = true ∧ e.on = j) ∧ (dstAt l j).isSome = true) ∧
    (∀ d, o.dst = some d → d < n ∧ ∀ j, j ≠ i → dstAt l j ≠ some d) := by
  have hil : i < l.length := (List.getElem?_eq_some_iff.1 hi).1; have h1 := List.all_eq_true.1 h i (List.mem_range.2 hil); simp only [hi, Bool.and_eq_true] at h1; obtain ⟨⟨h1, h2⟩, h3⟩ := h1; refine ⟨fun e he hb => ?_, fun j b hg => ?_, fun d hd => ?_⟩
  · have := List.all_eq_true.1 h1 e he; simp only [hb, Bool.not_true, Bool.false_or, decide_eq_true_eq] at this; exact this
  · rw [hg] at h2; simp only [Bool.and_eq_true] at h2; obtain ⟨e, he, hb⟩ := List.any_eq_true.1 h2.1; simp only [Bool.and_eq_true, beq_iff_eq] at hb; exact ⟨⟨e, he, hb.1, hb.2⟩, h2.2⟩
  · rw [hd] at h3; simp only [Bool.and_eq_true, decide_eq_true_eq] at h3; refine ⟨h3.1, fun j hj hjd => ?_⟩
    have hjl : j < l.length := by
      rcases Nat.lt_or_ge j l.length with h | h
      · exact h
      · simp [dstAt, List.getElem?_eq_none h] at hjd
    have := List.all_eq_true.1 h3.2 j (List.mem_range.2 hjl); simp [hjd, hj] at this
structure LInv (l : List Oper) (V : Nat → World → Value → Prop) (G : World → Prop) (a0 : Act) (listed : Array Bool) (a : Act) (w : World) : Prop where
  good : G w
  defers : a.defers = a0.defers
  size : a.tmps.size = a0.tmps.size
  lsize : listed.size = l.length
  out : OutL l a0 a
  left : ∀ i d, dstAt l i = some d → listed.getD i false = true → V i w (a.eval (.tmp d))
theorem pre_of {l : List Oper} {V : Nat → World → Value → Prop} {a : Act} {w : World} {listed : Array Bool} (hV : ∀ i d, dstAt l i = some d → listed.getD i false = true → V i w (a.eval (.tmp d))) :
    ∀ (es : List Edge), (∀ e ∈ es, Region.binds .any e = true → listed.getD e.on false = true) → PreL l V a w es
  | [], _ => trivial
  | e :: r, h => by
    refine ⟨?_, pre_of hV r fun e' he' => h e' (by simp [he'])⟩
    split
    · rename_i hb
      split
      · rename_i d hd
        exact hV _ _ hd (h e (by simp) hb)
      · trivial
    · trivial
theorem eval_put (a : Act) (d : Tmp) (v : Value) (s : Tmp) : (a.put (some d) v).eval (.tmp s) = if s = d ∧ d < a.tmps.size then v else a.eval (.tmp s) := by
  simp only [Act.eval, Act.put]
  by_cases h : s = d
  · subst h
    by_cases h2 : s < a.tmps.size
    · simp [h2]
    · simp [h2]
  · have h' : ¬ d = s := fun e => h e.symm; simp [h, h']
theorem LInv.step {l : List Oper} {V : Nat → World → Value → Prop} {G : World → Prop} {le : World → World → Prop} {a0 a : Act} {w w' : World} {listed : Array Bool} (hst : ∀ i w w' v, le w w' → V i w v → V i w' v)
    (h : LInv l V G a0 listed a w) {n : Nat} (hn : n = a0.tmps.size) (hB : localB l n = true) {i : Nat} {o : Oper} (hi : l[i]? = some o) {v : Value} (hv : V i w' v) (hG : G w') (hle : le w w') :
    LInv l V G a0 (listed.setIfInBounds i true) (a.put o.dst v) w' := by
  obtain ⟨_, _, h3⟩ := localB_spec hB hi; have hil : i < l.length := (List.getElem?_eq_some_iff.1 hi).1
  have hdi : dstAt l i = o.dst := by simp [dstAt, hi]
  cases hd : o.dst with
  | none =>
    refine ⟨hG, h.defers, h.size, by simp [h.lsize], h.out, fun j d hj hl => ?_⟩
    by_cases e : i = j
    · subst e; rw [hdi, hd] at hj
      cases hj
    · rw [getD_set_ne false e] at hl; exact hst _ _ _ _ hle (h.left j d hj hl)
  | some d =>
    obtain ⟨hdn, hu⟩ := h3 d hd
    refine ⟨hG, h.defers, by simp [Act.put, h.size], by simp [h.lsize], fun s hs => ?_, fun j d' hj hl => ?_⟩
    · rw [eval_put, if_neg]
      · exact h.out s hs
      · rintro ⟨rfl, _⟩; have := List.all_eq_true.1 hs o (List.mem_of_getElem? hi); simp [hd] at this
    · rw [eval_put]
      by_cases e : i = j
      · subst e; rw [hdi, hd] at hj
        cases hj
        rw [if_pos ⟨rfl, by rw [h.size, ← hn]; exact hdn⟩]
        exact hv
      · rw [if_neg]
        · rw [getD_set_ne false e] at hl; exact hst _ _ _ _ hle (h.left j d' hj hl)
        · rintro ⟨rfl, _⟩; exact hu j (fun e' => e e'.symm) hj
theorem countP_lt {p q : Nat → Bool} : ∀ (l : List Nat) (x : Nat), x ∈ l → (∀ y ∈ l, p y = true → q y = true) → p x = false → q x = true → l.countP p < l.countP q
  | [], _, h, _, _, _ => by cases h
  | y :: l, x, h, hi, hp, hq => by
    have hm : l.countP p ≤ l.countP q := List.countP_mono_left fun z hz => hi z (by simp [hz])
    rw [List.countP_cons, List.countP_cons]
    rcases List.mem_cons.1 h with e | h'
    · subst e; rw [hp, hq]; simp; omega
    · have := countP_lt l x h' (fun z hz => hi z (by simp [hz])) hp hq
      have hy := hi y (by simp)
      cases h1 : p y with
      | false =>
        simp only [Bool.false_eq_true, if_false]
        split <;> omega
      | true => rw [hy h1]; simp; omega
theorem wpAny_of_local {l : List Oper} {V : Nat → World → Value → Prop} {G : World → Prop} {le : World → World → Prop} {a0 : Act} {Q : Exit → Act → World → Prop}
    (hst : ∀ i w w' v, le w w' → V i w v → V i w' v) (hB : localB l a0.tmps.size = true) (hO : Obl P l V G le a0 Q 0 l) (hg : Gd l V l)
    (hQ : ∀ a w, G w → a.defers = a0.defers → a.tmps.size = a0.tmps.size → OutL l a0 a → (∀ i d, dstAt l i = some d → V i w (a.eval (.tmp d))) → Q .normal a w) :
    ∀ (fuel : Nat) (listed : Array Bool) (a : Act) (w : World), (List.range l.length).countP (fun i => !listed.getD i true) ≤ fuel → LInv l V G a0 listed a w → wpAny P .any l.toArray Q fuel listed a w := by
  have done : ∀ (listed : Array Bool) (a : Act) (w : World), LInv l V G a0 listed a w → Region.ready .any l.toArray listed = [] → Q .normal a w := by
    intro listed a w inv hr; refine hQ a w inv.good inv.defers inv.size inv.out fun i d hd => ?_
    have all : ∀ n i, i < n → i < l.length → listed.getD i true = true := by
      intro n
      induction n with
      | zero => intro i hi; omega
      | succ n ih =>
        intro i hin hil
        cases hl : listed.getD i true with
        | true => rfl
        | false =>
          have hmem : i ∈ Region.ready .any l.toArray listed := by
            refine mem_ready.2 ⟨hl, l[i], by simp [hil], fun e he hb => ?_⟩
            have hlt := (localB_spec hB (List.getElem?_eq_getElem hil)).1 e (by simpa using he) hb
            have := ih e.on (by omega) (by omega)
            have hs : e.on < listed.size := by rw [inv.lsize]; omega
            simp [hs] at this ⊢; exact this
          rw [hr] at hmem
          cases hmem
    have hil : i < l.length := by
      rcases Nat.lt_or_ge i l.length with h | h
      · exact h
      · simp [dstAt, List.getElem?_eq_none h] at hd
    have h1 := all (i + 1) i (by omega) hil
    refine inv.left i d hd ?_
    have hs : i < listed.size := by rw [inv.lsize]; exact hil
    simp [hs] at h1 ⊢; exact h1
  intro fuel
  induction fuel with
  | zero =>
    intro listed a w hc inv
    have hr : Region.ready .any l.toArray listed = [] := by
      rw [List.eq_nil_iff_forall_not_mem]; intro i hi; have hun := (mem_ready.1 hi).1
      have hil : i < l.length := by
        obtain ⟨_, o, ho, _⟩ := mem_ready.1 hi; have := (Array.getElem?_eq_some_iff.1 ho).1
        simpa using this
      have : 0 < (List.range l.length).countP (fun i => !listed.getD i true) := List.countP_pos_iff.2 ⟨i, List.mem_range.2 hil, by rw [hun]; rfl⟩
      omega
    exact ⟨hr, done listed a w inv hr⟩
  | succ fuel ih =>
    intro listed a w hc inv; refine ⟨fun hr => done listed a w inv hr, fun i hi => ?_⟩; obtain ⟨hun, o, ho, hall⟩ := mem_ready.1 hi
    have hlo : l[i]? = some o := by simpa using ho
    have hil : i < l.length := (List.getElem?_eq_some_iff.1 hlo).1; have hloc := Obl.at l 0 i o hO hlo; rw [Nat.zero_add] at hloc
    have hpre : PreL l V a w o.after.toList := pre_of inv.left _ fun e he hb => hall e (by simpa using he) hb
    have hcount : (List.range l.length).countP (fun j => !(listed.setIfInBounds i true).getD j true) ≤ fuel := by
      have : (List.range l.length).countP (fun j => !(listed.setIfInBounds i true).getD j true) < (List.range l.length).countP (fun j => !listed.getD j true) := by
        refine countP_lt _ i (List.mem_range.2 hil) ?_ ?_ ?_
        · intro j _ hj
          by_cases e : i = j
          · subst e
            have hs : i < listed.size := by rw [inv.lsize]; exact hil
            simp [hs] at hj
          · rw [getD_set_ne true e] at hj; exact hj
        · have hs : i < listed.size := by rw [inv.lsize]; exact hil
          simp [hs]
        · rw [hun]; rfl
      omega
    have hwant : Region.wanted o (yielded l.toArray a.tmps) = true := by
      unfold Region.wanted
      cases hgd : o.guard with
      | none => rfl
      | some jb =>
        obtain ⟨j, b⟩ := jb; obtain ⟨⟨e, he, hb, rfl⟩, hds⟩ := (localB_spec hB hlo).2.1 j b hgd; obtain ⟨d, hd⟩ := Option.isSome_iff_exists.1 hds
        have hlj := hall e (by simpa using he) hb
        have hv := inv.left e.on d hd hlj; have hgv := Gd.at l i o hg hlo; rw [hgd] at hgv; have hval := hgv w _ hv
        have hej : e.on < l.length := by
          rcases Nat.lt_or_ge e.on l.length with h | h
          · exact h
          · simp [dstAt, List.getElem?_eq_none h] at hd
        have hdn := ((localB_spec hB (List.getElem?_eq_getElem hej)).2.2 d (by simpa [dstAt, hej] using hd)).1
        have hdt : d < a.tmps.size := by rw [inv.size]; exact hdn
        have h3 : a.tmps[d]? = some (.bool b) := by
          have e1 : a.eval (.tmp d) = a.tmps[d] := by simp [Act.eval, hdt]
          rw [e1] at hval; rw [Array.getElem?_eq_getElem hdt, hval]
        have h4 : (l.toArray[e.on]?.bind (·.dst)) = some d := by simpa [dstAt] using hd
        simp only [yielded, h4, Option.bind_some, h3]; simp
    unfold wpOp; simp only [ho, hwant, if_true]; exact .inl (hloc a w inv.good inv.out hpre _ fun v w' hv hG hle => ih _ _ _ hcount (inv.step hst rfl hB hlo hv hG hle))
theorem wp_region_local {id : Nat} {l : List Oper} {a0 : Act} {w : World} {Q : Exit → Act → World → Prop} (hm : P.follows .mixedOrders = true) (V : Nat → World → Value → Prop) (G : World → Prop) (le : World → World → Prop)
    (hst : ∀ i w w' v, le w w' → V i w v → V i w' v) (hB : localB l a0.tmps.size = true) (hG : G { w with drawn := w.drawn + 1 }) (hg : Gd l V l) (hO : Obl P l V G le a0 Q 0 l)
    (hQ : ∀ a w, G w → a.defers = a0.defers → a.tmps.size = a0.tmps.size → OutL l a0 a → (∀ i d, dstAt l i = some d → V i w (a.eval (.tmp d))) → Q .normal a w) :
    (Code.region id l.toArray true).wp P Q a0 w := by
  refine wp_region_any hm ?_
  have := wpAny_of_local hst hB hO hg hQ l.toArray.size (Array.replicate l.toArray.size false) a0 { w with drawn := w.drawn + 1 } (Nat.le_trans List.countP_le_length (by simp))
    ⟨hG, rfl, rfl, by simp, fun _ _ => rfl, fun i d _ hl => by rw [getD_replicate_false] at hl; cases hl⟩
  exact this
end
end Go.Proofs.YtdmnhgbdeifpbaaDoor
namespace Go.Proofs.YtdmnhgbdeifpbaaDoor
open Go
section
variable {P : Program}
def putsL : List Oper → List Value → Act → Act
  | [], _, a => a
  | o :: r, vs, a => putsL r vs.tail (a.put o.dst (vs.headD undef))
def valsOf (A : Act) (l : List Oper) : List Value := l.map fun o => match o.dst with | some d => A.eval (.tmp d) | none => undef
theorem put_size (a : Act) (d : Option Tmp) (v : Value) : (a.put d v).tmps.size = a.tmps.size := by
  cases d <;> simp [Act.put]
theorem put_defers (a : Act) (d : Option Tmp) (v : Value) : (a.put d v).defers = a.defers := by
  cases d <;> rfl
theorem putsL_size : ∀ (l : List Oper) (vs : List Value) (a : Act), (putsL l vs a).tmps.size = a.tmps.size
  | [], _, _ => rfl
  | o :: r, vs, a => by rw [putsL, putsL_size r, put_size]
theorem putsL_defers : ∀ (l : List Oper) (vs : List Value) (a : Act), (putsL l vs a).defers = a.defers
  | [], _, _ => rfl
  | o :: r, vs, a => by rw [putsL, putsL_defers r, put_defers]
theorem putsL_eval (A : Act) : ∀ (l : List Oper) (a : Act), A.tmps.size = a.tmps.size → (∀ s, (l.all fun o => o.dst != some s) = true → A.eval (.tmp s) = a.eval (.tmp s)) →
    ∀ s, (putsL l (valsOf A l) a).eval (.tmp s) = A.eval (.tmp s)
  | [], a, _, h, s => (h s rfl).symm
  | o :: r, a, hs, h, s => by
    rw [putsL]
    refine putsL_eval A r _ (by rw [put_size]; exact hs) (fun s hr => ?_) s
    show A.eval (.tmp s) = (a.put o.dst ((valsOf A (o :: r)).headD undef)).eval (.tmp s)
    by_cases hd : o.dst = some s
    · have hv : ((valsOf A (o :: r)).headD undef) = A.eval (.tmp s) := by simp [valsOf, hd]
      rw [hv, hd, eval_put]
      split
      · rfl
      · rename_i hn
        have h1 : ¬ s < a.tmps.size := fun h => hn ⟨rfl, h⟩; have h2 : ¬ s < A.tmps.size := fun h => h1 (hs ▸ h); simp [Act.eval, h1, h2]
    · rw [h s (by simp only [List.all_cons, Bool.and_eq_true]; exact ⟨by simpa using hd, hr⟩)]
      cases hod : o.dst with
      | none => rfl
      | some d =>
        rw [eval_put, if_neg]; rintro ⟨rfl, _⟩; exact hd hod
theorem act_ext {a b : Act} (hd : a.defers = b.defers) (hs : a.tmps.size = b.tmps.size) (h : ∀ s, a.eval (.tmp s) = b.eval (.tmp s)) : a = b := by
  obtain ⟨t, d⟩ := a; obtain ⟨t', d'⟩ := b; obtain rfl : d = d' := hd
  have : t = t' := by
    apply Array.ext hs
    intro i h1 h2; have := h i
    simpa [Act.eval, h1, h2] using this
  rw [this]
theorem wp_region_local_frame {id : Nat} {l : List Oper} {a0 : Act} {w : World} {Q : Exit → Act → World → Prop} (hm : P.follows .mixedOrders = true) (V : Nat → World → Value → Prop) (G : World → Prop) (le : World → World → Prop)
    (hst : ∀ i w w' v, le w w' → V i w v → V i w' v) (hB : localB l a0.tmps.size = true) (hG : G { w with drawn := w.drawn + 1 }) (hg : Gd l V l) (hO : Obl P l V G le a0 Q 0 l)
    (hQ : ∀ vs w, G w → vs.length = l.length → (∀ i d v, dstAt l i = some d → vs[i]? = some v → V i w v) → Q .normal (putsL l vs a0) w) :
    (Code.region id l.toArray true).wp P Q a0 w := by
  refine wp_region_local hm V G le hst hB hG hg hO fun a w hGw hd hs hout hleft => ?_; have e : putsL l (valsOf a l) a0 = a := act_ext ((putsL_defers _ _ _).trans hd.symm) ((putsL_size _ _ _).trans hs.symm) (putsL_eval a l a0 hs hout); rw [← e]
  refine hQ _ w hGw (by simp [valsOf]) fun i d v hid hv => ?_
  have h := hleft i d hid
  have hil : (valsOf a l)[i]? = some (a.eval (.tmp d)) := by
    rw [dstAt] at hid
    cases ho : l[i]? with
    | none => rw [ho] at hid; cases hid
    | some o =>
      rw [ho] at hid; have hod : o.dst = some d := hid; simp [valsOf, ho, hod]
  rw [hil] at hv
  injection hv with hv
  rw [← hv]; exact h
end
end Go.Proofs.YtdmnhgbdeifpbaaDoor
namespace Go.Proofs.YtdmnhgbdeifpbaaDoor
open Go
section
variable {P : Program}
def LocS (P : Program) (l : List Oper) (V : Nat → World → Value → Prop) (Ga Gb : World → Prop) (le : World → World → Prop) (a0 : Act) (Q : Exit → Act → World → Prop) (i : Nat) (o : Oper) : Prop :=
  ∀ (a : Act) (w : World), Ga w → OutL l a0 a → PreL l V a w o.after.toList → ∀ K : Act → World → Prop, (∀ v w', V i w' v → Gb w' → le w w' → K (a.put o.dst v) w') → o.wp P a w K Q
def OblS (P : Program) (l : List Oper) (V : Nat → World → Value → Prop) (G : Nat → World → Prop) (le : World → World → Prop) (a0 : Act) (Q : Exit → Act → World → Prop) : Nat → List (Option Nat) → List Oper → Prop
  | _, _, [] => True
  | i, [], o :: r => (∀ k, LocS P l V (G k) (G k) le a0 Q i o) ∧ OblS P l V G le a0 Q (i + 1) [] r
  | i, none :: st, o :: r => (∀ k, LocS P l V (G k) (G k) le a0 Q i o) ∧ OblS P l V G le a0 Q (i + 1) st r
  | i, some s :: st, o :: r => LocS P l V (G s) (G (s + 1)) le a0 Q i o ∧ OblS P l V G le a0 Q (i + 1) st r
def stageAt (st : List (Option Nat)) (i : Nat) : Option Nat := (st[i]?).join
theorem OblS.at {l : List Oper} {V : Nat → World → Value → Prop} {G : Nat → World → Prop} {le : World → World → Prop} {a0 : Act} {Q : Exit → Act → World → Prop} :
    ∀ (r : List Oper) (st : List (Option Nat)) (k i : Nat) (o : Oper), OblS P l V G le a0 Q k st r → r[i]? = some o →
      match stageAt st i with | none => ∀ q, LocS P l V (G q) (G q) le a0 Q (k + i) o | some s => LocS P l V (G s) (G (s + 1)) le a0 Q (k + i) o
  | [], _, _, _, _, _, h => by simp at h
  | o :: r, [], k, 0, o', h, h' => by simp at h'; subst h'; exact h.1
  | o :: r, none :: st, k, 0, o', h, h' => by simp at h'; subst h'; exact h.1
  | o :: r, some s :: st, k, 0, o', h, h' => by simp at h'; subst h'; exact h.1
  | o :: r, [], k, i + 1, o', h, h' => by
    have := OblS.at r [] (k + 1) i o' h.2 (by simpa using h')
    rw [show k + 1 + i = k + (i + 1) by omega] at this
    simpa [stageAt] using this
  | o :: r, none :: st, k, i + 1, o', h, h' => by
    have := OblS.at r st (k + 1) i o' h.2 (by simpa using h')
    rw [show k + 1 + i = k + (i + 1) by omega] at this
    simpa [stageAt] using this
  | o :: r, some s :: st, k, i + 1, o', h, h' => by
    have := OblS.at r st (k + 1) i o' h.2 (by simpa using h')
    rw [show k + 1 + i = k + (i + 1) by omega] at this
    simpa [stageAt] using this
def seqB (l : List Oper) (S : List Nat) : Bool :=
  S.all (fun i => decide (i < l.length)) && (List.range S.length).all fun s => match s with
    | 0 => true
    | s + 1 => match S[s + 1]?, S[s]? with
      | some i, some j => decide (j ≠ i) && (match l[i]? with | some o => o.after.toList.any fun e => Region.binds .any e && e.on == j | none => false)
      | _, _ => false
def stageB (n : Nat) (st : List (Option Nat)) (S : List Nat) : Bool :=
  ((List.range n).all fun i => match stageAt st i with | none => !S.contains i | some s => S[s]? == some i) && (List.range S.length).all fun s => match S[s]? with | some i => stageAt st i == some s | none => false
structure SInv (l : List Oper) (S : List Nat) (V : Nat → World → Value → Prop) (G : Nat → World → Prop) (a0 : Act) (listed : Array Bool) (a : Act) (w : World) : Prop where
  stage : ∃ k, G k w ∧ k ≤ S.length ∧ ∀ s i, S[s]? = some i → (listed.getD i false = true ↔ s < k)
  defers : a.defers = a0.defers
  size : a.tmps.size = a0.tmps.size
  lsize : listed.size = l.length
  out : OutL l a0 a
  left : ∀ i d, dstAt l i = some d → listed.getD i false = true → V i w (a.eval (.tmp d))
theorem SInv.step {l : List Oper} {S : List Nat} {V : Nat → World → Value → Prop} {G : Nat → World → Prop} {le : World → World → Prop} {a0 a : Act} {w w' : World} {listed : Array Bool} (hst : ∀ i w w' v, le w w' → V i w v → V i w' v)
    (h : SInv l S V G a0 listed a w) {n : Nat} (hn : n = a0.tmps.size) (hB : localB l n = true) {i : Nat} {o : Oper} (hi : l[i]? = some o) {v : Value} (hv : V i w' v) (hle : le w w')
    (hG : ∃ k, G k w' ∧ k ≤ S.length ∧ ∀ s j, S[s]? = some j → ((listed.setIfInBounds i true).getD j false = true ↔ s < k)) :
    SInv l S V G a0 (listed.setIfInBounds i true) (a.put o.dst v) w' := by
  obtain ⟨_, _, h3⟩ := localB_spec hB hi; have hil : i < l.length := (List.getElem?_eq_some_iff.1 hi).1
  have hdi : dstAt l i = o.dst := by simp [dstAt, hi]
  cases hd : o.dst with
  | none =>
    refine ⟨hG, h.defers, h.size, by simp [h.lsize], h.out, fun j d hj hl => ?_⟩
    by_cases e : i = j
    · subst e; rw [hdi, hd] at hj
      cases hj
    · rw [getD_set_ne false e] at hl; exact hst _ _ _ _ hle (h.left j d hj hl)
  | some d =>
    obtain ⟨hdn, hu⟩ := h3 d hd
    refine ⟨hG, h.defers, by simp [Act.put, h.size], by simp [h.lsize], fun s hs => ?_, fun j d' hj hl => ?_⟩
    · rw [eval_put, if_neg]
      · exact h.out s hs
      · rintro ⟨rfl, _⟩; have := List.all_eq_true.1 hs o (List.mem_of_getElem? hi); simp [hd] at this
    · rw [eval_put]
      by_cases e : i = j
      · subst e; rw [hdi, hd] at hj
        cases hj
        rw [if_pos ⟨rfl, by rw [h.size, ← hn]; exact hdn⟩]
        exact hv
      · rw [if_neg]
        · rw [getD_set_ne false e] at hl; exact hst _ _ _ _ hle (h.left j d' hj hl)
        · rintro ⟨rfl, _⟩; exact hu j (fun e' => e e'.symm) hj
theorem wpAny_of_seq {l : List Oper} {st : List (Option Nat)} {S : List Nat} {V : Nat → World → Value → Prop} {G : Nat → World → Prop} {le : World → World → Prop} {a0 : Act} {Q : Exit → Act → World → Prop}
    (hst : ∀ i w w' v, le w w' → V i w v → V i w' v) (hB : localB l a0.tmps.size = true) (hS : seqB l S = true) (hT : stageB l.length st S = true) (hO : OblS P l V G le a0 Q 0 st l) (hg : Gd l V l)
    (hQ : ∀ a w, G S.length w → a.defers = a0.defers → a.tmps.size = a0.tmps.size → OutL l a0 a → (∀ i d, dstAt l i = some d → V i w (a.eval (.tmp d))) → Q .normal a w) :
    ∀ (fuel : Nat) (listed : Array Bool) (a : Act) (w : World), (List.range l.length).countP (fun i => !listed.getD i true) ≤ fuel → SInv l S V G a0 listed a w → wpAny P .any l.toArray Q fuel listed a w := by
  have done : ∀ (listed : Array Bool) (a : Act) (w : World), SInv l S V G a0 listed a w → Region.ready .any l.toArray listed = [] → Q .normal a w := by
    intro listed a w inv hr
    have all : ∀ n i, i < n → i < l.length → listed.getD i true = true := by
      intro n
      induction n with
      | zero => intro i hi; omega
      | succ n ih =>
        intro i hin hil
        cases hl : listed.getD i true with
        | true => rfl
        | false =>
          have hmem : i ∈ Region.ready .any l.toArray listed := by
            refine mem_ready.2 ⟨hl, l[i], by simp [hil], fun e he hb => ?_⟩
            have hlt := (localB_spec hB (List.getElem?_eq_getElem hil)).1 e (by simpa using he) hb
            have := ih e.on (by omega) (by omega)
            have hs : e.on < listed.size := by rw [inv.lsize]; omega
            simp [hs] at this ⊢; exact this
          rw [hr] at hmem
          cases hmem
    have allF : ∀ i, i < l.length → listed.getD i false = true := fun i hil => by
      have h1 := all (i + 1) i (by omega) hil
      have hs : i < listed.size := by rw [inv.lsize]; exact hil
      simp [hs] at h1 ⊢; exact h1
    obtain ⟨k, hGk, hk, hks⟩ := inv.stage
    have hke : k = S.length := by
      rcases Nat.lt_or_ge k S.length with h | h
      · have h1 := (hks k S[k] (List.getElem?_eq_getElem h)); have h2 := List.all_eq_true.1 (Bool.and_eq_true_iff.1 hS).1 S[k] (List.getElem_mem h)
        have := h1.1 (allF _ (by simpa using h2))
        omega
      · omega
    subst hke; refine hQ a w hGk inv.defers inv.size inv.out fun i d hd => ?_
    have hil : i < l.length := by
      rcases Nat.lt_or_ge i l.length with h | h
      · exact h
      · simp [dstAt, List.getElem?_eq_none h] at hd
    exact inv.left i d hd (allF i hil)
  intro fuel
  induction fuel with
  | zero =>
    intro listed a w hc inv
    have hr : Region.ready .any l.toArray listed = [] := by
      rw [List.eq_nil_iff_forall_not_mem]; intro i hi; have hun := (mem_ready.1 hi).1
      have hil : i < l.length := by
        obtain ⟨_, o, ho, _⟩ := mem_ready.1 hi; have := (Array.getElem?_eq_some_iff.1 ho).1
        simpa using this
      have : 0 < (List.range l.length).countP (fun i => !listed.getD i true) := List.countP_pos_iff.2 ⟨i, List.mem_range.2 hil, by rw [hun]; rfl⟩
      omega
    exact ⟨hr, done listed a w inv hr⟩
  | succ fuel ih =>
    intro listed a w hc inv; refine ⟨fun hr => done listed a w inv hr, fun i hi => ?_⟩; obtain ⟨hun, o, ho, hall⟩ := mem_ready.1 hi
    have hlo : l[i]? = some o := by simpa using ho
    have hil : i < l.length := (List.getElem?_eq_some_iff.1 hlo).1; have hloc := OblS.at l st 0 i o hO hlo; rw [Nat.zero_add] at hloc
    have hpre : PreL l V a w o.after.toList := pre_of inv.left _ fun e he hb => hall e (by simpa using he) hb
    have hcount : (List.range l.length).countP (fun j => !(listed.setIfInBounds i true).getD j true) ≤ fuel := by
      have : (List.range l.length).countP (fun j => !(listed.setIfInBounds i true).getD j true) < (List.range l.length).countP (fun j => !listed.getD j true) := by
        refine countP_lt _ i (List.mem_range.2 hil) ?_ ?_ ?_
        · intro j _ hj
          by_cases e : i = j
          · subst e
            have hs : i < listed.size := by rw [inv.lsize]; exact hil
            simp [hs] at hj
          · rw [getD_set_ne true e] at hj; exact hj
        · have hs : i < listed.size := by rw [inv.lsize]; exact hil
          simp [hs]
        · rw [hun]; rfl
      omega
    have hwant : Region.wanted o (yielded l.toArray a.tmps) = true := by
      unfold Region.wanted
      cases hgd : o.guard with
      | none => rfl
      | some jb =>
        obtain ⟨j, b⟩ := jb; obtain ⟨⟨e, he, hb, rfl⟩, hds⟩ := (localB_spec hB hlo).2.1 j b hgd; obtain ⟨d, hd⟩ := Option.isSome_iff_exists.1 hds
        have hlj := hall e (by simpa using he) hb
        have hv := inv.left e.on d hd hlj; have hgv := Gd.at l i o hg hlo; rw [hgd] at hgv; have hval := hgv w _ hv
        have hej : e.on < l.length := by
          rcases Nat.lt_or_ge e.on l.length with h | h
          · exact h
          · simp [dstAt, List.getElem?_eq_none h] at hd
        have hdn := ((localB_spec hB (List.getElem?_eq_getElem hej)).2.2 d (by simpa [dstAt, hej] using hd)).1
        have hdt : d < a.tmps.size := by rw [inv.size]; exact hdn
        have h3 : a.tmps[d]? = some (.bool b) := by
          have e1 : a.eval (.tmp d) = a.tmps[d] := by simp [Act.eval, hdt]
          rw [e1] at hval; rw [Array.getElem?_eq_getElem hdt, hval]
        have h4 : (l.toArray[e.on]?.bind (·.dst)) = some d := by simpa [dstAt] using hd
        simp only [yielded, h4, Option.bind_some, h3]; simp
    obtain ⟨k, hGk, hkl, hks⟩ := inv.stage; have hT1 := List.all_eq_true.1 (Bool.and_eq_true_iff.1 hT).1 i (List.mem_range.2 hil)
    have hisz : i < listed.size := by rw [inv.lsize]; exact hil
    unfold wpOp; simp only [ho, hwant, if_true]
    left
    cases hs : stageAt st i with
    | none =>
      rw [hs] at hloc hT1; refine hloc k a w hGk inv.out hpre _ fun v w' hv hG hle => ih _ _ _ hcount (inv.step hst rfl hB hlo hv hle ⟨k, hG, hkl, fun s j hj => ?_⟩)
      have hne : i ≠ j := by
        rintro rfl
        have : S.contains i = true := by
          rw [List.contains_iff_mem]; exact List.mem_of_getElem? hj
        simp only [this, Bool.not_true] at hT1
        cases hT1
      rw [getD_set_ne false hne]; exact hks s j hj
    | some s =>
      rw [hs] at hloc hT1
      have hSs : S[s]? = some i := by simpa using hT1
      have hsl : s < S.length := (List.getElem?_eq_some_iff.1 hSs).1
      have hunF : listed.getD i false = false := by
        simp [hisz] at hun ⊢; exact hun
      have hk1 : ¬ s < k := fun h => by
        have := (hks s i hSs).2 h; rw [hunF] at this
        cases this
      have hk2 : s ≤ k := by
        match s, hSs with
        | 0, _ => omega
        | s + 1, hSs =>
          have h1 := List.all_eq_true.1 (Bool.and_eq_true_iff.1 hS).2 (s + 1) (List.mem_range.2 hsl)
          have hSj : S[s]? = some S[s] := List.getElem?_eq_getElem (by omega)
          simp only [hSs, hSj, hlo, Bool.and_eq_true] at h1; obtain ⟨e, he, hb⟩ := List.any_eq_true.1 h1.2; simp only [Bool.and_eq_true, beq_iff_eq] at hb
          have hlj := hall e (by simpa using he) hb.1
          rw [hb.2] at hlj; have := (hks s S[s] hSj).1 hlj; omega
      have hke : k = s := by omega
      subst hke
      refine hloc a w hGk inv.out hpre _ fun v w' hv hG hle => ih _ _ _ hcount (inv.step hst rfl hB hlo hv hle ⟨k + 1, hG, by omega, fun s' j hj => ?_⟩)
      by_cases hij : i = j
      · subst hij; have hsl' : s' < S.length := (List.getElem?_eq_some_iff.1 hj).1; have h2 := List.all_eq_true.1 (Bool.and_eq_true_iff.1 hT).2 s' (List.mem_range.2 hsl'); simp only [hj, hs] at h2
        have : k = s' := by simpa using h2
        subst this; simp [hisz]
      · rw [getD_set_ne false hij, hks s' j hj]
        refine ⟨fun h => by omega, fun h => ?_⟩
        have : s' ≠ k := by
          rintro rfl; rw [hSs] at hj
          injection hj with hj
          exact hij hj
        omega
theorem wp_region_seq_frame {id : Nat} {l : List Oper} {a0 : Act} {w : World} {Q : Exit → Act → World → Prop} (hm : P.follows .mixedOrders = true) (st : List (Option Nat)) (S : List Nat) (V : Nat → World → Value → Prop) (G : Nat → World → Prop) (le : World → World → Prop)
    (hst : ∀ i w w' v, le w w' → V i w v → V i w' v) (hB : localB l a0.tmps.size = true) (hS : seqB l S = true) (hT : stageB l.length st S = true) (hG : G 0 { w with drawn := w.drawn + 1 }) (hg : Gd l V l) (hO : OblS P l V G le a0 Q 0 st l)
    (hQ : ∀ vs w, G S.length w → vs.length = l.length → (∀ i d v, dstAt l i = some d → vs[i]? = some v → V i w v) → Q .normal (putsL l vs a0) w) :
    (Code.region id l.toArray true).wp P Q a0 w := by
  refine wp_region_any hm ?_
  refine wpAny_of_seq hst hB hS hT hO hg (fun a w hGw hd hs hout hleft => ?_) l.toArray.size (Array.replicate l.toArray.size false) a0 { w with drawn := w.drawn + 1 } (Nat.le_trans List.countP_le_length (by simp))
    ⟨⟨0, hG, Nat.zero_le _, fun s i _ => ⟨fun h => (by rw [getD_replicate_false] at h; cases h), fun h => (by omega)⟩⟩, rfl, rfl, by simp, fun _ _ => rfl, fun i d _ hl => by rw [getD_replicate_false] at hl; cases hl⟩
  have e : putsL l (valsOf a l) a0 = a := act_ext ((putsL_defers _ _ _).trans hd.symm) ((putsL_size _ _ _).trans hs.symm) (putsL_eval a l a0 hs hout); rw [← e]
  refine hQ _ w hGw (by simp [valsOf]) fun i d v hid hv => ?_
  have h := hleft i d hid
  have hil : (valsOf a l)[i]? = some (a.eval (.tmp d)) := by
    rw [dstAt] at hid
    cases ho : l[i]? with
    | none => rw [ho] at hid; cases hid
    | some o =>
      rw [ho] at hid; have hod : o.dst = some d := hid; simp [valsOf, ho, hod]
  rw [hil] at hv
  injection hv with hv
  rw [← hv]; exact h
end
def vOfC (Vs : List Value) : Nat → World → Value → Prop := fun i _ v => v = Vs.getD i undef
end Go.Proofs.YtdmnhgbdeifpbaaDoor
namespace Go.Proofs.YtdmnhgbdeifpbaaDoor
open Go
section
variable {P : Program}
end
end Go.Proofs.YtdmnhgbdeifpbaaDoor
namespace Go.Proofs.YtdmnhgbdeifpbaaDoor
open Go
def Exit.jumps (J : Nat → Act → World → Prop) (Q : Exit → Act → World → Prop) : Exit → Act → World → Prop
  | .goto l, a, w => J l a w
  | e, a, w => Q e a w
section
variable {P : Program} {a : Act} {w : World} {Q : Exit → Act → World → Prop}
theorem wp_scope_two {c rest0 X1 : Code} (l0 l1 : Nat) (J0 J1 : Act → World → Prop) (μ : Act → World → Nat) (h0 : findLabel c l0 = some rest0) (h1 : findLabel c l1 = some (Code.skip.seq X1))
    (pass0 : ∀ a w, J0 a w → rest0.wp P (Exit.jumps (fun _ _ _ => False) Q) a w)
    (pass1 : ∀ a w, J1 a w → X1.wp P (Exit.jumps (fun l a' w' => (l = l0 ∧ J0 a' w') ∨ (l = l1 ∧ J1 a' w' ∧ μ a' w' < μ a w)) Q) a w)
    (first : (∀ a w, J1 a w → X1.wp P (Exit.jumps (fun l a' w' => (l = l0 ∧ J0 a' w') ∨ (l = l1 ∧ J1 a' w')) Q) a w) → c.wp P (Exit.jumps (fun l a' w' => (l = l0 ∧ J0 a' w') ∨ (l = l1 ∧ J1 a' w')) Q) a w) :
    (Code.scope c).wp P Q a w := by
  obtain ⟨rest1, hr1⟩ : ∃ r, r = Code.skip.seq X1 := ⟨_, rfl⟩; rw [← hr1] at h1
  have lift : ∀ {Q : Exit → Act → World → Prop} {a w}, X1.wp P Q a w → rest1.wp P Q a w := fun h => by
    rw [hr1]; exact wp_seq (wp_skip h)
  have hpass : ∀ a w, J1 a w → X1.wp P (Exit.jumps (fun l a' w' => (l = l0 ∧ J0 a' w') ∨ (l = l1 ∧ J1 a' w')) Q) a w := fun a w h => wp_mono (pass1 a w h) (by
    intro e a' w' h
    cases e with
    | goto l => exact h.imp_right fun h => ⟨h.1, h.2.1⟩
    | _ => exact h)
  intro b k cs
  have g0 : gotoIn l0 (.inScope c :: k) = some (.code rest0 :: .inScope c :: k) := by simp [gotoIn, h0]
  have g1 : gotoIn l1 (.inScope c :: k) = some (.code rest1 :: .inScope c :: k) := by simp [gotoIn, h1]
  have key0 : ∀ a w, J0 a w → ∃ e a' w', Q e a' w' ∧ Arrives P (lone (b.at a (.code rest0 :: .inScope c :: k)) cs w) b k cs e a' w' := by
    intro a w hJ; obtain ⟨e, a₁, w₁, hq, harr⟩ := pass0 a w hJ b (.inScope c :: k) cs
    cases e with
    | normal => exact ⟨.normal, a₁, w₁, hq, Steps.trans harr (.one step_inScope)⟩
    | exit id => exact ⟨.exit id, a₁, w₁, hq, fun k' hk => harr k' (by simp [exitTo, hk])⟩
    | goto l' => exact hq.elim
    | ret => exact ⟨_, a₁, w₁, hq, harr⟩
    | panic ch => exact ⟨_, a₁, w₁, hq, harr⟩
    | outgrown => exact ⟨_, a₁, w₁, hq, harr⟩
  have key : ∀ n a w, μ a w = n → J1 a w → ∃ e a' w', Q e a' w' ∧ Arrives P (lone (b.at a (.code rest1 :: .inScope c :: k)) cs w) b k cs e a' w' := by
    intro n
    induction n using Nat.strongRecOn with
    | _ n ih =>
      intro a w hn hJ; obtain ⟨e, a₁, w₁, hq, harr⟩ := lift (pass1 a w hJ) b (.inScope c :: k) cs
      cases e with
      | normal => exact ⟨.normal, a₁, w₁, hq, Steps.trans harr (.one step_inScope)⟩
      | exit id => exact ⟨.exit id, a₁, w₁, hq, fun k' hk => harr k' (by simp [exitTo, hk])⟩
      | goto l' =>
        rcases hq with ⟨rfl, hJ'⟩ | ⟨rfl, hJ', hlt⟩
        · obtain ⟨e₂, a₂, w₂, hq₂, harr₂⟩ := key0 a₁ w₁ hJ'; exact ⟨e₂, a₂, w₂, hq₂, .of_steps (harr _ g0) harr₂⟩
        · obtain ⟨e₂, a₂, w₂, hq₂, harr₂⟩ := ih _ (by omega) a₁ w₁ rfl hJ'
          exact ⟨e₂, a₂, w₂, hq₂, .of_steps (harr _ g1) harr₂⟩
      | ret => exact ⟨_, a₁, w₁, hq, harr⟩
      | panic ch => exact ⟨_, a₁, w₁, hq, harr⟩
      | outgrown => exact ⟨_, a₁, w₁, hq, harr⟩
  obtain ⟨e, a₁, w₁, hq, harr⟩ := first hpass b (.inScope c :: k) cs
  cases e with
  | normal => exact ⟨.normal, a₁, w₁, hq, .head step_scope (Steps.trans harr (.one step_inScope))⟩
  | exit id => exact ⟨.exit id, a₁, w₁, hq, fun k' hk => .head step_scope (harr k' (by simp [exitTo, hk]))⟩
  | goto l' =>
    rcases hq with ⟨rfl, hJ'⟩ | ⟨rfl, hJ'⟩
    · obtain ⟨e₂, a₂, w₂, hq₂, harr₂⟩ := key0 a₁ w₁ hJ'; exact ⟨e₂, a₂, w₂, hq₂, .of_steps (.head step_scope (harr _ g0)) harr₂⟩
    · obtain ⟨e₂, a₂, w₂, hq₂, harr₂⟩ := key _ a₁ w₁ rfl hJ'; exact ⟨e₂, a₂, w₂, hq₂, .of_steps (.head step_scope (harr _ g1)) harr₂⟩
  | ret => exact ⟨_, a₁, w₁, hq, .of_steps (.one step_scope) harr⟩
  | panic ch => exact ⟨_, a₁, w₁, hq, .of_steps (.one step_scope) harr⟩
  | outgrown => exact ⟨_, a₁, w₁, hq, .of_steps (.one step_scope) harr⟩
end
theorem frame_list (A : Array Value) : A.toList = (List.range A.size).map fun i => A.getD i undef := by
  apply List.ext_getElem
  · simp
  · intro i h1 h2; simp at h1; simp [h1]
end Go.Proofs.YtdmnhgbdeifpbaaDoor
