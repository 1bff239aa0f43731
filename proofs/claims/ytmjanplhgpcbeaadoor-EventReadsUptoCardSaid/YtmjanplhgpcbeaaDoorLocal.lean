/-
  A region that draws its order, told by what each operation leaves: whatever order is drawn, each operation finds what it waits for as it was left, and leaves its own.
  V i w v: operation i left the value v, the world being w by now; it stays true while the world grows.
-/
import Derived.StillTail
namespace Go.Proofs.YtmjanplhgpcbeaaDoor
open Go
section
variable {P : Program}

def dstAt (l : List Oper) (i : Nat) : Option Tmp := (l[i]?).bind (·.dst)
def PreL (l : List Oper) (V : Nat → World → Value → Prop) (a : Act) (w : World) : List Edge → Prop
  | [] => True
  | e :: r => (if Region.binds .any e then (match dstAt l e.on with | some d => V e.on w (a.eval (.tmp d)) | none => True) else True) ∧ PreL l V a w r
def OutL (l : List Oper) (a0 a : Act) : Prop := ∀ s, (l.all fun o => o.dst != some s) = true → a.eval (.tmp s) = a0.eval (.tmp s)
/-- What is asked of one operation. -/
def Loc (P : Program) (l : List Oper) (V : Nat → World → Value → Prop) (G : World → Prop) (le : World → World → Prop) (a0 : Act) (Q : Exit → Act → World → Prop) (i : Nat) (o : Oper) : Prop :=
  ∀ (a : Act) (w : World), G w → OutL l a0 a → PreL l V a w o.after.toList → ∀ K : Act → World → Prop, (∀ v w', V i w' v → G w' → le w w' → K (a.put o.dst v) w') → o.wp P a w K Q
def Obl (P : Program) (l : List Oper) (V : Nat → World → Value → Prop) (G : World → Prop) (le : World → World → Prop) (a0 : Act) (Q : Exit → Act → World → Prop) : Nat → List Oper → Prop
  | _, [] => True
  | i, o :: r => Loc P l V G le a0 Q i o ∧ Obl P l V G le a0 Q (i + 1) r
theorem Obl.at {l : List Oper} {V : Nat → World → Value → Prop} {G : World → Prop} {le : World → World → Prop} {a0 : Act} {Q : Exit → Act → World → Prop} :
    ∀ (r : List Oper) (k i : Nat) (o : Oper), Obl P l V G le a0 Q k r → r[i]? = some o → Loc P l V G le a0 Q (k + i) o
  | [], _, _, _, _, h => by simp at h
  | o :: r, k, 0, o', h, h' => by simp at h'; subst h'; exact h.1
  | o :: r, k, i + 1, o', h, h' => by
    have := Obl.at r (k + 1) i o' h.2 (by simpa using h')
    rwa [show k + 1 + i = k + (i + 1) by omega] at this
/-- A guard says yes. -/
def Gd (l : List Oper) (V : Nat → World → Value → Prop) : List Oper → Prop
  | [] => True
  | o :: r => (match o.guard with | none => True | some (j, b) => ∀ w v, V j w v → v = .bool b) ∧ Gd l V r
theorem Gd.at {l : List Oper} {V : Nat → World → Value → Prop} : ∀ (r : List Oper) (i : Nat) (o : Oper), Gd l V r → r[i]? = some o → match o.guard with | none => True | some (j, b) => ∀ w v, V j w v → v = .bool b
  | [], _, _, _, h => by simp at h
  | o :: r, 0, o', h, h' => by simp at h'; subst h'; exact h.1
  | o :: r, i + 1, o', h, h' => Gd.at r i o' h.2 (by simpa using h')

/-- The check on a region's form: an operation waits for earlier ones alone, among them its guard's; no two write one slot; every slot is there. -/
def localB (l : List Oper) (n : Nat) : Bool :=
  (List.range l.length).all fun i => match l[i]? with
    | none => true
    | some o =>
      (o.after.toList.all fun e => !Region.binds .any e || decide (e.on < i)) &&
      (match o.guard with | none => true | some (j, _) => (o.after.toList.any fun e => Region.binds .any e && e.on == j) && (dstAt l j).isSome) &&
      (match o.dst with | none => true | some d => decide (d < n) && (List.range l.length).all fun j => j == i || dstAt l j != some d)

theorem localB_spec {l : List Oper} {n : Nat} (h : localB l n = true) {i : Nat} {o : Oper} (hi : l[i]? = some o) :
    (∀ e ∈ o.after.toList, Region.binds .any e = true → e.on < i) ∧
    (∀ j b, o.guard = some (j, b) → (∃ e ∈ o.after.toList, Region.binds .any e = true ∧ e.on = j) ∧ (dstAt l j).isSome = true) ∧
    (∀ d, o.dst = some d → d < n ∧ ∀ j, j ≠ i → dstAt l j ≠ some d) := by
  have hil : i < l.length := (List.getElem?_eq_some_iff.1 hi).1
  have h1 := List.all_eq_true.1 h i (List.mem_range.2 hil)
  simp only [hi, Bool.and_eq_true] at h1
  obtain ⟨⟨h1, h2⟩, h3⟩ := h1
  refine ⟨fun e he hb => ?_, fun j b hg => ?_, fun d hd => ?_⟩
  · have := List.all_eq_true.1 h1 e he
    simp only [hb, Bool.not_true, Bool.false_or, decide_eq_true_eq] at this
    exact this
  · rw [hg] at h2
    simp only [Bool.and_eq_true] at h2
    obtain ⟨e, he, hb⟩ := List.any_eq_true.1 h2.1
    simp only [Bool.and_eq_true, beq_iff_eq] at hb
    exact ⟨⟨e, he, hb.1, hb.2⟩, h2.2⟩
  · rw [hd] at h3
    simp only [Bool.and_eq_true, decide_eq_true_eq] at h3
    refine ⟨h3.1, fun j hj hjd => ?_⟩
    have hjl : j < l.length := by
      rcases Nat.lt_or_ge j l.length with h | h
      · exact h
      · simp [dstAt, List.getElem?_eq_none h] at hjd
    have := List.all_eq_true.1 h3.2 j (List.mem_range.2 hjl)
    simp [hjd, hj] at this

structure LInv (l : List Oper) (V : Nat → World → Value → Prop) (G : World → Prop) (a0 : Act) (listed : Array Bool) (a : Act) (w : World) : Prop where
  good : G w
  defers : a.defers = a0.defers
  size : a.tmps.size = a0.tmps.size
  lsize : listed.size = l.length
  out : OutL l a0 a
  left : ∀ i d, dstAt l i = some d → listed.getD i false = true → V i w (a.eval (.tmp d))

theorem pre_of {l : List Oper} {V : Nat → World → Value → Prop} {a : Act} {w : World} {listed : Array Bool} (hV : ∀ i d, dstAt l i = some d → listed.getD i false = true → V i w (a.eval (.tmp d))) :
    ∀ (es : List Edge), (∀ e ∈ es, Region.binds .any e = true → listed.getD e.on false = true) → PreL l V a w es
  | [], _ => trivial
  | e :: r, h => by
    refine ⟨?_, pre_of hV r fun e' he' => h e' (by simp [he'])⟩
    split
    · rename_i hb
      split
      · rename_i d hd
        exact hV _ _ hd (h e (by simp) hb)
      · trivial
    · trivial

theorem eval_put (a : Act) (d : Tmp) (v : Value) (s : Tmp) : (a.put (some d) v).eval (.tmp s) = if s = d ∧ d < a.tmps.size then v else a.eval (.tmp s) := by
  simp only [Act.eval, Act.put]
  by_cases h : s = d
  · subst h
    by_cases h2 : s < a.tmps.size
    · simp [h2]
    · simp [h2]
  · have h' : ¬ d = s := fun e => h e.symm
    simp [h, h']

theorem LInv.step {l : List Oper} {V : Nat → World → Value → Prop} {G : World → Prop} {le : World → World → Prop} {a0 a : Act} {w w' : World} {listed : Array Bool} (hst : ∀ i w w' v, le w w' → V i w v → V i w' v)
    (h : LInv l V G a0 listed a w) {n : Nat} (hn : n = a0.tmps.size) (hB : localB l n = true) {i : Nat} {o : Oper} (hi : l[i]? = some o) {v : Value} (hv : V i w' v) (hG : G w') (hle : le w w') :
    LInv l V G a0 (listed.setIfInBounds i true) (a.put o.dst v) w' := by
  obtain ⟨_, _, h3⟩ := localB_spec hB hi
  have hil : i < l.length := (List.getElem?_eq_some_iff.1 hi).1
  have hdi : dstAt l i = o.dst := by simp [dstAt, hi]
  cases hd : o.dst with
  | none =>
    refine ⟨hG, h.defers, h.size, by simp [h.lsize], h.out, fun j d hj hl => ?_⟩
    by_cases e : i = j
    · subst e
      rw [hdi, hd] at hj
      cases hj
    · rw [getD_set_ne false e] at hl
      exact hst _ _ _ _ hle (h.left j d hj hl)
  | some d =>
    obtain ⟨hdn, hu⟩ := h3 d hd
    refine ⟨hG, h.defers, by simp [Act.put, h.size], by simp [h.lsize], fun s hs => ?_, fun j d' hj hl => ?_⟩
    · rw [eval_put, if_neg]
      · exact h.out s hs
      · rintro ⟨rfl, _⟩
        have := List.all_eq_true.1 hs o (List.mem_of_getElem? hi)
        simp [hd] at this
    · rw [eval_put]
      by_cases e : i = j
      · subst e
        rw [hdi, hd] at hj
        cases hj
        rw [if_pos ⟨rfl, by rw [h.size, ← hn]; exact hdn⟩]
        exact hv
      · rw [if_neg]
        · rw [getD_set_ne false e] at hl
          exact hst _ _ _ _ hle (h.left j d' hj hl)
        · rintro ⟨rfl, _⟩
          exact hu j (fun e' => e e'.symm) hj

theorem countP_lt {p q : Nat → Bool} : ∀ (l : List Nat) (x : Nat), x ∈ l → (∀ y ∈ l, p y = true → q y = true) → p x = false → q x = true → l.countP p < l.countP q
  | [], _, h, _, _, _ => by cases h
  | y :: l, x, h, hi, hp, hq => by
    have hm : l.countP p ≤ l.countP q := List.countP_mono_left fun z hz => hi z (by simp [hz])
    rw [List.countP_cons, List.countP_cons]
    rcases List.mem_cons.1 h with e | h'
    · subst e
      rw [hp, hq]
      simp
      omega
    · have := countP_lt l x h' (fun z hz => hi z (by simp [hz])) hp hq
      have hy := hi y (by simp)
      cases h1 : p y with
      | false =>
        simp only [Bool.false_eq_true, if_false]
        split <;> omega
      | true => rw [hy h1]; simp; omega

/-- Whatever order is drawn. -/
theorem wpAny_of_local {l : List Oper} {V : Nat → World → Value → Prop} {G : World → Prop} {le : World → World → Prop} {a0 : Act} {Q : Exit → Act → World → Prop}
    (hst : ∀ i w w' v, le w w' → V i w v → V i w' v) (hB : localB l a0.tmps.size = true) (hO : Obl P l V G le a0 Q 0 l) (hg : Gd l V l)
    (hQ : ∀ a w, G w → a.defers = a0.defers → a.tmps.size = a0.tmps.size → OutL l a0 a → (∀ i d, dstAt l i = some d → V i w (a.eval (.tmp d))) → Q .normal a w) :
    ∀ (fuel : Nat) (listed : Array Bool) (a : Act) (w : World), (List.range l.length).countP (fun i => !listed.getD i true) ≤ fuel → LInv l V G a0 listed a w → wpAny P .any l.toArray Q fuel listed a w := by
  have done : ∀ (listed : Array Bool) (a : Act) (w : World), LInv l V G a0 listed a w → Region.ready .any l.toArray listed = [] → Q .normal a w := by
    intro listed a w inv hr
    refine hQ a w inv.good inv.defers inv.size inv.out fun i d hd => ?_
    have all : ∀ n i, i < n → i < l.length → listed.getD i true = true := by
      intro n
      induction n with
      | zero => intro i hi; omega
      | succ n ih =>
        intro i hin hil
        cases hl : listed.getD i true with
        | true => rfl
        | false =>
          have hmem : i ∈ Region.ready .any l.toArray listed := by
            refine mem_ready.2 ⟨hl, l[i], by simp [hil], fun e he hb => ?_⟩
            have hlt := (localB_spec hB (List.getElem?_eq_getElem hil)).1 e (by simpa using he) hb
            have := ih e.on (by omega) (by omega)
            have hs : e.on < listed.size := by rw [inv.lsize]; omega
            simp [hs] at this ⊢
            exact this
          rw [hr] at hmem
          cases hmem
    have hil : i < l.length := by
      rcases Nat.lt_or_ge i l.length with h | h
      · exact h
      · simp [dstAt, List.getElem?_eq_none h] at hd
    have h1 := all (i + 1) i (by omega) hil
    refine inv.left i d hd ?_
    have hs : i < listed.size := by rw [inv.lsize]; exact hil
    simp [hs] at h1 ⊢
    exact h1
  intro fuel
  induction fuel with
  | zero =>
    intro listed a w hc inv
    have hr : Region.ready .any l.toArray listed = [] := by
      rw [List.eq_nil_iff_forall_not_mem]
      intro i hi
      have hun := (mem_ready.1 hi).1
      have hil : i < l.length := by
        obtain ⟨_, o, ho, _⟩ := mem_ready.1 hi
        have := (Array.getElem?_eq_some_iff.1 ho).1
        simpa using this
      have : 0 < (List.range l.length).countP (fun i => !listed.getD i true) := List.countP_pos_iff.2 ⟨i, List.mem_range.2 hil, by rw [hun]; rfl⟩
      omega
    exact ⟨hr, done listed a w inv hr⟩
  | succ fuel ih =>
    intro listed a w hc inv
    refine ⟨fun hr => done listed a w inv hr, fun i hi => ?_⟩
    obtain ⟨hun, o, ho, hall⟩ := mem_ready.1 hi
    have hlo : l[i]? = some o := by simpa using ho
    have hil : i < l.length := (List.getElem?_eq_some_iff.1 hlo).1
    have hloc := Obl.at l 0 i o hO hlo
    rw [Nat.zero_add] at hloc
    have hpre : PreL l V a w o.after.toList := pre_of inv.left _ fun e he hb => hall e (by simpa using he) hb
    have hcount : (List.range l.length).countP (fun j => !(listed.setIfInBounds i true).getD j true) ≤ fuel := by
      have : (List.range l.length).countP (fun j => !(listed.setIfInBounds i true).getD j true) < (List.range l.length).countP (fun j => !listed.getD j true) := by
        refine countP_lt _ i (List.mem_range.2 hil) ?_ ?_ ?_
        · intro j _ hj
          by_cases e : i = j
          · subst e
            have hs : i < listed.size := by rw [inv.lsize]; exact hil
            simp [hs] at hj
          · rw [getD_set_ne true e] at hj
            exact hj
        · have hs : i < listed.size := by rw [inv.lsize]; exact hil
          simp [hs]
        · rw [hun]; rfl
      omega
    have hwant : Region.wanted o (yielded l.toArray a.tmps) = true := by
      unfold Region.wanted
      cases hgd : o.guard with
      | none => rfl
      | some jb =>
        obtain ⟨j, b⟩ := jb
        obtain ⟨⟨e, he, hb, rfl⟩, hds⟩ := (localB_spec hB hlo).2.1 j b hgd
        obtain ⟨d, hd⟩ := Option.isSome_iff_exists.1 hds
        have hlj := hall e (by simpa using he) hb
        have hv := inv.left e.on d hd hlj
        have hgv := Gd.at l i o hg hlo
        rw [hgd] at hgv
        have hval := hgv w _ hv
        have hej : e.on < l.length := by
          rcases Nat.lt_or_ge e.on l.length with h | h
          · exact h
          · simp [dstAt, List.getElem?_eq_none h] at hd
        have hdn := ((localB_spec hB (List.getElem?_eq_getElem hej)).2.2 d (by simpa [dstAt, hej] using hd)).1
        have hdt : d < a.tmps.size := by rw [inv.size]; exact hdn
        have h3 : a.tmps[d]? = some (.bool b) := by
          have e1 : a.eval (.tmp d) = a.tmps[d] := by simp [Act.eval, hdt]
          rw [e1] at hval
          rw [Array.getElem?_eq_getElem hdt, hval]
        have h4 : (l.toArray[e.on]?.bind (·.dst)) = some d := by simpa [dstAt] using hd
        simp only [yielded, h4, Option.bind_some, h3]
        simp
    unfold wpOp
    simp only [ho, hwant, if_true]
    exact .inl (hloc a w inv.good inv.out hpre _ fun v w' hv hG hle => ih _ _ _ hcount (inv.step hst rfl hB hlo hv hG hle))

theorem wp_region_local {id : Nat} {l : List Oper} {a0 : Act} {w : World} {Q : Exit → Act → World → Prop} (hm : P.follows .mixedOrders = true) (V : Nat → World → Value → Prop) (G : World → Prop) (le : World → World → Prop)
    (hst : ∀ i w w' v, le w w' → V i w v → V i w' v) (hB : localB l a0.tmps.size = true) (hG : G { w with drawn := w.drawn + 1 }) (hg : Gd l V l) (hO : Obl P l V G le a0 Q 0 l)
    (hQ : ∀ a w, G w → a.defers = a0.defers → a.tmps.size = a0.tmps.size → OutL l a0 a → (∀ i d, dstAt l i = some d → V i w (a.eval (.tmp d))) → Q .normal a w) :
    (Code.region id l.toArray true).wp P Q a0 w := by
  refine wp_region_any hm ?_
  have := wpAny_of_local hst hB hO hg hQ l.toArray.size (Array.replicate l.toArray.size false) a0 { w with drawn := w.drawn + 1 } (Nat.le_trans List.countP_le_length (by simp))
    ⟨hG, rfl, rfl, by simp, fun _ _ => rfl, fun i d _ hl => by rw [getD_replicate_false] at hl; cases hl⟩
  exact this
end
end Go.Proofs.YtmjanplhgpcbeaaDoor
