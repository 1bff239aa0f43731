/-
  A region that draws its order, told by what each operation leaves, in the midst of a function: the frame behind it is the one before it with each operation's value put where the text puts it.
-/
import Derived.Test.YtmjanplhgpcbeaaDoorLocal
namespace Go.Proofs.YtmjanplhgpcbeaaDoor
open Go
section
variable {P : Program}

def putsL : List Oper → List Value → Act → Act
  | [], _, a => a
  | o :: r, vs, a => putsL r vs.tail (a.put o.dst (vs.headD undef))
/-- The values that stand where the operations of a region put theirs. -/
def valsOf (A : Act) (l : List Oper) : List Value := l.map fun o => match o.dst with | some d => A.eval (.tmp d) | none => undef

theorem put_size (a : Act) (d : Option Tmp) (v : Value) : (a.put d v).tmps.size = a.tmps.size := by
  cases d <;> simp [Act.put]
theorem put_defers (a : Act) (d : Option Tmp) (v : Value) : (a.put d v).defers = a.defers := by
  cases d <;> rfl
theorem putsL_size : ∀ (l : List Oper) (vs : List Value) (a : Act), (putsL l vs a).tmps.size = a.tmps.size
  | [], _, _ => rfl
  | o :: r, vs, a => by rw [putsL, putsL_size r, put_size]
theorem putsL_defers : ∀ (l : List Oper) (vs : List Value) (a : Act), (putsL l vs a).defers = a.defers
  | [], _, _ => rfl
  | o :: r, vs, a => by rw [putsL, putsL_defers r, put_defers]
theorem putsL_eval (A : Act) : ∀ (l : List Oper) (a : Act), A.tmps.size = a.tmps.size → (∀ s, (l.all fun o => o.dst != some s) = true → A.eval (.tmp s) = a.eval (.tmp s)) →
    ∀ s, (putsL l (valsOf A l) a).eval (.tmp s) = A.eval (.tmp s)
  | [], a, _, h, s => (h s rfl).symm
  | o :: r, a, hs, h, s => by
    rw [putsL]
    refine putsL_eval A r _ (by rw [put_size]; exact hs) (fun s hr => ?_) s
    show A.eval (.tmp s) = (a.put o.dst ((valsOf A (o :: r)).headD undef)).eval (.tmp s)
    by_cases hd : o.dst = some s
    · have hv : ((valsOf A (o :: r)).headD undef) = A.eval (.tmp s) := by simp [valsOf, hd]
      rw [hv, hd, eval_put]
      split
      · rfl
      · rename_i hn
        have h1 : ¬ s < a.tmps.size := fun h => hn ⟨rfl, h⟩
        have h2 : ¬ s < A.tmps.size := fun h => h1 (hs ▸ h)
        simp [Act.eval, h1, h2]
    · rw [h s (by simp only [List.all_cons, Bool.and_eq_true]; exact ⟨by simpa using hd, hr⟩)]
      cases hod : o.dst with
      | none => rfl
      | some d =>
        rw [eval_put, if_neg]
        rintro ⟨rfl, _⟩
        exact hd hod
theorem act_ext {a b : Act} (hd : a.defers = b.defers) (hs : a.tmps.size = b.tmps.size) (h : ∀ s, a.eval (.tmp s) = b.eval (.tmp s)) : a = b := by
  obtain ⟨t, d⟩ := a
  obtain ⟨t', d'⟩ := b
  obtain rfl : d = d' := hd
  have : t = t' := by
    apply Array.ext hs
    intro i h1 h2
    have := h i
    simpa [Act.eval, h1, h2] using this
  rw [this]

theorem wp_region_local_frame {id : Nat} {l : List Oper} {a0 : Act} {w : World} {Q : Exit → Act → World → Prop} (hm : P.follows .mixedOrders = true) (V : Nat → World → Value → Prop) (G : World → Prop) (le : World → World → Prop)
    (hst : ∀ i w w' v, le w w' → V i w v → V i w' v) (hB : localB l a0.tmps.size = true) (hG : G { w with drawn := w.drawn + 1 }) (hg : Gd l V l) (hO : Obl P l V G le a0 Q 0 l)
    (hQ : ∀ vs w, G w → vs.length = l.length → (∀ i d v, dstAt l i = some d → vs[i]? = some v → V i w v) → Q .normal (putsL l vs a0) w) :
    (Code.region id l.toArray true).wp P Q a0 w := by
  refine wp_region_local hm V G le hst hB hG hg hO fun a w hGw hd hs hout hleft => ?_
  have e : putsL l (valsOf a l) a0 = a := act_ext ((putsL_defers _ _ _).trans hd.symm) ((putsL_size _ _ _).trans hs.symm) (putsL_eval a l a0 hs hout)
  rw [← e]
  refine hQ _ w hGw (by simp [valsOf]) fun i d v hid hv => ?_
  have h := hleft i d hid
  have hil : (valsOf a l)[i]? = some (a.eval (.tmp d)) := by
    rw [dstAt] at hid
    cases ho : l[i]? with
    | none => rw [ho] at hid; cases hid
    | some o =>
      rw [ho] at hid
      have hod : o.dst = some d := hid
      simp [valsOf, ho, hod]
  rw [hil] at hv
  injection hv with hv
  rw [← hv]
  exact h
end
end Go.Proofs.YtmjanplhgpcbeaaDoor
