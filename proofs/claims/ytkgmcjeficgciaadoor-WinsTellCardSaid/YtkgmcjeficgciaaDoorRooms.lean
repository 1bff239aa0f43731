/-
  A region that draws its order and makes variables in memory (alloc, then store): told by what each operation leaves, and by a joint fact on the variables' rooms: which of them are there, that they are apart, and which row each holds.
-/
import Derived.Test.YtkgmcjeficgciaaDoorLocal
import Derived.WalkKit
namespace Go.Proofs.YtkgmcjeficgciaaDoor
open Go Go.RowKit
section
variable {P : Program}

/-- What is asked of one operation, with a joint fact J on which operations are done, the frame and the world. -/
def LocJ (P : Program) (l : List Oper) (V : Nat → World → Value → Prop) (G : World → Prop) (J : (Nat → Bool) → Act → World → Prop) (a0 : Act) (Q : Exit → Act → World → Prop) (i : Nat) (o : Oper) : Prop :=
  ∀ (L : Nat → Bool) (a : Act) (w : World), G w → J L a w → a.tmps.size = a0.tmps.size → L i = false → (∀ e ∈ o.after, Region.binds .any e = true → L e.on = true) → OutL l a0 a → PreL l V a w o.after.toList →
    ∀ K : Act → World → Prop, (∀ v w', V i w' v → G w' → J (fun j => j == i || L j) (a.put o.dst v) w' → K (a.put o.dst v) w') → o.wp P a w K Q
def OblJ (P : Program) (l : List Oper) (V : Nat → World → Value → Prop) (G : World → Prop) (J : (Nat → Bool) → Act → World → Prop) (a0 : Act) (Q : Exit → Act → World → Prop) : Nat → List Oper → Prop
  | _, [] => True
  | i, o :: r => LocJ P l V G J a0 Q i o ∧ OblJ P l V G J a0 Q (i + 1) r
theorem OblJ.at {l : List Oper} {V : Nat → World → Value → Prop} {G : World → Prop} {J : (Nat → Bool) → Act → World → Prop} {a0 : Act} {Q : Exit → Act → World → Prop} :
    ∀ (r : List Oper) (k i : Nat) (o : Oper), OblJ P l V G J a0 Q k r → r[i]? = some o → LocJ P l V G J a0 Q (k + i) o
  | [], _, _, _, _, h => by simp at h
  | o :: r, k, 0, o', h, h' => by simp at h'; subst h'; exact h.1
  | o :: r, k, i + 1, o', h, h' => by
    have := OblJ.at r (k + 1) i o' h.2 (by simpa using h')
    rwa [show k + 1 + i = k + (i + 1) by omega] at this
theorem wpAny_of_joint {l : List Oper} {V : Nat → World → Value → Prop} {G : World → Prop} {J : (Nat → Bool) → Act → World → Prop} {a0 : Act} {Q : Exit → Act → World → Prop}
    (hst : ∀ i w w' v, V i w v → V i w' v) (hB : localB l a0.tmps.size = true) (hO : OblJ P l V G J a0 Q 0 l) (hg : Gd l V l)
    (hQ : ∀ a w, G w → a.defers = a0.defers → a.tmps.size = a0.tmps.size → OutL l a0 a → (∀ i d, dstAt l i = some d → V i w (a.eval (.tmp d))) → (∃ L, J L a w ∧ ∀ i < l.length, L i = true) → Q .normal a w) :
    ∀ (fuel : Nat) (listed : Array Bool) (a : Act) (w : World), (List.range l.length).countP (fun i => !listed.getD i true) ≤ fuel → LInv l V G a0 listed a w → J (fun i => listed.getD i false) a w → wpAny P .any l.toArray Q fuel listed a w := by
  have done : ∀ (listed : Array Bool) (a : Act) (w : World), LInv l V G a0 listed a w → J (fun i => listed.getD i false) a w → Region.ready .any l.toArray listed = [] → Q .normal a w := by
    intro listed a w inv hj hr
    have all : ∀ n i, i < n → i < l.length → listed.getD i true = true := by
      intro n
      induction n with
      | zero => intro i hi; omega
      | succ n ih =>
        intro i hin hil
        cases hl : listed.getD i true with
        | true => rfl
        | false =>
          have hmem : i ∈ Region.ready .any l.toArray listed := by
            refine mem_ready.2 ⟨hl, l[i], by simp [hil], fun e he hb => ?_⟩
            have hlt := (localB_spec hB (List.getElem?_eq_getElem hil)).1 e (by simpa using he) hb
            have := ih e.on (by omega) (by omega)
            have hs : e.on < listed.size := by rw [inv.lsize]; omega
            simp [hs] at this ⊢
            exact this
          rw [hr] at hmem
          cases hmem
    have all2 : ∀ i < l.length, listed.getD i false = true := fun i hil => by
      have h1 := all (i + 1) i (by omega) hil
      have hs : i < listed.size := by rw [inv.lsize]; exact hil
      simp [hs] at h1 ⊢
      exact h1
    refine hQ a w inv.good inv.defers inv.size inv.out (fun i d hd => ?_) ⟨_, hj, all2⟩
    have hil : i < l.length := by
      rcases Nat.lt_or_ge i l.length with h | h
      · exact h
      · simp [dstAt, List.getElem?_eq_none h] at hd
    exact inv.left i d hd (all2 i hil)
  intro fuel
  induction fuel with
  | zero =>
    intro listed a w hc inv hj
    have hr : Region.ready .any l.toArray listed = [] := by
      rw [List.eq_nil_iff_forall_not_mem]
      intro i hi
      have hun := (mem_ready.1 hi).1
      have hil : i < l.length := by
        obtain ⟨_, o, ho, _⟩ := mem_ready.1 hi
        have := (Array.getElem?_eq_some_iff.1 ho).1
        simpa using this
      have : 0 < (List.range l.length).countP (fun i => !listed.getD i true) := List.countP_pos_iff.2 ⟨i, List.mem_range.2 hil, by rw [hun]; rfl⟩
      omega
    exact ⟨hr, done listed a w inv hj hr⟩
  | succ fuel ih =>
    intro listed a w hc inv hj
    refine ⟨fun hr => done listed a w inv hj hr, fun i hi => ?_⟩
    obtain ⟨hun, o, ho, hall⟩ := mem_ready.1 hi
    have hlo : l[i]? = some o := by simpa using ho
    have hil : i < l.length := (List.getElem?_eq_some_iff.1 hlo).1
    have hloc := OblJ.at l 0 i o hO hlo
    rw [Nat.zero_add] at hloc
    have hpre : PreL l V a w o.after.toList := pre_of inv.left _ fun e he hb => hall e (by simpa using he) hb
    have his : i < listed.size := by rw [inv.lsize]; exact hil
    have hcount : (List.range l.length).countP (fun j => !(listed.setIfInBounds i true).getD j true) ≤ fuel := by
      have : (List.range l.length).countP (fun j => !(listed.setIfInBounds i true).getD j true) < (List.range l.length).countP (fun j => !listed.getD j true) := by
        refine countP_lt _ i (List.mem_range.2 hil) ?_ ?_ ?_
        · intro j _ hj
          by_cases e : i = j
          · subst e
            simp [his] at hj
          · rw [getD_set_ne true e] at hj
            exact hj
        · simp [his]
        · rw [hun]; rfl
      omega
    have hwant : Region.wanted o (yielded l.toArray a.tmps) = true := by
      unfold Region.wanted
      cases hgd : o.guard with
      | none => rfl
      | some jb =>
        obtain ⟨j, b⟩ := jb
        obtain ⟨⟨e, he, hb, rfl⟩, hds⟩ := (localB_spec hB hlo).2.1 j b hgd
        obtain ⟨d, hd⟩ := Option.isSome_iff_exists.1 hds
        have hlj := hall e (by simpa using he) hb
        have hv := inv.left e.on d hd hlj
        have hgv := Gd.at l i o hg hlo
        rw [hgd] at hgv
        have hval := hgv w _ hv
        have hej : e.on < l.length := by
          rcases Nat.lt_or_ge e.on l.length with h | h
          · exact h
          · simp [dstAt, List.getElem?_eq_none h] at hd
        have hdn := ((localB_spec hB (List.getElem?_eq_getElem hej)).2.2 d (by simpa [dstAt, hej] using hd)).1
        have hdt : d < a.tmps.size := by rw [inv.size]; exact hdn
        have h3 : a.tmps[d]? = some (.bool b) := by
          have e1 : a.eval (.tmp d) = a.tmps[d] := by simp [Act.eval, hdt]
          rw [e1] at hval
          rw [Array.getElem?_eq_getElem hdt, hval]
        have h4 : (l.toArray[e.on]?.bind (·.dst)) = some d := by simpa [dstAt] using hd
        simp only [yielded, h4, Option.bind_some, h3]
        simp
    unfold wpOp
    simp only [ho, hwant, if_true]
    have hset : (fun j => (listed.setIfInBounds i true).getD j false) = fun j => j == i || listed.getD j false := by
      funext j
      by_cases e : i = j
      · subst e
        simp [his]
      · rw [getD_set_ne false e]
        have : (j == i) = false := by simpa using fun h => e h.symm
        rw [this, Bool.false_or]
    have hun2 : listed.getD i false = false := by
      simp [his] at hun ⊢
      exact hun
    refine .inl (hloc _ a w inv.good hj inv.size hun2 hall inv.out hpre _ fun v w' hv hG hJ => ih _ _ _ hcount (inv.step (V := V) (le := fun _ _ => True) (fun i w w' v _ h => hst i w w' v h) rfl hB hlo hv hG trivial) ?_)
    rw [hset]
    exact hJ
theorem wp_region_joint {id : Nat} {l : List Oper} {a0 : Act} {w : World} {Q : Exit → Act → World → Prop} (hm : P.follows .mixedOrders = true) (V : Nat → World → Value → Prop) (G : World → Prop) (J : (Nat → Bool) → Act → World → Prop)
    (hst : ∀ i w w' v, V i w v → V i w' v) (hB : localB l a0.tmps.size = true) (hG : G { w with drawn := w.drawn + 1 }) (hJ : J (fun _ => false) a0 { w with drawn := w.drawn + 1 }) (hg : Gd l V l) (hO : OblJ P l V G J a0 Q 0 l)
    (hQ : ∀ vs a w, G w → vs.length = l.length → (∀ i d v, dstAt l i = some d → vs[i]? = some v → V i w v ∧ v = a.eval (.tmp d)) → (∃ L, J L a w ∧ ∀ i < l.length, L i = true) → Q .normal (putsL l vs a0) w) :
    (Code.region id l.toArray true).wp P Q a0 w := by
  refine wp_region_any hm ?_
  refine wpAny_of_joint hst hB hO hg (fun a w hGw hd hs hout hleft hJw => ?_) l.toArray.size (Array.replicate l.toArray.size false) a0 { w with drawn := w.drawn + 1 } (Nat.le_trans List.countP_le_length (by simp))
    ⟨hG, rfl, rfl, by simp, fun _ _ => rfl, fun i d _ hl => by rw [getD_replicate_false] at hl; cases hl⟩ (by
      rw [show (fun i => (Array.replicate l.toArray.size false).getD i false) = fun _ => false from by funext i; exact getD_replicate_false _ _]
      exact hJ)
  have e : putsL l (valsOf a l) a0 = a := act_ext ((putsL_defers _ _ _).trans hd.symm) ((putsL_size _ _ _).trans hs.symm) (putsL_eval a l a0 hs hout)
  have hvs : ∀ i d, dstAt l i = some d → (valsOf a l)[i]? = some (a.eval (.tmp d)) := fun i d hid => by
    rw [dstAt] at hid
    cases ho : l[i]? with
    | none => rw [ho] at hid; cases hid
    | some o =>
      rw [ho] at hid
      have hod : o.dst = some d := hid
      simp [valsOf, ho, hod]
  have := hQ (valsOf a l) a w hGw (by simp [valsOf]) (fun i d v hid hv => by
    have h := hleft i d hid
    rw [hvs i d hid] at hv
    injection hv with hv
    exact ⟨hv ▸ h, hv.symm⟩) hJw
  rw [e] at this
  exact this
end
/-- A variable's room: made by operation ai, written by operation si, its address in a slot; its row before and behind the write. -/
structure Room where
  ai : Nat
  si : Nat
  slot : Tmp
  Z : Array Value
  F : Array Value
  T : TypeId
def Rooms (B1 : Nat) (xs : List Room) (L : Nat → Bool) (a : Act) (w : World) : Prop :=
  (∀ x ∈ xs, L x.ai = true → ∃ g, a.eval (.tmp x.slot) = .pointer (some ⟨g, 0, none⟩) ∧ B1 ≤ g ∧ w.heap[g]? = some (.cells (if L x.si then x.F else x.Z) x.T (0, 0))) ∧
  (∀ x ∈ xs, ∀ y ∈ xs, x.slot ≠ y.slot → L x.ai = true → L y.ai = true → a.eval (.tmp x.slot) ≠ a.eval (.tmp y.slot)) ∧ ∀ x ∈ xs, L x.si = true → L x.ai = true
theorem Rooms.none (B1 : Nat) (xs : List Room) (a : Act) (w : World) : Rooms B1 xs (fun _ => false) a w := ⟨fun _ _ h => (by cases h), fun _ _ _ _ _ h => (by cases h), fun _ _ h => (by cases h)⟩
theorem eval_put_other (a : Act) (d : Option Tmp) (v : Value) (s : Tmp) (h : d ≠ some s) : (a.put d v).eval (.tmp s) = a.eval (.tmp s) := by
  cases d with
  | none => rfl
  | some d =>
    rw [eval_put, if_neg]
    rintro ⟨rfl, _⟩
    exact h rfl
/-- An operation that makes no room and writes none. -/
theorem Rooms.pure {B1 : Nat} {xs : List Room} {L : Nat → Bool} {a : Act} {w w' : World} (h : Rooms B1 xs L a w) (i : Nat) (d : Option Tmp) (v : Value) (hi : (xs.all fun x => decide (i ≠ x.ai) && (decide (i ≠ x.si) && decide (d ≠ some x.slot))) = true) (hB : Below w.heap.size w w') :
    Rooms B1 xs (fun j => j == i || L j) (a.put d v) w' := by
  have hx : ∀ x ∈ xs, (x.ai == i) = false ∧ (x.si == i) = false ∧ d ≠ some x.slot := fun x hm => by
    have := List.all_eq_true.1 hi x hm
    simp only [Bool.and_eq_true, decide_eq_true_eq] at this
    exact ⟨by simpa using fun e => this.1 e.symm, by simpa using fun e => this.2.1 e.symm, this.2.2⟩
  refine ⟨fun x hm hl => ?_, fun x hm y hn hne hl hk => ?_, fun x hm hl => ?_⟩
  · obtain ⟨e1, e2, e3⟩ := hx x hm
    simp only [e1, Bool.false_or] at hl
    obtain ⟨g, h1, h2, h3⟩ := h.1 x hm hl
    refine ⟨g, by rw [eval_put_other _ _ _ _ e3, h1], h2, ?_⟩
    simp only [e2, Bool.false_or]
    exact (hB.block g (Array.getElem?_eq_some_iff.1 h3).1).trans h3
  · obtain ⟨e1, _, e3⟩ := hx x hm
    obtain ⟨f1, _, f3⟩ := hx y hn
    simp only [e1, Bool.false_or] at hl
    simp only [f1, Bool.false_or] at hk
    rw [eval_put_other _ _ _ _ e3, eval_put_other _ _ _ _ f3]
    exact h.2.1 x hm y hn hne hl hk
  · obtain ⟨e1, e2, _⟩ := hx x hm
    simp only [e2, Bool.false_or] at hl
    simp only [e1, Bool.false_or]
    exact h.2.2 x hm hl
/-- Slots and operations of rooms are apart. -/
def roomsB (xs : List Room) : Bool := xs.all fun x => xs.all fun y => decide (x.si ≠ y.ai) && (decide (x.slot = y.slot) == decide (x.ai = y.ai)) && (decide (x.ai = y.ai) == decide (x.si = y.si))
theorem roomsB_spec {xs : List Room} (h : roomsB xs = true) {x y : Room} (hx : x ∈ xs) (hy : y ∈ xs) : x.si ≠ y.ai ∧ (x.slot = y.slot ↔ x.ai = y.ai) ∧ (x.ai = y.ai ↔ x.si = y.si) := by
  have := List.all_eq_true.1 (List.all_eq_true.1 h x hx) y hy
  simp only [Bool.and_eq_true, decide_eq_true_eq, beq_iff_eq, decide_eq_decide] at this
  exact ⟨this.1.1, this.1.2, this.2⟩
theorem Rooms.alloc {B1 : Nat} {xs : List Room} {L : Nat → Bool} {a : Act} {w : World} (h : Rooms B1 xs L a w) (hr : roomsB xs = true) (hN : ∀ x ∈ xs, ∀ y ∈ xs, x.ai = y.ai → x = y) (x : Room) (hx : x ∈ xs) (hl : L x.ai = false) (hs : x.slot < a.tmps.size) (hB1 : B1 ≤ w.heap.size) :
    Rooms B1 xs (fun j => j == x.ai || L j) (a.put (some x.slot) (.pointer (some ⟨w.heap.size, 0, Option.none⟩))) (w.alloc (.cells x.Z x.T)) := by
  have hself : (a.put (some x.slot) (.pointer (some ⟨w.heap.size, 0, Option.none⟩))).eval (.tmp x.slot) = .pointer (some ⟨w.heap.size, 0, Option.none⟩) := by rw [eval_put, if_pos ⟨rfl, hs⟩]
  have hoth : ∀ y ∈ xs, y.ai ≠ x.ai → (a.put (some x.slot) (.pointer (some ⟨w.heap.size, 0, Option.none⟩))).eval (.tmp y.slot) = a.eval (.tmp y.slot) := fun y hy hne =>
    eval_put_other _ _ _ _ (fun e => hne ((roomsB_spec hr hy hx).2.1.1 (Option.some.inj e).symm))
  have hsi : ∀ y ∈ xs, (y.si == x.ai) = false := fun y hy => by simpa using (roomsB_spec hr hy hx).1
  refine ⟨fun y hy hyl => ?_, fun y hy z hz hne hyl hzl => ?_, fun y hy hyl => ?_⟩
  · by_cases e : y.ai = x.ai
    · obtain rfl := hN y hy x hx e
      refine ⟨w.heap.size, hself, hB1, ?_⟩
      have hls : L y.si = false := by
        cases hh : L y.si with
        | false => rfl
        | true => have := h.2.2 y hy hh; rw [hl] at this; cases this
      simp only [hsi y hy, Bool.false_or, hls]
      exact heap_alloc_new w _
    · have e' : (y.ai == x.ai) = false := by simpa using e
      simp only [e', Bool.false_or] at hyl
      obtain ⟨g, h1, h2, h3⟩ := h.1 y hy hyl
      refine ⟨g, by rw [hoth y hy e, h1], h2, ?_⟩
      simp only [hsi y hy, Bool.false_or]
      exact (((Below.refl _ w).alloc (Nat.le_refl _) _ : Below w.heap.size w _).block g (Array.getElem?_eq_some_iff.1 h3).1).trans h3
  · have hnew : ∀ y ∈ xs, L y.ai = true → a.eval (.tmp y.slot) ≠ .pointer (some ⟨w.heap.size, 0, Option.none⟩) := fun y hy hl he => by
      obtain ⟨g, h1, _, h3⟩ := h.1 y hy hl
      rw [h1] at he
      injection he with he
      injection he with he
      injection he with he
      have := (Array.getElem?_eq_some_iff.1 h3).1
      omega
    by_cases e : y.ai = x.ai
    · obtain rfl := hN y hy x hx e
      have e2 : z.ai ≠ y.ai := fun h2 => hne ((roomsB_spec hr hy hz).2.1.2 h2.symm)
      have e2' : (z.ai == y.ai) = false := by simpa using e2
      simp only [e2', Bool.false_or] at hzl
      rw [hself, hoth z hz e2]
      exact fun h => hnew z hz hzl h.symm
    · have e' : (y.ai == x.ai) = false := by simpa using e
      simp only [e', Bool.false_or] at hyl
      by_cases e2 : z.ai = x.ai
      · obtain rfl := hN z hz x hx e2
        rw [hself, hoth y hy e]
        exact hnew y hy hyl
      · have e2' : (z.ai == x.ai) = false := by simpa using e2
        simp only [e2', Bool.false_or] at hzl
        rw [hoth y hy e, hoth z hz e2]
        exact h.2.1 y hy z hz hne hyl hzl
  · simp only [hsi y hy, Bool.false_or] at hyl
    simp only [h.2.2 y hy hyl, Bool.or_true]
theorem Rooms.store {B1 : Nat} {xs : List Room} {L : Nat → Bool} {a : Act} {w : World} (h : Rooms B1 xs L a w) (hr : roomsB xs = true) (hN : ∀ x ∈ xs, ∀ y ∈ xs, x.ai = y.ai → x = y) (x : Room) (hx : x ∈ xs) (hl : L x.ai = true) (hs : L x.si = false) :
    ∃ g, a.eval (.tmp x.slot) = .pointer (some ⟨g, 0, Option.none⟩) ∧ B1 ≤ g ∧ w.heap[g]? = some (.cells x.Z x.T (0, 0)) ∧ Rooms B1 xs (fun j => j == x.si || L j) (a.put Option.none undef) (w.setRow g x.F) := by
  obtain ⟨g, h1, h2, h3⟩ := h.1 x hx hl
  rw [hs] at h3
  refine ⟨g, h1, h2, h3, fun y hy hyl => ?_, fun y hy z hz hne hyl hzl => ?_, fun y hy hyl => ?_⟩
  · have e0 : (y.ai == x.si) = false := by simpa using fun e => (roomsB_spec hr hx hy).1 e.symm
    simp only [e0, Bool.false_or] at hyl
    by_cases e : y.ai = x.ai
    · obtain rfl := hN y hy x hx e
      refine ⟨g, h1, h2, ?_⟩
      simp only [beq_self_eq_true, Bool.true_or, if_true]
      exact setRow_heap _ _ _ _ _ _ h3
    · obtain ⟨g', k1, k2, k3⟩ := h.1 y hy hyl
      have e2 : (y.si == x.si) = false := by simpa using fun h => e ((roomsB_spec hr hy hx).2.2.2 h)
      refine ⟨g', k1, k2, ?_⟩
      simp only [e2, Bool.false_or]
      refine (setRow_other _ _ _ _ fun hg => ?_).trans k3
      have hsl : y.slot ≠ x.slot := fun h => e ((roomsB_spec hr hy hx).2.1.1 h)
      exact h.2.1 y hy x hx hsl hyl hl (by rw [k1, h1, hg])
  · have e0 : (y.ai == x.si) = false := by simpa using fun e => (roomsB_spec hr hx hy).1 e.symm
    have e1 : (z.ai == x.si) = false := by simpa using fun e => (roomsB_spec hr hx hz).1 e.symm
    simp only [e0, Bool.false_or] at hyl
    simp only [e1, Bool.false_or] at hzl
    exact h.2.1 y hy z hz hne hyl hzl
  · have e0 : (y.ai == x.si) = false := by simpa using fun e => (roomsB_spec hr hx hy).1 e.symm
    simp only [e0, Bool.false_or]
    by_cases e : y.si = x.si
    · have := (roomsB_spec hr hy hx).2.2.2 e
      rw [this]
      exact hl
    · have e' : (y.si == x.si) = false := by simpa using e
      simp only [e', Bool.false_or] at hyl
      exact h.2.2 y hy hyl
/-- Each operation leaves the value that the list names; of the others nothing is said. -/
def vOpt (Vs : List (Option Value)) : Nat → World → Value → Prop := fun i _ v => match Vs.getD i Option.none with | some x => v = x | Option.none => True
end Go.Proofs.YtkgmcjeficgciaaDoor
