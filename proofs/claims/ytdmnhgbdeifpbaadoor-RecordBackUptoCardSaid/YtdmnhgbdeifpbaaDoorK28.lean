/-
  Part 28 of 33 of what the proof leans on.
-/
import Derived.Test.YtdmnhgbdeifpbaaDoorK19
import Derived.Test.YtdmnhgbdeifpbaaDoorK1
namespace Go.Proofs.YtdmnhgbdeifpbaaDoor
open Go
def putO (a : Act) (d : Tmp) : Option Value → Act
  | none => a
  | some v => a.put (some d) v
def nbO : Option Value → Nat
  | none => 1
  | some _ => 0
theorem put_put (a : Act) {d e : Tmp} (h : d ≠ e) (v u : Value) : (a.put (some d) v).put (some e) u = (a.put (some e) u).put (some d) v := by
  simp only [Act.put]
  rw [Array.setIfInBounds_comm _ _ h]
theorem putO_put (a : Act) {d e : Tmp} (h : d ≠ e) (o : Option Value) (u : Value) : (putO a d o).put (some e) u = putO (a.put (some e) u) d o := by
  cases o with
  | none => rfl
  | some v => exact put_put a h v u
theorem putO_eval (a : Act) {d s : Tmp} (h : s ≠ d) (o : Option Value) : (putO a d o).eval (.tmp s) = a.eval (.tmp s) := by
  cases o with
  | none => rfl
  | some v =>
    show (a.put (some d) v).eval (.tmp s) = _
    rw [eval_put, if_neg fun h' => h h'.1]
section
variable {P : Program} {l : List Oper} {Q : Exit → Act → World → Prop} {md : Region.Mode} {S : World → Prop}
theorem join_step {i j k : Nat} {oi oj ok : Oper} {di dj dk : Tmp} (hi : l[i]? = some oi) (hj : l[j]? = some oj) (hk : l[k]? = some ok) (gi : oi.guard = none) (gj : oj.guard = none) (gk : ok.guard = none)
    (ei : oi.dst = some di) (ej : oj.dst = some dj) (ek : ok.dst = some dk) (hij : dj ≠ di) (hik : dk ≠ di) (hjk : dk ≠ dj) (L L' : Bool → Bool → Array Bool) (fu : Nat)
    (r11 : Region.ready md l.toArray (L true true) = [i]) (r10 : Region.ready md l.toArray (L true false) = [i, k]) (r01 : Region.ready md l.toArray (L false true) = [i, j]) (r00 : Region.ready md l.toArray (L false false) = [i, j, k])
    (hL : ∀ p q, (L p q).setIfInBounds i true = L' p q) (hLj : ∀ q, (L false q).setIfInBounds j true = L true q) (hLk : ∀ p, (L p false).setIfInBounds k true = L p true)
    (X : Act) (I : World → Prop) (J : Value → World → Prop) (PQ : Option Value → Option Value → World → Prop)
    (aj : ∀ q w, I w → PQ none q w → S w → ∀ a (K : Act → World → Prop), (∀ v w', I w' → PQ (some v) q w' → S w' → K (a.put oj.dst v) w') → oj.wp P a w K Q)
    (ak : ∀ p w, I w → PQ p none w → S w → ∀ a (K : Act → World → Prop), (∀ v w', I w' → PQ p (some v) w' → S w' → K (a.put ok.dst v) w') → ok.wp P a w K Q)
    (op : ∀ p q w, I w → PQ p q w → S w → ∀ a : Act, (∀ s, s ≠ dj → s ≠ dk → a.eval (.tmp s) = X.eval (.tmp s)) → ∀ K : Act → World → Prop, (∀ v w', J v w' → PQ p q w' → S w' → K (a.put oi.dst v) w') → oi.wp P a w K Q)
    (cont : ∀ v p q w, J v w → PQ p q w → S w → wpAnyH P md l.toArray Q S (fu + nbO p + nbO q) (L' p.isSome q.isSome) (putO (putO (X.put (some di) v) dj p) dk q) w) :
    ∀ p q w, I w → PQ p q w → S w → wpAnyH P md l.toArray Q S (fu + 1 + nbO p + nbO q) (L p.isSome q.isSome) (putO (putO X dj p) dk q) w := by
  have chain : ∀ p q w (fuel : Nat), fuel = fu + nbO p + nbO q → I w → PQ p q w → S w → ∀ K : Act → World → Prop, (∀ a w, S w → wpAnyH P md l.toArray Q S fuel ((L p.isSome q.isSome).setIfInBounds i true) a w → K a w) → oi.wp P (putO (putO X dj p) dk q) w K Q := by
    intro p q w fuel hf h1 h2 h3 K hK
    subst hf
    refine op p q w h1 h2 h3 _ (fun s hs hs' => by rw [putO_eval _ hs', putO_eval _ hs]) K fun v w' g1 g2 g3 => hK _ _ g3 ?_
    rw [ei, putO_put _ hik, putO_put _ hij, hL]
    exact cont v p q w' g1 g2 g3
  have s11 : ∀ v u w, I w → PQ (some v) (some u) w → S w → wpAnyH P md l.toArray Q S (fu + 1) (L true true) (putO (putO X dj (some v)) dk (some u)) w := by
    intro v u w h1 h2 h3
    refine wpAnyH_ready r11 (by simp) (AllReadyH.cons (o := oi) (by rw [List.getElem?_toArray]; exact hi) (fun K hK => ?_) AllReadyH.nil)
    rw [if_pos (by simp [Region.wanted, gi])]
    exact chain (some v) (some u) w fu rfl h1 h2 h3 K fun a w hS hW => hK.out a w hS fun _ => hW
  have s10 : ∀ v w, I w → PQ (some v) none w → S w → wpAnyH P md l.toArray Q S (fu + 1 + 1) (L true false) (putO (putO X dj (some v)) dk none) w := by
    intro v w h1 h2 h3
    refine wpAnyH_ready r10 (by simp) (AllReadyH.cons (o := oi) (by rw [List.getElem?_toArray]; exact hi) (fun K hK => ?_) (AllReadyH.cons (o := ok) (by rw [List.getElem?_toArray]; exact hk) (fun K hK => ?_) AllReadyH.nil))
    · rw [if_pos (by simp [Region.wanted, gi])]
      exact chain (some v) none w (fu + 1) rfl h1 h2 h3 K fun a w hS hW => hK.out a w hS fun _ => hW
    · rw [if_pos (by simp [Region.wanted, gk])]
      refine ak (some v) w h1 h2 h3 _ K fun u w' g1 g2 g3 => hK.out _ _ g3 fun _ => ?_
      rw [hLk, ek]
      exact s11 v u w' g1 g2 g3
  have s01 : ∀ u w, I w → PQ none (some u) w → S w → wpAnyH P md l.toArray Q S (fu + 1 + 1) (L false true) (putO (putO X dj none) dk (some u)) w := by
    intro u w h1 h2 h3
    refine wpAnyH_ready r01 (by simp) (AllReadyH.cons (o := oi) (by rw [List.getElem?_toArray]; exact hi) (fun K hK => ?_) (AllReadyH.cons (o := oj) (by rw [List.getElem?_toArray]; exact hj) (fun K hK => ?_) AllReadyH.nil))
    · rw [if_pos (by simp [Region.wanted, gi])]
      exact chain none (some u) w (fu + 1) rfl h1 h2 h3 K fun a w hS hW => hK.out a w hS fun _ => hW
    · rw [if_pos (by simp [Region.wanted, gj])]
      refine aj (some u) w h1 h2 h3 _ K fun v w' g1 g2 g3 => hK.out _ _ g3 fun _ => ?_
      rw [hLj, ej, putO_put _ hjk]
      exact s11 v u w' g1 g2 g3
  have s00 : ∀ w, I w → PQ none none w → S w → wpAnyH P md l.toArray Q S (fu + 1 + 1 + 1) (L false false) (putO (putO X dj none) dk none) w := by
    intro w h1 h2 h3
    refine wpAnyH_ready r00 (by simp) (AllReadyH.cons (o := oi) (by rw [List.getElem?_toArray]; exact hi) (fun K hK => ?_) (AllReadyH.cons (o := oj) (by rw [List.getElem?_toArray]; exact hj) (fun K hK => ?_) (AllReadyH.cons (o := ok) (by rw [List.getElem?_toArray]; exact hk) (fun K hK => ?_) AllReadyH.nil)))
    · rw [if_pos (by simp [Region.wanted, gi])]
      exact chain none none w (fu + 1 + 1) rfl h1 h2 h3 K fun a w hS hW => hK.out a w hS fun _ => hW
    · rw [if_pos (by simp [Region.wanted, gj])]
      refine aj none w h1 h2 h3 _ K fun v w' g1 g2 g3 => hK.out _ _ g3 fun _ => ?_
      rw [hLj, ej]
      exact s10 v w' g1 g2 g3
    · rw [if_pos (by simp [Region.wanted, gk])]
      refine ak none w h1 h2 h3 _ K fun u w' g1 g2 g3 => hK.out _ _ g3 fun _ => ?_
      rw [hLk, ek]
      exact s01 u w' g1 g2 g3
  intro p q w h1 h2 h3
  cases p with
  | none => cases q with
    | none => exact s00 w h1 h2 h3
    | some u => exact s01 u w h1 h2 h3
  | some v => cases q with
    | none => exact s10 v w h1 h2 h3
    | some u => exact s11 v u w h1 h2 h3
theorem tkFreeO {i : Nat} {oi : Oper} {di dj dk : Tmp} {v : Value} {fu : Nat} (L L' : Bool → Bool → Array Bool) (X : Act) (p q : Option Value) (w : World) (hi : l[i]? = some oi) (ei : oi.dst = some di) (hij : dj ≠ di) (hik : dk ≠ di)
    (hs : Region.noSelect l.toArray = true) (hf : ∀ p q, Region.free md l.toArray (L p q) i = true) (hr : ∀ p q, (Region.ready md l.toArray (L p q)).contains i = true) (hL : ∀ p q, (L p q).setIfInBounds i true = L' p q)
    (hQ : ∀ c a w, Q (.panic c) (a.put oi.dst v) w → Q (.panic c) a w) (hy : ∀ a : Act, (∀ s, s ≠ dj → s ≠ dk → a.eval (.tmp s) = X.eval (.tmp s)) → YieldsIf P l.toArray S oi v a) (hS : S w)
    (h : wpAnyH P md l.toArray Q S (fu + nbO p + nbO q) (L' p.isSome q.isSome) (putO (putO (X.put (some di) v) dj p) dk q) w) : wpAnyH P md l.toArray Q S (fu + 1 + nbO p + nbO q) (L p.isSome q.isSome) (putO (putO X dj p) dk q) w := by
  have e : fu + 1 + nbO p + nbO q = (fu + nbO p + nbO q) + 1 := by omega
  rw [e]
  refine tkFree hi hs (hf _ _) (hr _ _) hQ (hy _ fun s h1 h2 => by rw [putO_eval _ h2, putO_eval _ h1]) hS ?_
  rw [ei, putO_put _ hik, putO_put _ hij, hL]
  exact h
theorem wpAnyH_gen {ops : Array Oper} {fuel : Nat} {listed : Array Bool} {a : Act} {w : World} (h : ∀ A, A = a → wpAnyH P md ops Q S fuel listed A w) : wpAnyH P md ops Q S fuel listed a w := h a rfl
theorem join_end {j k : Nat} {oj ok : Oper} {dj dk : Tmp} (hj : l[j]? = some oj) (hk : l[k]? = some ok) (gj : oj.guard = none) (gk : ok.guard = none)
    (ej : oj.dst = some dj) (ek : ok.dst = some dk) (hjk : dk ≠ dj) (L : Bool → Bool → Array Bool) (fu : Nat)
    (r10 : Region.ready md l.toArray (L true false) = [k]) (r01 : Region.ready md l.toArray (L false true) = [j]) (r00 : Region.ready md l.toArray (L false false) = [j, k])
    (hLj : ∀ q, (L false q).setIfInBounds j true = L true q) (hLk : ∀ p, (L p false).setIfInBounds k true = L p true)
    (X : Act) (I : World → Prop) (PQ : Option Value → Option Value → World → Prop)
    (aj : ∀ q w, I w → PQ none q w → S w → ∀ a (K : Act → World → Prop), (∀ v w', I w' → PQ (some v) q w' → S w' → K (a.put oj.dst v) w') → oj.wp P a w K Q)
    (ak : ∀ p w, I w → PQ p none w → S w → ∀ a (K : Act → World → Prop), (∀ v w', I w' → PQ p (some v) w' → S w' → K (a.put ok.dst v) w') → ok.wp P a w K Q)
    (fin : ∀ v u w, I w → PQ (some v) (some u) w → S w → wpAnyH P md l.toArray Q S fu (L true true) ((X.put (some dj) v).put (some dk) u) w) :
    ∀ p q w, I w → PQ p q w → S w → wpAnyH P md l.toArray Q S (fu + nbO p + nbO q) (L p.isSome q.isSome) (putO (putO X dj p) dk q) w := by
  have s10 : ∀ v w, I w → PQ (some v) none w → S w → wpAnyH P md l.toArray Q S (fu + 1) (L true false) (putO (putO X dj (some v)) dk none) w := by
    intro v w h1 h2 h3
    refine wpAnyH_ready r10 (by simp) (AllReadyH.cons (o := ok) (by rw [List.getElem?_toArray]; exact hk) (fun K hK => ?_) AllReadyH.nil)
    rw [if_pos (by simp [Region.wanted, gk])]
    refine ak (some v) w h1 h2 h3 _ K fun u w' g1 g2 g3 => hK.out _ _ g3 fun _ => ?_
    rw [hLk, ek]
    exact fin v u w' g1 g2 g3
  have s01 : ∀ u w, I w → PQ none (some u) w → S w → wpAnyH P md l.toArray Q S (fu + 1) (L false true) (putO (putO X dj none) dk (some u)) w := by
    intro u w h1 h2 h3
    refine wpAnyH_ready r01 (by simp) (AllReadyH.cons (o := oj) (by rw [List.getElem?_toArray]; exact hj) (fun K hK => ?_) AllReadyH.nil)
    rw [if_pos (by simp [Region.wanted, gj])]
    refine aj (some u) w h1 h2 h3 _ K fun v w' g1 g2 g3 => hK.out _ _ g3 fun _ => ?_
    rw [hLj, ej, putO_put _ hjk]
    exact fin v u w' g1 g2 g3
  have s00 : ∀ w, I w → PQ none none w → S w → wpAnyH P md l.toArray Q S (fu + 1 + 1) (L false false) (putO (putO X dj none) dk none) w := by
    intro w h1 h2 h3
    refine wpAnyH_ready r00 (by simp) (AllReadyH.cons (o := oj) (by rw [List.getElem?_toArray]; exact hj) (fun K hK => ?_) (AllReadyH.cons (o := ok) (by rw [List.getElem?_toArray]; exact hk) (fun K hK => ?_) AllReadyH.nil))
    · rw [if_pos (by simp [Region.wanted, gj])]
      refine aj none w h1 h2 h3 _ K fun v w' g1 g2 g3 => hK.out _ _ g3 fun _ => ?_
      rw [hLj, ej]
      exact s10 v w' g1 g2 g3
    · rw [if_pos (by simp [Region.wanted, gk])]
      refine ak none w h1 h2 h3 _ K fun u w' g1 g2 g3 => hK.out _ _ g3 fun _ => ?_
      rw [hLk, ek]
      exact s01 u w' g1 g2 g3
  intro p q w h1 h2 h3
  cases p with
  | none => cases q with
    | none => exact s00 w h1 h2 h3
    | some u => exact s01 u w h1 h2 h3
  | some v => cases q with
    | none => exact s10 v w h1 h2 h3
    | some u => exact fin v u w h1 h2 h3
end
end Go.Proofs.YtdmnhgbdeifpbaaDoor
