/-
  Part 19 of 42 of what the proof leans on.
-/
import Derived.Test.YtdmnhgbdeifpbaaDoorO2
import Derived.Deep.RegionHeld3
namespace Go.Proofs.YtdmnhgbdeifpbaaDoor
open Go
section
variable {P : Program} {l : List Oper} {Q : Exit → Act → World → Prop} {md : Region.Mode} {S : World → Prop}
theorem tkFree {i : Nat} {oi : Oper} {v : Value} {fuel : Nat} {listed : Array Bool} {a : Act} {w : World} (hi : l[i]? = some oi)
    (hs : Region.noSelect l.toArray = true) (hf : Region.free md l.toArray listed i = true) (hr : (Region.ready md l.toArray listed).contains i = true)
    (hQ : ∀ c a w, Q (.panic c) (a.put oi.dst v) w → Q (.panic c) a w) (hy : YieldsIf P l.toArray S oi v a) (hS : S w)
    (h : wpAnyH P md l.toArray Q S fuel (listed.setIfInBounds i true) (a.put oi.dst v) w) : wpAnyH P md l.toArray Q S (fuel + 1) listed a w :=
  wpAnyH_take (by rw [List.getElem?_toArray]; exact hi) hs hf hr hQ hy hS h
theorem tkOne (i : Nat) {oi : Oper} {fuel : Nat} {listed : Array Bool} {a : Act} {w : World} (hi : l[i]? = some oi) (hr : Region.ready md l.toArray listed = [i]) (hg : oi.guard = none)
    (h : ∀ K : Act → World → Prop, (∀ a w, S w → wpAnyH P md l.toArray Q S fuel (listed.setIfInBounds i true) a w → K a w) → oi.wp P a w K Q) : wpAnyH P md l.toArray Q S (fuel + 1) listed a w := by
  refine wpAnyH_ready hr (by simp) (AllReadyH.cons (o := oi) (by rw [List.getElem?_toArray]; exact hi) (fun K hK => ?_) AllReadyH.nil)
  rw [if_pos (by simp [Region.wanted, hg])]
  exact h K fun a w hS hW => hK.out a w hS fun _ => hW
theorem tkWant (i : Nat) {oi : Oper} {fuel : Nat} {listed : Array Bool} {a : Act} {w : World} (hi : l[i]? = some oi) (hr : Region.ready md l.toArray listed = [i]) (hg : Region.wanted oi (yielded l.toArray a.tmps) = true)
    (h : ∀ K : Act → World → Prop, (∀ a w, S w → wpAnyH P md l.toArray Q S fuel (listed.setIfInBounds i true) a w → K a w) → oi.wp P a w K Q) : wpAnyH P md l.toArray Q S (fuel + 1) listed a w := by
  refine wpAnyH_ready hr (by simp) (AllReadyH.cons (o := oi) (by rw [List.getElem?_toArray]; exact hi) (fun K hK => ?_) AllReadyH.nil)
  rw [if_pos hg]; exact h K fun a w hS hW => hK.out a w hS fun _ => hW
theorem tkTwo (i j : Nat) {oi oj : Oper} {fuel : Nat} {listed : Array Bool} {a : Act} {w : World} (hi : l[i]? = some oi) (hj : l[j]? = some oj) (hr : Region.ready md l.toArray listed = [i, j]) (hg : oi.guard = none) (hg' : oj.guard = none)
    (h : ∀ K : Act → World → Prop, (∀ a w, S w → wpAnyH P md l.toArray Q S fuel (listed.setIfInBounds i true) a w → K a w) → oi.wp P a w K Q)
    (h' : ∀ K : Act → World → Prop, (∀ a w, S w → wpAnyH P md l.toArray Q S fuel (listed.setIfInBounds j true) a w → K a w) → oj.wp P a w K Q) : wpAnyH P md l.toArray Q S (fuel + 1) listed a w := by
  refine wpAnyH_ready hr (by simp) (AllReadyH.cons (o := oi) (by rw [List.getElem?_toArray]; exact hi) (fun K hK => ?_) (AllReadyH.cons (o := oj) (by rw [List.getElem?_toArray]; exact hj) (fun K hK => ?_) AllReadyH.nil))
  · rw [if_pos (by simp [Region.wanted, hg])]
    exact h K fun a w hS hW => hK.out a w hS fun _ => hW
  · rw [if_pos (by simp [Region.wanted, hg'])]
    exact h' K fun a w hS hW => hK.out a w hS fun _ => hW
theorem wp_loadT {o : Oper} {a : Act} {w : World} {K : Act → World → Prop} {ty : TypeId} (x : Operand) (ho : o.op = .load ty x) {A : Addr} (hx : a.eval x = .pointer (some A)) {v : Value} (hc : w.cell? A = some v)
    (hg : ∀ w, (isAgg ty).run P w = .ok false w) (h : K (a.put o.dst v) w) : o.wp P a w K Q := by
  unfold Oper.wp execOp; simp only [ho, hx, Instr.loadAt, Instr.sureAddr, loadVar, hg, Sem.run_bind, Sem.run_pure, Result.andThen_ok, Bool.false_eq_true, if_false, run_load, hc]; exact h
theorem wp_storeT {o : Oper} {a : Act} {w : World} {K : Act → World → Prop} {ty : TypeId} (x y : Operand) (ho : o.op = .store ty x y) {A : Addr} (hx : a.eval x = .pointer (some A)) {v u : Value} (hy : a.eval y = v) (hv : v.cells = #[v]) (h1 : v.oneCell' = true)
    (hs : ∀ w, (sizeOf ty).run P w = .ok 1 w) (hc : w.cell? A = some u) (hf : w.frozen? A = false) (h : K (a.put o.dst undef) (w.setCell A v)) : o.wp P a w K Q := by
  have hr := run_storeAt_one hv h1 hs hc hf; unfold Oper.wp execOp; simp only [ho, hx, hy, hr, Sem.run_bind, Sem.run_pure, Result.andThen_ok]; exact h
theorem yieldsIf_build {o : Oper} {a : Act} {ops : Array Oper} (hg : o.guard = none) (t : TypeId) (parts : Array (Nat × Operand)) (ho : o.op = .build t parts) {cs : Array Value}
    (hb : P.built t (parts.map fun (i, x) => (i, a.eval x)).toList = some cs) : YieldsIf P ops S o (.agg cs) a := by
  refine .inl ⟨by simp [Region.wanted, hg], fun w _ => ?_⟩
  unfold execOp; simp only [ho, Sem.run_bind, run_build w t _ cs hb, Result.andThen_ok, Sem.run_pure]
end
end Go.Proofs.YtdmnhgbdeifpbaaDoor
