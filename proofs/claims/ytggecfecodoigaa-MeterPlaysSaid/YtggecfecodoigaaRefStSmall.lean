/-
  The contracts of the document's store: noughts, Spend, Write, Read.
-/
import Derived.Test.YtggecfecodoigaaRefStore
namespace Go.Proofs.Ytggecfecodoigaa
open Go Go.RowKit

theorem infoStr : (Try.prog.info? 9).map (fun i => (i.zero, i.size, i.bytes)) = some (some (.string ⟨#[]⟩), 1, 16) := by kernel_rfl
set_option maxRecDepth 100000 in
theorem rnoughts_any (w : World) : Calls Try.prog 40 #[] w fun e w' => e = .returned (Sv zeroB) ∧ w' = w := by
  go_enter Try.func40, Try.ntmps40
  go_wp2_with (fail)
  go_loopw [1, 2] (fun v u wr => ∃ i : Nat, i ≤ 128 ∧ u = .int .i64 (i : Int) ∧ v = Sv (List.replicate i 0) ∧ wr = w) (fun _ u _ => 128 - (intOf u).toNat)
  case atStart => exact ⟨0, Nat.zero_le _, rfl, rfl, rfl⟩
  case round =>
    obtain ⟨i, hi, rfl, rfl, rfl⟩ := hrel
    by_cases hlt : i < 128
    · have hlt' : (i : Int) < 128 := by omega
      obtain ⟨m, hm⟩ : ∃ m : List (BitVec 8), m = List.replicate i 0 := ⟨_, rfl⟩
      rw [← hm]
      have hadd : ∀ w', (binOp .add 9 (Sv m) (.string ⟨#[0]⟩)).run Try.prog w' = .ok (Sv (m ++ [0])) w' := fun w' => run_add_SvW w' m [0] (by rw [hm]; simp; omega)
      have HM := Lib.hid hm
      clear hm hlt
      go_wp2_with (fail)
      refine ⟨⟨i + 1, by omega, by go_num, ?_, trivial⟩, by simp [intOf]; omega⟩
      rw [HM.out, List.replicate_succ']
      rfl
    · obtain rfl : i = 128 := by omega
      go_wp2_with (fail)
      go_ret
      exact ⟨rfl, rfl⟩
theorem obj_step {w : World} {b : Nat} {c : Array Value} {ty : TypeId} (hb : w.heap[b]? = some (.cells c ty (0, 0))) (i : Nat) (v : Value) :
    (w.setCell ⟨b, i, none⟩ v).heap[b]? = some (.cells (c.setIfInBounds i v) ty (0, 0)) ∧ ∀ k, k ≠ b → (w.setCell ⟨b, i, none⟩ v).heap[k]? = w.heap[k]? :=
  ⟨heap_setCell_same w b i _ _ _ hb, fun _ hk => heap_setCell_other _ _ _ _ hk⟩
theorem own_obj {w : World} {base : Nat} {e : TypeId} {m n : Nat} {v : Value} {xs : List Value} (h : w.ownsRow base e m v n xs) {b : Nat} {c : Array Value} {ty : TypeId} (hb : w.heap[b]? = some (.cells c ty (0, 0))) (ht : ty ≠ e) (i : Nat) (u : Value) :
    (w.setCell ⟨b, i, none⟩ u).ownsRow base e m v n xs := own_move h fun g hg => (obj_step hb i u).2 g fun e' => own_ty h hb ht (e' ▸ hg)
section
variable {w : World} {base : Nat} {f : RfF} {s : StS}
theorem clip_zero (c : Int) : decide (clip c = 0) = decide (c = 0) := by
  unfold clip
  split
  · rw [decide_eq_false (by omega), decide_eq_false (by omega)]
  · rfl
theorem RAt.called (h : RAt w base f s) {c : Int} (hc : -9223372036854775808 ≤ c ∧ c ≤ 9223372036854775807) : RAt (w.setCell ⟨f.b, 2, none⟩ (.int .i64 (clip c))) base f (s.limited c) := by
  refine ⟨h.ok.limited hc, ?_, own_obj h.last h.obj (by decide) _ _, own_obj h.waits h.obj (by decide) _ _, own_obj h.count h.obj (by decide) _ _, h.low⟩
  rw [(obj_step h.obj 2 _).1]
  rfl
theorem rspend_no (h : RAt w base f s) (h0 : s.C = 0) : Calls Try.prog 46 #[.pointer (some ⟨f.b, 0, none⟩)] w fun e w' => e = .returned (.int .i64 31) ∧ w' = w := by
  have d2 := h.cell2
  rw [h0, show clip 0 = 0 from rfl] at d2
  clear h h0
  go_enter Try.func46, Try.ntmps46
  go_wp2_with (fail)
  go_ret
  exact ⟨rfl, rfl⟩
theorem rspend_yes (h : RAt w base f s) (h0 : s.C ≠ 0) : Calls Try.prog 46 #[.pointer (some ⟨f.b, 0, none⟩)] w fun e w' => e = .returned (.int .i64 0) ∧ RAt w' base f s.spent ∧ Moved f.has w w' := by
  have HS := Lib.hid h
  have H0 := Lib.hid h0
  have d2 := h.cell2
  have f2 := h.free 2
  have hr := h.ok.calls
  obtain ⟨c, hc⟩ : ∃ c, c = clip s.C := ⟨_, rfl⟩
  rw [← hc] at d2
  have hc0 : ¬ c = 0 := by
    rw [hc]
    unfold clip
    split <;> omega
  have hcr : -1 ≤ c ∧ c ≤ 9223372036854775807 := by
    rw [hc]
    unfold clip
    split <;> omega
  have HC := Lib.hid hc
  clear h h0 hc
  by_cases hp : 0 < c
  · go_enter Try.func46, Try.ntmps46
    go_wp2_with (fail)
    go_ret
    have e0 : s.C = c := by
      have := HC.out
      unfold clip at this
      split at this <;> omega
    have e1 : s.spent = s.limited (c - 1) := by
      unfold StS.spent StS.limited lessCall
      rw [e0, if_pos hp]
    rw [e1]
    have hk := HS.out.called (c := c - 1) (by omega)
    rw [show clip (c - 1) = c - 1 by unfold clip; rw [if_neg (by omega)]] at hk
    exact ⟨rfl, hk, Moved.cell (.inl rfl) _ _⟩
  · go_enter Try.func46, Try.ntmps46
    go_wp2_with (fail)
    go_ret
    have e0 : s.C < 0 := by
      have := HC.out
      unfold clip at this
      split at this <;> omega
    have e1 : s.spent = s := by
      unfold StS.spent lessCall
      rw [if_neg (by omega)]
    rw [e1]
    exact ⟨rfl, HS.out, Moved.refl _ _⟩
theorem RAt.slice (h : RAt w base f s) : (∃ a c, f.lv = .slice a s.L.length c) ∧ (∃ a c, f.wv = .slice a s.W.length c) ∧ (∃ a c, f.cv = .slice a s.L.length c) := by
  refine ⟨?_, ?_, ?_⟩
  · obtain ⟨a, c, h1⟩ := h.last.form
    exact ⟨a, c, by simpa using h1⟩
  · rcases h.waits.2 with ⟨hv, hn⟩ | ⟨g, cap, cur, hv, _⟩
    · exact ⟨none, 0, by rw [hv, hn]⟩
    · exact ⟨_, _, hv⟩
  · obtain ⟨a, c, h1⟩ := h.count.form
    exact ⟨a, c, by rw [← h.ok.reads]; simpa [countC] using h1⟩
theorem wpList_push_rw {ops : Array Oper} {rest : List Oper} {o : Oper} {a : Act} {Q : Exit → Act → World → Prop} {w : World} (hgd : o.guard = none) (x y : Operand)
    (ho : o.op = .call { callee := .builtin .append, args := #[x, y], argTypes := #[49, 49] })
    (base : Nat) (v : Value) (W : List (Nat × List (BitVec 8))) (hs : a.eval x = v) (hown : w.ownsRow base 53 2 v W.length (rwaitsC W)) (z : Nat × List (BitVec 8)) (g : Nat) (hx : a.eval y = .slice (some ⟨g, 0, none⟩) 1 1)
    (hu : w.heap[g]? = some (.cells (rwaitC z).toArray 53 (0, 0))) (hlen : W.length + 1 ≤ 1000000) (hbase : base ≤ w.heap.size)
    (h : ∀ v' w', w'.ownsRow base 53 2 v' (W ++ [z]).length (rwaitsC (W ++ [z])) → w.grownBy w' v.ownBlock → (v'.ownBlock = v.ownBlock ∨ v'.ownBlock = some w.heap.size) → wpList Try.prog ops Q rest (a.put o.dst v') w') :
    wpList Try.prog ops Q (o :: rest) a w := by
  obtain ⟨i, hi, hz0, hz1, hz2⟩ := info_parts (P := Try.prog) (e := 53) (z := .agg #[.int .i64 0, .string ⟨#[]⟩]) (size := 2) (bytes := 24) (by kernel_rfl)
  refine wpList_append_own_at _ hgd x y 49 ho base 53 i _ 2 24 Try.underlying49 hi hz0 hz1 hz2 rfl (by decide) v W.length (rwaitsC W) hs hown ⟨g, 0, none⟩ 1 1 (rwaitC z) hx rfl ?_ ?_ (by unfold maxLen; omega) (by omega) hbase ?_
  · intro j u hj
    rw [addr_add, Nat.zero_add, cell_of_row _ _ _ _ _ _ hu]
    simpa using hj
  · intro u hu
    unfold rwaitC at hu
    simp only [List.mem_cons, List.not_mem_nil, or_false] at hu
    rcases hu with rfl | rfl <;> rfl
  · intro v' w' k1 k2 _ k4
    refine h v' w' ?_ k2 k4
    rw [rwaitsC_snoc]
    simpa using k1
end
end Go.Proofs.Ytggecfecodoigaa
