/-
  slices.DeleteFunc at the writes that wait: those for a block are left out, in place.
-/
import Derived.Test.YtggecfecodoigaaStoreLay
import Derived.Test.YtggecfecodoigaaRefStLay
namespace Go.Proofs.Ytggecfecodoigaa
open Go Go.RowKit

theorem seekK_cases (W : List (Nat × List (BitVec 8))) (k : Nat) : (seekK W k = -1 ∧ leftB W k = W) ∨ ∃ (i : Nat) (x : Nat × List (BitVec 8)), W[i]? = some x ∧ x.1 = k ∧ seekK W k = (i : Int) ∧ leftB (W.take i) k = W.take i := by
  by_cases h : (W.findIdx fun x => x.1 == k) < W.length
  · right
    refine ⟨_, _, List.getElem?_eq_getElem h, ?_, by unfold seekK; rw [dif_pos h], ?_⟩
    · have h2 := List.findIdx_getElem (w := h)
      exact eq_of_beq h2
    · unfold leftB
      rw [List.filter_eq_self]
      intro a ha
      obtain ⟨j, hj⟩ := List.mem_iff_getElem?.1 ha
      rw [List.getElem?_take] at hj
      split at hj
      · rename_i hlt
        have := List.not_of_lt_findIdx hlt
        obtain ⟨hj1, hj2⟩ := List.getElem?_eq_some_iff.1 hj
        rw [hj2] at this
        simpa using this
      · cases hj
  · left
    have h2 : (W.findIdx fun x => x.1 == k) = W.length := by have := List.findIdx_le_length (p := fun x : Nat × List (BitVec 8) => x.1 == k) (xs := W); omega
    refine ⟨by unfold seekK; rw [dif_neg h], ?_⟩
    unfold leftB
    rw [List.filter_eq_self]
    intro a ha
    have := List.findIdx_eq_length.1 h2 a ha
    simpa using this
theorem splice_app {α : Type} (A C cs : List α) (o : Nat) (h : o + cs.length ≤ A.length) : splice (A ++ C) o cs = splice A o cs ++ C := by
  unfold splice
  rw [List.take_append_of_le_length (by omega), List.drop_append_of_le_length h]
  simp
theorem waitsC_app (A C : List (Nat × List (BitVec 8))) : waitsC (A ++ C) = waitsC A ++ waitsC C := by simp [waitsC]
theorem waitsC_set {D : List (Nat × List (BitVec 8))} {N : Nat} (h : WaitsIn N D) {i : Nat} (hi : i < D.length) {x : Nat × List (BitVec 8)} (hx : x.2.length = 128) : splice (waitsC D) (i * 129) (waitC x) = waitsC (D.set i x) := by
  have hl : D = D.take i ++ D[i] :: D.drop (i + 1) := by rw [List.getElem_cons_drop, List.take_append_drop]
  have hA : (waitsC (D.take i)).length = i * 129 := by
    rw [waitsC_length (n := N) (fun y hy => h y (List.mem_of_mem_take hy)), List.length_take, Nat.min_eq_left (by omega)]
  have hy := waitC_length (h _ (List.getElem_mem hi)).2
  have hxl := waitC_length hx
  have e1 : waitsC D = waitsC (D.take i) ++ (waitC D[i] ++ waitsC (D.drop (i + 1))) := by
    conv => lhs; rw [hl]
    rw [waitsC_app]
    rfl
  rw [List.set_eq_take_append_cons_drop, if_pos hi, waitsC_app, show waitsC (x :: D.drop (i + 1)) = waitC x ++ waitsC (D.drop (i + 1)) from rfl, e1]
  unfold splice
  rw [List.take_append_of_le_length (by omega), List.take_of_length_le (by omega), List.drop_append, List.drop_of_length_le (by omega), hA, List.nil_append, hxl, Nat.add_sub_cancel_left, List.drop_append_of_le_length (by omega), List.drop_of_length_le (by omega), List.nil_append]
theorem WaitsIn.set {N : Nat} {D : List (Nat × List (BitVec 8))} (h : WaitsIn N D) {i : Nat} {x : Nat × List (BitVec 8)} (hx : x.1 < N ∧ x.2.length = 128) : WaitsIn N (D.set i x) := fun y hy => by
  rcases List.mem_or_eq_of_mem_set hy with h' | rfl
  · exact h y h'
  · exact hx
section
variable {w : World} {base N q n c : Nat} {D : List (Nat × List (BitVec 8))}
theorem ownW_set (ho : w.ownsRow base 78 129 (.slice (some ⟨q, 0, none⟩) n c) D.length (waitsC D)) (hD : WaitsIn N D) (hn : D.length = n) {i : Nat} (hi : i < n) {x : Nat × List (BitVec 8)} (hx : x.2.length = 128) :
    w.there q (i * 129) 129 ∧ (w.setCells q (i * 129) (waitC x)).ownsRow base 78 129 (.slice (some ⟨q, 0, none⟩) n c) (D.set i x).length (waitsC (D.set i x)) ∧ w.grownBy (w.setCells q (i * 129) (waitC x)) (some q) := by
  obtain ⟨hl, ⟨hv, h0⟩ | ⟨g, cap, cur, hv, hbs, hg, h1, h2, h3, h4⟩⟩ := ho
  · omega
  · injection hv with e1 e2 e3
    obtain rfl : q = g := by
      injection e1 with e1
      injection e1
    subst e3
    have hxl := waitC_length hx
    have hcl : cur.toList.length = c * 129 := by rw [Array.length_toList, h3]
    have hb1 : i * 129 + 129 ≤ n * 129 := by omega
    have hb2 : n * 129 ≤ c * 129 := Nat.mul_le_mul_right 129 (by omega)
    have hset := setCells_splice w q (i * 129) 78 (waitC x) cur hg (by rw [hxl, h3]; omega) (waitC_one x)
    rw [hn] at h4 hl
    refine ⟨fun j hj => ⟨by rw [cell_of_row w q _ _ _ _ hg, Array.getElem?_eq_getElem (by omega)]; rfl, frozen_of_row w q _ _ _ hg⟩, ?_, ?_⟩
    · rw [hset, List.length_set, hn]
      have hsp : splice cur.toList (i * 129) (waitC x) = waitsC (D.set i x) ++ cur.toList.drop (n * 129) := by
        conv => lhs; rw [← List.take_append_drop (n * 129) cur.toList]
        rw [splice_app _ _ _ _ (by rw [h4, hl, hxl]; omega), h4, waitsC_set hD (by omega) hx]
      have hDl : (waitsC (D.set i x)).length = n * 129 := by
        have h := waitsC_set hD (show i < D.length by omega) hx
        rw [← h, splice]
        simp only [List.length_append, List.length_take, List.length_drop, hl, hxl]
        omega
      refine ⟨hDl, .inr ⟨q, c, _, rfl, hbs, setRow_heap w q _ _ _ _ hg, by omega, h2, ?_, ?_⟩⟩
      · rw [hsp]
        simp only [List.size_toArray, List.length_append, hDl, List.length_drop, hcl]
        omega
      · rw [hsp]
        show List.take (n * 129) (waitsC (D.set i x) ++ _) = _
        rw [List.take_append_of_le_length (by omega), List.take_of_length_le (by omega)]
    · rw [hset]
      exact ⟨rfl, rfl, rfl, by simp [World.setRow], fun j _ hj => setRow_other w q j _ fun e => hj (by rw [e])⟩
theorem ownW_take (ho : w.ownsRow base 78 129 (.slice (some ⟨q, 0, none⟩) n c) D.length (waitsC D)) (hD : WaitsIn N D) (hn : D.length = n) {i : Nat} (hi : i ≤ n) (hi0 : 0 < n) :
    w.ownsRow base 78 129 (.slice (some ⟨q, 0, none⟩) i c) (D.take i).length (waitsC (D.take i)) := by
  obtain ⟨hl, ⟨hv, h0⟩ | ⟨g, cap, cur, hv, hbs, hg, h1, h2, h3, h4⟩⟩ := ho
  · omega
  · injection hv with e1 e2 e3
    obtain rfl : q = g := by
      injection e1 with e1
      injection e1
    subst e3
    have hA : (waitsC (D.take i)).length = i * 129 := by
      rw [waitsC_length (n := N) (fun y hy => hD y (List.mem_of_mem_take hy)), List.length_take, Nat.min_eq_left (by omega)]
    have hli : (D.take i).length = i := by rw [List.length_take]; omega
    rw [hli]
    refine ⟨hA, .inr ⟨q, c, cur, rfl, hbs, hg, by omega, h2, h3, ?_⟩⟩
    have e : waitsC D = waitsC (D.take i) ++ waitsC (D.drop i) := by rw [← waitsC_app, List.take_append_drop]
    have h5 := congrArg (List.take (i * 129)) h4
    rw [List.take_take, Nat.min_eq_left (by rw [hn]; exact Nat.mul_le_mul_right 129 hi), e, List.take_append_of_le_length (by omega), List.take_of_length_le (l := waitsC (D.take i)) (by omega)] at h5
    exact h5
theorem zeroCells_one (z : Array Value) (hz : 0 < z.size) (h : ∀ v ∈ z, v.oneCell' = true) (m : Nat) : ∀ v ∈ (Builtin.zeroCells z m).toList, v.oneCell' = true := fun v hv => by
  simp only [Builtin.zeroCells, Array.toList_map, List.mem_map] at hv
  obtain ⟨j, _, rfl⟩ := hv
  have hlt : j % z.size < z.size := Nat.mod_lt _ hz
  rw [getElem!_pos z _ hlt]
  exact h _ (Array.getElem_mem hlt)
theorem zeroC_one (m : Nat) : ∀ v ∈ (Builtin.zeroCells (Value.agg (Value.int .i64 0 :: List.replicate 128 (.int .u8 0)).toArray).cells m).toList, v.oneCell' = true :=
  zeroCells_one (Value.int .i64 0 :: List.replicate 128 (.int .u8 0)).toArray (by simp) (fun v hv => by
    rw [List.mem_toArray, List.mem_cons] at hv
    rcases hv with h | h
    · rw [h]
      rfl
    · rw [List.eq_of_mem_replicate h]
      rfl) m
theorem clear_ownW (ty : TypeId) (ho : w.ownsRow base 78 129 (.slice (some ⟨q, 0, none⟩) n c) D.length (waitsC D)) (hD : WaitsIn N D) (hn : D.length = n) {i : Nat} (hi : i < n) :
    ∃ w', (Builtin.clear_ #[68] ty #[.slice (some ⟨q, i * 129, none⟩) (n - i) (c - i)]).run Try.prog w = .ok (.tuple #[]) w' ∧ w'.ownsRow base 78 129 (.slice (some ⟨q, 0, none⟩) i c) (D.take i).length (waitsC (D.take i)) ∧ w.grownBy w' (some q) := by
  have htk := ownW_take ho hD hn (Nat.le_of_lt hi) (by omega)
  obtain ⟨hl, ⟨hv, h0⟩ | ⟨g, cap, cur, hv, hbs, hg, h1, h2, h3, h4⟩⟩ := ho
  · omega
  · injection hv with e1 e2 e3
    obtain rfl : q = g := by
      injection e1 with e1
      injection e1
    subst e3
    obtain ⟨hA, ⟨hv', _⟩ | ⟨g', cap', cur', hv', _, hg', k1, k2, k3, k4⟩⟩ := htk
    · cases hv'
    injection hv' with f1 f2 f3
    obtain rfl : q = g' := by
      injection f1 with f1
      injection f1
    subst f3
    rw [hg] at hg'
    obtain rfl : cur = cur' := by
      injection hg' with hg'
      injection hg'
    have hli : (D.take i).length = i := by rw [List.length_take]; omega
    rw [hli] at hA k4 ⊢
    obtain ⟨m, hm⟩ : ∃ m, n - i = m + 1 := ⟨n - i - 1, by omega⟩
    rw [hm]
    obtain ⟨zs, hzs⟩ : ∃ zs, zs = (Builtin.zeroCells (Value.agg (Value.int .i64 0 :: List.replicate 128 (.int .u8 0)).toArray).cells (m + 1)).toList := ⟨_, rfl⟩
    have hzl : zs.length = (m + 1) * 129 := by
      rw [hzs, Array.length_toList, size_zeroCells]
      rfl
    have hz1 : ∀ v ∈ zs, v.oneCell' = true := by rw [hzs]; exact zeroC_one _
    have hb2 : n * 129 ≤ c * 129 := Nat.mul_le_mul_right 129 (by omega)
    have hst := run_storeCells_at Try.prog q (i * 129) 78 zs 0 cur w hg (by rw [hzl]; omega) hz1
    simp only [Nat.add_zero] at hst
    have hzv : ∀ w, (zeroValue 78).run Try.prog w = .ok (.agg (Value.int .i64 0 :: List.replicate 128 (.int .u8 0)).toArray) w := (zero_of_info (P := Try.prog) (t := 78) (v := .agg (Value.int .i64 0 :: List.replicate 128 (.int .u8 0)).toArray) (n := 129) (by kernel_rfl)).1
    have hrun : (Builtin.clear_ #[68] ty #[.slice (some ⟨q, i * 129, none⟩) (m + 1) (c - i)]).run Try.prog w = .ok (.tuple #[]) (w.setRow q (cur.toList.take (i * 129) ++ zs ++ cur.toList.drop (i * 129 + zs.length)).toArray) := by
      simp only [Builtin.clear_, run_underlying Try.underlying68, Sem.run_bind, Sem.run_pure, Result.andThen_ok, hzv, ← hzs, hst, List.getElem?_toArray, List.getElem?_cons_zero]
    refine ⟨_, hrun, ?_, ⟨rfl, rfl, rfl, by simp [World.setRow], fun j _ hj => setRow_other w q j _ fun e => hj (by rw [e])⟩⟩
    refine ⟨hA, .inr ⟨q, c, _, rfl, hbs, setRow_heap w q _ _ _ _ hg, by omega, h2, ?_, ?_⟩⟩
    · simp only [List.size_toArray, List.length_append, List.length_take, List.length_drop, Array.length_toList, hzl, h3]
      omega
    · show List.take (i * 129) (cur.toList.take (i * 129) ++ zs ++ _) = _
      rw [List.append_assoc, List.take_append_of_le_length (by rw [List.length_take, Array.length_toList]; omega), List.take_take, Nat.min_self]
      exact k4
end
end Go.Proofs.Ytggecfecodoigaa
