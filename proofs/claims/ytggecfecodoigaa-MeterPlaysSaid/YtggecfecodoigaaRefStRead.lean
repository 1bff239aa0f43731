/-
  The contract of the document's store's Read.
-/
import Derived.Test.YtggecfecodoigaaRefStWrite
namespace Go.Proofs.Ytggecfecodoigaa
open Go Go.RowKit

def selB (L : List (List (BitVec 8))) (W : List (Nat × List (BitVec 8))) (k : Nat) : List (BitVec 8) := W.foldl (fun b x => if x.1 = k then x.2 else b) (L.getD k [])
theorem selB_step (L : List (List (BitVec 8))) (W : List (Nat × List (BitVec 8))) (k i : Nat) (x : Nat × List (BitVec 8)) (hx : W[i]? = some x) : selB L (W.take (i + 1)) k = if x.1 = k then x.2 else selB L (W.take i) k := by
  rw [take_snoc W i x hx]
  simp [selB]
section
variable {w : World} {base : Nat} {f : RfF} {s : StS}
theorem rread_range (h : RAt w base f s) {k : Int} (hk : k < 0 ∨ (s.L.length : Int) ≤ k) :
    Calls Try.prog 42 #[.pointer (some ⟨f.b, 0, none⟩), .int .i64 k] w fun e w' => e = .returned (.tuple #[Sv [], .int .i64 32]) ∧ w' = w := by
  obtain ⟨⟨a, c, hl⟩, _⟩ := h.slice
  have d0 := h.cell0
  rw [hl] at d0
  clear h hl
  by_cases h0 : k < 0
  · clear hk
    go_enter Try.func42, Try.ntmps42
    go_wp2_with (fail)
    go_ret2
    exact ⟨rfl, rfl⟩
  · have h1 : (s.L.length : Int) ≤ k := by omega
    clear hk
    go_enter Try.func42, Try.ntmps42
    go_wp2_with (fail)
    go_ret2
    exact ⟨rfl, rfl⟩
theorem rread_off (h : RAt w base f s) {k : Nat} (hk : k < s.L.length) (h0 : s.C = 0) :
    Calls Try.prog 42 #[.pointer (some ⟨f.b, 0, none⟩), .int .i64 (k : Int)] w fun e w' => e = .returned (.tuple #[Sv [], .int .i64 31]) ∧ w' = w := by
  obtain ⟨⟨a, c, hl⟩, _⟩ := h.slice
  have d0 := h.cell0
  have d2 := h.cell2
  rw [hl] at d0
  rw [h0, show clip 0 = 0 from rfl] at d2
  have hk0 : (0 : Int) ≤ (k : Int) ∧ (k : Int) < s.L.length := by omega
  clear h hl hk h0
  go_enter Try.func42, Try.ntmps42
  go_wp2_with (fail)
  go_ret2
  exact ⟨rfl, rfl⟩
/-- A row's cells. -/
theorem own_cells {base : Nat} {e : TypeId} {v : Value} {xs : List Value} {n : Nat} (h : Own w base e v xs) (hn : xs.length = n) (h0 : 0 < n) :
    ∃ g c, v = .slice (some ⟨g, 0, none⟩) n c ∧ (∀ j, j < n → w.cell? ⟨g, j, none⟩ = xs[j]?) ∧ (∀ j, w.frozen? ⟨g, j, none⟩ = false) ∧ (∀ j u, Own (w.setCell ⟨g, j, none⟩ u) base e v (xs.set j u)) ∧ v.ownBlock = some g := by
  subst hn
  obtain ⟨g, c, rfl, _, _⟩ := h.form1 h0
  refine ⟨g, c, rfl, fun j hj => h.cellAt j hj, fun j => World.ownsRow.frozenAt h j, fun j u => ?_, rfl⟩
  have := (World.ownsRow.stored h j u).1
  unfold Own
  rw [List.length_set]
  exact this
theorem rwait_cells {n : Nat} {v : Value} {wa : Option Addr} {wc : Nat} {W : List (Nat × List (BitVec 8))} (h : w.ownsRow base 53 2 v W.length (rwaitsC W)) (hv : v = .slice wa n wc) {i : Nat} {x : Nat × List (BitVec 8)} (hx : W[i]? = some x) :
    ∃ q, wa = some ⟨q, 0, none⟩ ∧ w.cell? ⟨q, i * 2, none⟩ = some (.int .i64 (x.1 : Int)) ∧ w.cell? ⟨q, i * 2 + 1, none⟩ = some (Sv x.2) := by
  have hi := (List.getElem?_eq_some_iff.1 hx).1
  rcases h.2 with ⟨_, hn⟩ | ⟨q, cap, cur, hv', _, hq, hle, _, hs, htake⟩
  · omega
  · rw [hv] at hv'
    injection hv' with hv1 _ _
    have key : ∀ j v, (rwaitC x)[j]? = some v → w.cell? ⟨q, i * 2 + j, none⟩ = some v := fun j v hv => by
      rw [cell_of_row w q _ _ _ _ hq]
      have h1 := rwaitsC_at W i j x v hx hv
      have h2 := (List.getElem?_eq_some_iff.1 h1).1
      rw [rwaitsC_length] at h2
      rw [← htake, List.getElem?_take, if_pos h2] at h1
      simpa using h1
    exact ⟨q, hv1, key 0 _ rfl, key 1 _ rfl⟩
set_option maxRecDepth 100000 in
set_option maxHeartbeats 1000000 in
theorem rread_any (h : RAt w base f s) {k : Nat} (hk : k < s.L.length) (h0 : s.C ≠ 0) (hW : s.W.length < 1000) :
    Calls Try.prog 42 #[.pointer (some ⟨f.b, 0, none⟩), .int .i64 (k : Int)] w fun e w' => e = .returned (.tuple #[Sv (s.new'.getD k []), .int .i64 0]) ∧ RAt w' base f (s.told k) ∧ Moved f.has w w' := by
  have hlr := h.ok.reads
  obtain ⟨gc, cc, hcv, cCell, cFro, cSet, cOwn⟩ := own_cells h.count (n := s.L.length) (by simp [countC]; exact hlr) (by omega)
  obtain ⟨gl', lc, hlv, lCell, _, _, lOwn⟩ := own_cells h.last (n := s.L.length) (by simp) (by omega)
  obtain ⟨_, ⟨wa, wc, hwv⟩, _⟩ := h.slice
  have d0 := h.cell0
  have d1 := h.cell1
  have d2 := h.cell2
  have d3 := h.cell3
  rw [hlv] at d0
  rw [hcv] at d3
  rw [hwv] at d1
  have hc0 : ¬ clip s.C = 0 := by unfold clip; split <;> omega
  obtain ⟨cl, hcl⟩ : ∃ c, c = clip s.C := ⟨_, rfl⟩
  rw [← hcl] at d2 hc0
  obtain ⟨r, hr⟩ : ∃ r, r = s.R.getD k 0 := ⟨_, rfl⟩
  have dc : w.cell? ⟨gc, k, none⟩ = some (.int .i64 r) := by
    rw [cCell k hk, hr]
    simp [countC, List.getD_eq_getElem?_getD, List.getElem?_eq_getElem (show k < s.R.length by omega)]
  have fc := cFro k
  obtain ⟨w1, hw1⟩ : ∃ W, W = w.setCell ⟨gc, k, none⟩ (.int .i64 (wrap64 (r + 1))) := ⟨_, rfl⟩
  have hgo : ∀ j, j ≠ gc → w1.heap[j]? = w.heap[j]? := fun j hj => by rw [hw1]; exact heap_setCell_other _ _ _ _ hj
  have hA1 : RAt w1 base f (s.told k) := by
    have hbg : f.b ≠ gc := fun e => own_ty h.count h.obj (by decide) (by rw [e]; exact cOwn)
    refine ⟨h.ok.told k, (hgo _ hbg).trans h.obj, own_move h.last fun g hg => hgo g fun e => own_two h.last h.count (by decide) hg (by rw [e]; exact cOwn),
      own_move h.waits fun g hg => hgo g fun e => own_two h.waits h.count (by decide) hg (by rw [e]; exact cOwn), ?_, h.low⟩
    have h2 := cSet k (.int .i64 (wrap64 (r + 1)))
    rw [← hw1] at h2
    have e1 : (countC s.R).set k (.int .i64 (wrap64 (r + 1))) = countC (s.told k).R := by
      show _ = countC (s.R.set k (IntKind.i64.wrap (s.R.getD k 0 + 1)))
      rw [← hr, i64_wrap64]
      simp [countC, List.map_set]
    rw [← e1]
    exact h2
  have hM1 : Moved f.has w w1 := by rw [hw1]; exact Moved.cell (.inr (.inr (.inr cOwn))) _ _
  have e0 : w1.cell? ⟨f.b, 0, none⟩ = some (.slice (some ⟨gl', 0, none⟩) s.L.length lc) := by rw [hA1.cell0, hlv]
  have e1 : w1.cell? ⟨f.b, 1, none⟩ = some (.slice wa s.W.length wc) := by rw [hA1.cell1, hwv]
  obtain ⟨b0, hb0⟩ : ∃ b, b = s.L.getD k [] := ⟨_, rfl⟩
  have el : w1.cell? ⟨gl', k, none⟩ = some (Sv b0) := by
    have hne : gl' ≠ gc := fun e => own_two h.last h.count (by decide) lOwn (by rw [e]; exact cOwn)
    rw [World.cell?_of_block (w := w) (hgo gl' hne), lCell k hk, hb0]
    simp [List.getD_eq_getElem?_getD, List.getElem?_eq_getElem hk]
  have hk0 : (0 : Int) ≤ (k : Int) ∧ (k : Int) < s.L.length := by omega
  have HS := Lib.hid (And.intro hw1 (And.intro hA1 (And.intro hM1 (And.intro hb0 (And.intro hwv h)))))
  clear h hlr hcv cCell cFro cSet cOwn hlv lCell lOwn hwv hcl hr hw1 hgo hA1 hM1 hb0 hk h0
  go_enter Try.func42, Try.ntmps42
  go_upto_region 6 with (fail)
  rw [← HS.out.1]
  clear d0 d1 d2 d3 dc fc
  go_wp2_with (fail)
  go_loopw [6, 46] (fun v u wr => ∃ i : Nat, i ≤ s.W.length ∧ u = .int .i64 (i : Int) ∧ v = Sv (selB s.L (s.W.take i) k) ∧ Below w1.heap.size w1 wr) (fun _ u _ => s.W.length - (intOf u).toNat)
  case atStart => exact ⟨0, Nat.zero_le _, rfl, by rw [HS.out.2.2.2.1]; rfl, Below.refl _ _⟩
  case round =>
    obtain ⟨i, hi, rfl, rfl, hB⟩ := hrel
    clear e0 e1 el
    by_cases hlt : i < s.W.length
    · have hi0 : (0 : Int) ≤ (i : Int) ∧ (i : Int) < s.W.length := by omega
      obtain ⟨x, hx⟩ : ∃ x, s.W[i]? = some x := ⟨_, List.getElem?_eq_getElem hlt⟩
      obtain ⟨q, rfl, x0, x1⟩ : ∃ q, wa = some ⟨q, 0, none⟩ ∧ wr.cell? ⟨q, i * 2, none⟩ = some (.int .i64 (x.1 : Int)) ∧ wr.cell? ⟨q, i * 2 + 1, none⟩ = some (Sv x.2) :=
        rwait_cells (HS.out.2.1.far hB).waits HS.out.2.2.2.2.1 hx
      obtain ⟨m, hm⟩ : ∃ m, m = selB s.L (s.W.take i) k := ⟨_, rfl⟩
      have hst := selB_step s.L s.W k i x hx
      rw [← hm] at hst ⊢
      obtain ⟨xk, xb⟩ := x
      dsimp only at x0 x1 hst
      have HX := Lib.hid (And.intro hst hB)
      clear hst hB hm hx hlt
      by_cases he : xk = k
      · subst he
        go_wp2_with (fail)
        have hBn : ∀ o, Below w1.heap.size w1 (wr.alloc o) := fun o => HX.out.2.trans (((Below.refl _ wr).alloc (Nat.le_refl _) o).mono HX.out.2.size)
        exact ⟨⟨i + 1, by omega, by go_num, by rw [HX.out.1, if_pos rfl], hBn _⟩, by simp [intOf]; omega⟩
      · have he' : ¬ (xk : Int) = (k : Int) := by omega
        go_wp2_with (fail)
        have hBn : ∀ o, Below w1.heap.size w1 (wr.alloc o) := fun o => HX.out.2.trans (((Below.refl _ wr).alloc (Nat.le_refl _) o).mono HX.out.2.size)
        exact ⟨⟨i + 1, by omega, by go_num, by rw [HX.out.1, if_neg he], hBn _⟩, by simp [intOf]; omega⟩
    · obtain rfl : i = s.W.length := by omega
      have HB := Lib.hid hB
      clear hB hlt
      go_wp2_with (fail)
      go_ret2
      obtain ⟨_, hA1, hM1, _, _, h⟩ := HS.out
      refine ⟨?_, hA1.far HB.out, hM1.then_ (Moved.of_below HB.out)⟩
      rw [List.take_length]
      show Ending.returned (.tuple #[Sv (selB s.L s.W k), .int .i64 0]) = _
      rw [show s.new'.getD k [] = selB s.L s.W k from newest_read s.L s.W k (by omega)]
end
end Go.Proofs.Ytggecfecodoigaa
