/-
  The contract of the document's store's Lay.
-/
import Derived.Test.YtggecfecodoigaaRefStSync
namespace Go.Proofs.Ytggecfecodoigaa
open Go Go.RowKit

def leftB (W : List (Nat × List (BitVec 8))) (k : Nat) : List (Nat × List (BitVec 8)) := W.filter fun x => !(x.1 == k)
theorem leftB_step (W : List (Nat × List (BitVec 8))) (k i : Nat) (x : Nat × List (BitVec 8)) (hx : W[i]? = some x) : leftB (W.take (i + 1)) k = if x.1 = k then leftB (W.take i) k else leftB (W.take i) k ++ [x] := by
  rw [take_snoc W i x hx]
  unfold leftB
  rw [List.filter_append]
  by_cases e : x.1 = k
  · simp [e]
  · simp [e]
theorem leftB_length (W : List (Nat × List (BitVec 8))) (k i : Nat) : (leftB (W.take i) k).length ≤ W.length := by
  have h1 := List.length_filter_le (fun x : Nat × List (BitVec 8) => !(x.1 == k)) (W.take i)
  have h2 := List.length_take_le i W
  unfold leftB
  simp at h1 h2
  omega
theorem own_low {w : World} {base base' : Nat} {e : TypeId} {m n : Nat} {v : Value} {xs : List Value} (h : w.ownsRow base e m v n xs) (hb : base' ≤ base) : w.ownsRow base' e m v n xs := by
  refine ⟨h.1, ?_⟩
  rcases h.2 with e | ⟨g, cap, cur, hv, h1, rest⟩
  · exact .inl e
  · exact .inr ⟨g, cap, cur, hv, Nat.le_trans hb h1, rest⟩
section
variable {w : World} {base : Nat} {f : RfF} {s : StS}
theorem rlay_range (h : RAt w base f s) {k : Int} (hk : k < 0 ∨ (s.L.length : Int) ≤ k) (v : Value) :
    Calls Try.prog 44 #[.pointer (some ⟨f.b, 0, none⟩), .int .i64 k, v] w fun e w' => e = .returned (.bool false) ∧ w' = w := by
  obtain ⟨⟨a, c, hl⟩, _⟩ := h.slice
  have d0 := h.cell0
  rw [hl] at d0
  clear h hl
  by_cases h0 : k < 0
  · clear hk
    go_enter Try.func44, Try.ntmps44
    go_wp2_with (fail)
    go_ret
    exact ⟨rfl, rfl⟩
  · have h1 : (s.L.length : Int) ≤ k := by omega
    clear hk
    go_enter Try.func44, Try.ntmps44
    go_wp2_with (fail)
    go_ret
    exact ⟨rfl, rfl⟩
theorem rlay_arg (h : RAt w base f s) {k : Nat} (hk : k < s.L.length) (b : List (BitVec 8)) (hb : b.length ≠ 128) :
    Calls Try.prog 44 #[.pointer (some ⟨f.b, 0, none⟩), .int .i64 (k : Int), Sv b] w fun e w' => e = .returned (.bool false) ∧ w' = w := by
  obtain ⟨⟨a, c, hl⟩, _⟩ := h.slice
  have d0 := h.cell0
  rw [hl] at d0
  have hk0 : (0 : Int) ≤ (k : Int) ∧ (k : Int) < s.L.length := by omega
  have hlen := fun w' => run_len_Sv w' 3 b
  have hb' : ((b.length : Int) != 128) = true := by
    have : ¬ (b.length : Int) = 128 := by omega
    simpa using this
  clear h hl hk hb
  go_enter Try.func44, Try.ntmps44
  go_wp2_with (fail)
  go_ret
  exact ⟨rfl, rfl⟩
theorem RMid.lay_end {w1 wr : World} {k : Nat} {b : List (BitVec 8)} (h : RMid w base f s (s.L.set k b) w1) (h0 : RAt w base f s) (hb : b.length = 128) (hB : Below w1.heap.size w1 wr) {v : Value} (hbase : base ≤ w1.heap.size)
    (ho : wr.ownsRow w1.heap.size 53 2 v (leftB s.W k).length (rwaitsC (leftB s.W k))) : REnd w base f (s.layd k b) (wr.setCell ⟨f.b, 1, none⟩ v) := by
  have hr := h.far hB
  refine ⟨{ f with wv := v }, ⟨h0.ok.layd hb, ?_, own_obj hr.last hr.obj (by decide) _ _, own_obj (own_low ho hbase) hr.obj (by decide) _ _, own_obj hr.count hr.obj (by decide) _ _, h0.low⟩, rfl, fun j hj => ?_, hr.moved.then_ (Moved.cell (.inl rfl) _ _)⟩
  · rw [(obj_step hr.obj 1 _).1]
    rfl
  · rcases hj with e | e | e | e
    · exact .inl (.inl e)
    · exact .inl (.inr (.inl e))
    · have := (World.ownsRow.lt ho j e).1
      have := h.moved.size
      exact .inr (by omega)
    · exact .inl (.inr (.inr (.inr e)))
set_option maxRecDepth 100000 in
set_option maxHeartbeats 1000000 in
theorem rlay_any (h : RAt w base f s) {k : Nat} (hk : k < s.L.length) (b : List (BitVec 8)) (hb : b.length = 128) (hbase : base ≤ w.heap.size) (hW : s.W.length < 1000) :
    Calls Try.prog 44 #[.pointer (some ⟨f.b, 0, none⟩), .int .i64 (k : Int), Sv b] w fun e w' => e = .returned (.bool true) ∧ REnd w base f (s.layd k b) w' := by
  have HS := Lib.hid (And.intro h (And.intro hb hbase))
  obtain ⟨_, ⟨wa, wc, hwv⟩, _⟩ := h.slice
  obtain ⟨g, gcap, hlv, _, hcell, hfro, hset⟩ := (RMid.start h).slices h.ok
  have d0 := h.cell0
  rw [hlv] at d0
  have hk0 : (0 : Int) ≤ (k : Int) ∧ (k : Int) < s.L.length := by omega
  have ec := hcell k hk
  have ef := hfro k
  obtain ⟨ov, hov⟩ : ∃ ov, Sv (s.L.getD k []) = .string ov := ⟨_, rfl⟩
  rw [hov] at ec
  obtain ⟨bs, hbs⟩ : ∃ u, Sv b = .string u := ⟨_, rfl⟩
  have hlen := fun w' => run_len_Sv w' 3 b
  have hsz : bs.size = 128 := by
    have e1 : strOf b = bs := by injection hbs
    rw [← e1, strOf_size, hb]
  have hM1 := hset k b
  rw [hbs] at hM1 hlen ⊢
  rw [hb] at hlen
  obtain ⟨w1, hw1⟩ : ∃ W, W = w.setCell ⟨g, k, none⟩ (.string bs) := ⟨_, rfl⟩
  rw [← hw1] at hM1
  have d1 : w1.cell? ⟨f.b, 1, none⟩ = some (.slice wa s.W.length wc) := by
    rw [cell_of_row _ _ _ _ _ _ hM1.obj, hwv]
    rfl
  have HA := Lib.hid (And.intro hw1 (And.intro hM1 hwv))
  clear h hb hbase hwv hlv hcell hfro hset hov hbs hM1 hw1 hk
  go_enter Try.func44, Try.ntmps44
  go_upto_region 4 with (fail)
  rw [← HA.out.1]
  have q1 : decide ((k : Int) < 0) = false := decide_eq_false (by omega)
  have q2 : decide (s.L.length ≤ k) = false := decide_eq_false (by omega)
  simp only [q1, q2, Bool.or_false]
  clear d0 ec ef q1 q2
  go_wp2_with (fail)
  go_loopw [7, 38] (fun v u wr => ∃ i : Nat, i ≤ s.W.length ∧ u = .int .i64 (i : Int) ∧ wr.ownsRow w1.heap.size 53 2 v (leftB (s.W.take i) k).length (rwaitsC (leftB (s.W.take i) k)) ∧ Below w1.heap.size w1 wr) (fun _ u _ => s.W.length - (intOf u).toNat)
  case atStart => exact ⟨0, Nat.zero_le _, rfl, World.ownsRow_nil _ _ _ 2, Below.refl _ _⟩
  case round =>
    obtain ⟨i, hi, rfl, hO, hB⟩ := hrel
    clear d1
    by_cases hlt : i < s.W.length
    · have hi0 : (0 : Int) ≤ (i : Int) ∧ (i : Int) < s.W.length := by omega
      obtain ⟨x, hx⟩ : ∃ x, s.W[i]? = some x := ⟨_, List.getElem?_eq_getElem hlt⟩
      obtain ⟨q, rfl, x0, x1⟩ := rwait_cells (HA.out.2.1.far hB).waits HA.out.2.2 hx
      have hst := leftB_step s.W k i x hx
      have hll := leftB_length s.W k i
      obtain ⟨xk, xb⟩ := x
      dsimp only at x0 x1 hst
      obtain ⟨u, hu⟩ : ∃ u, Sv xb = .string u := ⟨_, rfl⟩
      rw [hu] at x1
      obtain ⟨lf, hlf⟩ : ∃ lf, lf = leftB (s.W.take i) k := ⟨_, rfl⟩
      rw [← hlf] at hst hO hll
      have HX := Lib.hid (And.intro hO (And.intro hB (And.intro hst (And.intro hu hll))))
      clear hO hB hst hx hlt hu hlf hll
      have hBn : ∀ o, Below w1.heap.size w1 (wr.alloc o) := fun o => HX.out.2.1.trans (((Below.refl _ wr).alloc (Nat.le_refl _) o).mono HX.out.2.1.size)
      have hOn : ∀ o, (wr.alloc o).ownsRow w1.heap.size 53 2 u7 lf.length (rwaitsC lf) := fun o => HX.out.1.alloc o
      by_cases he : xk = k
      · subst he
        have hs' : leftB (s.W.take (i + 1)) xk = lf := by rw [HX.out.2.2.1, if_pos rfl]
        have HF := Lib.hid (And.intro hBn (And.intro hOn hs'))
        clear hBn hOn hs'
        go_wp2_with (fail)
        exact ⟨⟨i + 1, by omega, by go_num, by rw [HF.out.2.2]; exact HF.out.2.1 _, HF.out.1 _⟩, by simp [intOf]; omega⟩
      · have he' : ¬ (xk : Int) = (k : Int) := by omega
        have hs' : leftB (s.W.take (i + 1)) k = lf ++ [(xk, xb)] := by rw [HX.out.2.2.1, if_neg he]
        have HF := Lib.hid (And.intro hBn (And.intro hOn hs'))
        clear hBn hOn hs' he
        go_upto_region 9 with (fail)
        refine wp_region_lit ?_
        iterate 6 go_step
        refine wpList_slice_rw rfl (.tmp 47) rfl (xk, xb) (by show Value.agg #[.int .i64 (xk : Int), .string u] = _; rw [← HX.out.2.2.2.1]; rfl) ?_
        obtain ⟨wA, hwA⟩ : ∃ W, W = wr.alloc (.cells #[.int .i64 (xk : Int), .string u] 53) := ⟨_, rfl⟩
        rw [← hwA]
        have hOA : wA.ownsRow w1.heap.size 53 2 u7 lf.length (rwaitsC lf) := by rw [hwA]; exact HF.out.2.1 _
        have hBA : Below w1.heap.size w1 wA := by rw [hwA]; exact HF.out.1 _
        have hsA := hBA.size
        refine wpList_push_rw rfl (.tmp 46) (.tmp 48) rfl w1.heap.size u7 lf rfl (hOA.alloc _) (xk, xb) wA.heap.size rfl (heap_alloc_new wA _) (by have := HX.out.2.2.2.2; omega) (by simp; omega) ?_
        intro v' w6 ho hg hv
        have hE : w6.ownsRow w1.heap.size 53 2 v' (leftB (s.W.take (i + 1)) k).length (rwaitsC (leftB (s.W.take (i + 1)) k)) ∧ Below w1.heap.size w1 w6 := by
          rw [HF.out.2.2]
          refine ⟨ho, ?_⟩
          have hBB : Below w1.heap.size w1 (wA.alloc (.cells (rwaitC (xk, xb)).toArray 53)) := hBA.trans (((Below.refl _ wA).alloc (Nat.le_refl _) _).mono hsA)
          exact hBB.trans ⟨hg.os, hg.tape, hg.output, hg.size, fun j hj => hg.block j (Nat.lt_of_lt_of_le hj hBB.size) fun e => by have := (World.ownsRow.lt hOA j e.symm).1; omega⟩
        have HE := Lib.hid hE
        clear hwA hOA hBA hsA ho hg hv hE
        dsimp only
        go_wp2_with (fail)
        exact ⟨⟨i + 1, by omega, by go_num, HE.out⟩, by simp [intOf]; omega⟩
    · obtain rfl : i = s.W.length := by omega
      rw [List.take_length] at hO
      have hR := HA.out.2.1.far hB
      have c1 : wr.cell? ⟨f.b, 1, none⟩ = some f.wv := by rw [cell_of_row _ _ _ _ _ _ hR.obj]; rfl
      have f1 := frozen_of_row wr f.b 1 _ _ hR.obj
      obtain ⟨sa, sn, sc, rfl⟩ : ∃ a n c, u7 = .slice a n c := by
        rcases hO.2 with ⟨hv, _⟩ | ⟨_, _, _, hv, _⟩
        · exact ⟨_, _, _, hv⟩
        · exact ⟨_, _, _, hv⟩
      have hE := HA.out.2.1.lay_end HS.out.1 HS.out.2.1 hB (by have h1 := HA.out.2.1.moved.size; have h2 := HS.out.2.2; omega) hO
      have HE := Lib.hid hE
      clear hO hB hR hE hlt
      go_wp2_with (fail)
      go_ret
      exact ⟨rfl, HE.out⟩
end
end Go.Proofs.Ytggecfecodoigaa
