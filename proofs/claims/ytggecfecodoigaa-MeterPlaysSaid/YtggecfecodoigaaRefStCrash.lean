/-
  The contract of the document's store's Crash.
-/
import Derived.Test.YtggecfecodoigaaRefStSync
namespace Go.Proofs.Ytggecfecodoigaa
open Go Go.RowKit

def clampC (c : Int) : Nat := if c < 0 ∨ 128 < c then 128 else c.toNat
theorem clampC_le (c : Int) : clampC c ≤ 128 := by unfold clampC; split <;> omega
theorem set_same (L : List (List (BitVec 8))) (k : Nat) : L.set k (L.getD k []) = L := by
  apply List.ext_getElem?
  intro j
  by_cases e : k = j
  · subst e
    by_cases h : k < L.length
    · rw [List.getElem?_set_self h, List.getD_eq_getElem?_getD, List.getElem?_eq_getElem h]
      rfl
    · rw [List.getElem?_eq_none (by simp; omega), List.getElem?_eq_none (by omega)]
  · rw [List.getElem?_set_ne e]
section
variable {w : World} {base : Nat} {f : RfF} {s : StS}
theorem RMid.crash_end {wr : World} {keep : List Bool} {t c : Int} (h : RMid w base f s (laid (crashM keep t c) 0 s.W s.L) wr) (h0 : RAt w base f s) : REnd w base f (s.crashed keep t c) ((wr.setCell ⟨f.b, 1, none⟩ (.slice none 0 0)).setCell ⟨f.b, 2, none⟩ (.int .i64 (-1))) := by
  obtain ⟨f', h1, h2, h3, h4⟩ := h.drop h0 (s' := s.settled (crashM keep t c)) (h0.ok.settled (crashM_le keep t c)) rfl rfl rfl rfl
  have h5 := h1.called (c := -1) (by omega)
  rw [h2] at h5
  rw [crashed_eq]
  exact ⟨f', h5, h2, h3, h4.then_ (Moved.cell (.inl rfl) _ _)⟩
set_option maxRecDepth 100000 in
set_option maxHeartbeats 1000000 in
theorem rcrash_any (h : RAt w base f s) (ka : Option Addr) (kc : Nat) (keep : List Bool) (t c : Int) (hk : KeepAt w ka keep) (hka : ∀ ab, keep.length ≠ 0 → ka.map (·.block) = some ab → ¬ f.has ab) (hW : s.W.length < 1000) :
    Calls Try.prog 32 #[.pointer (some ⟨f.b, 0, none⟩), .slice ka keep.length kc, .int .i64 t, .int .i64 c] w fun e w' => e = .returned (.tuple #[]) ∧ REnd w base f (s.crashed keep t c) w' := by
  have HS := Lib.hid (And.intro h (And.intro hk hka))
  obtain ⟨_, ⟨wa, wc, hwv⟩, _⟩ := h.slice
  have d1 := h.cell1
  rw [hwv] at d1
  have HA := Lib.hid hwv
  obtain ⟨M, hM⟩ : ∃ M, M = keep.length := ⟨_, rfl⟩
  rw [← hM]
  have HN := Lib.hid hM
  clear h hwv hk hka hM
  go_enter Try.func32, Try.ntmps32
  go_wp2_with (fail)
  go_loopw [3, 15] (fun v u wr => ∃ i : Nat, i ≤ s.W.length ∧ u = .int .i64 (i : Int) ∧ (∃ cv, v = .int .i64 cv ∧ clampC cv = clampC c) ∧ RMid w base f s (laid (crashM keep t c) 0 (s.W.take i) s.L) wr) (fun _ u _ => s.W.length - (intOf u).toNat)
  case atStart => exact ⟨0, Nat.zero_le _, rfl, ⟨c, rfl, rfl⟩, RMid.start HS.out.1⟩
  case round =>
    obtain ⟨i, hi, rfl, ⟨cv, rfl, hcv⟩, hR⟩ := hrel
    clear d1
    by_cases hlt : i < s.W.length
    · have hi0 : (0 : Int) ≤ (i : Int) ∧ (i : Int) < s.W.length := by omega
      obtain ⟨x, hx⟩ : ∃ x, s.W[i]? = some x := ⟨_, List.getElem?_eq_getElem hlt⟩
      obtain ⟨q, rfl, x0, x1⟩ := rwait_cells hR.waits HA.out hx
      have hin := HS.out.1.ok.waits x (List.mem_of_getElem? hx)
      have hnx := laid_step (crashM keep t c) s.W x s.L i hx
      have hLb : Blocks (laid (crashM keep t c) 0 (s.W.take i) s.L) := laid_blocks (crashM_le keep t c) 0 HS.out.1.ok.blocks fun y hy => HS.out.1.ok.waits y (List.mem_of_mem_take hy)
      have hLl : (laid (crashM keep t c) 0 (s.W.take i) s.L).length = s.L.length := laid_length _ _ _ _
      obtain ⟨L1, hL1⟩ : ∃ L1, L1 = laid (crashM keep t c) 0 (s.W.take i) s.L := ⟨_, rfl⟩
      rw [← hL1] at hnx hLb hLl hR
      obtain ⟨xk, xb⟩ := x
      dsimp only at x0 x1 hin hnx
      obtain ⟨u, hu⟩ : ∃ u, Sv xb = .string u := ⟨_, rfl⟩
      rw [hu] at x1
      have HX := Lib.hid (And.intro hR (And.intro hin (And.intro hnx (And.intro hu (And.intro hLb (And.intro hLl hcv))))))
      clear hR hin hnx hx hlt hu hL1 hLb hLl hcv
      go_upto_region 3 with (fail)
      obtain ⟨w5, hw5⟩ : ∃ W, W = wr.alloc (.cells #[.int .i64 (xk : Int), .string u] 53) := ⟨_, rfl⟩
      obtain ⟨vb, hvb⟩ : ∃ b, b = wr.heap.size := ⟨_, rfl⟩
      rw [← hw5, ← hvb]
      have hR5 := HX.out.1.far (w' := w5) (by rw [hw5]; exact (Below.refl _ wr).alloc (Nat.le_refl _) _)
      have hrow : w5.heap[vb]? = some (.cells #[.int .i64 (xk : Int), .string u] 53 (0, 0)) := by rw [hw5, hvb, heap_alloc_new]
      have v0 : w5.cell? ⟨vb, 0, none⟩ = some (.int .i64 (xk : Int)) := by rw [cell_of_row _ _ _ _ _ _ hrow]; rfl
      have v1 : w5.cell? ⟨vb, 1, none⟩ = some (.string u) := by rw [cell_of_row _ _ _ _ _ _ hrow]; rfl
      obtain ⟨g, gcap, hlv, _, hcell, hfro, hset⟩ := hR5.slices HS.out.1.ok
      have e0 : w5.cell? ⟨f.b, 0, none⟩ = some (.slice (some ⟨g, 0, none⟩) s.L.length gcap) := by rw [cell_of_row _ _ _ _ _ _ hR5.obj, hlv]; rfl
      have ec := hcell xk HX.out.2.1.1
      have ef := hfro xk
      have hk0 : (0 : Int) ≤ (xk : Int) ∧ (xk : Int) < s.L.length := by have := HX.out.2.1.1; omega
      have hE := hset xk
      obtain ⟨ob, hob⟩ : ∃ ob, ob = L1.getD xk [] := ⟨_, rfl⟩
      have hol : ob.length = 128 := by rw [hob]; exact HX.out.2.2.2.2.1.at (by rw [HX.out.2.2.2.2.2.1]; exact HX.out.2.1.1)
      rw [← hob] at ec
      obtain ⟨ov, hov⟩ : ∃ ov, Sv ob = .string ov := ⟨_, rfl⟩
      rw [hov] at ec
      have HE := Lib.hid (And.intro hE (And.intro hob (And.intro hol (And.intro hov hR5))))
      clear hw5 hvb hR5 hrow hlv hcell hfro hset hE hov x0 x1 hob hol
      by_cases ht : (i : Int) = t
      · subst ht
        obtain ⟨n, hn⟩ : ∃ n, n = clampC cv := ⟨_, rfl⟩
        have hn8 : n ≤ 128 := by rw [hn]; exact clampC_le cv
        obtain ⟨u1, hu1⟩ : ∃ u1, Sv (xb.take n) = .string u1 := ⟨_, rfl⟩
        obtain ⟨o1, ho1⟩ : ∃ o1, Sv (ob.drop n) = .string o1 := ⟨_, rfl⟩
        obtain ⟨r1, hr1⟩ : ∃ r1, Sv (torn n xb ob) = .string r1 := ⟨_, rfl⟩
        have hs1 : ∀ w', (Instr.slice 9 (.string u) none (some (.int .i64 (n : Int))) none).run Try.prog w' = .ok (.string u1) w' := fun w' => by
          rw [← hu1, ← HX.out.2.2.2.1]
          exact run_take_Sv w' xb n (by rw [HX.out.2.1.2]; exact hn8)
        have hs2 : ∀ w', (Instr.slice 9 (.string ov) (some (.int .i64 (n : Int))) none none).run Try.prog w' = .ok (.string o1) w' := fun w' => by
          rw [← ho1, ← HE.out.2.2.2.1]
          exact run_drop_Sv w' ob n (by rw [HE.out.2.2.1]; exact hn8)
        have hcat : u1 ++ o1 = r1 := by
          have e1 : strOf (xb.take n) = u1 := by injection hu1
          have e2 : strOf (ob.drop n) = o1 := by injection ho1
          have e3 : strOf (torn n xb ob) = r1 := by injection hr1
          rw [← e1, ← e2, ← e3, strOf_append]
          rfl
        have hsz : ¬ 9223372036854775807 < u1.size + o1.size := by
          have e1 : strOf (xb.take n) = u1 := by injection hu1
          have e2 : strOf (ob.drop n) = o1 := by injection ho1
          rw [← e1, ← e2, strOf_size, strOf_size]
          have := HX.out.2.1.2
          have := HE.out.2.2.1
          simp
          omega
        have hE1 := HE.out.1 (torn n xb ob)
        have hcm : crashM keep (i : Int) c i = n := by
          unfold crashM
          rw [if_pos rfl, hn]
          exact HX.out.2.2.2.2.2.2.symm
        rw [hr1] at hE1
        have hE2 : RMid w base f s (laid (crashM keep (i : Int) c) 0 (s.W.take (i + 1)) s.L) (w5.setCell ⟨g, xk, none⟩ (.string r1)) := by
          rw [HX.out.2.2.1, hcm, ← HE.out.2.1]
          exact hE1
        have HF := Lib.hid hE2
        have hcn : (cv < 0 ∨ 128 < cv) ∧ n = 128 ∨ ¬ (cv < 0 ∨ 128 < cv) ∧ (n : Int) = cv := by
          rw [hn]
          unfold clampC
          split
          · exact .inl ⟨by assumption, rfl⟩
          · exact .inr ⟨by assumption, by omega⟩
        clear hE1 hE2 hcm hu1 ho1 hr1 hn
        rcases hcn with ⟨hout, rfl⟩ | ⟨hin, rfl⟩
        · have hcl : clampC 128 = clampC c := by
            rw [← HX.out.2.2.2.2.2.2]
            unfold clampC
            rw [if_pos hout]
            decide
          rw [show ((128 : Nat) : Int) = 128 from rfl] at hs1 hs2
          by_cases h0 : cv < 0
          · clear hout
            go_wp2_with (fail)
            go_region
            go_wp2_with (fail)
            exact ⟨⟨i + 1, by omega, by go_num, ⟨_, rfl, hcl⟩, HF.out.far ⟨rfl, rfl, rfl, Nat.le_refl _, fun _ _ => rfl⟩⟩, by simp [intOf]; omega⟩
          · have h1 : 128 < cv := by omega
            clear hout
            go_wp2_with (fail)
            go_region
            go_wp2_with (fail)
            exact ⟨⟨i + 1, by omega, by go_num, ⟨_, rfl, hcl⟩, HF.out.far ⟨rfl, rfl, rfl, Nat.le_refl _, fun _ _ => rfl⟩⟩, by simp [intOf]; omega⟩
        · have hcl : clampC (n : Int) = clampC c := HX.out.2.2.2.2.2.2
          have h0 : ¬ (n : Int) < 0 := by omega
          have h1 : ¬ (128 : Int) < (n : Int) := by omega
          clear hin
          go_wp2_with (fail)
          go_region
          go_wp2_with (fail)
          exact ⟨⟨i + 1, by omega, by go_num, ⟨_, rfl, hcl⟩, HF.out.far ⟨rfl, rfl, rfl, Nat.le_refl _, fun _ _ => rfl⟩⟩, by simp [intOf]; omega⟩
      · obtain ⟨kb, hkb⟩ : ∃ kb, kb = (decide (i < keep.length) && keep.getD i false) := ⟨_, rfl⟩
        have hkg : keep.getD i false = kb := by
          rw [hkb]
          by_cases h : i < keep.length
          · rw [decide_eq_true h, Bool.true_and]
          · rw [List.getD_eq_getElem?_getD, List.getElem?_eq_none (by omega), decide_eq_false h]
            rfl
        have hcm : crashM keep t c i = if kb = true then 128 else 0 := by
          unfold crashM
          rw [if_neg ht, hkg]
        have hE1 : RMid w base f s (laid (crashM keep t c) 0 (s.W.take (i + 1)) s.L) (if kb = true then w5.setCell ⟨g, xk, none⟩ (Sv xb) else w5) := by
          rw [HX.out.2.2.1, hcm, ← HE.out.2.1]
          cases kb with
          | true =>
            rw [if_pos rfl, if_pos rfl, torn_whole HX.out.2.1.2 HE.out.2.2.1]
            exact HE.out.1 xb
          | false =>
            rw [if_neg (by decide), if_neg (by decide), torn_none, HE.out.2.1, set_same]
            exact HE.out.2.2.2.2
        rw [HX.out.2.2.2.1] at hE1
        have HF := Lib.hid hE1
        have hlM : (i : Int) < (M : Int) ↔ i < keep.length := by rw [HN.out]; omega
        by_cases hl : i < keep.length
        · have hl' : (0 : Int) ≤ (i : Int) ∧ (i : Int) < M := by have := hlM.2 hl; omega
          obtain ⟨ab, off, rfl, hc⟩ : ∃ ab off, ka = some ⟨ab, off, none⟩ ∧ ∀ j < keep.length, w.cell? ⟨ab, off + j, none⟩ = some (.bool (keep.getD j false)) := by
            rcases HS.out.2.1 with h | h
            · omega
            · exact h
          have hci := hc i hl
          have hkk : keep.getD i false = kb := by rw [hkb, decide_eq_true hl, Bool.true_and]
          rw [hkk] at hci
          have hkw : w5.cell? ⟨ab, off + i, none⟩ = some (.bool kb) := by
            rw [World.cell?_of_block (w := w) (HE.out.2.2.2.2.moved.block ab (block_lt_of_cell hci) (HS.out.2.2 ab (by omega) rfl))]
            exact hci
          clear hE1 hcm hkg hlM hl hc hci hkb hkk
          cases kb with
          | true =>
            go_wp2_with (fail)
            go_region
            go_wp2_with (fail)
            exact ⟨⟨i + 1, by omega, by go_num, ⟨_, rfl, HX.out.2.2.2.2.2.2⟩, HF.out.far ⟨rfl, rfl, rfl, Nat.le_refl _, fun _ _ => rfl⟩⟩, by simp [intOf]; omega⟩
          | false =>
            go_wp2_with (fail)
            exact ⟨⟨i + 1, by omega, by go_num, ⟨_, rfl, HX.out.2.2.2.2.2.2⟩, HF.out⟩, by simp [intOf]; omega⟩
        · have hl' : ¬ (i : Int) < (M : Int) := fun h => hl (hlM.1 h)
          have hkf : kb = false := by rw [hkb, decide_eq_false hl]; rfl
          subst hkf
          clear hE1 hcm hkg hlM hl hkb
          go_wp2_with (fail)
          exact ⟨⟨i + 1, by omega, by go_num, ⟨_, rfl, HX.out.2.2.2.2.2.2⟩, HF.out⟩, by simp [intOf]; omega⟩
    · obtain rfl : i = s.W.length := by omega
      have c1 : wr.cell? ⟨f.b, 1, none⟩ = some f.wv := by rw [cell_of_row _ _ _ _ _ _ hR.obj]; rfl
      have c2 : wr.cell? ⟨f.b, 2, none⟩ = some (.int .i64 (clip s.C)) := by rw [cell_of_row _ _ _ _ _ _ hR.obj]; rfl
      have f1 := frozen_of_row wr f.b 1 _ _ hR.obj
      have f2 := frozen_of_row wr f.b 2 _ _ hR.obj
      rw [List.take_length] at hR
      have HE := Lib.hid (hR.crash_end HS.out.1)
      clear hR hlt
      go_wp2_with (fail)
      go_end0
      exact ⟨rfl, HE.out⟩
end
end Go.Proofs.Ytggecfecodoigaa
