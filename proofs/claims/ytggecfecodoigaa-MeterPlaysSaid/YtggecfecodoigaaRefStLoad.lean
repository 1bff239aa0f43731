/-
  The contracts of the document's store's Image, Load and Reads, and of the reference's SameInts.
-/
import Derived.Test.YtggecfecodoigaaRefStSync
namespace Go.Proofs.Ytggecfecodoigaa
open Go Go.RowKit

theorem flatB_cut {L : List (List (BitVec 8))} (h : Blocks L) (i : Nat) (hi : i < L.length) : ((flatB L).drop (128 * i)).take 128 = L.getD i [] := by
  apply List.ext_getElem?
  intro j
  have hl := h.at hi
  by_cases hj : j < 128
  · rw [List.getElem?_take, if_pos hj, List.getElem?_drop, flatB_at h i j hi hj]
  · rw [List.getElem?_eq_none (by simp; omega), List.getElem?_eq_none (by omega)]
def loadTo (L0 L : List (List (BitVec 8))) (i : Nat) : List (List (BitVec 8)) := L0.take i ++ L.drop i
theorem loadTo_length (L0 L : List (List (BitVec 8))) (i : Nat) (hl : L0.length = L.length) (hi : i ≤ L.length) : (loadTo L0 L i).length = L.length := by
  simp [loadTo]; omega
theorem loadTo_step (L0 L : List (List (BitVec 8))) (i : Nat) (hl : L0.length = L.length) (hi : i < L.length) : (loadTo L0 L i).set i (L0.getD i []) = loadTo L0 L (i + 1) := by
  apply List.ext_getElem?
  intro j
  unfold loadTo
  by_cases e : i = j
  · subst e
    rw [List.getElem?_set_self (by simp; omega), List.getElem?_append_left (by simp; omega), List.getElem?_take, if_pos (by omega), List.getD_eq_getElem?_getD, List.getElem?_eq_getElem (by omega)]
    rfl
  · rw [List.getElem?_set_ne e]
    by_cases hj : j < i
    · rw [List.getElem?_append_left (by simp; omega), List.getElem?_append_left (by simp; omega), List.getElem?_take, if_pos hj, List.getElem?_take, if_pos (by omega)]
    · rw [List.getElem?_append_right (by simp; omega), List.getElem?_append_right (by simp; omega), List.getElem?_drop, List.getElem?_drop]
      congr 1
      simp
      omega
theorem loadTo_end (L0 L : List (List (BitVec 8))) (hl : L0.length = L.length) : loadTo L0 L L.length = L0 := by
  unfold loadTo
  rw [List.take_of_length_le (by omega), List.drop_length, List.append_nil]
def StS.loaded (s : StS) (L0 : List (List (BitVec 8))) : StS := { s with L := L0, W := [] }
theorem StS.Ok.loaded {s : StS} (h : s.Ok) {L0 : List (List (BitVec 8))} (hb : Blocks L0) (hl : L0.length = s.L.length) : (s.loaded L0).Ok :=
  ⟨hb, fun x hx => by simp [StS.loaded] at hx, by simpa [StS.loaded, hl] using h.reads, by simpa [StS.loaded, hl] using h.some, by simpa [StS.loaded, hl] using h.most, h.calls, h.counts⟩
theorem run_cut_Sv (w : World) (m : List (BitVec 8)) (l h : Nat) (hl : l ≤ h) (hh : h ≤ m.length) : (Instr.slice 9 (Sv m) (some (.int .i64 (l : Int))) (some (.int .i64 (h : Int))) none).run Try.prog w = .ok (Sv ((m.drop l).take (h - l))) w := by
  have hs := strOf_size m
  have h1 : h ≤ (strOf m).size := by omega
  simp [Sv, Instr.slice, run_underlying Try.underlying9, Instr.sliceBounds, run_sliceBound, h1, hl]
  exact strOf_extract m l h
section
variable {w : World} {base : Nat} {f : RfF} {s : StS}
set_option maxRecDepth 100000 in
theorem rimage_any (h : RAt w base f s) : Calls Try.prog 22 #[.pointer (some ⟨f.b, 0, none⟩)] w fun e w' => e = .returned (Sv (flatB s.L)) ∧ w' = w := by
  obtain ⟨g, gcap, hlv, _, hcell, _, _⟩ := (RMid.start h).slices h.ok
  have d0 := h.cell0
  rw [hlv] at d0
  have HS := Lib.hid (And.intro h hcell)
  have hml := h.ok.most
  clear h hlv hcell
  go_enter Try.func22, Try.ntmps22
  go_wp2_with (fail)
  go_loopw [3, 11] (fun v u wr => ∃ i : Nat, i ≤ s.L.length ∧ u = .int .i64 (i : Int) ∧ v = Sv (flatB (s.L.take i)) ∧ wr = w) (fun _ u _ => s.L.length - (intOf u).toNat)
  case atStart => exact ⟨0, Nat.zero_le _, rfl, rfl, rfl⟩
  case round =>
    obtain ⟨i, hi, rfl, rfl, rfl⟩ := hrel
    by_cases hlt : i < s.L.length
    · have hi0 : (0 : Int) ≤ (i : Int) ∧ (i : Int) < s.L.length := by omega
      have hci := HS.out.2 i hlt
      obtain ⟨b, hb⟩ : ∃ b, b = s.L.getD i [] := ⟨_, rfl⟩
      rw [← hb] at hci
      obtain ⟨m, hm⟩ : ∃ m, m = flatB (s.L.take i) := ⟨_, rfl⟩
      rw [← hm]
      have hml' : m.length ≤ 524288 := by
        rw [hm, flatB_length fun x hx => HS.out.1.ok.blocks x (List.mem_of_mem_take hx), List.length_take]
        omega
      have hbl : b.length = 128 := by rw [hb]; exact HS.out.1.ok.blocks.at hlt
      have hadd : ∀ w', (binOp .add 9 (Sv m) (Sv b)).run Try.prog w' = .ok (Sv (m ++ b)) w' := fun w' => run_add_SvW w' m b (by omega)
      have htk : flatB (s.L.take (i + 1)) = m ++ b := by
        rw [take_snoc s.L i b (by rw [hb, List.getD_eq_getElem?_getD, List.getElem?_eq_getElem hlt]; rfl), flatB_append, hm]
        simp [flatB]
      have HM := Lib.hid htk
      clear htk hm hb hml' hbl hlt
      go_wp2_with (fail)
      exact ⟨⟨i + 1, by omega, by go_num, by rw [HM.out], trivial⟩, by simp [intOf]; omega⟩
    · obtain rfl : i = s.L.length := by omega
      go_wp2_with (fail)
      go_ret
      rw [List.take_length]
      exact ⟨rfl, rfl⟩
theorem rload_no (h : RAt w base f s) (b : List (BitVec 8)) (hb : b.length ≠ 128 * s.L.length) : Calls Try.prog 45 #[.pointer (some ⟨f.b, 0, none⟩), Sv b] w fun e w' => e = .returned (.bool false) ∧ w' = w := by
  obtain ⟨⟨a, c, hl⟩, _⟩ := h.slice
  have d0 := h.cell0
  have hml := h.ok.most
  rw [hl] at d0
  have hlen := fun w' => run_len_Sv w' 3 b
  have hb' : ((b.length : Int) != 128 * (s.L.length : Int)) = true := by
    have : ¬ (b.length : Int) = 128 * (s.L.length : Int) := by omega
    simpa using this
  clear h hl hb
  go_enter Try.func45, Try.ntmps45
  go_wp2_with (fail)
  go_ret
  exact ⟨rfl, rfl⟩
set_option maxRecDepth 100000 in
set_option maxHeartbeats 1000000 in
theorem rload_any (h : RAt w base f s) (L0 : List (List (BitVec 8))) (hb : Blocks L0) (hl0 : L0.length = s.L.length) :
    Calls Try.prog 45 #[.pointer (some ⟨f.b, 0, none⟩), Sv (flatB L0)] w fun e w' => e = .returned (.bool true) ∧ REnd w base f (s.loaded L0) w' := by
  obtain ⟨⟨a, c, hl⟩, _⟩ := h.slice
  have d0 := h.cell0
  have hml := h.ok.most
  rw [hl] at d0
  have HS := Lib.hid (And.intro h (And.intro hb (And.intro hl0 hl)))
  obtain ⟨m, hm⟩ : ∃ m, m = flatB L0 := ⟨_, rfl⟩
  rw [← hm]
  have hmlen : m.length = 128 * s.L.length := by rw [hm, flatB_length hb, hl0]
  have hlen := fun w' => run_len_Sv w' 3 m
  rw [hmlen, Int.natCast_mul] at hlen
  have hlen' : ∀ w', (Builtin.len_ #[9] 3 #[Sv m]).run Try.prog w' = .ok (.int .i64 (128 * (s.L.length : Int))) w' := hlen
  obtain ⟨ms, hms⟩ : ∃ u, Sv m = .string u := ⟨_, rfl⟩
  rw [hms] at hlen' ⊢
  have hsz : ms.size = 128 * s.L.length := by
    have e1 : strOf m = ms := by injection hms
    rw [← e1, strOf_size, hmlen]
  have HM := Lib.hid (And.intro hm (And.intro hmlen hms))
  clear h hl hb hl0 hm hmlen hms hlen
  go_enter Try.func45, Try.ntmps45
  go_wp2_with (fail)
  go_loopw [20] (fun u wr => ∃ i : Nat, i ≤ s.L.length ∧ u = .int .i64 (i : Int) ∧ RMid w base f s (loadTo L0 s.L i) wr) (fun u _ => s.L.length - (intOf u).toNat)
  case atStart => exact ⟨0, Nat.zero_le _, rfl, RMid.start HS.out.1⟩
  case round =>
    obtain ⟨i, hi, rfl, hR⟩ := hrel
    clear d0
    by_cases hlt : i < s.L.length
    · have hi0 : (0 : Int) ≤ (i : Int) ∧ (i : Int) < s.L.length := by omega
      obtain ⟨g, gcap, hlv, _, hcell, hfro, hset⟩ := hR.slices HS.out.1.ok
      have e0 : wr.cell? ⟨f.b, 0, none⟩ = some (.slice (some ⟨g, 0, none⟩) s.L.length gcap) := by
        rw [cell_of_row _ _ _ _ _ _ hR.obj, hlv]
        rfl
      obtain ⟨rfl, rfl⟩ : a = some ⟨g, 0, none⟩ ∧ c = gcap := by
        have h1 := HS.out.2.2.2
        rw [hlv] at h1
        injection h1 with h1 h2 h3
        exact ⟨h1.symm, h3.symm⟩
      have ec := hcell i hlt
      have ef := hfro i
      obtain ⟨ov, hov⟩ : ∃ ov, Sv ((loadTo L0 s.L i).getD i []) = .string ov := ⟨_, rfl⟩
      rw [hov] at ec
      obtain ⟨cs, hcs⟩ : ∃ u, Sv (L0.getD i []) = .string u := ⟨_, rfl⟩
      have hsl : ∀ w', (Instr.slice 9 (.string ms) (some (.int .i64 (128 * (i : Int)))) (some (.int .i64 (128 * (i : Int) + 128))) none).run Try.prog w' = .ok (.string cs) w' := fun w' => by
        have h1 := run_cut_Sv w' m (128 * i) (128 * i + 128) (by omega) (by rw [HM.out.2.1]; omega)
        rw [show 128 * i + 128 - 128 * i = 128 by omega, HM.out.1, flatB_cut HS.out.2.1 i (by rw [HS.out.2.2.1]; exact hlt), hcs, ← HM.out.1, HM.out.2.2] at h1
        rw [← h1]
        congr 2
      have hE := hset i (L0.getD i [])
      rw [loadTo_step L0 s.L i HS.out.2.2.1 hlt, hcs] at hE
      have HE := Lib.hid hE
      have hi128 : (128 : Int) * (i : Int) + 128 ≤ 524288 := by omega
      clear hR hlv hcell hfro hset hE hov hcs hlt
      go_wp2_with (fail)
      go_region
      go_wp2_with (fail)
      exact ⟨⟨i + 1, by omega, by go_num, HE.out.far ⟨rfl, rfl, rfl, Nat.le_refl _, fun _ _ => rfl⟩⟩, by simp [intOf]; omega⟩
    · obtain rfl : i = s.L.length := by omega
      have c1 : wr.cell? ⟨f.b, 1, none⟩ = some f.wv := by rw [cell_of_row _ _ _ _ _ _ hR.obj]; rfl
      have f1 := frozen_of_row wr f.b 1 _ _ hR.obj
      rw [loadTo_end L0 s.L HS.out.2.2.1] at hR
      have HE := Lib.hid (hR.drop HS.out.1 (s' := s.loaded L0) (HS.out.1.ok.loaded HS.out.2.1 HS.out.2.2.1) rfl rfl rfl rfl)
      clear hR hlt
      go_wp2_with (fail)
      go_ret
      exact ⟨rfl, HE.out⟩
/-- What Reads leaves: the counts that were, and new ones. -/
theorem rreads_any (h : RAt w base f s) (hbase : base ≤ w.heap.size) : Calls Try.prog 48 #[.pointer (some ⟨f.b, 0, none⟩)] w fun e w' =>
    e = .returned f.cv ∧ Own w' base 3 f.cv (countC s.R) ∧ ∃ f', RAt w' base f' s.zeroed ∧ f'.b = f.b ∧ (∀ k, f'.has k → (f.has k ∧ f.cv.ownBlock ≠ some k) ∨ w.heap.size ≤ k) ∧ Moved (fun k => k = f.b) w w' := by
  obtain ⟨_, _, ⟨ca, cc, hcv⟩⟩ := h.slice
  have d3 := h.cell3
  have f3 := h.free 3
  rw [hcv] at d3
  have mi := mk_ints s.L.length h.ok.most
  obtain ⟨w1, hw1⟩ : ∃ W, W = w.alloc (.cells (rowR (List.replicate s.L.length 0)) 3) := ⟨_, rfl⟩
  have hB : Below w.heap.size w w1 := by rw [hw1]; exact (Below.refl _ w).alloc (Nat.le_refl _) _
  have h1 := h.far hB
  have mi' : (Instr.makeSlice 36 (.int .i64 (s.L.length : Int)) (.int .i64 (s.L.length : Int))).run Try.prog w = .ok (.slice (some ⟨w.heap.size, 0, none⟩) s.L.length s.L.length) w1 := by rw [hw1]; exact mi w
  have e3 : w1.cell? ⟨f.b, 3, none⟩ = some (.slice ca s.L.length cc) := by rw [h1.cell3, hcv]
  have g3 := h1.free 3
  have hn : Own w1 base 3 (.slice (some ⟨w.heap.size, 0, none⟩) s.L.length s.L.length) (countC (List.replicate s.L.length 0)) := by
    refine ⟨by simp [countC], .inr ⟨w.heap.size, s.L.length, rowR (List.replicate s.L.length 0), by simp [countC], hbase, by rw [hw1, heap_alloc_new], by simp [countC], by have := h.ok.most; unfold maxLen; omega, by simp [rowR], ?_⟩⟩
    simp [countC, rowR]
  have HE : Hid (Own (w1.setCell ⟨f.b, 3, none⟩ (.slice (some ⟨w.heap.size, 0, none⟩) s.L.length s.L.length)) base 3 f.cv (countC s.R) ∧ ∃ f', RAt (w1.setCell ⟨f.b, 3, none⟩ (.slice (some ⟨w.heap.size, 0, none⟩) s.L.length s.L.length)) base f' s.zeroed ∧ f'.b = f.b ∧
      (∀ k, f'.has k → (f.has k ∧ f.cv.ownBlock ≠ some k) ∨ w.heap.size ≤ k) ∧ Moved (fun k => k = f.b) w (w1.setCell ⟨f.b, 3, none⟩ (.slice (some ⟨w.heap.size, 0, none⟩) s.L.length s.L.length))) := by
    refine ⟨own_obj h1.count h1.obj (by decide) _ _, { f with cv := .slice (some ⟨w.heap.size, 0, none⟩) s.L.length s.L.length },
      ⟨h.ok.zeroed, ?_, own_obj h1.last h1.obj (by decide) _ _, own_obj h1.waits h1.obj (by decide) _ _, own_obj hn h1.obj (by decide) _ _, h.low⟩, rfl, fun k hk => ?_, (Moved.of_below hB).then_ (Moved.cell (H := fun k => k = f.b) rfl _ _)⟩
    · rw [(obj_step h1.obj 3 _).1]
      rfl
    · rcases hk with e | e | e | e
      · exact .inl ⟨.inl e, by rw [e]; exact own_ty h.count h.obj (by decide)⟩
      · exact .inl ⟨.inr (.inl e), own_two h.last h.count (by decide) e⟩
      · exact .inl ⟨.inr (.inr (.inl e)), own_two h.waits h.count (by decide) e⟩
      · right
        injection e with e
        have : w.heap.size = k := e
        omega
  have HC := Lib.hid hcv
  clear h hcv mi hw1 hB h1 hn
  go_enter Try.func48, Try.ntmps48
  go_wp2_with (fail)
  go_ret
  exact ⟨by rw [HC.out]; rfl, HE.out⟩
end
/-- Numbers in a row. -/
def IntRow (w : World) (a : Option Addr) (R : List Int) : Prop := R.length = 0 ∨ ∃ g, a = some ⟨g, 0, none⟩ ∧ ∀ j < R.length, w.cell? ⟨g, j, none⟩ = some (.int .i64 (R.getD j 0))
set_option maxRecDepth 100000 in
theorem rsameInts_any (w : World) (a1 a2 : Option Addr) (c1 c2 : Nat) (R : List Int) (h1 : IntRow w a1 R) (h2 : IntRow w a2 R) (hR : R.length ≤ 4096) :
    Calls Try.prog 47 #[.slice a1 R.length c1, .slice a2 R.length c2] w fun e w' => e = .returned (.bool true) ∧ Below w.heap.size w w' := by
  obtain ⟨n, hn⟩ : ∃ n, n = R.length := ⟨_, rfl⟩
  rw [← hn] at hR ⊢
  have HN := Lib.hid (And.intro hn (And.intro h1 h2))
  clear hn h1 h2
  go_enter Try.func47, Try.ntmps47
  go_wp2_with (fail)
  go_loopw [13] (fun u wr => ∃ i : Nat, i ≤ n ∧ u = .int .i64 (i : Int) ∧ Below w.heap.size w wr) (fun u _ => n - (intOf u).toNat)
  case atStart => exact ⟨0, Nat.zero_le _, rfl, Below.refl _ _⟩
  case round =>
    obtain ⟨i, hi, rfl, hB⟩ := hrel
    by_cases hlt : i < n
    · have hi0 : (0 : Int) ≤ (i : Int) ∧ (i : Int) < n := by omega
      obtain ⟨hn, h1, h2⟩ := HN.out
      obtain ⟨g1, rfl, k1⟩ : ∃ g, a1 = some ⟨g, 0, none⟩ ∧ ∀ j < R.length, w.cell? ⟨g, j, none⟩ = some (.int .i64 (R.getD j 0)) := by
        rcases h1 with h | h
        · omega
        · exact h
      obtain ⟨g2, rfl, k2⟩ : ∃ g, a2 = some ⟨g, 0, none⟩ ∧ ∀ j < R.length, w.cell? ⟨g, j, none⟩ = some (.int .i64 (R.getD j 0)) := by
        rcases h2 with h | h
        · omega
        · exact h
      have x1 := k1 i (by omega)
      have x2 := k2 i (by omega)
      obtain ⟨r, hr⟩ : ∃ r, r = R.getD i 0 := ⟨_, rfl⟩
      rw [← hr] at x1 x2
      have y1 : wr.cell? ⟨g1, i, none⟩ = some (.int .i64 r) := (hB.cell (p := ⟨g1, i, none⟩) (block_lt_of_cell x1)).trans x1
      have y2 : wr.cell? ⟨g2, i, none⟩ = some (.int .i64 r) := (hB.cell (p := ⟨g2, i, none⟩) (block_lt_of_cell x2)).trans x2
      have HB := Lib.hid hB
      clear hB hn h1 h2 k1 k2 x1 x2 hr hlt
      go_wp2_with (fail)
      go_region
      go_wp2_with (fail)
      exact ⟨⟨i + 1, by omega, by go_num, HB.out.trans ⟨rfl, rfl, rfl, Nat.le_refl _, fun _ _ => rfl⟩⟩, by simp [intOf]; omega⟩
    · obtain rfl : i = n := by omega
      have HB := Lib.hid hB
      clear hB hlt
      go_wp2_with (fail)
      go_ret
      exact ⟨rfl, HB.out⟩
end Go.Proofs.Ytggecfecodoigaa
