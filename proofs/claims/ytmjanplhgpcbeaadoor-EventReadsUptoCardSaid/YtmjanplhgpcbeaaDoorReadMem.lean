/-
  A reader in memory; the contracts of Read, Fail, Err, Left, End; of a nil reader's.
-/
import Derived.Test.YtmjanplhgpcbeaaDoorPenClone
import Derived.Test.YtmjanplhgpcbeaaDoorRefTapes
namespace Go.Proofs.YtmjanplhgpcbeaaDoor
open Go Go.RowKit

/-- The bytes m lie from a on, in a block below base that is not b. -/
def SrcR (base b : Nat) (w : World) (a : Option Addr) (m : List (BitVec 8)) : Prop :=
  m.length = 0 ∨ ∃ ab off, a = some ⟨ab, off, none⟩ ∧ ab < base ∧ ab ≠ b ∧ ∀ i < m.length, w.cell? ⟨ab, off + i, none⟩ = some (B (gl m i))
theorem SrcR.srcP {base b : Nat} {w : World} {a : Option Addr} {m : List (BitVec 8)} (h : SrcR base b w a m) : SrcP w a m.length m := by
  rcases h with h | ⟨ab, off, h1, _, _, h3⟩
  · exact .inl h
  · exact .inr ⟨ab, off, h1, h3⟩
theorem SrcR.grown {base b : Nat} {w w' : World} {a : Option Addr} {m : List (BitVec 8)} (h : SrcR base b w a m) (hg : w.grownBy w' (some b)) : SrcR base b w' a m := by
  rcases h with h | ⟨ab, off, h1, h2, h3, h4⟩
  · exact .inl h
  · exact .inr ⟨ab, off, h1, h2, h3, fun i hi => hg.cell (h4 i hi) (by simpa using h3)⟩
theorem SrcR.drop {base b : Nat} {w : World} {a : Option Addr} {m : List (BitVec 8)} (h : SrcR base b w a m) (k : Nat) (cap : Nat) (hc : m.length ≤ cap) (hk : k ≤ m.length) : SrcR base b w (if cap = k then a else a.map (·.add k)) (m.drop k) := by
  by_cases h0 : m.length ≤ k
  · exact .inl (by rw [List.length_drop]; omega)
  · rcases h with h | ⟨ab, off, rfl, h2, h3, h4⟩
    · omega
    · rw [if_neg (show ¬ cap = k by omega)]
      refine .inr ⟨ab, off + k, by simp [addr_add], h2, h3, fun i hi => ?_⟩
      rw [List.length_drop] at hi
      rw [Nat.add_assoc, h4 (k + i) (by omega)]
      simp [gl]
theorem SrcR.take {base b : Nat} {w : World} {a : Option Addr} {m : List (BitVec 8)} (h : SrcR base b w a m) (k : Nat) : SrcP w a (m.take k).length (m.take k) := by
  rcases h with h | ⟨ab, off, rfl, h2, h3, h4⟩
  · exact .inl (by rw [List.length_take]; omega)
  · refine .inr ⟨ab, off, rfl, fun i hi => ?_⟩
    rw [List.length_take] at hi
    rw [h4 i (by omega)]
    have : i < k := by omega
    simp [gl, this]
/-- A reader in block b that has told what t says; the bytes left lie below base. -/
def RdAt (base : Nat) (w : World) (b : Nat) (t : TapeL) : Prop :=
  ∃ a n c, w.heap[b]? = some (.cells #[.slice a n c, .int .i64 t.e] 73 (0, 0)) ∧ n = t.s.length ∧ n ≤ c ∧ c ≤ 9223372036854775807 ∧ (a = none → c = 0) ∧ SrcR base b w a t.s ∧ (t.e ≠ 0 → t.s = []) ∧ t.s.length ≤ 1073741824
def RdEnd (base : Nat) (w : World) (b : Nat) (t : TapeL) (v : Value) (e : Ending) (w' : World) : Prop := e = .returned v ∧ RdAt base w' b t ∧ w.grownBy w' (some b)
theorem RdAt.lt {base b : Nat} {w : World} {t : TapeL} (h : RdAt base w b t) : b < w.heap.size := by
  obtain ⟨a, n, c, hb, _⟩ := h
  exact (Array.getElem?_eq_some_iff.1 hb).1
/-- The reader stays as it is while neither its block nor what lies below base is written. -/
theorem RdAt.same {base b : Nat} {w w' : World} {t : TapeL} (h : RdAt base w b t) (hb : w'.heap[b]? = w.heap[b]?) (hs : ∀ k < base, k < w.heap.size → k ≠ b → w'.heap[k]? = w.heap[k]?) : RdAt base w' b t := by
  obtain ⟨a, n, c, h1, h2, h3, h4, h5, h6, h7⟩ := h
  refine ⟨a, n, c, hb.trans h1, h2, h3, h4, h5, ?_, h7⟩
  rcases h6 with h6 | ⟨ab, off, k1, k2, k3, k4⟩
  · exact .inl h6
  · refine .inr ⟨ab, off, k1, k2, k3, fun i hi => ?_⟩
    have hc := k4 i hi
    have hl := block_lt_of_cell hc
    simp only [World.cell?] at hc ⊢
    rw [hs ab k2 hl k3]
    exact hc
theorem RdAt.below {base b : Nat} {w w' : World} {t : TapeL} (h : RdAt base w b t) (hB : Below w.heap.size w w') : RdAt base w' b t :=
  h.same (hB.block b h.lt) fun k _ hk _ => hB.block k hk
/-- What a reader's methods change: its own block. -/
theorem rd_cells {w : World} {b n c : Nat} {a : Option Addr} {e : Int} (hb : w.heap[b]? = some (.cells #[.slice a n c, .int .i64 e] 73 (0, 0))) :
    w.cell? ⟨b, 0, none⟩ = some (.slice a n c) ∧ w.cell? ⟨b, 1, none⟩ = some (.int .i64 e) ∧ w.frozen? ⟨b, 0, none⟩ = false ∧ w.frozen? ⟨b, 1, none⟩ = false := by
  refine ⟨?_, ?_, frozen_of_row w b 0 _ _ hb, frozen_of_row w b 1 _ _ hb⟩
  · rw [cell_of_row _ _ _ _ _ _ hb]; rfl
  · rw [cell_of_row _ _ _ _ _ _ hb]; rfl
theorem rread_any (w : World) (a : Option Addr) (c n : Nat) (m : List (BitVec 8)) (hn : n = m.length) (h : SrcP w a m.length m) (hc : a = none → c = 0) (hl : m.length ≤ 1073741824) :
    Calls Tryd.prog 21 #[.slice a n c] w fun e w' => ∃ b, e = .returned (.pointer (some ⟨b, 0, none⟩)) ∧ RdAt w'.heap.size w' b ⟨m, 0⟩ ∧ w.heap.size ≤ b ∧ Below w.heap.size w w' := by
  have HS := Lib.hid (bclone_any w a c n m hn h hc hl)
  have HL := Lib.hid hl
  obtain ⟨P, hP⟩ : ∃ P : Ending → World → Prop, P = fun e w' => ∃ b, e = .returned (.pointer (some ⟨b, 0, none⟩)) ∧ RdAt w'.heap.size w' b ⟨m, 0⟩ ∧ w.heap.size ≤ b ∧ Below w.heap.size w w' := ⟨_, rfl⟩
  rw [← hP]
  have HP := Lib.hid hP
  clear hn h hc hl hP
  go_enter Tryd.func21, Tryd.ntmps21
  go_wp2_with (fail)
  refine HS.out.mono ?_
  rintro e w1 ⟨a', c', rfl, h1, h2, h2b, h3, h4⟩
  have HK := Lib.hid (And.intro h1 (And.intro h2 (And.intro h2b (And.intro h3 h4))))
  obtain ⟨N, hN⟩ : ∃ N, N = m.length := ⟨_, rfl⟩
  rw [← hN]
  have HN := Lib.hid hN
  clear h1 h2 h2b h3 h4 hN
  dsimp only
  go_wp2_with (fail)
  rw [HP.out]
  obtain ⟨h1, h2, h2b, h3, h4⟩ := HK.out
  refine ⟨w1.heap.size, rfl, ⟨a', N, c', heap_alloc_new w1 _, HN.out, by rw [HN.out]; exact h1, h2, h2b, ?_, fun h => (h rfl).elim, HL.out⟩, h4.size, h4.trans ((Below.refl _ w1).alloc h4.size _)⟩
  rcases h3 with h3 | ⟨ab, off, k1, k2, k3⟩
  · exact .inl h3
  · by_cases h0 : m.length = 0
    · exact .inl h0
    · have hl := block_lt_of_cell (k3 0 (by omega))
      have hl2 : ab < w1.heap.size := hl
      refine .inr ⟨ab, off, k1, by simp; omega, by omega, fun i hi => ?_⟩
      exact (((Below.refl _ w1).alloc (Nat.le_refl _) _ : Below w1.heap.size w1 _).cell (p := ⟨ab, off + i, none⟩) (block_lt_of_cell (k3 i hi))).trans (k3 i hi)
theorem rfail_nil (w : World) (e : Int) : Calls Tryd.prog 47 #[.pointer none, .int .i64 e] w fun e w' => e = .returned (.tuple #[]) ∧ w' = w := by
  go_enter Tryd.func47, Tryd.ntmps47
  go_wp2_with (fail)
  exact bodyPost_ret (v := .tuple #[]) (results_none rfl _ _ _) rfl ⟨rfl, rfl⟩
theorem rerr_nil (w : World) : Calls Tryd.prog 48 #[.pointer none] w fun e w' => e = .returned (.int .i64 1) ∧ w' = w := by
  go_enter Tryd.func48, Tryd.ntmps48
  go_wp2_with (fail)
  go_ret
  exact ⟨rfl, rfl⟩
theorem rleft_nil (w : World) : Calls Tryd.prog 52 #[.pointer none] w fun e w' => e = .returned (.int .i64 0) ∧ w' = w := by
  go_enter Tryd.func52, Tryd.ntmps52
  go_wp2_with (fail)
  go_ret
  exact ⟨rfl, rfl⟩
theorem rend_nil (w : World) : Calls Tryd.prog 24 #[.pointer none] w fun e w' => e = .returned (.int .i64 1) ∧ w' = w := by
  go_enter Tryd.func24, Tryd.ntmps24
  go_wp2_with (fail)
  refine (rerr_nil w).mono ?_
  rintro e w1 ⟨rfl, rfl⟩
  dsimp only
  go_wp2_with (fail)
  go_ret
  exact ⟨rfl, rfl⟩
theorem rerr_any (w : World) (base b : Nat) (t : TapeL) (h : RdAt base w b t) : Calls Tryd.prog 48 #[.pointer (some ⟨b, 0, none⟩)] w fun e w' => e = .returned (.int .i64 t.e) ∧ w' = w := by
  obtain ⟨a, n, c, hb, _⟩ := h
  obtain ⟨c0, c1, f0, f1⟩ := rd_cells hb
  clear hb
  go_enter Tryd.func48, Tryd.ntmps48
  go_wp2_with (fail)
  go_ret
  exact ⟨rfl, rfl⟩
theorem rleft_any (w : World) (base b : Nat) (t : TapeL) (h : RdAt base w b t) : Calls Tryd.prog 52 #[.pointer (some ⟨b, 0, none⟩)] w fun e w' => e = .returned (.int .i64 (t.s.length : Int)) ∧ w' = w := by
  obtain ⟨a, n, c, hb, hn, _⟩ := h
  rw [← hn]
  obtain ⟨c0, c1, f0, f1⟩ := rd_cells hb
  clear hb hn
  go_enter Tryd.func52, Tryd.ntmps52
  go_wp2_with (fail)
  go_ret
  exact ⟨rfl, rfl⟩
theorem rend_any (w : World) (base b : Nat) (t : TapeL) (h : RdAt base w b t) : Calls Tryd.prog 24 #[.pointer (some ⟨b, 0, none⟩)] w fun e w' => e = .returned (.int .i64 t.done) ∧ w' = w := by
  have HE := Lib.hid (rerr_any w base b t h)
  have HL := Lib.hid (rleft_any w base b t h)
  obtain ⟨te, hte⟩ : ∃ x, x = t.e := ⟨_, rfl⟩
  obtain ⟨tn, htn⟩ : ∃ x, x = t.s.length := ⟨_, rfl⟩
  obtain ⟨td, htd⟩ : ∃ x, x = t.done := ⟨_, rfl⟩
  rw [← hte] at HE
  rw [← htn] at HL
  rw [← htd]
  unfold TapeL.done at htd
  have hs : t.s ≠ [] ↔ 0 < tn := by rw [htn, List.length_pos_iff]
  rw [← hte] at htd
  clear h
  by_cases h1 : te = 0
  · have e1 : (te != 0) = false := by rw [h1]; rfl
    by_cases h2 : 0 < tn
    · have h2' : (0 : Int) < (tn : Int) := by omega
      obtain rfl : td = 13 := by rw [htd, if_pos ⟨h1, hs.2 h2⟩]
      clear h1 h2 hs hte htn htd
      go_enter Tryd.func24, Tryd.ntmps24
      go_wp2_with (fail)
      refine HE.out.mono ?_
      rintro e w1 ⟨rfl, rfl⟩
      dsimp only
      go_wp2_with (fail)
      refine HL.out.mono ?_
      rintro e w2 ⟨rfl, rfl⟩
      dsimp only
      go_wp2_with (fail)
      go_ret
      exact ⟨rfl, rfl⟩
    · have h2' : ¬ (0 : Int) < (tn : Int) := by omega
      obtain rfl : td = 0 := by rw [htd, if_neg (fun h => h2 (hs.1 h.2)), h1]
      clear h1 h2 hs hte htn htd
      go_enter Tryd.func24, Tryd.ntmps24
      go_wp2_with (fail)
      refine HE.out.mono ?_
      rintro e w1 ⟨rfl, rfl⟩
      dsimp only
      go_wp2_with (fail)
      refine HL.out.mono ?_
      rintro e w2 ⟨rfl, rfl⟩
      dsimp only
      go_wp2_with (fail)
      go_ret
      exact ⟨rfl, rfl⟩
  · have e1 : (te != 0) = true := by simpa using h1
    obtain rfl : td = te := by rw [htd, if_neg (fun h => h1 h.1)]
    clear h1 hs hte htn htd
    go_enter Tryd.func24, Tryd.ntmps24
    go_wp2_with (fail)
    refine HE.out.mono ?_
    rintro e w1 ⟨rfl, rfl⟩
    dsimp only
    go_wp2_with (fail)
    go_ret
    exact ⟨rfl, rfl⟩
set_option maxRecDepth 100000 in
theorem rfail_any (w : World) (base b : Nat) (t : TapeL) (e : Int) (h : RdAt base w b t) :
    Calls Tryd.prog 47 #[.pointer (some ⟨b, 0, none⟩), .int .i64 e] w (RdEnd base w b (t.fail e) (.tuple #[])) := by
  obtain ⟨a, n, c, hb, hr⟩ := h
  obtain ⟨c0, c1, f0, f1⟩ := rd_cells hb
  have HH := Lib.hid (And.intro hb hr)
  clear hb hr
  obtain ⟨te, hte⟩ : ∃ x, x = t.e := ⟨_, rfl⟩
  rw [← hte] at c1
  have HT := Lib.hid hte
  clear hte
  by_cases h2 : e = 0
  · have e2 : (e == 0) = true := by rw [h2]; rfl
    have hf : t.fail e = t := if_neg (by omega)
    rw [hf]
    clear h2 hf
    go_enter Tryd.func47, Tryd.ntmps47
    go_wp2_with (fail)
    go_end0
    exact ⟨rfl, ⟨a, n, c, HH.out⟩, grown_refl _ _⟩
  · have e2 : (e == 0) = false := by simpa using h2
    by_cases h1 : te = 0
    · have e1 : (te != 0) = false := by rw [h1]; rfl
      have hf : t.fail e = ⟨[], e⟩ := if_pos ⟨by rw [← HT.out]; exact h1, h2⟩
      rw [hf]
      clear h1 h2 hf
      go_enter Tryd.func47, Tryd.ntmps47
      go_wp2_with (fail)
      go_end0
      refine ⟨rfl, ⟨none, 0, 0, ?_, rfl, Nat.le_refl _, by omega, fun _ => rfl, .inl rfl, fun _ => rfl, by simp⟩, grown_trans (grown_setCell w b 1 _) (grown_setCell _ b 0 _)⟩
      have h1 := heap_setCell_same w b 1 _ _ (.int .i64 e) HH.out.1
      exact heap_setCell_same _ b 0 _ _ (.slice none 0 0) h1
    · have e1 : (te != 0) = true := by simpa using h1
      have hf : t.fail e = t := if_neg (by have := HT.out; omega)
      rw [hf]
      clear h1 h2 hf
      go_enter Tryd.func47, Tryd.ntmps47
      go_wp2_with (fail)
      go_end0
      exact ⟨rfl, ⟨a, n, c, HH.out⟩, grown_refl _ _⟩
end Go.Proofs.YtmjanplhgpcbeaaDoor
