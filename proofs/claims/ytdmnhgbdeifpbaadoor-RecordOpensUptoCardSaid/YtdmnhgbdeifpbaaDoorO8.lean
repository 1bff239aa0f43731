/-
  Part 8 of 42 of what the proof leans on.
-/
import Derived.Test.YtdmnhgbdeifpbaaDoorO6
import Derived.Test.YtdmnhgbdeifpbaaDoorO7
import Derived.Test.YtdmnhgbdeifpbaaDoorO1
namespace Go.Proofs.YtdmnhgbdeifpbaaDoor
open Go Go.RowKit
def SrcR (base b : Nat) (w : World) (a : Option Addr) (m : List (BitVec 8)) : Prop :=
  m.length = 0 ∨ ∃ ab off, a = some ⟨ab, off, none⟩ ∧ ab < base ∧ ab ≠ b ∧ ∀ i < m.length, w.cell? ⟨ab, off + i, none⟩ = some (B (gl m i))
theorem SrcR.grown {base b : Nat} {w w' : World} {a : Option Addr} {m : List (BitVec 8)} (h : SrcR base b w a m) (hg : w.grownBy w' (some b)) : SrcR base b w' a m := by
  rcases h with h | ⟨ab, off, h1, h2, h3, h4⟩
  · exact .inl h
  · exact .inr ⟨ab, off, h1, h2, h3, fun i hi => hg.cell (h4 i hi) (by simpa using h3)⟩
theorem SrcR.drop {base b : Nat} {w : World} {a : Option Addr} {m : List (BitVec 8)} (h : SrcR base b w a m) (k : Nat) (cap : Nat) (hc : m.length ≤ cap) (hk : k ≤ m.length) : SrcR base b w (if cap = k then a else a.map (·.add k)) (m.drop k) := by
  by_cases h0 : m.length ≤ k
  · exact .inl (by rw [List.length_drop]; omega)
  · rcases h with h | ⟨ab, off, rfl, h2, h3, h4⟩
    · omega
    · rw [if_neg (show ¬ cap = k by omega)]
      refine .inr ⟨ab, off + k, by simp [addr_add], h2, h3, fun i hi => ?_⟩
      rw [List.length_drop] at hi
      rw [Nat.add_assoc, h4 (k + i) (by omega)]
      simp [gl]
theorem SrcR.take {base b : Nat} {w : World} {a : Option Addr} {m : List (BitVec 8)} (h : SrcR base b w a m) (k : Nat) : SrcP w a (m.take k).length (m.take k) := by
  rcases h with h | ⟨ab, off, rfl, h2, h3, h4⟩
  · exact .inl (by rw [List.length_take]; omega)
  · refine .inr ⟨ab, off, rfl, fun i hi => ?_⟩; rw [List.length_take] at hi
    rw [h4 i (by omega)]
    have : i < k := by omega
    simp [gl, this]
def RdAt (base : Nat) (w : World) (b : Nat) (t : TapeL) : Prop :=
  ∃ a n c, w.heap[b]? = some (.cells #[.slice a n c, .int .i64 t.e] 99 (0, 0)) ∧ n = t.s.length ∧ n ≤ c ∧ c ≤ 9223372036854775807 ∧ (a = none → c = 0) ∧ SrcR base b w a t.s ∧ (t.e ≠ 0 → t.s = []) ∧ t.s.length ≤ 1073741824
def RdEnd (base : Nat) (w : World) (b : Nat) (t : TapeL) (v : Value) (e : Ending) (w' : World) : Prop := e = .returned v ∧ RdAt base w' b t ∧ w.grownBy w' (some b)
theorem RdAt.lt {base b : Nat} {w : World} {t : TapeL} (h : RdAt base w b t) : b < w.heap.size := by
  obtain ⟨a, n, c, hb, _⟩ := h; exact (Array.getElem?_eq_some_iff.1 hb).1
theorem RdAt.same {base b : Nat} {w w' : World} {t : TapeL} (h : RdAt base w b t) (hb : w'.heap[b]? = w.heap[b]?) (hs : ∀ k < base, k < w.heap.size → k ≠ b → w'.heap[k]? = w.heap[k]?) : RdAt base w' b t := by
  obtain ⟨a, n, c, h1, h2, h3, h4, h5, h6, h7⟩ := h; refine ⟨a, n, c, hb.trans h1, h2, h3, h4, h5, ?_, h7⟩
  rcases h6 with h6 | ⟨ab, off, k1, k2, k3, k4⟩
  · exact .inl h6
  · refine .inr ⟨ab, off, k1, k2, k3, fun i hi => ?_⟩; have hc := k4 i hi; have hl := block_lt_of_cell hc; simp only [World.cell?] at hc ⊢; rw [hs ab k2 hl k3]; exact hc
theorem RdAt.below {base b : Nat} {w w' : World} {t : TapeL} (h : RdAt base w b t) (hB : Below w.heap.size w w') : RdAt base w' b t :=
  h.same (hB.block b h.lt) fun k _ hk _ => hB.block k hk
theorem rd_cells {w : World} {b n c : Nat} {a : Option Addr} {e : Int} (hb : w.heap[b]? = some (.cells #[.slice a n c, .int .i64 e] 99 (0, 0))) :
    w.cell? ⟨b, 0, none⟩ = some (.slice a n c) ∧ w.cell? ⟨b, 1, none⟩ = some (.int .i64 e) ∧ w.frozen? ⟨b, 0, none⟩ = false ∧ w.frozen? ⟨b, 1, none⟩ = false := by
  refine ⟨?_, ?_, frozen_of_row w b 0 _ _ hb, frozen_of_row w b 1 _ _ hb⟩
  · rw [cell_of_row _ _ _ _ _ _ hb]; rfl
  · rw [cell_of_row _ _ _ _ _ _ hb]; rfl
theorem rread_any (w : World) (a : Option Addr) (c n : Nat) (m : List (BitVec 8)) (hn : n = m.length) (h : SrcP w a m.length m) (hc : a = none → c = 0) (hl : m.length ≤ 1073741824) :
    Calls Tryd.prog 30 #[.slice a n c] w fun e w' => ∃ b, e = .returned (.pointer (some ⟨b, 0, none⟩)) ∧ RdAt w'.heap.size w' b ⟨m, 0⟩ ∧ w.heap.size ≤ b ∧ Below w.heap.size w w' := by
  have HS := Lib.hid (bclone_any w a c n m hn h hc hl); have HL := Lib.hid hl; obtain ⟨P, hP⟩ : ∃ P : Ending → World → Prop, P = fun e w' => ∃ b, e = .returned (.pointer (some ⟨b, 0, none⟩)) ∧ RdAt w'.heap.size w' b ⟨m, 0⟩ ∧ w.heap.size ≤ b ∧ Below w.heap.size w w' := ⟨_, rfl⟩; rw [← hP]; have HP := Lib.hid hP; clear hn h hc hl hP
  go_enter Tryd.func30, Tryd.ntmps30
  go_wp2_with (fail); refine HS.out.mono ?_; rintro e w1 ⟨a', c', rfl, h1, h2, h2b, h3, h4⟩; have HK := Lib.hid (And.intro h1 (And.intro h2 (And.intro h2b (And.intro h3 h4)))); obtain ⟨N, hN⟩ : ∃ N, N = m.length := ⟨_, rfl⟩; rw [← hN]; have HN := Lib.hid hN; clear h1 h2 h2b h3 h4 hN; dsimp only; go_wp2_with (fail); rw [HP.out]; obtain ⟨h1, h2, h2b, h3, h4⟩ := HK.out
  refine ⟨w1.heap.size, rfl, ⟨a', N, c', heap_alloc_new w1 _, HN.out, by rw [HN.out]; exact h1, h2, h2b, ?_, fun h => (h rfl).elim, HL.out⟩, h4.size, h4.trans ((Below.refl _ w1).alloc h4.size _)⟩
  rcases h3 with h3 | ⟨ab, off, k1, k2, k3⟩
  · exact .inl h3
  · by_cases h0 : m.length = 0
    · exact .inl h0
    · have hl := block_lt_of_cell (k3 0 (by omega))
      have hl2 : ab < w1.heap.size := hl
      refine .inr ⟨ab, off, k1, by simp; omega, by omega, fun i hi => ?_⟩
      exact (((Below.refl _ w1).alloc (Nat.le_refl _) _ : Below w1.heap.size w1 _).cell (p := ⟨ab, off + i, none⟩) (block_lt_of_cell (k3 i hi))).trans (k3 i hi)
theorem rerr_any (w : World) (base b : Nat) (t : TapeL) (h : RdAt base w b t) : Calls Tryd.prog 67 #[.pointer (some ⟨b, 0, none⟩)] w fun e w' => e = .returned (.int .i64 t.e) ∧ w' = w := by
  obtain ⟨a, n, c, hb, _⟩ := h; obtain ⟨c0, c1, f0, f1⟩ := rd_cells hb; clear hb
  go_enter Tryd.func67, Tryd.ntmps67
  go_wp2_with (fail); go_ret; exact ⟨rfl, rfl⟩
theorem rleft_any (w : World) (base b : Nat) (t : TapeL) (h : RdAt base w b t) : Calls Tryd.prog 68 #[.pointer (some ⟨b, 0, none⟩)] w fun e w' => e = .returned (.int .i64 (t.s.length : Int)) ∧ w' = w := by
  obtain ⟨a, n, c, hb, hn, _⟩ := h; rw [← hn]; obtain ⟨c0, c1, f0, f1⟩ := rd_cells hb; clear hb hn
  go_enter Tryd.func68, Tryd.ntmps68
  go_wp2_with (fail); go_ret; exact ⟨rfl, rfl⟩
theorem rend_any (w : World) (base b : Nat) (t : TapeL) (h : RdAt base w b t) : Calls Tryd.prog 35 #[.pointer (some ⟨b, 0, none⟩)] w fun e w' => e = .returned (.int .i64 t.done) ∧ w' = w := by
  have HE := Lib.hid (rerr_any w base b t h); have HL := Lib.hid (rleft_any w base b t h); obtain ⟨te, hte⟩ : ∃ x, x = t.e := ⟨_, rfl⟩; obtain ⟨tn, htn⟩ : ∃ x, x = t.s.length := ⟨_, rfl⟩; obtain ⟨td, htd⟩ : ∃ x, x = t.done := ⟨_, rfl⟩; rw [← hte] at HE; rw [← htn] at HL; rw [← htd]; unfold TapeL.done at htd
  have hs : t.s ≠ [] ↔ 0 < tn := by rw [htn, List.length_pos_iff]
  rw [← hte] at htd; clear h
  by_cases h1 : te = 0
  · have e1 : (te != 0) = false := by rw [h1]; rfl
    by_cases h2 : 0 < tn
    · have h2' : (0 : Int) < (tn : Int) := by omega
      obtain rfl : td = 13 := by rw [htd, if_pos ⟨h1, hs.2 h2⟩]
      clear h1 h2 hs hte htn htd
      go_enter Tryd.func35, Tryd.ntmps35
      go_wp2_with (fail); refine HE.out.mono ?_; rintro e w1 ⟨rfl, rfl⟩; dsimp only; go_wp2_with (fail); refine HL.out.mono ?_; rintro e w2 ⟨rfl, rfl⟩; dsimp only; go_wp2_with (fail); go_ret; exact ⟨rfl, rfl⟩
    · have h2' : ¬ (0 : Int) < (tn : Int) := by omega
      obtain rfl : td = 0 := by rw [htd, if_neg (fun h => h2 (hs.1 h.2)), h1]
      clear h1 h2 hs hte htn htd
      go_enter Tryd.func35, Tryd.ntmps35
      go_wp2_with (fail); refine HE.out.mono ?_; rintro e w1 ⟨rfl, rfl⟩; dsimp only; go_wp2_with (fail); refine HL.out.mono ?_; rintro e w2 ⟨rfl, rfl⟩; dsimp only; go_wp2_with (fail); go_ret; exact ⟨rfl, rfl⟩
  · have e1 : (te != 0) = true := by simpa using h1
    obtain rfl : td = te := by rw [htd, if_neg (fun h => h1 h.1)]
    clear h1 hs hte htn htd
    go_enter Tryd.func35, Tryd.ntmps35
    go_wp2_with (fail); refine HE.out.mono ?_; rintro e w1 ⟨rfl, rfl⟩; dsimp only; go_wp2_with (fail); go_ret; exact ⟨rfl, rfl⟩
set_option maxRecDepth 100000 in
theorem rfail_any (w : World) (base b : Nat) (t : TapeL) (e : Int) (h : RdAt base w b t) :
    Calls Tryd.prog 34 #[.pointer (some ⟨b, 0, none⟩), .int .i64 e] w (RdEnd base w b (t.fail e) (.tuple #[])) := by
  obtain ⟨a, n, c, hb, hr⟩ := h; obtain ⟨c0, c1, f0, f1⟩ := rd_cells hb; have HH := Lib.hid (And.intro hb hr); clear hb hr; obtain ⟨te, hte⟩ : ∃ x, x = t.e := ⟨_, rfl⟩; rw [← hte] at c1; have HT := Lib.hid hte; clear hte
  by_cases h2 : e = 0
  · have e2 : (e == 0) = true := by rw [h2]; rfl
    have hf : t.fail e = t := if_neg (by omega)
    rw [hf]; clear h2 hf
    go_enter Tryd.func34, Tryd.ntmps34
    go_wp2_with (fail)
    go_end0
    exact ⟨rfl, ⟨a, n, c, HH.out⟩, grown_refl _ _⟩
  · have e2 : (e == 0) = false := by simpa using h2
    by_cases h1 : te = 0
    · have e1 : (te != 0) = false := by rw [h1]; rfl
      have hf : t.fail e = ⟨[], e⟩ := if_pos ⟨by rw [← HT.out]; exact h1, h2⟩
      rw [hf]; clear h1 h2 hf
      go_enter Tryd.func34, Tryd.ntmps34
      go_wp2_with (fail)
      go_end0
      refine ⟨rfl, ⟨none, 0, 0, ?_, rfl, Nat.le_refl _, by omega, fun _ => rfl, .inl rfl, fun _ => rfl, by simp⟩, grown_trans (grown_setCell w b 1 _) (grown_setCell _ b 0 _)⟩
      have h1 := heap_setCell_same w b 1 _ _ (.int .i64 e) HH.out.1; exact heap_setCell_same _ b 0 _ _ (.slice none 0 0) h1
    · have e1 : (te != 0) = true := by simpa using h1
      have hf : t.fail e = t := if_neg (by have := HT.out; omega)
      rw [hf]; clear h1 h2 hf
      go_enter Tryd.func34, Tryd.ntmps34
      go_wp2_with (fail)
      go_end0
      exact ⟨rfl, ⟨a, n, c, HH.out⟩, grown_refl _ _⟩
end Go.Proofs.YtdmnhgbdeifpbaaDoor
namespace Go.Proofs.YtdmnhgbdeifpbaaDoor
open Go Go.RowKit
theorem frame62 (A : Array Value) (h : A.size = 62) : ∃ u : Nat → Value, (∀ i, i < 62 → A[i]? = some (u i)) ∧ A = List.toArray (u 0 :: u 1 :: u 2 :: u 3 :: u 4 :: u 5 :: u 6 :: u 7 :: u 8 :: u 9 :: u 10 :: u 11 :: u 12 :: u 13 :: u 14 :: u 15 :: u 16 :: u 17 :: u 18 :: u 19 :: u 20 :: u 21 :: u 22 :: u 23 :: u 24 :: u 25 :: u 26 :: u 27 :: u 28 :: u 29 :: u 30 :: u 31 :: u 32 :: u 33 :: u 34 :: u 35 :: u 36 :: u 37 :: u 38 :: u 39 :: u 40 :: u 41 :: u 42 :: u 43 :: u 44 :: u 45 :: u 46 :: u 47 :: u 48 :: u 49 :: u 50 :: u 51 :: u 52 :: u 53 :: u 54 :: u 55 :: u 56 :: u 57 :: u 58 :: u 59 :: u 60 :: u 61 :: []) := by
  refine ⟨fun i => A.getD i undef, fun i hi => by simp [h, hi], ?_⟩
  have := frame_list A; rw [h] at this
  apply Array.ext'
  rw [this]; rfl
def RNext (b : Nat) (w : World) (l0 : List (BitVec 8)) (a : Act) (w' : World) : Prop :=
  w' = w ∧ a.defers = [] ∧ a.tmps.size = 62 ∧ a.tmps[0]? = some (.pointer (some ⟨b, 0, none⟩)) ∧ a.tmps[6]? = some (.int .i64 10) ∧
    ∃ i n acc : Nat, i + n = 9 ∧ acc < 128 ^ i ∧ i ≤ l0.length ∧ a.tmps[3]? = some (.int .u64 (acc : Int)) ∧ a.tmps[5]? = some (.int .i64 (i : Int)) ∧ rdW (n + 1) i acc (l0.drop i) = rdW 10 0 0 l0
def RWrong (b : Nat) (w : World) (l0 : List (BitVec 8)) (a : Act) (w' : World) : Prop :=
  w' = w ∧ a.defers = [] ∧ a.tmps.size = 62 ∧ a.tmps[0]? = some (.pointer (some ⟨b, 0, none⟩)) ∧ ∃ (k v : Nat) (r : List (BitVec 8)), k ≠ 0 ∧ a.tmps[6]? = some (.int .i64 (k : Int)) ∧ rdW 10 0 0 l0 = (k, v, r)
def rmeasure (a : Act) (_ : World) : Nat := 11 - (intOf ((a.tmps[5]?).getD undef)).toNat
theorem word_wrong {t : TapeL} {k v : Nat} {r : List (BitVec 8)} (h : rdW 10 0 0 t.s = (k, v, r)) (hk : k ≠ 0) : t.word = (0, t.fail (k : Int)) := by
  unfold TapeL.word
  by_cases he : t.e = 0
  · rw [if_neg (by simp [he]), h, if_neg hk]
  · rw [if_pos he, TapeL.fail, if_neg (fun h => he h.1)]
def RBadCut (bad : Bool) (i x : Nat) (W1 : World) (si sx s : Value) (wx : World) : Prop := si = .int .i64 (i : Int) ∧ sx = .int .u8 (x : Int) ∧ s = .bool bad ∧ wx = W1
theorem andNot8 : ∀ x : Fin 256, bits .andNot .u8 (x.val : Int) 128 = ((x.val % 128 : Nat) : Int) := by decide +kernel
theorem or_sum (a z k y : Nat) (hz : z = 2 ^ k * y) (ha : a < 2 ^ k) (hs : a + z < 18446744073709551616) : bits .or .u64 (a : Int) (z : Int) = ((a + z : Nat) : Int) := by
  have e : ∀ n : Nat, BitVec.ofInt 64 (n : Int) = BitVec.ofNat 64 n := fun n => by
    apply BitVec.eq_of_toNat_eq
    simp
  show IntKind.u64.wrap ((BitVec.ofInt 64 (a : Int) ||| BitVec.ofInt 64 (z : Int)).toNat : Int) = _
  rw [e, e, BitVec.toNat_or, BitVec.toNat_ofNat, BitVec.toNat_ofNat, Nat.mod_eq_of_lt (by omega), Nat.mod_eq_of_lt (by omega)]
  have h := Nat.two_pow_add_eq_or_of_lt ha y; rw [← hz] at h; rw [Nat.or_comm, ← h, Nat.add_comm, wrapU64 _ hs]
set_option maxRecDepth 100000 in
set_option maxHeartbeats 2000000 in
theorem rword_any (w : World) (base b : Nat) (t : TapeL) (h : RdAt base w b t) :
    Calls Tryd.prog 63 #[.pointer (some ⟨b, 0, none⟩)] w (RdEnd base w b t.word.2 (.int .u64 (t.word.1 : Int))) := by
  obtain ⟨a, n, c, hb, hn, hnc, hcm, hac, hsr, hte, hlen⟩ := id h; obtain ⟨c0, c1, f0, f1⟩ := rd_cells hb; have HH := Lib.hid h; have HX := Lib.hid (And.intro hb (And.intro hn (And.intro hnc (And.intro hcm (And.intro hac (And.intro hsr (And.intro hte hlen))))))); clear h hb hn hnc hcm hac hsr hte hlen
  go_enter Tryd.func63, Tryd.ntmps63
  go_wp2_with (fail); refine wp_scope_two 0 1 (RWrong b w t.s) (RNext b w t.s) rmeasure rfl rfl ?_ ?_ ?_
  · rintro ⟨A, D⟩ w' ⟨rfl, hd, hs, h0, k, v, r, hk, h6, hr⟩; obtain ⟨u, hu, rfl⟩ := frame62 A hs
    have v0 : u 0 = .pointer (some ⟨b, 0, none⟩) := Option.some.inj ((hu 0 (by omega)).symm.trans h0)
    have v6 : u 6 = .int .i64 (k : Int) := Option.some.inj ((hu 6 (by omega)).symm.trans h6)
    rw [v0, v6]; have HF := Lib.hid (rfail_any w' base b t (k : Int) HH.out); have HW : Hid (t.word = (0, t.fail (k : Int))) := word_wrong hr hk; obtain rfl : D = [] := hd; clear hu v0 v6 hs h0 hk h6 hr; go_wp2_with (fail); refine HF.out.mono ?_; rintro e w1 ⟨rfl, k1, k2⟩; have HZ := Lib.hid (And.intro k1 k2); clear k1 k2; dsimp only; go_wp2_with (fail); simp only [Exit.jumps]; go_ret; rw [HW.out]; exact ⟨rfl, HZ.out⟩
  · rintro ⟨A, D⟩ w' ⟨rfl, hd, hs, h0, h6, i, n', acc, hin, hacc, hil, h3, h5, hrd⟩; obtain ⟨u, hu, rfl⟩ := frame62 A hs
    have v0 : u 0 = .pointer (some ⟨b, 0, none⟩) := Option.some.inj ((hu 0 (by omega)).symm.trans h0)
    have v6 : u 6 = .int .i64 10 := Option.some.inj ((hu 6 (by omega)).symm.trans h6)
    have v3 : u 3 = .int .u64 (acc : Int) := Option.some.inj ((hu 3 (by omega)).symm.trans h3)
    have v5 : u 5 = .int .i64 (i : Int) := Option.some.inj ((hu 5 (by omega)).symm.trans h5)
    rw [v0, v3, v5, v6]; obtain rfl : D = [] := hd; clear hu v0 v6 v3 v5 hs h0 h6 h3 h5; obtain ⟨hb, hn, hnc, hcm, hac, hsr, hte, hlen⟩ := HX.out
    have i0 : 0 ≤ (i : Int) := by omega
    by_cases hlt : i < n
    · rcases hsr with hsr | ⟨ab, off, rfl, hab1, hab2, hcell⟩
      · omega
      have hxc := hcell i (by omega)
      obtain ⟨x, hx⟩ : ∃ x, x = (gl t.s i).toNat := ⟨_, rfl⟩
      have hx256 : x < 256 := by rw [hx]; exact (gl t.s i).isLt
      have hxc2 : w'.cell? ⟨ab, off + i, none⟩ = some (.int .u8 (x : Int)) := by rw [hxc, B, hx]
      have i1 : (i : Int) < (n : Int) := by omega
      have ei : ((i : Int) == (n : Int)) = false := by simp; omega
      clear hxc
      have hdrop : t.s.drop i = gl t.s i :: t.s.drop (i + 1) := by
        rw [List.drop_eq_getElem_cons (by omega : i < t.s.length)]
        congr 1
        have hil' : i < t.s.length := by omega
        simp [gl, hil']
      have hstep : rdW (n' + 1) i acc (gl t.s i :: t.s.drop (i + 1)) = if badB i x then (11, 0, []) else if x < 128 then (0, acc + x % 128 * 128 ^ i, t.s.drop (i + 1)) else rdW n' (i + 1) (acc + x % 128 * 128 ^ i) (t.s.drop (i + 1)) := by
        rw [rdW_cons, ← hx]
      rw [hdrop] at hrd; rw [hrd] at hstep; have HS := Lib.hid hstep; have HI := Lib.hid (And.intro hin (And.intro hacc hil)); have HCELL := Lib.hid hcell; clear hb hn hnc hcm hac hte hlen hab1 hab2 hcell hrd hdrop hstep hx hil; obtain ⟨bad, hbad⟩ : ∃ z, z = badB i x := ⟨_, rfl⟩; have HBAD := Lib.hid hbad; have HLT := Lib.hid (And.intro hlt hx256); have HN := Lib.hid (show n = t.s.length ∧ n ≤ c from ⟨HX.out.2.1, HX.out.2.2.1⟩); clear hin hacc hlt hx256
      go_upto_region 8 with (fail)
      clear ei hxc2 i1
      go_cut [5, 4, 36] from 23 to 36 (fun si sx s wx => RBadCut bad i x w' si sx s wx)
      case first =>
        rw [badB] at hbad
        by_cases i0 : 0 < i
        · have q2 : (0 : Int) < (i : Int) := by omega
          by_cases x0 : x = 0
          · have q1 : ((x : Int) == 0) = true := by rw [x0]; rfl
            have q3 : bad = true := by rw [hbad]; exact decide_eq_true (.inl ⟨x0, i0⟩)
            have ix : i = i := rfl; have xx : x = 0 := x0; have Q3 := Lib.hid (And.intro q3 (And.intro ix xx)); clear x0 i0 q3 ix xx hbad; go_wp2_with (fail)
            go_meet
            exact ⟨by first | rfl | (rw [Q3.out.2.1]; done) | (rw [Q3.out.2.1]; rfl), by first | rfl | (rw [Q3.out.2.2]; done) | (rw [Q3.out.2.2]; rfl), by rw [Q3.out.1], rfl⟩
          · have q1 : ((x : Int) == 0) = false := by simp; omega
            by_cases i9 : i = 9
            · have q4 : ((i : Int) == 9) = true := by rw [i9]; rfl
              by_cases x1 : 1 < x
              · have q5 : (1 : Int) < (x : Int) := by omega
                have q3 : bad = true := by rw [hbad]; exact decide_eq_true (.inr ⟨i9, x1⟩)
                have ix : i = 9 := i9; have xx : x = x := rfl; have Q3 := Lib.hid (And.intro q3 (And.intro ix xx)); clear x0 i0 i9 x1 q3 ix xx hbad; go_wp2_with (fail)
                go_meet
                exact ⟨by first | rfl | (rw [Q3.out.2.1]; done) | (rw [Q3.out.2.1]; rfl), by first | rfl | (rw [Q3.out.2.2]; done) | (rw [Q3.out.2.2]; rfl), by rw [Q3.out.1], rfl⟩
              · have q5 : ¬ (1 : Int) < (x : Int) := by omega
                have q3 : bad = false := by rw [hbad]; exact decide_eq_false (by omega)
                have ix : i = 9 := i9; have xx : x = x := rfl; have Q3 := Lib.hid (And.intro q3 (And.intro ix xx)); clear x0 i0 i9 x1 q3 ix xx hbad; go_wp2_with (fail)
                go_meet
                exact ⟨by first | rfl | (rw [Q3.out.2.1]; done) | (rw [Q3.out.2.1]; rfl), by first | rfl | (rw [Q3.out.2.2]; done) | (rw [Q3.out.2.2]; rfl), by rw [Q3.out.1], rfl⟩
            · have q4 : ((i : Int) == 9) = false := by simp; omega
              have q3 : bad = false := by rw [hbad]; exact decide_eq_false (by omega)
              have ix : i = i := rfl; have xx : x = x := rfl; have Q3 := Lib.hid (And.intro q3 (And.intro ix xx)); clear x0 i0 i9 q3 ix xx hbad; go_wp2_with (fail)
              go_meet
              exact ⟨by first | rfl | (rw [Q3.out.2.1]; done) | (rw [Q3.out.2.1]; rfl), by first | rfl | (rw [Q3.out.2.2]; done) | (rw [Q3.out.2.2]; rfl), by rw [Q3.out.1], rfl⟩
        · have q2 : ¬ (0 : Int) < (i : Int) := by omega
          have q4 : ((i : Int) == 9) = false := by simp; omega
          have q3 : bad = false := by rw [hbad]; exact decide_eq_false (by omega)
          have ix : i = 0 := by omega
          have xx : x = x := rfl; have Q3 := Lib.hid (And.intro q3 (And.intro ix xx)); clear i0 q3 ix xx hbad; go_wp2_with (fail)
          go_meet
          exact ⟨by first | rfl | (rw [Q3.out.2.1]; done) | (rw [Q3.out.2.1]; rfl), by first | rfl | (rw [Q3.out.2.2]; done) | (rw [Q3.out.2.2]; rfl), by rw [Q3.out.1], rfl⟩
      case rest =>
        obtain ⟨rfl, rfl, rfl, rfl⟩ := hcut; clear hbad; have hstep := HS.out; rw [← HBAD.out] at hstep; clear HS
        cases bad with
        | true =>
          rw [if_pos rfl] at hstep; have HR := Lib.hid hstep; clear hstep; go_wp2_with (fail)
          go_step3
          exact .inl ⟨rfl, rfl, rfl, rfl, rfl, 11, 0, [], by decide, rfl, HR.out⟩
        | false =>
          obtain ⟨hin, hacc, hil⟩ := HI.out; obtain ⟨hlt, hx256⟩ := HLT.out; obtain ⟨y, hy⟩ : ∃ y, y = x % 128 := ⟨_, rfl⟩
          have hand : bits .andNot .u8 (x : Int) 128 = (y : Int) := by rw [hy]; exact andNot8 ⟨x, hx256⟩
          have hcv : ∀ w, (convert 5 95 (.int .u8 (y : Int))).run Tryd.prog w = .ok (.int .u64 (y : Int)) w := fun w => by
            simp [convert, Conv.intToInt, run_underlying Tryd.underlying5, run_underlying Tryd.underlying95, wrapU64 y (by omega)]
          have i9 : (i : Int) ≤ 9 := by omega
          rw [if_neg (by decide), ← hy] at hstep
          have hbf : ¬ ((x = 0 ∧ 0 < i) ∨ (i = 9 ∧ 1 < x)) := of_decide_eq_false HBAD.out.symm; obtain ⟨z, hz⟩ : ∃ z, z = y * 128 ^ i := ⟨_, rfl⟩; rw [← hz] at hstep; obtain ⟨U, hU⟩ : ∃ U, U = 128 ^ i := ⟨_, rfl⟩
          have hpos : 0 < U := by rw [hU]; exact Nat.pow_pos (by decide)
          have hzb : z ≤ 127 * U := by rw [hz, hU]; exact Nat.mul_le_mul_right _ (by omega)
          have hsum : acc + z < 18446744073709551616 ∧ (i < 9 → acc + z < 128 ^ (i + 1)) := by
            rcases Nat.lt_or_ge i 9 with h9 | h9
            · have h1 : 128 ^ (i + 1) ≤ 128 ^ 9 := Nat.pow_le_pow_right (by decide) (by omega)
              rw [Nat.pow_succ, ← hU, p9] at h1; rw [Nat.pow_succ, ← hU]; omega
            · have : i = 9 := by omega
              subst this
              have h2 : z ≤ 1 * U := by rw [hz, hU]; exact Nat.mul_le_mul_right _ (by omega)
              rw [p9] at hU; omega
          have hshl : IntKind.u64.wrap ((y : Int) * 2 ^ (7 * i)) = (z : Int) := by
            have e : (y : Int) * 2 ^ (7 * i) = (z : Int) := by
              rw [hz, Int.natCast_mul, Int.natCast_pow, Int.pow_mul]; rfl
            rw [e, wrapU64 z (by omega)]
          obtain ⟨a2, ha2⟩ : ∃ a, a = acc + z := ⟨_, rfl⟩
          have hor : bits .or .u64 (acc : Int) (z : Int) = (a2 : Int) := by
            rw [ha2]
            refine or_sum acc z (7 * i) y (by rw [hz, Nat.pow_mul]; exact Nat.mul_comm _ _) ?_ (by omega)
            rw [Nat.pow_mul]; exact hacc
          rw [← ha2] at hstep hsum; obtain ⟨j, hj⟩ : ∃ j, j = i + 1 := ⟨_, rfl⟩
          have ej : (i : Int) + 1 = (j : Int) := by omega
          have hjn : j ≤ n := by omega
          obtain ⟨sa, hsa⟩ : ∃ sa, sa = if c = j then (some ⟨ab, off, none⟩ : Option Addr) else (some (⟨ab, off, none⟩ : Addr)).map (·.add j) := ⟨_, rfl⟩
          obtain ⟨sn, hsn⟩ : ∃ sn, sn = n - j := ⟨_, rfl⟩; obtain ⟨sc, hsc⟩ : ∃ sc, sc = c - j := ⟨_, rfl⟩
          have hsl : ∀ w, (Instr.slice 26 (.slice (some ⟨ab, off, none⟩) n c) (some (.int .i64 (j : Int))) none none).run Tryd.prog w = .ok (.slice sa sn sc) w := fun w => by
            rw [hsa, hsn, hsc]; exact run_slice_sl_any 26 5 Tryd.underlying26 (fun w => Tryd.sizeOf5 w) (some ⟨ab, off, none⟩) n c j hjn w
          rw [← hj] at hstep hsum; have HJ := Lib.hid (And.intro hsa (And.intro hsn (And.intro hsc (And.intro hjn (And.intro hj (And.intro hsum hin))))))
          by_cases hx1 : x < 128
          · have x1 : ¬ (128 : Int) ≤ (x : Int) := by omega
            rw [if_pos hx1] at hstep; have HR := Lib.hid hstep; clear hx1 hstep hin hacc hil hlt hx256 hy hbf hz hU hpos hzb hsum ha2 hj hjn hsa hsn hsc; go_wp2_with (fail); simp only [Exit.jumps]; go_ret; obtain ⟨hb, hn, hnc, hcm, hac, hsr, hte, hlen⟩ := HX.out; obtain ⟨hsa, hsn, hsc, hjn, hj, hsum, hin⟩ := HJ.out
            have he0 : t.e = 0 := by
              by_cases h : t.e = 0
              · exact h
              · have h2 := hte h; rw [h2] at hn; simp at hn; omega
            rw [tapeWord_ok he0 HR.out]; have hg := grown_setCell wc b 0 (.slice sa sn sc)
            refine ⟨rfl, ⟨sa, sn, sc, ?_, ?_, by omega, by omega, ?_, ?_, fun h => (h rfl).elim, ?_⟩, hg⟩
            · have := heap_setCell_same wc b 0 _ _ (.slice sa sn sc) hb; rw [he0] at this; exact this
            · show sn = (t.s.drop j).length
              rw [List.length_drop, hsn, hn]
            · intro h; rw [hsa] at h
              split at h <;> cases h
            · have := (hsr.grown hg).drop j c (by omega) (by omega)
              rw [← hsa] at this; exact this
            · show (t.s.drop j).length ≤ _
              rw [List.length_drop]; omega
          · have x1 : (128 : Int) ≤ (x : Int) := by omega
            rw [if_neg hx1] at hstep
            have hi9 : i < 9 := by omega
            obtain ⟨n2, hn2⟩ : ∃ n2, n' = n2 + 1 := ⟨n' - 1, by omega⟩
            rw [hn2] at hstep; have HR := Lib.hid (And.intro hstep (And.intro hn2 (And.intro hi9 hil))); clear hx1 hstep hin hacc hil hlt hx256 hy hbf hz hU hpos hzb hsum ha2 hj hjn hsa hsn hsc hi9 hn2; go_wp2_with (fail)
            go_step3
            obtain ⟨hsa, hsn, hsc, hjn, hj, hsum, hin⟩ := HJ.out; have hn := HN.out; refine .inr ⟨rfl, ⟨rfl, rfl, rfl, rfl, rfl, j, n2, a2, ?_, ?_, ?_, rfl, rfl, ?_⟩, ?_⟩
            · have := HR.out.2.1; omega
            · exact hsum.2 HR.out.2.2.1
            · omega
            · exact HR.out.1.symm
            · simp [rmeasure, intOf]; omega
    · obtain rfl : i = n := by omega
      have ei : ((i : Int) == (i : Int)) = true := by simp
      have hr : rdW 10 0 0 t.s = (10, 0, []) := by
        rw [← hrd, hn, List.drop_length]; rfl
      have HR := Lib.hid hr; clear hb hn hnc hcm hac hsr hte hlen hlt hr hrd hin hacc hil; go_wp2_with (fail)
      go_step3
      exact .inl ⟨rfl, rfl, rfl, rfl, rfl, 10, 0, [], by decide, rfl, HR.out⟩
  · intro hp; go_wp2_with (fail)
    go_step3
    simp only [Exit.then]
    rename_i K hK
    refine hK _ _ (hp _ _ ?_)
    exact ⟨rfl, rfl, rfl, rfl, rfl, 0, 9, 0, rfl, by decide, Nat.zero_le _, rfl, rfl, rfl⟩
end Go.Proofs.YtdmnhgbdeifpbaaDoor
namespace Go.Proofs.YtdmnhgbdeifpbaaDoor
open Go Go.RowKit
theorem word_err {t : TapeL} (h : t.word.2.e ≠ 0) : t.word.1 = 0 := by
  unfold TapeL.word at h ⊢
  by_cases h1 : t.e ≠ 0
  · rw [if_pos h1]
  · rw [if_neg h1] at h ⊢
    by_cases h2 : (rdW 10 0 0 t.s).1 = 0
    · rw [if_pos h2] at h; exact absurd rfl h
    · rw [if_neg h2]
theorem fail_err {t : TapeL} (h : t.e ≠ 0) (k : Int) : t.fail k = t := if_neg fun h' => h h'.1
set_option maxRecDepth 100000 in
theorem rnumber_any (w : World) (base b : Nat) (t : TapeL) (most : Int) (h : RdAt base w b t) :
    Calls Tryd.prog 31 #[.pointer (some ⟨b, 0, none⟩), .int .i64 most] w (RdEnd base w b (t.number most).2 (.int .i64 (t.number most).1)) := by
  have HS := Lib.hid (rword_any w base b t h); have he := @word_err t; obtain ⟨v, hv⟩ : ∃ v, v = t.word.1 := ⟨_, rfl⟩; obtain ⟨s, hs⟩ : ∃ s, s = t.word.2 := ⟨_, rfl⟩
  have hvl : v < 18446744073709551616 := by rw [hv]; exact t.word_lt
  rw [TapeL.number, ← hv, ← hs]; rw [← hv, ← hs] at HS he; clear hv hs h
  by_cases hbig : 9223372036854775807 < v
  · have hb : (9223372036854775807 : Int) < (v : Int) := by omega
    rw [if_pos hbig]; clear hbig hvl he
    go_enter Tryd.func31, Tryd.ntmps31
    go_wp2_with (fail); refine HS.out.mono ?_; rintro e w1 ⟨rfl, hT1, hg1⟩; have H1 := Lib.hid (And.intro hT1 hg1); clear hT1 hg1; dsimp only; go_wp2_with (fail); refine (rfail_any w1 base b s 11 H1.out.1).mono ?_; rintro e w2 ⟨rfl, hT2, hg2⟩; have H2 := Lib.hid (And.intro hT2 hg2); clear hT2 hg2; dsimp only; go_wp2_with (fail); go_ret; exact ⟨rfl, H2.out.1, grown_trans H1.out.2 H2.out.2⟩
  · have hb : ¬ (9223372036854775807 : Int) < (v : Int) := by omega
    rw [if_neg hbig]
    have hcv := fun w => run_conv_u64_i64n w v (by omega)
    clear hvl hbig
    by_cases hm : most < (v : Int)
    · have hr : (if s.e = 0 ∧ most < (v : Int) then ((0 : Int), s.fail 12) else ((v : Int), s)) = (0, s.fail 12) := by
        by_cases h0 : s.e = 0
        · rw [if_pos ⟨h0, hm⟩]
        · rw [if_neg (fun h => h0 h.1), fail_err h0, he h0]; rfl
      rw [hr]; clear he hr
      go_enter Tryd.func31, Tryd.ntmps31
      go_wp2_with (fail); refine HS.out.mono ?_; rintro e w1 ⟨rfl, hT1, hg1⟩; have H1 := Lib.hid (And.intro hT1 hg1); clear hT1 hg1; dsimp only; go_wp2_with (fail); refine (rfail_any w1 base b s 12 H1.out.1).mono ?_; rintro e w2 ⟨rfl, hT2, hg2⟩; have H2 := Lib.hid (And.intro hT2 hg2); clear hT2 hg2; dsimp only; go_wp2_with (fail); go_ret; exact ⟨rfl, H2.out.1, grown_trans H1.out.2 H2.out.2⟩
    · rw [if_neg (fun h => hm h.2)]; clear he
      go_enter Tryd.func31, Tryd.ntmps31
      go_wp2_with (fail); refine HS.out.mono ?_; rintro e w1 ⟨rfl, hT1, hg1⟩; have H1 := Lib.hid (And.intro hT1 hg1); clear hT1 hg1; dsimp only; go_wp2_with (fail); go_ret; exact ⟨rfl, H1.out.1, H1.out.2⟩
theorem bits_and1 (v : Nat) (h : v < 18446744073709551616) : bits .and .u64 (v : Int) 1 = ((v % 2 : Nat) : Int) := by
  have e : BitVec.ofInt 64 (v : Int) = BitVec.ofNat 64 v := by
    apply BitVec.eq_of_toNat_eq
    simp
  show IntKind.u64.wrap ((BitVec.ofInt 64 (v : Int) &&& BitVec.ofInt 64 1).toNat : Int) = _
  have e1 : BitVec.ofInt 64 1 = BitVec.ofNat 64 1 := rfl
  rw [e, e1, BitVec.toNat_and, BitVec.toNat_ofNat, BitVec.toNat_ofNat, Nat.mod_eq_of_lt (by omega : v < 2 ^ 64)]
  rw [show (1 % 2 ^ 64 : Nat) = 1 from rfl, Nat.and_one_is_mod, wrapU64 _ (by omega)]
theorem bits_xor_i64 (q : Nat) (h : q < 9223372036854775808) : bits .xor .i64 (-1) (q : Int) = -(q : Int) - 1 := by
  have e : BitVec.ofInt 64 (q : Int) = BitVec.ofNat 64 q := by
    apply BitVec.eq_of_toNat_eq
    simp
  have e2 : BitVec.ofInt 64 (-1) = BitVec.allOnes 64 := by decide +kernel
  show IntKind.i64.wrap ((BitVec.ofInt 64 (-1) ^^^ BitVec.ofInt 64 (q : Int)).toNat : Int) = _
  rw [e, e2, BitVec.allOnes_xor, BitVec.toNat_not]; simp [IntKind.wrap, IntKind.bits, IntKind.signed]; omega
set_option maxRecDepth 100000 in
theorem rsigned_any (w : World) (base b : Nat) (t : TapeL) (h : RdAt base w b t) :
    Calls Tryd.prog 65 #[.pointer (some ⟨b, 0, none⟩)] w (RdEnd base w b t.signed.2 (.int .i64 t.signed.1)) := by
  have HS := Lib.hid (rword_any w base b t h); obtain ⟨v, hv⟩ : ∃ v, v = t.word.1 := ⟨_, rfl⟩
  have hvl : v < 18446744073709551616 := by rw [hv]; exact t.word_lt
  rw [TapeL.signed, ← hv]; rw [← hv] at HS; clear hv h; obtain ⟨q, hq⟩ : ∃ q, q = v / 2 := ⟨_, rfl⟩; obtain ⟨r, hr⟩ : ∃ r, r = v % 2 := ⟨_, rfl⟩
  have e1 : (v : Int) / 2 = (q : Int) := by omega
  have e2 := bits_and1 v hvl; rw [← hr] at e2
  have hcv := fun w => run_conv_u64_i64n w q (by omega)
  have e4 := bits_xor_i64 q (by omega)
  by_cases h1 : r = 1
  · have e0 : ((r : Int) == 1) = true := by rw [h1]; rfl
    have hz : zag v = -(q : Int) - 1 := by rw [zag, ← hr, if_pos h1, ← hq]
    rw [hz]; clear hz h1 hq hr hvl
    go_enter Tryd.func65, Tryd.ntmps65
    go_wp2_with (fail); refine HS.out.mono ?_; rintro e w1 ⟨rfl, hT1, hg1⟩; have H1 := Lib.hid (And.intro hT1 hg1); clear hT1 hg1; dsimp only; go_wp2_with (fail); go_ret; exact ⟨rfl, H1.out.1, H1.out.2⟩
  · have e0 : ((r : Int) == 1) = false := by simp; omega
    have hz : zag v = (q : Int) := by rw [zag, ← hr, if_neg h1, ← hq]
    rw [hz]; clear hz h1 hq hr hvl
    go_enter Tryd.func65, Tryd.ntmps65
    go_wp2_with (fail); refine HS.out.mono ?_; rintro e w1 ⟨rfl, hT1, hg1⟩; have H1 := Lib.hid (And.intro hT1 hg1); clear hT1 hg1; dsimp only; go_wp2_with (fail); go_ret; exact ⟨rfl, H1.out.1, H1.out.2⟩
def RdBytes (base : Nat) (w : World) (b : Nat) (x : List (BitVec 8) × TapeL) (e : Ending) (w' : World) : Prop :=
  ∃ a c, e = .returned (.slice a x.1.length c) ∧ SrcN w.heap.size w' a x.1 ∧ RdAt base w' b x.2 ∧ w.grownBy w' (some b)
theorem fixed_neg {t : TapeL} {n : Int} (h : n < 0) : t.fixed n = ([], t.fail 2) := by
  unfold TapeL.fixed
  by_cases h0 : t.e = 0
  · rw [if_neg (by simp [h0]), if_pos h]
  · rw [if_pos h0, fail_err h0]
theorem fixed_long {t : TapeL} {n : Int} (h : (t.s.length : Int) < n) : t.fixed n = ([], t.fail 10) := by
  unfold TapeL.fixed
  by_cases h0 : t.e = 0
  · rw [if_neg (by simp [h0]), if_neg (by omega), if_pos h]
  · rw [if_pos h0, fail_err h0]
theorem fixed_good {t : TapeL} {n : Nat} (h : n ≤ t.s.length) (hs : t.e ≠ 0 → t.s = []) : t.fixed (n : Int) = (t.s.take n, ⟨t.s.drop n, t.e⟩) := by
  unfold TapeL.fixed
  by_cases h0 : t.e = 0
  · rw [if_neg (by simp [h0]), if_neg (by omega), if_neg (by omega)]
    simp
  · rw [if_pos h0]; have := hs h0; obtain ⟨s, e⟩ := t; obtain rfl : s = [] := this; simp
set_option maxRecDepth 100000 in
set_option maxHeartbeats 1000000 in
theorem rfixed_any (w : World) (base b : Nat) (t : TapeL) (n : Int) (h : RdAt base w b t) :
    Calls Tryd.prog 33 #[.pointer (some ⟨b, 0, none⟩), .int .i64 n] w (RdBytes base w b (t.fixed n)) := by
  obtain ⟨a, L, c, hb, hL, hLc, hcm, hac, hsr, hte, hlen⟩ := id h; obtain ⟨c0, c1, f0, f1⟩ := rd_cells hb
  by_cases hneg : n < 0
  · rw [fixed_neg hneg]; have HF := Lib.hid (rfail_any w base b t 2 h); clear h hb hL hLc hcm hac hsr hte hlen
    go_enter Tryd.func33, Tryd.ntmps33
    go_wp2_with (fail); refine HF.out.mono ?_; rintro e w1 ⟨rfl, hT1, hg1⟩; have H1 := Lib.hid (And.intro hT1 hg1); clear hT1 hg1; dsimp only; go_wp2_with (fail); go_ret; exact ⟨none, 0, rfl, .inl rfl, H1.out⟩
  · obtain ⟨m, rfl⟩ := Int.eq_ofNat_of_zero_le (show 0 ≤ n by omega)
    have m0 : ¬ (m : Int) < 0 := hneg
    by_cases hlong : L < m
    · have m1 : (L : Int) < (m : Int) := by omega
      rw [fixed_long (by rw [← hL]; exact m1)]
      have HF := Lib.hid (rfail_any w base b t 10 h); clear h hb hL hLc hcm hac hsr hte hlen hlong hneg
      go_enter Tryd.func33, Tryd.ntmps33
      go_wp2_with (fail); refine HF.out.mono ?_; rintro e w1 ⟨rfl, hT1, hg1⟩; have H1 := Lib.hid (And.intro hT1 hg1); clear hT1 hg1; dsimp only; go_wp2_with (fail); go_ret; exact ⟨none, 0, rfl, .inl rfl, H1.out⟩
    · have m1 : ¬ (L : Int) < (m : Int) := by omega
      rw [fixed_good (by omega) hte]
      have hsl : ∀ w, (Instr.slice 26 (.slice a L c) none (some (.int .i64 (m : Int))) none).run Tryd.prog w = .ok (.slice a m c) w := fun w =>
        run_slice_sl_h 26 5 Tryd.underlying26 (fun w => Tryd.sizeOf5 w) a L c m (by omega) w
      obtain ⟨sa, hsa⟩ : ∃ sa, sa = if c = m then a else a.map (·.add m) := ⟨_, rfl⟩
      obtain ⟨sn, hsn⟩ : ∃ sn, sn = L - m := ⟨_, rfl⟩; obtain ⟨sc, hsc⟩ : ∃ sc, sc = c - m := ⟨_, rfl⟩
      have hsl2 : ∀ w, (Instr.slice 26 (.slice a L c) (some (.int .i64 (m : Int))) none none).run Tryd.prog w = .ok (.slice sa sn sc) w := fun w => by
        rw [hsa, hsn, hsc]
        exact run_slice_sl_any 26 5 Tryd.underlying26 (fun w => Tryd.sizeOf5 w) a L c m (by omega) w
      have hml : m = (t.s.take m).length := by rw [List.length_take]; omega
      have HC := Lib.hid (bclone_any w a c m (t.s.take m) hml (hsr.take m) hac (by rw [← hml]; omega))
      have HX := Lib.hid (And.intro hb (And.intro hL (And.intro hLc (And.intro hcm (And.intro hac (And.intro hsr (And.intro hte (And.intro hlen (And.intro hsa (And.intro hsn (And.intro hsc (And.intro hlong hml)))))))))))); clear h hb hL hLc hcm hac hsr hte hlen hlong hneg hsa hsn hsc hml
      go_enter Tryd.func33, Tryd.ntmps33
      go_wp2_with (fail); refine HC.out.mono ?_; rintro e w1 ⟨a', c', rfl, _, _, _, hsn1, hB1⟩; obtain ⟨hb, hL, hLc, hcm, hac, hsr, hte, hlen, hsa, hsn, hsc, hlong, hml⟩ := HX.out; have hbl := (Array.getElem?_eq_some_iff.1 hb).1; have hb1 := (hB1.block b hbl).trans hb; obtain ⟨d0, d1, g0, g1⟩ := rd_cells hb1; rw [← hml]; have H1 := Lib.hid (And.intro hsn1 (And.intro hB1 hb1)); clear hb hL hLc hcm hac hsr hte hlen hsa hsn hsc hlong hml hbl hb1 hsn1 hB1; dsimp only; go_wp2_with (fail); go_ret; obtain ⟨hb, hL, hLc, hcm, hac, hsr, hte, hlen, hsa, hsn, hsc, hlong, hml⟩ := HX.out; obtain ⟨hsn1, hB1, hb1⟩ := H1.out; have hbl := (Array.getElem?_eq_some_iff.1 hb).1; have hg := grown_setCell w1 b 0 (.slice sa sn sc); have hgw : w.grownBy w1 (some b) := ⟨hB1.os, hB1.tape, hB1.output, hB1.size, fun k hk _ => hB1.block k hk⟩
      refine ⟨a', c', by show _ = Ending.returned (.slice a' (t.s.take m).length c'); rw [← hml]; rfl, hsn1.grown hg hbl, ⟨sa, sn, sc, heap_setCell_same w1 b 0 _ _ (.slice sa sn sc) hb1, ?_, by omega, by omega, ?_, ?_, ?_, ?_⟩, grown_trans hgw hg⟩
      · show sn = (t.s.drop m).length
        rw [List.length_drop, hsn, hL]
      · intro h; rw [hsa] at h
        by_cases hcm' : c = m
        · rw [hsc]; omega
        · rw [if_neg hcm'] at h
          have : a = none := by
            cases a with
            | none => rfl
            | some a => cases h
          have := hac this; omega
      · have := ((hsr.grown hgw).grown hg).drop m c (by omega) (by omega)
        rw [← hsa] at this; exact this
      · intro h
        show t.s.drop m = []
        rw [hte h]; simp
      · show (t.s.drop m).length ≤ _
        rw [List.length_drop]; omega
theorem fixed_err {t : TapeL} (h : t.e ≠ 0) (n : Int) : t.fixed n = ([], t) := if_pos h
theorem text_eq (t : TapeL) (most : Int) : t.text most = (t.number most).2.fixed (t.number most).1 := by
  unfold TapeL.text TapeL.number; have he := @word_err t; obtain ⟨v, hv⟩ : ∃ v, v = t.word.1 := ⟨_, rfl⟩; obtain ⟨s, hs⟩ : ∃ s, s = t.word.2 := ⟨_, rfl⟩; rw [← hv, ← hs]; rw [← hv, ← hs] at he; clear hv hs
  by_cases hbig : 9223372036854775807 < v
  · simp only [if_pos hbig]
    have h0 : s.e = 0 := by
      by_cases h : s.e = 0
      · exact h
      · have := he h; omega
    have h1 : (s.fail 11).e ≠ 0 := by
      rw [TapeL.fail, if_pos ⟨h0, by decide⟩]
      show (11 : Int) ≠ 0
      decide
    rw [if_neg (fun h => h1 h.1)]
  · simp only [if_neg hbig]
    rw [if_neg (show ¬ (s.e = 0 ∧ (9223372036854775807 : Int) < (v : Int)) by omega)]
    by_cases hm : s.e = 0 ∧ most < (v : Int)
    · simp only [if_pos hm]
      have h1 : (s.fail 12).e ≠ 0 := by
        rw [TapeL.fail, if_pos ⟨hm.1, by decide⟩]
        show (12 : Int) ≠ 0
        decide
      rw [fixed_err h1, fixed_err h1]
    · simp only [if_neg hm]
set_option maxRecDepth 100000 in
theorem rtext_any (w : World) (base b : Nat) (t : TapeL) (most : Int) (h : RdAt base w b t) :
    Calls Tryd.prog 64 #[.pointer (some ⟨b, 0, none⟩), .int .i64 most] w (RdBytes base w b (t.text most)) := by
  rw [text_eq]; have HN := Lib.hid (rnumber_any w base b t most h); obtain ⟨k, hk⟩ : ∃ k, k = (t.number most).1 := ⟨_, rfl⟩; obtain ⟨s, hs⟩ : ∃ s, s = (t.number most).2 := ⟨_, rfl⟩; rw [← hk, ← hs]; rw [← hk, ← hs] at HN; clear hk hs h
  go_enter Tryd.func64, Tryd.ntmps64
  go_wp2_with (fail); refine HN.out.mono ?_; rintro e w1 ⟨rfl, hT1, hg1⟩; have HF := Lib.hid (rfixed_any w1 base b s k hT1); have H1 := Lib.hid hg1; clear hT1 hg1; dsimp only; go_wp2_with (fail); refine HF.out.mono ?_; rintro e w2 ⟨a', c', rfl, k1, k2, k3⟩; have H2 := Lib.hid (And.intro k1 (And.intro k2 k3)); obtain ⟨N, hN⟩ : ∃ N, N = (s.fixed k).1.length := ⟨_, rfl⟩; rw [← hN]; have HNN := Lib.hid hN; clear k1 k2 k3 hN; dsimp only; go_wp2_with (fail); go_ret
  exact ⟨a', c', by rw [← HNN.out]; rfl, H2.out.1.mono H1.out.size, H2.out.2.1, grown_trans H1.out H2.out.2.2⟩
end Go.Proofs.YtdmnhgbdeifpbaaDoor
