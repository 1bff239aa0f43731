/-
  The contract of package event's Read.
-/
import Derived.Test.YtmjanplhgpcbeaaDoorEventGet
import Derived.Test.YtmjanplhgpcbeaaDoorItems
namespace Go.Proofs.YtmjanplhgpcbeaaDoor
open Go Go.RowKit

def itemsN : Nat → TapeL → List ItemL × TapeL
  | 0, t => ([], t)
  | k + 1, t => ((itemsN k t).1 ++ [(itemsN k t).2.item.1], (itemsN k t).2.item.2)
theorem itemsN_length (t : TapeL) : ∀ k, (itemsN k t).1.length = k
  | 0 => rfl
  | k + 1 => by simp [itemsN, itemsN_length t k]
def readT (m : List (BitVec 8)) : List ItemL × Int :=
  if (itemsN ((TapeL.mk m 0).number 1024).1.toNat ((TapeL.mk m 0).number 1024).2).2.done = 0 then ((itemsN ((TapeL.mk m 0).number 1024).1.toNat ((TapeL.mk m 0).number 1024).2).1, 0)
  else ([], (itemsN ((TapeL.mk m 0).number 1024).1.toNat ((TapeL.mk m 0).number 1024).2).2.done)
def ReadEnd (w : World) (m : List (BitVec 8)) (e : Ending) (w' : World) : Prop := ∃ v, e = .returned (.tuple #[v, .int .i64 (readT m).2]) ∧ OwnI w' w.heap.size v (readT m).1 ∧ Below w.heap.size w w'
theorem number_range (t : TapeL) (most : Int) (h0 : 0 ≤ most) : 0 ≤ (t.number most).1 ∧ (t.number most).1 ≤ most := by
  unfold TapeL.number
  split
  · simp only; omega
  · split
    · simp only; omega
    · rename_i h1 h2
      by_cases he : t.word.2.e = 0
      · simp only
        omega
      · have := word_err he
        simp only
        omega
def ER (w : World) (base b : Nat) (N : Nat) (t1 : TapeL) (v i : Value) (wr : World) : Prop :=
  ∃ k : Nat, k ≤ N ∧ i = .int .i64 (k : Int) ∧ OwnI wr base v (itemsN k t1).1 ∧ RdAt base wr b (itemsN k t1).2 ∧ Below w.heap.size w wr ∧ base ≤ wr.heap.size
theorem RdAt.own {base b : Nat} {w w' : World} {t : TapeL} {v : Value} {l : List ItemL} (h : RdAt base w b t) (ho : OwnI w base v l) (hb : b < base) (hg : w.grownBy w' v.ownBlock) : RdAt base w' b t := by
  refine h.same (hg.block _ h.lt fun e => ?_) (fun k hk hkw _ => hg.block _ hkw fun e => ?_)
  · have := (ho.lt e.symm).1
    omega
  · have := (ho.lt e.symm).1
    omega
set_option maxRecDepth 100000 in
set_option maxHeartbeats 2000000 in
theorem eread_any (w : World) (a : Option Addr) (c n : Nat) (m : List (BitVec 8)) (hn : n = m.length) (h : SrcP w a m.length m) (hc : a = none → c = 0) (hl : m.length ≤ 1073741824) :
    Calls Tryd.prog 19 #[.slice a n c] w (ReadEnd w m) := by
  have HS := Lib.hid (rread_any w a c n m hn h hc hl)
  obtain ⟨P, hP⟩ : ∃ P, P = ReadEnd w m := ⟨_, rfl⟩
  rw [← hP]
  have HP := Lib.hid hP
  clear hn h hc hl hP
  go_enter Tryd.func19, Tryd.ntmps19
  go_wp2_with (fail)
  refine HS.out.mono ?_
  rintro e w1 ⟨b, rfl, h1, h2, h3⟩
  obtain ⟨base, hbase⟩ : ∃ x, x = w1.heap.size := ⟨_, rfl⟩
  rw [← hbase] at h1
  have H1 : Hid (RdAt base w1 b ⟨m, 0⟩ ∧ w.heap.size ≤ b ∧ Below w.heap.size w w1 ∧ base = w1.heap.size ∧ b < base) := Lib.hid ⟨h1, h2, h3, hbase, by have := h1.lt; omega⟩
  clear h1 h2 h3 hbase
  dsimp only
  go_wp2_with (fail)
  refine (rnumber_any w1 base b ⟨m, 0⟩ 1024 H1.out.1).mono ?_
  rintro e w2 ⟨rfl, h1, h2⟩
  obtain ⟨q, hq⟩ : ∃ q, q = (TapeL.number ⟨m, 0⟩ 1024).1 := ⟨_, rfl⟩
  obtain ⟨t1, ht1⟩ : ∃ q, q = (TapeL.number ⟨m, 0⟩ 1024).2 := ⟨_, rfl⟩
  rw [← ht1] at h1
  rw [← hq]
  obtain ⟨N, hN⟩ : ∃ N : Nat, q = (N : Int) := ⟨q.toNat, by have := number_range ⟨m, 0⟩ 1024 (by decide); rw [← hq] at this; omega⟩
  have hNl : N ≤ 1024 := by have := number_range ⟨m, 0⟩ 1024 (by decide); rw [← hq] at this; omega
  have HT : Hid (readT m = if (itemsN N t1).2.done = 0 then ((itemsN N t1).1, 0) else ([], (itemsN N t1).2.done)) := by
    rw [readT, ← ht1, ← hq, hN]
    exact Lib.hid rfl
  subst hN
  have H2 : Hid (RdAt base w2 b t1 ∧ Below w.heap.size w w2 ∧ base ≤ w2.heap.size) := by
    have h3 := H1.out
    exact Lib.hid ⟨h1, h3.2.2.1.trans ⟨h2.os, h2.tape, h2.output, h2.size, fun k hk => h2.block k (by have := h3.2.2.1.size; omega) (by simp; omega)⟩, by have := h2.size; omega⟩
  clear h1 h2 hq ht1
  dsimp only
  go_wp2_with (fail)
  go_loopw [5, 11] (ER w base b N t1) (fun _ i _ => N - (intOf i).toNat)
  case atStart => exact ⟨0, Nat.zero_le _, rfl, OwnI.nil _ _, H2.out.1, H2.out.2.1, H2.out.2.2⟩
  case round =>
    obtain ⟨k, hk, rfl, ho, hr, hB, hbs⟩ := hrel
    have HR := Lib.hid (And.intro ho (And.intro hr (And.intro hB hbs)))
    clear ho hr hB hbs
    by_cases hlt : k < N
    · have hlt' : (k : Int) < (N : Int) := by omega
      obtain ⟨x, hx⟩ : ∃ x, x = (itemsN k t1).2.item.1 := ⟨_, rfl⟩
      have HG := Lib.hid (eget_any wr base b _ HR.out.2.1 HR.out.2.2.2)
      rw [← hx] at HG
      have HX := Lib.hid (And.intro hx (And.intro hlt hNl))
      clear hx hlt
      obtain ⟨kind, key, time, value⟩ := x
      unfold ItemL.cells at HG
      go_wp2_with (fail)
      refine HG.out.mono ?_
      rintro e w3 ⟨rfl, h1, h2⟩
      have h0 := HR.out.2.2.1
      have hbw := H1.out
      have HO3 : Hid (OwnI w3 base u5 (itemsN k t1).1 ∧ RdAt base w3 b (itemsN (k + 1) t1).2 ∧ Below w.heap.size w w3 ∧ base ≤ w3.heap.size) := by
        refine Lib.hid ⟨HR.out.1.kept h2 ?_, h1, h0.trans ⟨h2.os, h2.tape, h2.output, h2.size, fun i hi => h2.block i (by have := h0.size; omega) (by simp; omega)⟩, by have := h2.size; have := HR.out.2.2.2; omega⟩
        by_cases hv : u5.ownBlock = none
        · exact .inl hv
        · refine .inr fun e => ?_
          have := (HR.out.1.lt e).1
          omega
      clear h1 h2 h0 hbw
      obtain ⟨w4, hw4⟩ : ∃ W, W = w3.alloc (.cells #[.int .i64 kind, Sv key, .int .i64 time, .int .i64 value] 23) := ⟨_, rfl⟩
      have hB4 : Below w3.heap.size w3 w4 := by rw [hw4]; exact (Below.refl _ w3).alloc (Nat.le_refl _) _
      have HO4 : Hid (OwnI w4 base u5 (itemsN k t1).1 ∧ RdAt base w4 b (itemsN (k + 1) t1).2 ∧ Below w.heap.size w w4 ∧ base ≤ w4.heap.size) := by
        obtain ⟨k1, k2, k3, k4⟩ := HO3.out
        exact Lib.hid ⟨k1.far hB4, k2.below hB4, k3.trans (hB4.mono k3.size), by have := hB4.size; omega⟩
      have HU : Hid (∀ j z, (ItemL.mk kind key time value).cells[j]? = some z → w4.cell? ⟨w3.heap.size, j, none⟩ = some z) := by
        refine Lib.hid (fun j z hj => ?_)
        rw [hw4, cell_of_row _ _ j _ _ _ (heap_alloc_new w3 _)]
        exact hj
      clear hB4
      dsimp only
      iterate 4 go_step
      rw [← hw4]
      refine wpList_pushI rfl _ _ rfl base u5 (itemsN k t1).1 rfl HO4.out.1 ⟨kind, key, time, value⟩ w3.heap.size rfl HU.out (by rw [itemsN_length]; have := HX.out.2; omega) HO4.out.2.2.2 ?_
      intro v' w5 k1 k2 _
      have HZ : Hid (ER w base b N t1 v' (.int .i64 ((k : Int) + 1)) w5) := by
        obtain ⟨q1, q2, q3, q4⟩ := HO4.out
        refine Lib.hid ⟨k + 1, by have := HX.out.2; omega, by go_num, ?_, q2.own q1 H1.out.2.2.2.2 k2, q3.trans ⟨k2.os, k2.tape, k2.output, k2.size, fun i hi => k2.block i (by have := q3.size; omega) fun e => ?_⟩, by have := k2.size; omega⟩
        · show OwnI w5 base v' ((itemsN k t1).1 ++ [(itemsN k t1).2.item.1])
          rw [← HX.out.1]
          exact k1
        · have := (q1.lt e.symm).1
          have := H1.out.2.2.2.1
          have := H1.out.2.2.1.size
          omega
      have HL := Lib.hid HX.out.2
      clear k1 k2 hw4
      go_wp2_with (fail)
      have := HL.out
      exact ⟨HZ.out, by simp [intOf]; omega⟩
    · obtain rfl : k = N := by omega
      have HE := Lib.hid (rend_any wr base b _ HR.out.2.1)
      obtain ⟨q, hq⟩ : ∃ q, q = (itemsN k t1).2.done := ⟨_, rfl⟩
      rw [← hq] at HE HT
      by_cases hq0 : q = 0
      · subst hq0
        have HF : Hid (P (.returned (.tuple #[u5, .int .i64 0])) wr) := by
          rw [HP.out]
          refine Lib.hid ⟨u5, ?_, ?_, HR.out.2.2.1⟩
          · rw [HT.out, if_pos rfl]
          · rw [HT.out, if_pos rfl]
            refine ⟨HR.out.1.1, ?_⟩
            rcases HR.out.1.2 with h | ⟨g, cap, cur, g1, g2, g3⟩
            · exact .inl h
            · exact .inr ⟨g, cap, cur, g1, by have := H1.out.2.2.2.1; have := H1.out.2.2.1.size; omega, g3⟩
        clear hq hlt hk
        go_wp2_with (fail)
        refine HE.out.mono ?_
        rintro e we ⟨rfl, hwe⟩
        subst we
        dsimp only
        go_wp2_with (fail)
        exact HF.out
      · have e1 : (q != 0) = true := by simpa using hq0
        have HF : Hid (P (.returned (.tuple #[.slice none 0 0, .int .i64 q])) wr) := by
          rw [HP.out]
          refine Lib.hid ⟨.slice none 0 0, ?_, ?_, HR.out.2.2.1⟩
          · rw [HT.out, if_neg hq0]
          · rw [HT.out, if_neg hq0]
            exact OwnI.nil _ _
        clear hq hlt hk hq0
        go_wp2_with (fail)
        refine HE.out.mono ?_
        rintro e we ⟨rfl, hwe⟩
        subst we
        dsimp only
        go_wp2_with (fail)
        exact HF.out
end Go.Proofs.YtmjanplhgpcbeaaDoor
