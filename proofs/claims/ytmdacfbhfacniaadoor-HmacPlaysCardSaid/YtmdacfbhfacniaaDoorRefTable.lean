/-
  The contract of the reference's Table.
-/
import Derived.Test.YtmdacfbhfacniaaDoorRefPrimes
import Derived.Great.BuildSlice
namespace Go.Proofs.YtmdacfbhfacniaaDoor
open Go.RowKit

theorem fill1_W (x : BitVec 32) : Instr.fill (fun i => some (i * 1, 1)) ((Array.range (1 * 1)).map ((Value.int .u32 0).cells[· % (Value.int .u32 0).cells.size]!)) [(0, W x)] = some #[W x] := by kernel_rfl
theorem wpList_slice1_W {ops : Array Oper} {rest : List Oper} {o : Oper} {a : Act} {w : World} {Q : Exit → Act → World → Prop} (hg : o.guard = none) (y : Operand) (ho : o.op = .buildSlice 49 1 #[(0, y)]) (x : BitVec 32) (hy : a.eval y = W x)
    (h : wpList Tryd.prog ops Q rest (a.put o.dst (.slice (some ⟨w.heap.size, 0, none⟩) 1 1)) (w.alloc (.cells #[W x] 54))) : wpList Tryd.prog ops Q (o :: rest) a w := by
  obtain ⟨i, hi, hz0, hz1, hz2⟩ := info_parts info34
  refine wpList_buildSlice hg 49 54 1 _ ho #[W x] i _ Tryd.underlying49 hi hz0 (by rw [hz1]; decide) (by rw [hz1]; decide) ?_ h
  rw [hz1]
  simp only [List.map_toArray, List.map_cons, List.map_nil, hy]
  exact fill1_W x

def kL (t : Nat) : List Value := ((primesTo 310).take t).map (fun p => W (BitVec.ofNat 32 (fr p 3 37)))
def sL (t : Nat) : List Value := ((primesTo 310).take (min t 8)).map (fun p => W (BitVec.ofNat 32 (fr p 2 37)))
theorem kL_succ {t : Nat} (h : t < 64) : kL (t + 1) = kL t ++ [W (BitVec.ofNat 32 (fr ((primesTo 310).getD t 0) 3 37))] := by
  have hl : t < (primesTo 310).length := by rw [primes_310]; exact h
  rw [kL, List.take_add_one, List.map_append, List.getElem?_eq_getElem hl]
  simp [kL, List.getD_eq_getElem?_getD, List.getElem?_eq_getElem hl]
theorem sL_succ {t : Nat} (h : t < 8) : sL (t + 1) = sL t ++ [W (BitVec.ofNat 32 (fr ((primesTo 310).getD t 0) 2 37))] := by
  have hl : t < (primesTo 310).length := by rw [primes_310]; omega
  rw [sL, show min (t + 1) 8 = t + 1 by omega, List.take_add_one, List.map_append, List.getElem?_eq_getElem hl, sL, show min t 8 = t by omega]
  simp [List.getD_eq_getElem?_getD, List.getElem?_eq_getElem hl]
theorem sL_same {t : Nat} (h : 8 ≤ t) : sL (t + 1) = sL t := by
  rw [sL, sL, show min (t + 1) 8 = 8 by omega, show min t 8 = 8 by omega]
theorem kL_len {t : Nat} (h : t ≤ 64) : (kL t).length = t := by
  simp [kL, primes_310]
  omega
theorem sL_len (t : Nat) : (sL t).length ≤ 8 := by
  simp [sL, primes_310]
  omega

/-- Two slices that grow, apart. -/
def Apart (k s : Value) : Prop := s.ownBlock = none ∨ s.ownBlock ≠ k.ownBlock
theorem Apart.symm {k s : Value} (h : Apart k s) : Apart s k := by
  rcases h with h | h
  · rcases hk : k.ownBlock with _ | b
    · exact .inl hk
    · exact .inr (by rw [h, hk]; simp)
  · exact .inr (Ne.symm h)
theorem push_apart {w w' : World} {base : Nat} {e : TypeId} {k s k' : Value} {ys : List Value} (hs : Own w base e s ys) (h : Apart k s) (hg : w.grownBy w' k.ownBlock) (hk : k'.ownBlock = k.ownBlock ∨ k'.ownBlock = some w.heap.size) :
    Own w' base e s ys ∧ Apart k' s := by
  refine ⟨hs.kept hg h, ?_⟩
  rcases hk with hk | hk
  · rw [Apart, hk]
    exact h
  · rcases hb : s.ownBlock with _ | b
    · exact .inl hb
    · refine .inr ?_
      have := hs.lt hb
      rw [hb, hk]
      simp
      omega

def TabRel (w1 : World) (k s i : Value) (wr : World) : Prop :=
  ∃ t : Nat, t ≤ 64 ∧ i = .int .i64 (t : Int) ∧ Own wr w1.heap.size 54 k (kL t) ∧ Own wr w1.heap.size 54 s (sL t) ∧ Apart k s ∧ Below w1.heap.size w1 wr
def TableEnd (w : World) (e : Ending) (w' : World) : Prop :=
  ∃ k s, e = .returned (.tuple #[k, s]) ∧ Own w' w.heap.size 54 k (kL 64) ∧ Own w' w.heap.size 54 s (sL 64) ∧ Below w.heap.size w w'

set_option maxRecDepth 100000 in
set_option maxHeartbeats 1000000 in
theorem table_any (w : World) : Calls Tryd.prog 21 #[] w (TableEnd w) := by
  go_enter Tryd.func21, Tryd.ntmps21
  go_wp2_with (fail)
  refine (primes_any w).mono ?_
  rintro e w1 ⟨v, rfl, hv, hBp⟩
  have hlen : ((primesTo 310).map Q).length = 64 := by simp [primes_310]
  obtain ⟨g, c, hvv, hg1, hg2⟩ := hv.form1 (by rw [hlen]; omega)
  subst hvv
  have hcell : ∀ t < 64, w1.cell? ⟨g, t, none⟩ = some (.int .u64 (((primesTo 310).getD t 0 : Nat) : Int)) := fun t ht => by
    rw [hv.cellAt t (by rw [hlen]; exact ht)]
    have hl : t < (primesTo 310).length := by rw [primes_310]; exact ht
    simp [Q, List.getElem?_eq_getElem hl, List.getD_eq_getElem?_getD]
  rw [hlen]
  have HP := Lib.hid (And.intro hcell (And.intro hBp hg2))
  clear hcell hBp hv hg1 hg2 hlen
  dsimp only
  go_wp2_with (fail)
  go_loopw [2, 3, 8] (TabRel w1) (fun _ _ i _ => 64 - (intOf i).toNat)
  case atStart => exact ⟨0, by omega, rfl, Own.nil _ _ _, Own.nil _ _ _, .inl rfl, Below.refl _ _⟩
  case round =>
    obtain ⟨t, ht, rfl, hk, hs, hA, hB⟩ := hrel
    by_cases hlt : t < 64
    · have kc : wr.cell? ⟨g, t, none⟩ = some (.int .u64 (((primesTo 310).getD t 0 : Nat) : Int)) := (hB.cell (p := ⟨g, t, none⟩) HP.out.2.2).trans (HP.out.1 t hlt)
      have hp32 : (primesTo 310).getD t 0 < 4294967296 := by
        have hl : t < (primesTo 310).length := by rw [primes_310]; exact hlt
        have := primes_mem 310 ((primesTo 310).getD t 0) (by simp [List.getD_eq_getElem?_getD, List.getElem?_eq_getElem hl])
        omega
      have hks := kL_succ hlt
      have hss := sL_succ (t := t)
      obtain ⟨p, hp⟩ : ∃ p, p = (primesTo 310).getD t 0 := ⟨_, rfl⟩
      rw [← hp] at kc hp32 hks hss
      have i0 : (0 : Int) ≤ (t : Int) ∧ (t : Int) < 64 := by omega
      have HR := Lib.hid (And.intro hk (And.intro hs (And.intro hA (And.intro hB (And.intro hks hss)))))
      clear hk hs hA hB hks hss hp
      go_wp2_with (fail)
      refine (fraction_any wr p 3 hp32 (.inr rfl)).mono ?_
      rintro e w2 ⟨rfl, hB2⟩
      obtain ⟨x, hx⟩ : ∃ x, x = BitVec.ofNat 32 (fr p 3 37) := ⟨_, rfl⟩
      obtain ⟨hk, hs, hA, hB, hks, hss⟩ := HR.out
      rw [← hx] at hks ⊢
      have HR2 := Lib.hid (And.intro (hk.far hB2) (And.intro (hs.far hB2) (And.intro hA (And.intro (hB.trans (hB2.mono hB.size)) (And.intro hks hss)))))
      clear hk hs hA hB hks hss hB2 hx HR
      dsimp only
      go_step
      refine wpList_slice1_W rfl (.tmp 15) rfl x rfl ?_
      refine wpList_push Tryd.underlying49 info34 rfl rfl (.tmp 13) (.tmp 16) rfl w1.heap.size _ (kL t) rfl (HR2.out.1.alloc _) (W x) w2.heap.size rfl (by go_simp) rfl (by rw [kL_len (by omega)]; omega) (by have := HR2.out.2.2.2.1.size; simp; omega) (by omega) ?_
      intro k' w3 g1 g2 g3
      obtain ⟨hk, hs, hA, hB, hks, hss⟩ := HR2.out
      obtain ⟨hs', hA'⟩ := push_apart (hs.alloc _) hA g2 g3
      have hB1 := (hB.alloc hB.size (.cells #[W x] 54))
      have hB' := hB1.trans (below_grown (hk.alloc _) g2 hB1.size)
      rw [← hks] at g1
      have HR3 := Lib.hid (And.intro g1 (And.intro hs' (And.intro hA' (And.intro hB' hss))))
      clear hk hs hA hB hks hss hs' hA' hB1 hB' g1 g2 g3 HR2
      by_cases h8 : t < 8
      · go_wp2_with (fail)
        refine (fraction_any w3 p 2 hp32 (.inl rfl)).mono ?_
        rintro e w4 ⟨rfl, hB4⟩
        obtain ⟨x2, hx2⟩ : ∃ x2, x2 = BitVec.ofNat 32 (fr p 2 37) := ⟨_, rfl⟩
        obtain ⟨hk, hs, hA, hB, hss⟩ := HR3.out
        have hss := hss h8
        rw [← hx2] at hss ⊢
        have hl := sL_len t
        have HR4 := Lib.hid (And.intro (hk.far hB4) (And.intro (hs.far hB4) (And.intro hA (And.intro (hB.trans (hB4.mono hB.size)) (And.intro hss hl)))))
        clear hk hs hA hB hss hB4 hx2 hl HR3
        dsimp only
        go_step
        refine wpList_slice1_W rfl (.tmp 22) rfl x2 rfl ?_
        refine wpList_push Tryd.underlying49 info34 rfl rfl (.tmp 20) (.tmp 23) rfl w1.heap.size _ (sL t) rfl (HR4.out.2.1.alloc _) (W x2) w4.heap.size rfl (by go_simp) rfl (by have := HR4.out.2.2.2.2.2; omega) (by have := HR4.out.2.2.2.1.size; simp; omega) (by omega) ?_
        intro s' w5 g1 g2 g3
        obtain ⟨hk, hs, hA, hB, hss, -⟩ := HR4.out
        obtain ⟨hk', hA'⟩ := push_apart (hk.alloc _) hA.symm g2 g3
        have hB1 := (hB.alloc hB.size (.cells #[W x2] 54))
        have hB' := hB1.trans (below_grown (hs.alloc _) g2 hB1.size)
        rw [← hss] at g1
        have HR5 := Lib.hid (And.intro hk' (And.intro g1 (And.intro hA'.symm hB')))
        clear hk hs hA hB hss hk' hA' hB1 hB' g1 g2 g3 HR4
        go_wp2_with (fail)
        exact ⟨⟨t + 1, by omega, rfl, HR5.out⟩, by simp [intOf]; omega⟩
      · go_wp2_with (fail)
        refine ⟨⟨t + 1, by omega, rfl, HR3.out.1, ?_, HR3.out.2.2.1, HR3.out.2.2.2.1⟩, by simp [intOf]; omega⟩
        rw [sL_same (by omega)]
        exact HR3.out.2.1
    · obtain rfl : t = 64 := by omega
      have HR := Lib.hid (And.intro hk (And.intro hs (And.intro hA hB)))
      clear hk hs hA hB
      go_wp2_with (fail)
      go_ret2
      obtain ⟨hk, hs, hA, hB⟩ := HR.out
      exact ⟨_, _, rfl, hk.mono HP.out.2.1.size, hs.mono HP.out.2.1.size, HP.out.2.1.trans (hB.mono HP.out.2.1.size)⟩

/-! What the tables hold. -/
theorem kL_is : (primesTo 310).map (fun p => BitVec.ofNat 32 (fr p 3 37)) = kTable := by decide +kernel
theorem sL_is : ((primesTo 310).take 8).map (fun p => BitVec.ofNat 32 (fr p 2 37)) = firstSt.ws := by decide +kernel
theorem kL_all : kL 64 = kTable.map W := by
  rw [kL, List.take_of_length_le (by rw [primes_310]; exact Nat.le_refl _), ← kL_is, List.map_map]
  rfl
theorem sL_all : sL 64 = firstSt.ws.map W := by
  rw [sL, ← sL_is, List.map_map]
  rfl
end Go.Proofs.YtmdacfbhfacniaaDoor
