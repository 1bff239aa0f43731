/-
  The law that what was synced lasts, for every list of acts.
-/
import Derived.Test.YtggecfecodoigaaStoreFirst
namespace Go.Proofs.Ytggecfecodoigaa
open Go Go.RowKit

/-- An act, as it came in. -/
structure OpL where
  kind : Int
  at_ : Int
  n : Int
  ba : Option Addr
  bc : Nat
  bs : List (BitVec 8)
  ka : Option Addr
  kc : Nat
  keep : List Bool
def OpL.cells (o : OpL) : List Value := [.int .i64 o.kind, .int .i64 o.at_, .int .i64 o.n, .slice o.ba o.bs.length o.bc, .slice o.ka o.keep.length o.kc]
theorem OpL.one (o : OpL) : ∀ v ∈ o.cells, v.oneCell' = true := fun v hv => by
  unfold OpL.cells at hv
  simp only [List.mem_cons, List.not_mem_nil, or_false] at hv
  rcases hv with rfl | rfl | rfl | rfl | rfl <;> rfl
structure OpL.Good (w : World) (o : OpL) : Prop where
  bytes : SrcP w o.ba o.bs.length o.bs
  few : o.bs.length ≤ 9223372036854775807
  keeps : KeepAt w o.ka o.keep
  range : (-9223372036854775808 ≤ o.at_ ∧ o.at_ ≤ 9223372036854775807) ∧ (-9223372036854775808 ≤ o.n ∧ o.n ≤ 9223372036854775807)
/-- A slice of acts that came in. -/
def OpsAt (w : World) (a : Option Addr) (l : List OpL) : Prop :=
  (∀ o ∈ l, o.Good w) ∧ (l.length = 0 ∨ ∃ ab off, a = some ⟨ab, off, none⟩ ∧ ∀ i o, l[i]? = some o → w.rangeAt ab (off + i * 5) o.cells)
theorem i64_and7 (q : Int) : bits .and .i64 q 7 = q % 8 := by
  have e1 : BitVec.ofInt 64 7 = BitVec.ofNat 64 (2 ^ 3 - 1) := rfl
  show IntKind.i64.wrap ((BitVec.ofInt 64 q &&& BitVec.ofInt 64 7).toNat : Int) = _
  rw [e1, BitVec.toNat_and, BitVec.toNat_ofNat, show (2 ^ 3 - 1) % 2 ^ 64 = 2 ^ 3 - 1 by decide, Nat.and_two_pow_sub_one_eq_mod, BitVec.toNat_ofInt]
  rw [IntWalk.i64_in _ (by omega)]
  omega
theorem i64_and1 (q : Int) : bits .and .i64 q 1 = q % 2 := by
  have e1 : BitVec.ofInt 64 1 = BitVec.ofNat 64 (2 ^ 1 - 1) := rfl
  show IntKind.i64.wrap ((BitVec.ofInt 64 q &&& BitVec.ofInt 64 1).toNat : Int) = _
  rw [e1, BitVec.toNat_and, BitVec.toNat_ofNat, show (2 ^ 1 - 1) % 2 ^ 64 = 2 ^ 1 - 1 by decide, Nat.and_two_pow_sub_one_eq_mod, BitVec.toNat_ofInt]
  rw [IntWalk.i64_in _ (by omega)]
  omega
/-- A row of eight texts. -/
def rowS (l : List (List (BitVec 8))) : Array Value := (l.map Sv).toArray
/-- What holds ahead of each act, and of each look: the store, what was written last, what was synced. -/
theorem rowS_one (l : List (List (BitVec 8))) : (rowS l).all (·.oneCell') = true := all_oneCell_toArray fun v hv => by
  obtain ⟨x, _, rfl⟩ := List.mem_map.1 hv
  rfl
structure LX (W1 : World) (pb wa sa : Nat) (i : Nat) (wr : World) (f : StF) (s : StS) (want synced : List (List (BitVec 8))) : Prop where
  pb : f.b = pb
  at_ : StAt wr W1.heap.size f s
  last : LastI s want synced
  few : s.W.length ≤ i
  want : wr.heap[wa]? = some (.cells (rowS want) 57 (0, 0))
  synced : wr.heap[sa]? = some (.cells (rowS synced) 57 (0, 0))
  below : Below W1.heap.size W1 wr
def LR (W1 : World) (pb wa sa : Nat) (i : Nat) (wr : World) : Prop := ∃ (f : StF) (s : StS) (want synced : List (List (BitVec 8))), LX W1 pb wa sa i wr f s want synced
theorem LX.far {W1 : World} {pb wa sa i : Nat} {wr w' : World} {f : StF} {s : StS} {want synced : List (List (BitVec 8))} (h : LX W1 pb wa sa i wr f s want synced) (hB : Below wr.heap.size wr w') : LX W1 pb wa sa i w' f s want synced :=
  ⟨h.pb, h.at_.far hB, h.last, h.few, (hB.block _ (Array.getElem?_eq_some_iff.1 h.want).1).trans h.want, (hB.block _ (Array.getElem?_eq_some_iff.1 h.synced).1).trans h.synced, h.below.trans (hB.mono h.below.size)⟩
theorem LX.more {W1 : World} {pb wa sa i j : Nat} {wr : World} {f : StF} {s : StS} {want synced : List (List (BitVec 8))} (h : LX W1 pb wa sa i wr f s want synced) (hj : i ≤ j) : LX W1 pb wa sa j wr f s want synced :=
  ⟨h.pb, h.at_, h.last, Nat.le_trans h.few hj, h.want, h.synced, h.below⟩
theorem LR.far {W1 : World} {pb wa sa i : Nat} {wr w' : World} (h : LR W1 pb wa sa i wr) (hB : Below wr.heap.size wr w') : LR W1 pb wa sa i w' := by
  obtain ⟨f, s, want, synced, h⟩ := h
  exact ⟨f, s, want, synced, h.far hB⟩
theorem LR.below {W1 : World} {pb wa sa i : Nat} {wr : World} (h : LR W1 pb wa sa i wr) : Below W1.heap.size W1 wr := by
  obtain ⟨f, s, want, synced, h⟩ := h
  exact h.below
theorem aside_s {w : World} {base : Nat} {f : StF} {s : StS} (h : StAt w base f s) {k : Nat} {c : Array Value} {fr : Nat × Nat} (hk : w.heap[k]? = some (.cells c 57 fr)) : Aside f w k :=
  ⟨(Array.getElem?_eq_some_iff.1 hk).1, h.other hk (by decide) (by decide) (by decide) (by decide)⟩
/-- The store went on: the two rows stand. -/
theorem LX.next {W1 : World} {pb wa sa i : Nat} {w6 w7 : World} {f f' : StF} {s s' : StS} {want synced : List (List (BitVec 8))} (h : LX W1 pb wa sa i w6 f s want synced) (hn : Next W1.heap.size f s' w6 w7 f') {want' synced' : List (List (BitVec 8))}
    (hl : LastI s' want' synced') : f'.b = pb ∧ w7.heap[wa]? = some (.cells (rowS want) 57 (0, 0)) ∧ w7.heap[sa]? = some (.cells (rowS synced) 57 (0, 0)) ∧ ¬ f'.has wa ∧ ¬ f'.has sa ∧ Below W1.heap.size W1 w7 ∧ LastI s' want' synced' := by
  have a1 := aside_s h.at_ h.want
  have a2 := aside_s h.at_ h.synced
  exact ⟨hn.1.trans h.pb, (hn.2.2.2 wa a1).2.trans h.want, (hn.2.2.2 sa a2).2.trans h.synced, (hn.2.2.2 wa a1).1.2, (hn.2.2.2 sa a2).1.2, h.below.trans hn.2.2.1, hl⟩
/-- A write went, and is remembered. -/
theorem LX.wrote {W1 : World} {pb wa sa i k : Nat} {w6 w7 : World} {f f' : StF} {s : StS} {want synced : List (List (BitVec 8))} {m : List (BitVec 8)} (h : LX W1 pb wa sa i w6 f s want synced) (hn : Next W1.heap.size f (s.wrote k m) w6 w7 f')
    (hk : k < 8) (hm : m.length = 128) (hne : wa ≠ sa) (hwa : W1.heap.size ≤ wa) : LR W1 pb wa sa (i + 1) (w7.setCell ⟨wa, k, none⟩ (Sv m)) := by
  obtain ⟨h1, h2, h3, h4, h5, h6, h7⟩ := h.next hn (h.last.write hk hm)
  have hset : ∀ j, j ≠ wa → (w7.setCell ⟨wa, k, none⟩ (Sv m)).heap[j]? = w7.heap[j]? := fun j hj => heap_setCell_other _ _ _ _ hj
  refine ⟨f', s.wrote k m, want.set k m, synced, h1, hn.2.1.keep fun j hj => hset j fun e => h4 (e ▸ hj), h7, ?_, ?_, (hset sa hne.symm).trans h3, ?_⟩
  · show (s.W ++ [(k, m)]).length ≤ i + 1
    have := h.few
    simp
    exact this
  · rw [heap_setCell_same w7 wa k _ _ _ h2]
    simp [rowS, List.map_set]
  · exact h6.trans ⟨rfl, rfl, rfl, by simp [World.setCell], fun j hj => hset j (by omega)⟩
/-- A sync went, and is remembered. -/
theorem LX.synced_ {W1 : World} {pb wa sa i : Nat} {w6 w7 : World} {f f' : StF} {s : StS} {want synced : List (List (BitVec 8))} (h : LX W1 pb wa sa i w6 f s want synced) (hn : Next W1.heap.size f s.synced w6 w7 f')
    (hne : wa ≠ sa) (hsa : W1.heap.size ≤ sa) : LR W1 pb wa sa (i + 1) (w7.setRow sa (rowS want)) := by
  obtain ⟨h1, h2, h3, h4, h5, h6, h7⟩ := h.next hn h.last.sync
  have hset : ∀ j, j ≠ sa → (w7.setRow sa (rowS want)).heap[j]? = w7.heap[j]? := fun j hj => setRow_other w7 sa j _ hj
  exact ⟨f', s.synced, want, want, h1, hn.2.1.keep fun j hj => hset j fun e => h5 (e ▸ hj), h7, Nat.zero_le _, (hset wa hne).trans h2, setRow_heap w7 sa _ _ _ _ h3, below_setRow h6 hsa _⟩
/-- The bytes of an act lie aside. -/
theorem whole_aside {w w5 w6 : World} {base : Nat} {f : StF} {s : StS} (hA : StAt w5 base f s) (hw : w.heap.size ≤ base) {ba a : Option Addr} {bs m : List (BitVec 8)} (hb : SrcP w ba bs.length bs) (hm : SrcP w6 a m.length m)
    (ha : (a = ba ∧ bs.length = 1) ∨ ∀ ab, a.map (·.block) = some ab → w5.heap.size ≤ ab) : SrcA f w6 a m := by
  rcases hm with h | ⟨ab, off, h1, h3⟩
  · exact .inl h
  · by_cases h0 : m.length = 0
    · exact .inl h0
    · refine .inr ⟨ab, off, h1, ⟨block_lt_of_cell (h3 0 (by omega)), fun hf => ?_⟩, h3⟩
      rcases ha with ⟨e, hl⟩ | ha
      · rcases hb with h | ⟨ab', off', e', hc⟩
        · omega
        · rw [h1, e'] at e
          injection e with e
          injection e with e1 e2
          have := block_lt_of_cell (hc 0 (by omega))
          have := hA.ge hf
          dsimp only at *
          omega
      · have := ha ab (by rw [h1]; rfl)
        have := hA.lt hf
        omega
/-- A row of flags. -/
def rowT (l : List Bool) : Array Value := (l.map Value.bool).toArray
def flagsTo (W : List (Nat × List (BitVec 8))) (j : Nat) : List Bool := (List.range 8).map fun k => (W.take j).any fun x => x.1 == k
theorem flagsTo_length (W : List (Nat × List (BitVec 8))) (j : Nat) : (flagsTo W j).length = 8 := by simp [flagsTo]
theorem flagsTo_at (W : List (Nat × List (BitVec 8))) (j k : Nat) (hk : k < 8) : (flagsTo W j)[k]? = some ((W.take j).any fun x => x.1 == k) := by
  unfold flagsTo
  rw [List.getElem?_map, List.getElem?_range hk]
  rfl
theorem flagsTo_zero (W : List (Nat × List (BitVec 8))) : flagsTo W 0 = List.replicate 8 false := rfl
theorem flagsTo_step (W : List (Nat × List (BitVec 8))) (j : Nat) (x : Nat × List (BitVec 8)) (hx : W[j]? = some x) (h8 : x.1 < 8) : (flagsTo W j).set x.1 true = flagsTo W (j + 1) := by
  apply List.ext_getElem?
  intro k
  by_cases hk : k < 8
  · rw [flagsTo_at W (j + 1) k hk, take_snoc W j x hx, List.any_append]
    by_cases e : x.1 = k
    · subst e
      rw [List.getElem?_set_self (by rw [flagsTo_length]; exact h8)]
      simp
    · rw [List.getElem?_set_ne e, flagsTo_at W j k hk]
      simp [e]
  · rw [List.getElem?_eq_none (by rw [List.length_set, flagsTo_length]; omega), List.getElem?_eq_none (by rw [flagsTo_length]; omega)]
theorem zero_flags : ∃ cz : Array Value, (∀ w, (zeroValue 58).run Try.prog w = .ok (.agg cz) w) ∧ cz = rowT (List.replicate 8 false) := by
  have h := zero_of_info (P := Try.prog) (t := 58) (v := .agg (List.replicate 8 (Value.bool false)).toArray) (n := 8) (by kernel_rfl)
  exact ⟨_, h.1, by rw [rowT, List.map_replicate]⟩
/-- A row that is aside changes. -/
theorem LX.row {W1 : World} {pb wa sa i : Nat} {wr w' : World} {f : StF} {s : StS} {want synced : List (List (BitVec 8))} (h : LX W1 pb wa sa i wr f s want synced) {fb : Nat} (hf : Aside f wr fb) (hwa : wa ≠ fb) (hsa : sa ≠ fb) (hb : W1.heap.size ≤ fb)
    (hg : wr.grownBy w' (some fb)) : LX W1 pb wa sa i w' f s want synced := by
  have e : ∀ k, k < wr.heap.size → k ≠ fb → w'.heap[k]? = wr.heap[k]? := fun k hk hn => hg.block k hk (by simpa using hn)
  exact ⟨h.pb, h.at_.keep fun k hk => e k (h.at_.lt hk) fun e' => hf.2 (e' ▸ hk), h.last, h.few, (e _ (Array.getElem?_eq_some_iff.1 h.want).1 hwa).trans h.want, (e _ (Array.getElem?_eq_some_iff.1 h.synced).1 hsa).trans h.synced,
    h.below.trans ⟨hg.os, hg.tape, hg.output, hg.size, fun k hk => e k (Nat.lt_of_lt_of_le hk h.below.size) (by omega)⟩⟩
theorem zero_eight : ∃ cz : Array Value, (∀ w, (zeroValue 57).run Try.prog w = .ok (.agg cz) w) ∧ cz = rowS (List.replicate 8 []) := by
  have h := zero_of_info (P := Try.prog) (t := 57) (v := .agg (List.replicate 8 (Value.string ⟨#[]⟩)).toArray) (n := 8) (by kernel_rfl)
  exact ⟨_, h.1, by rw [rowS, List.map_replicate]; rfl⟩
set_option maxRecDepth 100000 in
set_option maxHeartbeats 1000000 in
theorem lasts_law (w : World) (la : Option Addr) (lc : Nat) (ops : List OpL) (hops : OpsAt w la ops) (hol : ops.length ≤ 9223372036854775807) (ka : Option Addr) (kc : Nat) (keep : List Bool) (hk : KeepAt w ka keep) (t c : Int) :
    Calls Try.prog 4 #[.agg #[.slice la ops.length lc, .slice ka keep.length kc, .int .i64 t, .int .i64 c]] w fun e w' => e = .returned (.bool true) ∧ Below w.heap.size w w' := by
  have HI := Lib.hid (And.intro hops (And.intro hol hk))
  clear hops hol hk
  obtain ⟨N, hN⟩ : ∃ N, N = ops.length := ⟨_, rfl⟩
  obtain ⟨M, hM⟩ : ∃ M, M = keep.length := ⟨_, rfl⟩
  rw [← hN, ← hM]
  have HN := Lib.hid (And.intro hN hM)
  clear hN hM
  go_enter Try.func4, Try.ntmps4
  go_wp2_with (fail)
  refine (first_any _).mono ?_
  rintro e w1 ⟨rfl, hB⟩
  obtain ⟨ob, hob⟩ : ∃ b, b = w.heap.size := ⟨_, rfl⟩
  rw [← hob]
  have hrow : w1.heap[ob]? = some (.cells #[.slice la N lc, .slice ka M kc, .int .i64 t, .int .i64 c] 56 (0, 0)) := by
    rw [hB.block ob (by rw [hob]; simp), hob, heap_alloc_new]
  have hB1 : Below w.heap.size w w1 := ((Below.refl _ w).alloc (Nat.le_refl _) _).trans (hB.mono (by simp))
  have c0 : w1.cell? ⟨ob, 0, none⟩ = some (.slice la N lc) := by rw [cell_of_row _ _ _ _ _ _ hrow]; rfl
  have c1 : w1.cell? ⟨ob, 1, none⟩ = some (.slice ka M kc) := by rw [cell_of_row _ _ _ _ _ _ hrow]; rfl
  have c2 : w1.cell? ⟨ob, 2, none⟩ = some (.int .i64 t) := by rw [cell_of_row _ _ _ _ _ _ hrow]; rfl
  have c3 : w1.cell? ⟨ob, 3, none⟩ = some (.int .i64 c) := by rw [cell_of_row _ _ _ _ _ _ hrow]; rfl
  have H1 := Lib.hid hB1
  clear hB hB1 hrow hob
  dsimp only
  go_wp2_with (fail)
  go_region
  obtain ⟨w2, hw2⟩ : ∃ W, W = w1.drew := ⟨_, rfl⟩
  have hB2 : Below w.heap.size w w2 := by rw [hw2]; exact H1.out.trans ⟨rfl, rfl, rfl, Nat.le_refl _, fun _ _ => rfl⟩
  rw [← hw2]
  have H2 := Lib.hid hB2
  clear hw2 hB2 c0 c1 c2 c3
  go_wp2_with (fail)
  refine (snew_any w2 8 (by omega) (by omega)).mono ?_
  rintro e w3 ⟨f0, rfl, hA0, hB0⟩
  have H3 := Lib.hid (And.intro hA0 hB0)
  clear hA0 hB0
  obtain ⟨pb, hpb⟩ : ∃ b, b = f0.b := ⟨_, rfl⟩
  rw [← hpb]
  have HP := Lib.hid hpb
  clear hpb
  dsimp only
  obtain ⟨cz, hz, hcz⟩ := zero_eight
  have HZ := Lib.hid hcz
  clear hcz
  go_upto_region 6 with (fail)
  obtain ⟨w4, hw4⟩ : ∃ W, W = (w3.alloc (.cells cz 57)).alloc (.cells cz 57) := ⟨_, rfl⟩
  obtain ⟨wa, hwa⟩ : ∃ b, b = w3.heap.size := ⟨_, rfl⟩
  obtain ⟨sa, hsa⟩ : ∃ b, b = w3.heap.size + 1 := ⟨_, rfl⟩
  rw [← hw4, ← hsa, ← hwa]
  have hL4 : LR w2 pb wa sa 0 w4 := by
    obtain ⟨h1, h2⟩ := H3.out
    have hB : Below w3.heap.size w3 w4 := by rw [hw4]; exact ((Below.refl _ w3).alloc (by omega) _).alloc (by simp) _
    refine ⟨f0, StS.new 8, List.replicate 8 [], List.replicate 8 [], HP.out.symm, h1.far hB, LastI.start, Nat.le_refl _, ?_, ?_, h2.trans (hB.mono h2.size)⟩
    · rw [hw4, hwa, heap_alloc_old _ _ (by simp), heap_alloc_new, HZ.out]
    · rw [hw4, hsa, show w3.heap.size + 1 = (w3.alloc (.cells cz 57)).heap.size by simp, heap_alloc_new, HZ.out]
  have H4 := Lib.hid (And.intro hL4 (And.intro (show wa ≠ sa by omega) (show w2.heap.size ≤ wa ∧ w2.heap.size ≤ sa by have := H3.out.2.size; omega)))
  clear hL4 hw4 hwa hsa hz
  have hN9 : N ≤ 9223372036854775807 := by rw [HN.out.1]; exact HI.out.2.1
  go_wp2_with (fail)
  go_loopw [41] (fun v wr => ∃ i : Nat, i ≤ N ∧ i ≤ 40 ∧ v = .int .i64 (i : Int) ∧ LR w2 pb wa sa i wr) (fun v _ => N - (intOf v).toNat)
  case atStart => exact ⟨0, Nat.zero_le _, Nat.zero_le _, rfl, H4.out.1⟩
  case round =>
    obtain ⟨i, hi, hi4, rfl, hR⟩ := hrel
    have HR := Lib.hid hR
    clear hR
    by_cases hlt : i < N
    · have hi0 : (0 : Int) ≤ (i : Int) ∧ (i : Int) < N := by omega
      obtain ⟨o, ho⟩ : ∃ o, ops[i]? = some o := ⟨_, List.getElem?_eq_getElem (by rw [← HN.out.1]; exact hlt)⟩
      obtain ⟨ab, off, rfl, hq⟩ : ∃ ab off, la = some ⟨ab, off, none⟩ ∧ w.rangeAt ab (off + i * 5) o.cells := by
        rcases HI.out.1.2 with h | ⟨ab, off, h1, h2⟩
        · have := HN.out.1; omega
        · exact ⟨ab, off, h1, h2 i o ho⟩
      have hg := HI.out.1.1 o (List.mem_of_getElem? ho)
      have hBw : Below w.heap.size w wr := by
        exact H2.out.trans (HR.out.below.mono H2.out.size)
      have hab : ab < w.heap.size := block_lt_of_cell (hq 0 _ rfl)
      have hq' : wr.rangeAt ab (off + i * 5) o.cells := range_block hq (hBw.block ab hab)
      obtain ⟨oc, hoc⟩ : ∃ oc, oc = o.cells := ⟨_, rfl⟩
      have hol : oc.length = 5 := by rw [hoc]; rfl
      rw [← hoc] at hq'
      have HO := Lib.hid (And.intro ho (And.intro hg (And.intro hBw (And.intro hq' (And.intro hoc hol)))))
      clear ho hg hBw hq hq' hab hoc hol
      go_upto_region 8 with (fail)
      refine wp_region_lit ?_
      iterate 6 go_step
      refine wpList_load_mid rfl _ _ rfl ab (off + i * 5) rfl oc _ HO.out.2.2.2.1 Try.underlying47 rfl (by rw [HO.out.2.2.2.2.2]; kernel_rfl) ?_
      iterate 6 go_step
      refine wpList_store_row rfl _ _ _ rfl wr.heap.size oc.toArray rfl rfl 47 _ (heap_alloc_new wr _) (by simp only [List.size_toArray, HO.out.2.2.2.2.2]; kernel_rfl) (by simp only [List.size_toArray, HO.out.2.2.2.2.2]; rfl)
        (by rw [HO.out.2.2.2.2.1]; exact all_oneCell_toArray (OpL.one o)) ?_
      obtain ⟨w5, hw5⟩ : ∃ W, W = (wr.alloc (.cells #[.int .i64 0, .int .i64 0, .int .i64 0, .slice none 0 0, .slice none 0 0] 47)).setRow wr.heap.size oc.toArray := ⟨_, rfl⟩
      obtain ⟨ib, hib⟩ : ∃ b, b = wr.heap.size := ⟨_, rfl⟩
      have hB5 : Below wr.heap.size wr w5 := by
        rw [hw5]
        exact below_setRow ((Below.refl _ wr).alloc (Nat.le_refl _) _) (Nat.le_refl _) _
      have hrow : w5.heap[ib]? = some (.cells o.cells.toArray 47 (0, 0)) := by
        rw [hw5, hib, ← HO.out.2.2.2.2.1]
        exact setRow_heap _ _ _ _ _ _ (heap_alloc_new wr _)
      rw [← hw5, ← hib]
      have e0 : w5.cell? ⟨ib, 0, none⟩ = some (.int .i64 o.kind) := by rw [cell_of_row _ _ _ _ _ _ hrow]; rfl
      have e1 : w5.cell? ⟨ib, 1, none⟩ = some (.int .i64 o.at_) := by rw [cell_of_row _ _ _ _ _ _ hrow]; rfl
      have e2 : w5.cell? ⟨ib, 2, none⟩ = some (.int .i64 o.n) := by rw [cell_of_row _ _ _ _ _ _ hrow]; rfl
      have e3 : w5.cell? ⟨ib, 3, none⟩ = some (.slice o.ba o.bs.length o.bc) := by rw [cell_of_row _ _ _ _ _ _ hrow]; rfl
      have e4 : w5.cell? ⟨ib, 4, none⟩ = some (.slice o.ka o.keep.length o.kc) := by rw [cell_of_row _ _ _ _ _ _ hrow]; rfl
      have H5 := Lib.hid (And.intro (HR.out.far hB5) (And.intro hrow (HO.out.2.2.1.trans (hB5.mono HO.out.2.2.1.size))))
      clear hw5 hib hB5 hrow
      by_cases h40 : i = 40
      · subst h40
        go_wp2_with (fail)
        go_ret
        exact ⟨rfl, H5.out.2.2⟩
      · have h40' : ¬ (40 : Int) ≤ (i : Int) := by omega
        go_wp2_with (fail)
        refine (whole_any w5 o.kind o.at_ o.n o.ba o.bc o.bs _ (HO.out.2.1.bytes.from (Nat.le_refl _) H5.out.2.2) HO.out.2.1.few).mono ?_
        rintro e w6 ⟨a, mc, rfl, hsr, hB6, ha⟩
        obtain ⟨m, hm⟩ : ∃ m, m = wholeB o.bs := ⟨_, rfl⟩
        rw [← hm] at hsr ⊢
        have hml : m.length = 1 ∨ m.length = 128 := by
          rw [hm, wholeB_length]
          split
          · exact .inl rfl
          · exact .inr rfl
        obtain ⟨L, hL⟩ : ∃ L, L = m.length := ⟨_, rfl⟩
        rw [← hL] at hsr hml ⊢
        obtain ⟨f, s, want, synced, hX⟩ := H5.out.1
        have hrow6 : w6.heap[ib]? = some (.cells o.cells.toArray 47 (0, 0)) := (hB6.block _ (Array.getElem?_eq_some_iff.1 H5.out.2.1).1).trans H5.out.2.1
        have e0 : w6.cell? ⟨ib, 0, none⟩ = some (.int .i64 o.kind) := by rw [cell_of_row _ _ _ _ _ _ hrow6]; rfl
        have e1 : w6.cell? ⟨ib, 1, none⟩ = some (.int .i64 o.at_) := by rw [cell_of_row _ _ _ _ _ _ hrow6]; rfl
        have H6 := Lib.hid (And.intro (hX.far hB6) (And.intro (whole_aside hX.at_ H2.out.size HO.out.2.1.bytes (by rw [← hL]; exact hsr) ha) (And.intro hL (And.intro (H5.out.2.2.trans (hB6.mono H5.out.2.2.size)) hrow6))))
        clear hm hsr hB6 ha hrow6 hX hL
        have hk1 := i64_and1 o.kind
        have hk7 := i64_and7 o.at_
        obtain ⟨r1, hr1⟩ : ∃ r, r = o.kind % 2 := ⟨_, rfl⟩
        obtain ⟨k, hk⟩ : ∃ k : Nat, (k : Int) = o.at_ % 8 := ⟨(o.at_ % 8).toNat, by omega⟩
        have hk8 : k < 8 := by omega
        rw [← hr1] at hk1
        rw [← hk] at hk7
        have hr : r1 = 0 ∨ r1 = 1 := by omega
        clear hr1 hk
        dsimp only
        go_upto_if 53 with (fail)
        go_cut [41] from 54 to 70 (fun s41 wx => s41 = .int .i64 (i : Int) ∧ LR w2 pb wa sa (i + 1) wx)
        case first =>
          obtain ⟨hX, hsA, -⟩ := H6.out
          have hC : s.C ≠ 0 := by rw [hX.last.endless]; decide
          have hkL : k < s.L.length := by rw [hX.last.eight]; exact hk8
          rcases hr with rfl | rfl
          · rcases hml with rfl | rfl
            · have hc := swrite_arg hX.at_ (k := (k : Int)) (by omega) a 1 mc (by omega)
              rw [hX.pb] at hc
              clear hX hsA hC hkL
              go_wp2_with (fail)
              refine hc.mono ?_
              clear hc
              rintro e w7 ⟨rfl, rfl⟩
              dsimp only
              go_wp2_with (fail)
              go_meet
              case rel => exact ⟨rfl, _, _, _, _, H6.out.1.more (by omega)⟩
            · have hc := swrite_any hX.at_ hkL a mc m H6.out.2.2.1.symm hsA.src hC (hsA.not (by rw [← H6.out.2.2.1]; decide)) hX.below.size (by have := hX.few; omega)
              rw [hX.pb] at hc
              clear hX hsA hC hkL
              go_wp2_with (fail)
              refine hc.mono ?_
              clear hc
              rintro e w7 ⟨rfl, hE⟩
              obtain ⟨f', hn⟩ := SEnd.next H6.out.1.at_ H6.out.1.below.size hE
              have hw7 := H6.out.1.next hn (H6.out.1.last.write hk8 H6.out.2.2.1.symm)
              have hcv : (convert 28 9 (.slice a 128 mc)).run Try.prog w7 = .ok (Sv m) w7 := by
                have := run_conv_str w7 a mc m (H6.out.2.1.next hn).src
                rw [← H6.out.2.2.1] at this
                exact this
              have hcw : w7.cell? ⟨wa, k, none⟩ = some (Sv (want.getD k [])) := by
                rw [cell_of_row _ _ _ _ _ _ hw7.2.1]
                have := H6.out.1.last.lw
                simp [rowS, List.getD_eq_getElem?_getD, List.getElem?_eq_getElem (show k < want.length by omega)]
              have hfw : w7.frozen? ⟨wa, k, none⟩ = false := frozen_of_row w7 wa k _ _ hw7.2.1
              have hLR := H6.out.1.wrote hn hk8 H6.out.2.2.1.symm H4.out.2.1 H4.out.2.2.1
              have hib : Aside f w6 ib := ⟨(Array.getElem?_eq_some_iff.1 H6.out.2.2.2.2).1, H6.out.1.at_.other H6.out.2.2.2.2 (by decide) (by decide) (by decide) (by decide)⟩
              have e1 : w7.cell? ⟨ib, 1, none⟩ = some (.int .i64 o.at_) := by
                rw [cell_of_row _ _ _ _ _ _ ((hn.2.2.2 ib hib).2.trans H6.out.2.2.2.2)]
                rfl
              have HL := Lib.hid hLR
              obtain ⟨u, hu⟩ : ∃ u, u = want.getD k [] := ⟨_, rfl⟩
              rw [← hu] at hcw
              have hk0 : (0 : Int) ≤ (k : Int) ∧ (k : Int) < 8 := by omega
              clear hE hn hw7 hLR hib hu
              dsimp only
              go_upto_region 14 with (fail)
              refine wp_region_lit ?_
              iterate 18 go_step
              refine wpList_store1 rfl _ (.tmp 66) (.tmp 65) rfl ⟨wa, k, none⟩ (Sv m) (Sv u) rfl rfl (Sv_cells m) rfl Try.sizeOf9 hcw hfw ?_
              go_wp2_with (fail)
              go_meet
              case rel => exact ⟨rfl, HL.out⟩
          · have hc := ssync_any hX.at_ hC
            rw [hX.pb] at hc
            clear hX hsA hC hkL
            go_wp2_with (fail)
            refine hc.mono ?_
            clear hc
            rintro e w7 ⟨rfl, hE⟩
            obtain ⟨f', hn⟩ := SEnd.next H6.out.1.at_ H6.out.1.below.size hE
            have hw7 := H6.out.1.next hn H6.out.1.last.sync
            have hLR := H6.out.1.synced_ hn H4.out.2.1 H4.out.2.2.2
            have hlw := H6.out.1.last.lw
            have hls := H6.out.1.last.ls
            have HL := Lib.hid (And.intro hLR (And.intro hw7.2.1 (And.intro hw7.2.2.1 (And.intro hlw hls))))
            clear hE hn hw7 hLR hlw hls
            dsimp only
            go_upto_region 16 with (fail)
            refine wp_region_lit ?_
            refine wpList_load_row rfl _ _ rfl wa rfl 57 (rowS want) (0, 0) _ HL.out.2.1 Try.underlying57 rfl (by rw [rowS, List.size_toArray, List.length_map, HL.out.2.2.2.1]; kernel_rfl) ?_
            refine wpList_store_row rfl _ _ _ rfl sa (rowS want) rfl rfl 57 (rowS synced) HL.out.2.2.1 (by rw [rowS, List.size_toArray, List.length_map, HL.out.2.2.2.1]; kernel_rfl) (by simp [rowS, HL.out.2.2.2.1, HL.out.2.2.2.2])
              (rowS_one want) ?_
            obtain ⟨w8, hw8⟩ : ∃ W, W = w7.setRow sa (rowS want) := ⟨_, rfl⟩
            rw [← hw8]
            have HL8 : Hid (LR w2 pb wa sa (i + 1) w8) := by rw [hw8]; exact HL.out.1
            clear hw8 HL
            go_wp2_with (fail)
            go_meet
            case rel => exact ⟨rfl, HL8.out⟩
        case rest =>
          obtain ⟨rfl, f, s, want, synced, hX⟩ := hcut
          obtain ⟨RW, hRW⟩ : ∃ R, R = rowS want := ⟨_, rfl⟩
          have hwant := hX.want
          rw [← hRW] at hwant
          have hRs : RW.size = 8 := by rw [hRW, rowS, List.size_toArray, List.length_map]; exact hX.last.lw
          have HW := Lib.hid (And.intro hRW (And.intro hX.last.lw (And.intro hwant hRs)))
          have HX0 : Hid (∃ f s, LX w2 pb wa sa (i + 1) wc f s want synced) := ⟨f, s, hX⟩
          clear H6 hX e0 e1 e2 e3 e4 hk1 hk7 hr hml hRW hwant hRs
          go_upto_region 17 with (fail)
          refine wp_region_lit ?_
          refine wpList_load_row rfl _ _ rfl wa rfl 57 RW (0, 0) _ HW.out.2.2.1 Try.underlying57 rfl (by rw [HW.out.2.2.2]; kernel_rfl) ?_
          go_wp2_with (fail)
          go_loopw [72] (fun v wx => ∃ k : Nat, k ≤ 8 ∧ v = .int .i64 (k : Int) ∧ ∃ f s, LX w2 pb wa sa (i + 1) wx f s want synced) (fun v _ => 8 - (intOf v).toNat)
          case atStart => exact ⟨0, Nat.zero_le _, rfl, HX0.out⟩
          case round =>
            clear HX0 f s
            obtain ⟨k, hk, rfl, f, s, hX⟩ := hrel
            by_cases hk8 : k < 8
            · have hk0 : (0 : Int) ≤ (k : Int) ∧ (k : Int) < 8 := by omega
              obtain ⟨v, hv⟩ : ∃ v, v = want.getD k [] := ⟨_, rfl⟩
              have hix : ∀ w', (Instr.index 57 (.agg RW) (.int .i64 (k : Int))).run Try.prog w' = .ok (Sv v) w' := fun w' =>
                run_index_arr 57 9 8 Try.underlying57 Try.sizeOf9 Try.isAgg9 RW k hk8 (Sv v) (by
                  rw [HW.out.1, hv]
                  have := HW.out.2.1
                  simp [rowS, List.getD_eq_getElem?_getD, List.getElem?_eq_getElem (show k < want.length by omega)]) w'
              have hc := sread_any hX.at_ (k := k) (by rw [hX.last.eight]; exact hk8) (by rw [hX.last.endless]; decide)
              rw [hX.pb] at hc
              have HX := Lib.hid (And.intro hX hv)
              clear hX hv
              go_wp2_with (fail)
              refine hc.mono ?_
              clear hc
              rintro e wy ⟨a2, c2, rfl, hsr, hst, hkp⟩
              have hn := Next.kept HX.out.1.at_ HX.out.1.below.size hst hkp
              have h7 := HX.out.1.next hn (HX.out.1.last.read k)
              have hXy : LX w2 pb wa sa (i + 1) wy f (s.told k) want synced := ⟨h7.1, hst, h7.2.2.2.2.2.2, HX.out.1.few, h7.2.1, h7.2.2.1, h7.2.2.2.2.2.1⟩
              have hml : (s.new'.getD k []).length = 128 := HX.out.1.last.ok.new'.at (by rw [new'_length, HX.out.1.last.eight]; exact hk8)
              have hcv : (convert 28 9 (.slice a2 128 c2)).run Try.prog wy = .ok (Sv (s.new'.getD k [])) wy := by
                have := run_conv_str wy a2 c2 (s.new'.getD k []) hsr.srcP
                rw [hml] at this
                exact this
              by_cases hv0 : v = []
              · have HY := Lib.hid hXy
                clear hn h7 hXy hml hcv hsr hst hkp hk8
                subst hv0
                dsimp only
                go_wp2_with (fail)
                exact ⟨⟨k + 1, by omega, by go_num, f, _, HY.out⟩, by simp [intOf]; omega⟩
              · have hwv : s.new'.getD k [] = v := by
                  rw [HX.out.2]
                  exact HX.out.1.last.want k hk8 (by rw [← HX.out.2]; exact hv0)
                rw [hwv] at hcv
                have HY := Lib.hid hXy
                clear hn h7 hXy hml hsr hst hkp hk8 hwv
                dsimp only
                go_wp2_with (fail)
                exact ⟨⟨k + 1, by omega, by go_num, f, _, HY.out⟩, by simp [intOf]; omega⟩
            · obtain rfl : k = 8 := by omega
              have HX := Lib.hid hX
              clear hX hk8
              go_wp2_with (fail)
              exact ⟨⟨i + 1, by omega, by omega, by go_num, f, s, want, synced, HX.out⟩, by simp [intOf]; omega⟩
    · obtain rfl : i = N := by omega
      obtain ⟨f, s, want, synced, hX⟩ := HR.out
      obtain ⟨cz2, hz2, hcz2⟩ := zero_flags
      have HX := Lib.hid (And.intro hX hcz2)
      clear hX hcz2 HR hlt
      go_upto_region 26 with (fail)
      obtain ⟨fb, hfb⟩ : ∃ b, b = wr.heap.size := ⟨_, rfl⟩
      obtain ⟨w8, hw8⟩ : ∃ W, W = wr.alloc (.cells cz2 58) := ⟨_, rfl⟩
      rw [← hw8, ← hfb]
      have hB8 : Below wr.heap.size wr w8 := by rw [hw8]; exact (Below.refl _ wr).alloc (Nat.le_refl _) _
      have hX8 := HX.out.1.far hB8
      have hF8 : w8.heap[fb]? = some (.cells (rowT (List.replicate 8 false)) 58 (0, 0)) := by rw [hw8, hfb, heap_alloc_new, HX.out.2]
      have hwf : wa ≠ fb ∧ sa ≠ fb ∧ w2.heap.size ≤ fb := by
        have h1 := (Array.getElem?_eq_some_iff.1 HX.out.1.want).1
        have h2 := (Array.getElem?_eq_some_iff.1 HX.out.1.synced).1
        have h3 := HX.out.1.below.size
        omega
      have H8 := Lib.hid (And.intro hX8 (And.intro hF8 hwf))
      clear hfb hw8 hB8 hX8 hF8 hwf hz2 HX cz2
      have hc := swaits_any H8.out.1.at_ (by have := H8.out.1.few; omega)
      rw [H8.out.1.pb] at hc
      go_wp2_with (fail)
      refine hc.mono ?_
      clear hc
      rintro e w9 ⟨wv, rfl, hO, hB9⟩
      obtain ⟨va, vc, hwv⟩ := hO.form
      have hat : (atsOf s.W).length = s.W.length := by simp [atsOf]
      rw [hat] at hwv
      subst hwv
      have H9 := Lib.hid (And.intro (H8.out.1.far hB9) (And.intro ((hB9.block fb (Array.getElem?_eq_some_iff.1 H8.out.2.1).1).trans H8.out.2.1) hO))
      have hWl : s.W.length ≤ 40 := by have := H8.out.1.few; omega
      clear hO hB9 hat
      dsimp only
      go_wp2_with (fail)
      have haf : Aside f w9 fb := ⟨(Array.getElem?_eq_some_iff.1 H9.out.2.1).1, H9.out.1.at_.other H9.out.2.1 (by decide) (by decide) (by decide) (by decide)⟩
      have HF := Lib.hid haf
      clear haf
      go_loopw [99] (fun v wx => ∃ j : Nat, j ≤ s.W.length ∧ v = .int .i64 (j : Int) ∧ wx.heap[fb]? = some (.cells (rowT (flagsTo s.W j)) 58 (0, 0)) ∧ w9.grownBy wx (some fb)) (fun v _ => s.W.length - (intOf v).toNat)
      case atStart => exact ⟨0, Nat.zero_le _, rfl, H9.out.2.1, ⟨rfl, rfl, rfl, Nat.le_refl _, fun _ _ _ => rfl⟩⟩
      case round =>
        obtain ⟨j, hj, rfl, hrow, hg⟩ := hrel
        by_cases hlt : j < s.W.length
        · have hj0 : (0 : Int) ≤ (j : Int) ∧ (j : Int) < s.W.length := by omega
          obtain ⟨x, hx⟩ : ∃ x, s.W[j]? = some x := ⟨_, List.getElem?_eq_getElem hlt⟩
          have hin := H9.out.1.last.ok.waits x (List.mem_of_getElem? hx)
          rw [H9.out.1.last.eight] at hin
          have hlen : (atsOf s.W).length = s.W.length := by simp [atsOf]
          obtain ⟨q, hq, hqc⟩ : ∃ q, va = some ⟨q, 0, none⟩ ∧ wr.cell? ⟨q, j, none⟩ = some (.int .i64 (x.1 : Int)) := by
            have hO := H9.out.2.2
            rcases hO.2 with ⟨_, hn⟩ | ⟨q, cap, cur, hv, hb, hcur, hle, _, hsz, htk⟩
            · omega
            · injection hv with hv1 _ _
              refine ⟨q, hv1, ?_⟩
              have hqf : q ≠ fb := row_ty hcur H9.out.2.1 (by decide)
              have hq2 := (hg.block q (Array.getElem?_eq_some_iff.1 hcur).1 (by simpa using hqf)).trans hcur
              rw [cell_of_row _ _ _ _ _ _ hq2]
              have h1 : (cur.toList.take ((atsOf s.W).length * 1))[j]? = (atsOf s.W)[j]? := by rw [htk]
              rw [List.getElem?_take, if_pos (by omega)] at h1
              have h2 : (atsOf s.W)[j]? = some (.int .i64 (x.1 : Int)) := by simp [atsOf, hx]
              rw [h2] at h1
              simpa using h1
          subst hq
          obtain ⟨k, hk⟩ : ∃ k, k = x.1 := ⟨_, rfl⟩
          rw [← hk] at hqc
          have hk0 : (0 : Int) ≤ (k : Int) ∧ (k : Int) < 8 := by have := hin.1; omega
          have c1 : wr.cell? ⟨fb, k, none⟩ = some (.bool ((s.W.take j).any fun y => y.1 == k)) := by
            rw [cell_of_row _ _ _ _ _ _ hrow, rowT, List.getElem?_toArray, List.getElem?_map, flagsTo_at _ _ _ (by omega)]
            rfl
          have f1 := frozen_of_row wr fb k _ _ hrow
          obtain ⟨u, hu⟩ : ∃ u, u = (s.W.take j).any fun y => y.1 == k := ⟨_, rfl⟩
          rw [← hu] at c1
          have hE : (wr.setCell ⟨fb, k, none⟩ (.bool true)).heap[fb]? = some (.cells (rowT (flagsTo s.W (j + 1))) 58 (0, 0)) ∧ w9.grownBy (wr.setCell ⟨fb, k, none⟩ (.bool true)) (some fb) := by
            refine ⟨?_, hg.trans (grown_setCell _ _ _ _)⟩
            rw [heap_setCell_same wr fb k _ _ _ hrow, ← flagsTo_step s.W j x hx hin.1, ← hk]
            simp [rowT, List.map_set]
          have HE := Lib.hid hE
          clear hE hrow hg hx hin hlen hk hu hlt
          go_wp2_with (fail)
          exact ⟨⟨j + 1, by omega, by go_num, HE.out⟩, by simp [intOf]; omega⟩
        · obtain rfl : j = s.W.length := by omega
          have HE := Lib.hid (And.intro (H9.out.1.row HF.out H8.out.2.2.1 H8.out.2.2.2.1 H8.out.2.2.2.2 hg) hrow)
          clear hrow hg hlt
          go_upto_region 33 with (fail)
          obtain ⟨hX, hrow⟩ := HE.out
          have hBw : Below w.heap.size w wr := H2.out.trans (hX.below.mono H2.out.size)
          have hkp : KeepAt wr ka keep := by
            rcases HI.out.2.2 with h | ⟨ab, off, h1, h2⟩
            · exact .inl h
            · exact .inr ⟨ab, off, h1, fun j hj => (hBw.cell (p := ⟨ab, off + j, none⟩) (block_lt_of_cell (h2 j hj))).trans (h2 j hj)⟩
          have hka : ∀ ab, keep.length ≠ 0 → ka.map (·.block) = some ab → ¬ f.has ab := fun ab h0 h hf => by
            rcases HI.out.2.2 with h' | ⟨ab', off, h1, h2⟩
            · exact h0 h'
            · rw [h1] at h
              injection h with h
              dsimp only at h
              have h3 := block_lt_of_cell (h2 0 (by omega))
              have h4 := hX.at_.ge hf
              have h5 := H2.out.size
              dsimp only at h3
              omega
          have hc := scrash_any hX.at_ ka kc keep t c hkp hka
          rw [hX.pb, ← HN.out.2] at hc
          clear hX hrow hBw hkp hka
          go_wp2_with (fail)
          refine hc.mono ?_
          clear hc
          rintro e w10 ⟨rfl, hE⟩
          obtain ⟨f', hn⟩ := SEnd.next HE.out.1.at_ HE.out.1.below.size hE
          have haf : Aside f wr fb := ⟨(Array.getElem?_eq_some_iff.1 HE.out.2).1, HE.out.1.at_.other HE.out.2 (by decide) (by decide) (by decide) (by decide)⟩
          have a2 := aside_s HE.out.1.at_ HE.out.1.synced
          have hrow := (hn.2.2.2 fb haf).2.trans HE.out.2
          obtain ⟨RS, hRS⟩ : ∃ R, R = rowS synced := ⟨_, rfl⟩
          have hsy := (hn.2.2.2 sa a2).2.trans HE.out.1.synced
          rw [← hRS] at hsy
          have hRs : RS.size = 8 := by rw [hRS, rowS, List.size_toArray, List.length_map]; exact HE.out.1.last.ls
          have H10 : Hid (StAt w10 w2.heap.size f' (s.crashed keep t c) ∧ f'.b = pb ∧ w10.heap[fb]? = some (.cells (rowT (flagsTo s.W s.W.length)) 58 (0, 0)) ∧ Below w2.heap.size w2 w10 ∧ ¬ f'.has fb) :=
            ⟨hn.2.1, hn.1.trans HE.out.1.pb, hrow, HE.out.1.below.trans hn.2.2.1, (hn.2.2.2 fb haf).1.2⟩
          have HS := Lib.hid (And.intro hRS (And.intro hsy hRs))
          have HLs := Lib.hid HE.out.1.last
          clear hE hn haf a2 hrow hRS hsy hRs HE HF H9 H8
          dsimp only
          go_upto_region 34 with (fail)
          refine wp_region_lit ?_
          refine wpList_load_row rfl _ _ rfl sa rfl 57 RS (0, 0) _ HS.out.2.1 Try.underlying57 rfl (by rw [HS.out.2.2]; kernel_rfl) ?_
          go_wp2_with (fail)
          go_loopw [118] (fun v wx => ∃ k : Nat, k ≤ 8 ∧ v = .int .i64 (k : Int) ∧ ∃ s', StAt wx w2.heap.size f' s' ∧ s'.new' = (s.crashed keep t c).new' ∧ s'.W = [] ∧ s'.C = -1 ∧ s'.L.length = 8 ∧
              wx.heap[fb]? = some (.cells (rowT (flagsTo s.W s.W.length)) 58 (0, 0)) ∧ Below w2.heap.size w2 wx) (fun v _ => 8 - (intOf v).toNat)
          case atStart => exact ⟨0, Nat.zero_le _, rfl, _, H10.out.1, rfl, rfl, rfl, by show (laid _ _ _ _).length = 8; rw [laid_length]; exact HLs.out.eight, H10.out.2.2.1, H10.out.2.2.2.1⟩
          case round =>
            obtain ⟨k, hk, rfl, s', hA, hnw, hW0, hC, h8, hrow, hB⟩ := hrel
            by_cases hk8 : k < 8
            · have hk0 : (0 : Int) ≤ (k : Int) ∧ (k : Int) < 8 := by omega
              obtain ⟨v, hv⟩ : ∃ v, v = synced.getD k [] := ⟨_, rfl⟩
              have hix : ∀ w', (Instr.index 57 (.agg RS) (.int .i64 (k : Int))).run Try.prog w' = .ok (Sv v) w' := fun w' =>
                run_index_arr 57 9 8 Try.underlying57 Try.sizeOf9 Try.isAgg9 RS k hk8 (Sv v) (by
                  rw [HS.out.1, hv]
                  have := HLs.out.ls
                  simp [rowS, List.getD_eq_getElem?_getD, List.getElem?_eq_getElem (show k < synced.length by omega)]) w'
              have hc := sread_any hA (k := k) (by rw [h8]; exact hk8) (by rw [hC]; decide)
              rw [H10.out.2.1] at hc
              have HA := Lib.hid (And.intro hA (And.intro hnw (And.intro hW0 (And.intro hC (And.intro h8 (And.intro hrow (And.intro hB hv)))))))
              clear hA hnw hW0 hC h8 hrow hB hv
              go_wp2_with (fail)
              refine hc.mono ?_
              clear hc
              rintro e wy ⟨a2, c2, rfl, hsr, hst, hkp⟩
              obtain ⟨hA, hnw, hW0, hC, h8, hrow, hB, hv⟩ := HA.out
              have hn := Next.kept hA hB.size hst hkp
              have haf : Aside f' wr fb := ⟨(Array.getElem?_eq_some_iff.1 hrow).1, H10.out.2.2.2.2⟩
              have hrow' := (hn.2.2.2 fb haf).2.trans hrow
              have hml : (s'.new'.getD k []).length = 128 := hA.ok.new'.at (by rw [new'_length, h8]; exact hk8)
              have hcv : (convert 28 9 (.slice a2 128 c2)).run Try.prog wy = .ok (Sv (s'.new'.getD k [])) wy := by
                have := run_conv_str wy a2 c2 (s'.new'.getD k []) hsr.srcP
                rw [hml] at this
                exact this
              obtain ⟨wf, hwf⟩ : ∃ b, b = s.W.any fun y => y.1 == k := ⟨_, rfl⟩
              have c1 : wy.cell? ⟨fb, k, none⟩ = some (.bool wf) := by
                rw [cell_of_row _ _ _ _ _ _ hrow', rowT, List.getElem?_toArray, List.getElem?_map, flagsTo_at _ _ _ hk8, List.take_length, ← hwf]
                rfl
              have HY : Hid (∃ s', StAt wy w2.heap.size f' s' ∧ s'.new' = (s.crashed keep t c).new' ∧ s'.W = [] ∧ s'.C = -1 ∧ s'.L.length = 8 ∧
                  wy.heap[fb]? = some (.cells (rowT (flagsTo s.W s.W.length)) 58 (0, 0)) ∧ Below w2.heap.size w2 wy) :=
                ⟨_, hst, hnw, hW0, hC, h8, hrow', hB.trans hn.2.2.1⟩
              by_cases hv0 : v = []
              · clear hA hnw hW0 hC h8 hrow hB hv hn haf hrow' hml hcv hwf c1 hsr hst hkp hk8
                subst hv0
                dsimp only
                go_wp2_with (fail)
                exact ⟨⟨k + 1, by omega, by go_num, HY.out⟩, by simp [intOf]; omega⟩
              · cases wf with
                | true =>
                  clear hA hnw hW0 hC h8 hrow hB hv hn haf hrow' hml hcv hwf hsr hst hkp hk8
                  dsimp only
                  go_wp2_with (fail)
                  exact ⟨⟨k + 1, by omega, by go_num, HY.out⟩, by simp [intOf]; omega⟩
                | false =>
                  have hvv : s'.new'.getD k [] = v := by
                    rw [hnw, hv]
                    refine HLs.out.crash keep t c hk8 (by rw [← hv]; exact hv0) fun x hx e => ?_
                    have h1 : (s.W.any fun y => y.1 == k) = true := List.any_eq_true.2 ⟨x, hx, by simpa using e⟩
                    rw [h1] at hwf
                    cases hwf
                  rw [hvv] at hcv
                  clear hA hnw hW0 hC h8 hrow hB hv hn haf hrow' hml hwf hsr hst hkp hk8 hvv
                  dsimp only
                  go_wp2_with (fail)
                  exact ⟨⟨k + 1, by omega, by go_num, HY.out⟩, by simp [intOf]; omega⟩
            · obtain rfl : k = 8 := by omega
              have hc := swaits_any hA (by rw [hW0]; decide)
              rw [H10.out.2.1, hW0] at hc
              have HB := Lib.hid hB
              clear hA hnw hW0 hC h8 hrow hB hk8
              go_wp2_with (fail)
              refine hc.mono ?_
              clear hc
              rintro e wy ⟨wv, rfl, hO, hBy⟩
              obtain ⟨oa, oc', hwv⟩ := hO.form
              have hz : (atsOf []).length = 0 := rfl
              rw [hz] at hwv
              subst hwv
              have HE := Lib.hid (H2.out.trans ((HB.out.trans (hBy.mono HB.out.size)).mono H2.out.size))
              clear hO hBy hz
              dsimp only
              go_wp2_with (fail)
              go_ret
              exact ⟨rfl, HE.out⟩
end Go.Proofs.Ytggecfecodoigaa
