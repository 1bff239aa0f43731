/-
  The contract of slices.DeleteFunc at the writes that wait.
-/
import Derived.Test.YtggecfecodoigaaStoreDel
namespace Go.Proofs.Ytggecfecodoigaa
open Go Go.RowKit

theorem wp_clearW {ops : Array Oper} {rest : List Oper} {o : Oper} {a : Act} {w : World} {Q : Exit → Act → World → Prop} (hgd : o.guard = none) (s : Operand) (ho : o.op = .call { callee := .builtin .clear, args := #[s], argTypes := #[68] })
    {base N q n c i : Nat} {D : List (Nat × List (BitVec 8))} (hO : w.ownsRow base 78 129 (.slice (some ⟨q, 0, none⟩) n c) D.length (waitsC D)) (hD : WaitsIn N D) (hn : D.length = n) (hi : i < n) (hs : a.eval s = .slice (some ⟨q, i * 129, none⟩) (n - i) (c - i))
    (h : ∀ w', w'.ownsRow base 78 129 (.slice (some ⟨q, 0, none⟩) i c) (D.take i).length (waitsC (D.take i)) → w.grownBy w' (some q) → wpList Try.prog ops Q rest (a.put o.dst (.tuple #[])) w') : wpList Try.prog ops Q (o :: rest) a w := by
  refine wpList_plain hgd fun K hK => ?_
  obtain ⟨w', hr, h1, h2⟩ := clear_ownW o.type hO hD hn hi
  unfold Oper.wp execOp
  simp only [ho, resolve, invoke, builtin, Sem.run_bind, Sem.run_pure, Result.andThen_ok, List.map_toArray, List.map_cons, List.map_nil, hs, hr]
  exact hK _ _ (h w' h1 h2)
theorem run_sliceWl (w : World) (q n c i : Nat) (h : i < n) (hc : n ≤ c) : (Instr.slice 68 (.slice (some ⟨q, 0, none⟩) n c) (some (.int .i64 (i : Int))) none none).run Try.prog w = .ok (.slice (some ⟨q, i * 129, none⟩) (n - i) (c - i)) w := by
  have hz : ∀ w, (sizeOf 78).run Try.prog w = .ok 129 w := Try.sizeOf78
  have e : ¬ c = i := by omega
  simp [Instr.slice, run_underlying Try.underlying68, Instr.sliceBounds, run_sliceBound, hz, Nat.le_of_lt h, addr_add, e]
theorem run_sliceWh (w : World) (q n c i : Nat) (h : i ≤ c) (h0 : 0 < c) : (Instr.slice 68 (.slice (some ⟨q, 0, none⟩) n c) none (some (.int .i64 (i : Int))) none).run Try.prog w = .ok (.slice (some ⟨q, 0, none⟩) i c) w := by
  have hz : ∀ w, (sizeOf 78).run Try.prog w = .ok 129 w := Try.sizeOf78
  have e : ¬ c = 0 := by omega
  simp [Instr.slice, run_underlying Try.underlying68, Instr.sliceBounds, run_sliceBound, hz, addr_add, h, e]
theorem grown_two' {w w' w'' : World} {r : Option Nat} (h : w.grownBy w' r) (h' : w'.grownBy w'' r) : w.grownBy w'' r :=
  ⟨h'.os.trans h.os, h'.tape.trans h.tape, h'.output.trans h.output, Nat.le_trans h.size h'.size, fun j hj hne => (h'.block j (Nat.lt_of_lt_of_le hj h.size) hne).trans (h.block j hj hne)⟩
theorem grown_far' {w w' w'' : World} {r : Option Nat} (h : w.grownBy w' r) (hB : Below w'.heap.size w' w'') : w.grownBy w'' r :=
  ⟨hB.os.trans h.os, hB.tape.trans h.tape, hB.output.trans h.output, Nat.le_trans h.size hB.size, fun j hj hne => (hB.block j (Nat.lt_of_lt_of_le hj h.size)).trans (h.block j hj hne)⟩
theorem grown_of_below {w w' : World} (hB : Below w.heap.size w w') (r : Option Nat) : w.grownBy w' r := ⟨hB.os, hB.tape, hB.output, hB.size, fun j hj _ => hB.block j hj⟩
/-- What DeleteFunc's loop keeps. -/
structure DelI (w : World) (base N q n c : Nat) (W : List (Nat × List (BitVec 8))) (k i j : Nat) (D : List (Nat × List (BitVec 8))) (wr : World) : Prop where
  lt : i < j
  le : j ≤ n
  len : D.length = n
  ok : WaitsIn N D
  own : wr.ownsRow base 78 129 (.slice (some ⟨q, 0, none⟩) n c) D.length (waitsC D)
  kept : D.take i = leftB (W.take j) k
  rest : D.drop j = W.drop j
  grown : w.grownBy wr (some q)
theorem DelI.at {w : World} {base N q n c : Nat} {W : List (Nat × List (BitVec 8))} {k i j : Nat} {D : List (Nat × List (BitVec 8))} {wr : World} (h : DelI w base N q n c W k i j D wr) : D[j]? = W[j]? := by
  have := congrArg (fun l => l[0]?) h.rest
  simpa using this
theorem DelI.skip {w : World} {base N q n c : Nat} {W : List (Nat × List (BitVec 8))} {k i j : Nat} {D : List (Nat × List (BitVec 8))} {wr w' : World} (h : DelI w base N q n c W k i j D wr) {x : Nat × List (BitVec 8)} (hx : W[j]? = some x) (hk : x.1 = k) (hj : j < n)
    (hB : Below wr.heap.size wr w') : DelI w base N q n c W k i (j + 1) D w' := by
  refine ⟨by have := h.lt; omega, by omega, h.len, h.ok, own_move h.own fun g hg => hB.block g (World.ownsRow.lt h.own g hg).2, ?_, ?_, grown_far' h.grown hB⟩
  · rw [leftB_step W k j x hx, if_pos hk]
    exact h.kept
  · rw [← List.drop_drop, ← List.drop_drop, h.rest]
theorem DelI.keep {w : World} {base N q n c : Nat} {W : List (Nat × List (BitVec 8))} {k i j : Nat} {D : List (Nat × List (BitVec 8))} {wr w1 w2 : World} (h : DelI w base N q n c W k i j D wr) {x : Nat × List (BitVec 8)} (hx : W[j]? = some x) (hxN : x.1 < N ∧ x.2.length = 128) (hk : ¬ x.1 = k) (hj : j < n)
    (hB : Below wr.heap.size wr w1) (h2 : w2 = w1.setCells q (i * 129) (waitC x)) : w1.there q (i * 129) 129 ∧ DelI w base N q n c W k (i + 1) (j + 1) (D.set i x) w2 := by
  have hl := h.lt
  have ho := own_move (w' := w1) h.own fun g hg => hB.block g (World.ownsRow.lt h.own g hg).2
  obtain ⟨h1, h3, h4⟩ := ownW_set ho h.ok h.len (i := i) (by omega) hxN.2
  have hlen : (D.set i x).length = n := by rw [List.length_set]; exact h.len
  refine ⟨h1, by omega, by omega, hlen, h.ok.set hxN, by rw [h2]; exact h3, ?_, ?_, by rw [h2]; exact grown_two' (grown_far' h.grown hB) h4⟩
  · have hi : i < D.length := by rw [h.len]; omega
    rw [leftB_step W k j x hx, if_neg hk, ← h.kept, List.take_add_one, List.take_set_of_le (Nat.le_refl _), List.getElem?_set_self hi]
    rfl
  · rw [List.drop_set_of_lt (by omega), ← List.drop_drop, ← List.drop_drop, h.rest]
set_option maxRecDepth 100000 in
set_option maxHeartbeats 1000000 in
theorem deleteW_any {w : World} {base N : Nat} {v : Value} {W : List (Nat × List (BitVec 8))} (ho : w.ownsRow base 78 129 v W.length (waitsC W)) (hW : WaitsIn N W) (hn : W.length ≤ 1000000) {bx k : Nat} (hb : w.cell? ⟨bx, 0, none⟩ = some (.int .i64 (k : Int)))
    (hne : v.ownBlock ≠ some bx) :
    Calls Try.prog 38 #[v, .func (.func 39) #[] #[.pointer (some ⟨bx, 0, none⟩)]] w fun e w' => ∃ v', e = .returned v' ∧ w'.ownsRow base 78 129 v' (leftB W k).length (waitsC (leftB W k)) ∧
      v'.ownBlock = v.ownBlock ∧ w.grownBy w' v.ownBlock := by
  have HI := Lib.hid (indexW_any ho hW hn hb)
  rcases seekK_cases W k with ⟨hs, hl⟩ | ⟨k0, x0, hx0, hk0, hs, hl⟩
  · rw [hs] at HI
    rw [hl]
    obtain ⟨wa, wc, rfl⟩ : ∃ wa wc, v = .slice wa W.length wc := by
      rcases ho.2 with ⟨hv, hn⟩ | ⟨g, cap, cur, hv, _, _, h1, h2, _⟩
      · exact ⟨none, 0, by rw [hv, hn]⟩
      · exact ⟨_, _, hv⟩
    have HO := Lib.hid (And.intro ho hne)
    clear ho hW hn hb hne hs hl
    go_enter Try.func38, Try.ntmps38
    go_wp2_with (fail)
    refine HI.out.mono ?_
    rintro e w1 ⟨rfl, hB⟩
    have h1 := own_move (w' := w1) HO.out.1 fun g hg => hB.block g (World.ownsRow.lt HO.out.1 g hg).2
    have H1 := Lib.hid (And.intro h1 (grown_of_below hB (Value.slice wa W.length wc).ownBlock))
    clear h1 hB
    dsimp only
    go_wp2_with (fail)
    go_ret
    exact ⟨_, rfl, H1.out.1, rfl, H1.out.2⟩
  · rw [hs] at HI
    have hk0n := (List.getElem?_eq_some_iff.1 hx0).1
    obtain ⟨q, c, rfl, hnc, hcm⟩ : ∃ q c, v = .slice (some ⟨q, 0, none⟩) W.length c ∧ W.length ≤ c ∧ c ≤ maxLen := by
      rcases ho.2 with ⟨hv, hn⟩ | ⟨g, cap, cur, hv, _, _, h1, h2, _⟩
      · omega
      · exact ⟨_, _, hv, h1, h2⟩
    have hqb : q ≠ bx := fun e => hne (by rw [← e]; rfl)
    have HO := Lib.hid (And.intro ho (And.intro hW (And.intro hb (And.intro hnc (And.intro hcm (And.intro hx0 (And.intro hk0 (And.intro hl (And.intro hk0n hqb)))))))))
    have e1 : ((k0 : Int) == -1) = false := beq_eq_false_iff_ne.2 (by omega)
    obtain ⟨n, hN⟩ : ∃ n, n = W.length := ⟨_, rfl⟩
    rw [← hN] at hn
    have HN := Lib.hid hN
    rw [← hN]
    have hk0c : (k0 : Int) + 1 ≤ 1000001 := by omega
    clear ho hW hb hne hs hl hx0 hk0 hnc hcm hqb hk0n hN
    go_enter Try.func38, Try.ntmps38
    go_wp2_with (fail)
    have HI2 := HI.out
    rw [← HN.out] at HI2
    refine HI2.mono ?_
    clear HI2
    rintro e w1 ⟨rfl, hB⟩
    have HB := Lib.hid hB
    clear hB
    dsimp only
    go_wp2_with (fail)
    go_loopw [5, 6] (fun a b wr => ∃ (i j : Nat) (D : List (Nat × List (BitVec 8))), a = .int .i64 (i : Int) ∧ b = .int .i64 (j : Int) ∧ DelI w base N q n c W k i j D wr) (fun _ u _ => n - (intOf u).toNat)
    case atStart =>
      obtain ⟨ho, hW, hb, hnc, hcm, hx0, hk0, hl, hk0n, hqb⟩ := HO.out
      have ho1 := own_move (w' := w1) ho fun g hg => HB.out.block g (World.ownsRow.lt ho g hg).2
      refine ⟨k0, k0 + 1, W, rfl, by go_num, ⟨by omega, by rw [HN.out]; omega, HN.out.symm, hW, by rw [HN.out]; exact ho1, ?_, rfl, grown_of_below HB.out _⟩⟩
      rw [leftB_step W k k0 x0 hx0, if_pos hk0, hl]
    case round =>
      obtain ⟨i, j, D, rfl, rfl, hI⟩ := hrel
      have HI := Lib.hid hI
      have hij := hI.lt
      have hjn := hI.le
      clear hI e1 hk0c
      by_cases hlt : j < n
      · have hltz : (j : Int) < (n : Int) := by omega
        have hi0 : (0 : Int) ≤ (i : Int) ∧ (i : Int) < (n : Int) := by omega
        have hj0 : (0 : Int) ≤ (j : Int) := by omega
        obtain ⟨x, hx⟩ : ∃ x, W[j]? = some x := ⟨_, List.getElem?_eq_getElem (by rw [← HN.out]; exact hlt)⟩
        have hxD := HI.out.at.trans hx
        have hin := HI.out.ok x (List.mem_of_getElem? hxD)
        obtain ⟨q2, e2, hq⟩ := wait_range HI.out.own HI.out.ok hxD
        obtain rfl : q = q2 := by
          injection e2 with e2
          injection e2
        obtain ⟨cz, hz, hcz⟩ := zero_write
        obtain ⟨cx, hcx⟩ : ∃ cx, cx = waitC x := ⟨_, rfl⟩
        obtain ⟨tf, htf⟩ : ∃ b, b = (x.1 == k) := ⟨_, rfl⟩
        have hcl : cx.length = 129 := by rw [hcx]; exact waitC_length hin.2
        rw [← hcx] at hq
        have HX := Lib.hid (And.intro hx (And.intro hin (And.intro hcx (And.intro hcl (And.intro hq (And.intro hcz htf))))))
        clear hx hxD hin e2 hq hcx hcl hcz htf hlt
        go_upto_region 7 with (fail)
        refine wp_region_lit ?_
        iterate 9 go_step
        refine wpList_load_mid rfl _ _ rfl q (j * 129) rfl cx _ HX.out.2.2.2.2.1 Try.underlying78 rfl (by rw [info_wr, HX.out.2.2.2.1]) ?_
        iterate 3 go_step
        refine wpList_store_row rfl _ _ _ rfl wr.heap.size cx.toArray rfl rfl 78 cz (heap_alloc_new wr _) (by rw [info_wr]; simp [HX.out.2.2.2.1]) (by rw [HX.out.2.2.2.2.2.1]; simp [HX.out.2.2.2.1])
          (by rw [HX.out.2.2.1]; exact all_oneCell_toArray (waitC_one x)) ?_
        obtain ⟨w2, hw2⟩ : ∃ W, W = (wr.alloc (.cells cz 78)).setRow wr.heap.size cx.toArray := ⟨_, rfl⟩
        obtain ⟨wb, hwb⟩ : ∃ b, b = wr.heap.size := ⟨_, rfl⟩
        have hB1 : Below wr.heap.size wr w2 := by
          rw [hw2]
          exact below_setRow ((Below.refl _ wr).alloc (Nat.le_refl _) _) (Nat.le_refl _) _
        have hrow : w2.heap[wb]? = some (.cells cx.toArray 78 (0, 0)) := by
          rw [hw2, hwb]
          exact setRow_heap _ _ _ _ _ _ (heap_alloc_new wr _)
        rw [← hw2, ← hwb]
        obtain ⟨ho, hW, hb, hnc, hcm, hx0, hk0, hl, hk0n, hqb⟩ := HO.out
        have hbr : w2.cell? ⟨bx, 0, none⟩ = some (.int .i64 (k : Int)) := by
          have hbw : bx < w.heap.size := block_lt_of_cell hb
          rw [World.cell?_of_block (w := wr) (hB1.block bx (Nat.lt_of_lt_of_le hbw HI.out.grown.size)), World.cell?_of_block (w := w) (HI.out.grown.block bx hbw fun e => hqb (Option.some.inj e).symm)]
          exact hb
        have hcall := lay1_any (w := w2) HX.out.2.1.2 hbr
        rw [← HX.out.2.2.1, ← HX.out.2.2.2.2.2.2] at hcall
        have H2 := Lib.hid (And.intro hB1 (And.intro hrow hcall))
        clear ho hW hb hnc hcm hx0 hk0 hl hk0n hqb hbr hcall hw2 hwb hB1 hrow hz
        dsimp only
        go_upto_region 8 with (fail)
        refine wp_region_lit ?_
        iterate 3 go_step
        refine wpList_load_row rfl _ _ rfl wb rfl 78 cx.toArray (0, 0) _ H2.out.2.1 Try.underlying78 rfl (by rw [info_wr]; simp [HX.out.2.2.2.1]) ?_
        dsimp only
        go_wp2_with (fail)
        refine H2.out.2.2.mono ?_
        rintro e w3 ⟨rfl, hB3⟩
        have hB23 : Below wr.heap.size wr w3 := H2.out.1.trans (hB3.mono H2.out.1.size)
        have hrow3 : w3.heap[wb]? = some (.cells cx.toArray 78 (0, 0)) := (hB3.block wb (Array.getElem?_eq_some_iff.1 H2.out.2.1).1).trans H2.out.2.1
        have H3 := Lib.hid (And.intro hB23 hrow3)
        clear hB3 hB23 hrow3
        dsimp only
        cases tf
        · have hne : ¬ x.1 = k := fun e => by
            have := HX.out.2.2.2.2.2.2
            rw [e, beq_self_eq_true] at this
            cases this
          obtain ⟨w4, hw4⟩ : ∃ W, W = w3.setCells q (i * 129) cx := ⟨_, rfl⟩
          obtain ⟨hth, hI4⟩ := HI.out.keep (w1 := w3) (w2 := w4) HX.out.1 HX.out.2.1 hne (by omega) H3.out.1 (by rw [hw4, HX.out.2.2.1])
          have H4 := Lib.hid (And.intro hw4 (And.intro hth hI4))
          clear hne hw4 hth hI4
          go_upto_region 9 with (fail)
          refine wp_region_lit ?_
          iterate 6 go_step
          refine wpList_load_row rfl _ _ rfl wb rfl 78 cx.toArray (0, 0) _ H3.out.2 Try.underlying78 rfl (by rw [info_wr]; simp [HX.out.2.2.2.1]) ?_
          iterate 3 go_step
          refine wpList_store_mid rfl _ _ _ rfl q (i * 129) cx.toArray rfl rfl (by rw [List.size_toArray, HX.out.2.2.2.1]; exact H4.out.2.1) (by rw [info_wr]; simp [HX.out.2.2.2.1]) (by rw [HX.out.2.2.1]; exact all_oneCell_toArray (waitC_one x)) ?_
          rw [show cx.toArray.toList = cx from rfl, ← H4.out.1]
          have hic : (i : Int) + 1 ≤ 1000001 := by omega
          have hjc : (j : Int) + 1 ≤ 1000001 := by omega
          dsimp only
          go_wp2_with (fail)
          exact ⟨⟨i + 1, j + 1, _, by go_num, by go_num, H4.out.2.2⟩, by simp [intOf]; omega⟩
        · have hk : x.1 = k := eq_of_beq HX.out.2.2.2.2.2.2.symm
          have hI4 := HI.out.skip (w' := w3) HX.out.1 hk (by omega) H3.out.1
          have H4 := Lib.hid hI4
          have hjc : (j : Int) + 1 ≤ 1000001 := by omega
          clear hk hI4
          go_wp2_with (fail)
          exact ⟨⟨i, j + 1, _, rfl, by go_num, H4.out⟩, by simp [intOf]; omega⟩
      · obtain rfl : j = n := by omega
        have hin : i < j := hij
        obtain ⟨ho, hW, hb, hnc, hcm, hx0, hk0, hl, hk0n, hqb⟩ := HO.out
        rw [← HN.out] at hnc
        have hs1 := fun w' => run_sliceWl w' q j c i hin hnc
        have hs2 := fun w' => run_sliceWh w' q j c i (by omega) (by omega)
        have hltz : ¬ (j : Int) < (j : Int) := by omega
        clear ho hW hb hnc hcm hx0 hk0 hl hk0n hqb hlt
        go_upto_region 11 with (fail)
        refine wp_region_lit ?_
        iterate 9 go_step
        refine wp_clearW rfl (.tmp 38) rfl HI.out.own HI.out.ok HI.out.len hin rfl ?_
        intro w3 hO3 hg3
        have hk := HI.out.kept
        rw [HN.out, List.take_length] at hk
        rw [hk] at hO3
        have H3 := Lib.hid (And.intro hO3 (grown_two' HI.out.grown hg3))
        clear hO3 hg3 hk hs1
        dsimp only
        go_wp2_with (fail)
        go_ret
        exact ⟨_, rfl, H3.out.1, rfl, H3.out.2⟩
end Go.Proofs.Ytggecfecodoigaa
