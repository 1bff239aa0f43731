/-
  The contract of the reference's Split at a blank: the words of a text.
-/
import Derived.Test.YteoolfifpmbkeaaDoorRefWords
namespace Go.Proofs.YteoolfifpmbkeaaDoor
open Go Go.RowKit

theorem infoStr : (Tryd.prog.info? 9).map (fun i => (i.zero, i.size, i.bytes)) = some (some (.string ⟨#[]⟩), 1, 16) := by kernel_rfl
theorem wpList_slice1_S {ops : Array Oper} {rest : List Oper} {o : Oper} {a : Act} {w : World} {Q : Exit → Act → World → Prop} (hg : o.guard = none) (y : Operand) (ho : o.op = .buildSlice 49 1 #[(0, y)]) (x : List (BitVec 8)) (hy : a.eval y = Sv x)
    (h : wpList Tryd.prog ops Q rest (a.put o.dst (.slice (some ⟨w.heap.size, 0, none⟩) 1 1)) (w.alloc (.cells #[Sv x] 9))) : wpList Tryd.prog ops Q (o :: rest) a w := by
  have hF : Instr.fill (fun i => some (i * 1, 1)) ((Array.range (1 * 1)).map ((Value.string ⟨#[]⟩).cells[· % (Value.string ⟨#[]⟩).cells.size]!)) [(0, Sv x)] = some #[Sv x] := by kernel_rfl
  obtain ⟨i, hi, hz0, hz1, hz2⟩ := info_parts infoStr
  refine wpList_buildSlice hg 49 9 1 _ ho #[Sv x] i _ Tryd.underlying49 hi hz0 (by rw [hz1]; decide) (by rw [hz1]; decide) ?_ h
  rw [hz1]
  simp only [List.map_toArray, List.map_cons, List.map_nil, hy]
  exact hF
theorem run_mid_Sv (w : World) (m : List (BitVec 8)) (l h : Nat) (h1 : l ≤ h) (h2 : h ≤ m.length) : (Instr.slice 9 (Sv m) (some (.int .i64 (l : Int))) (some (.int .i64 (h : Int))) none).run Tryd.prog w = .ok (Sv ((m.drop l).take (h - l))) w := by
  have hs := strOf_size m
  have e : (strOf m).extract l h = strOf ((m.drop l).take (h - l)) := strOf_extract m l h
  simp [Sv, Instr.slice, run_underlying Tryd.underlying9, Instr.sliceBounds, run_sliceBound, hs, h1, h2, e]
theorem run_one_Sv (w : World) (m : List (BitVec 8)) (k : Nat) (h : k < m.length) : (Instr.slice 9 (Sv m) (some (.int .i64 (k : Int))) (some (.int .i64 ((k : Int) + 1))) none).run Tryd.prog w = .ok (Sv [gl m k]) w := by
  have e := run_mid_Sv w m k (k + 1) (by omega) (by omega)
  rw [show k + 1 - k = 1 by omega] at e
  have e2 : (m.drop k).take 1 = [gl m k] := by
    rw [List.drop_eq_getElem_cons h]
    simp only [gl, List.getD_eq_getElem?_getD, List.getElem?_eq_getElem h]
    rfl
  rw [e2] at e
  exact e
def RSp (w : World) (s : List (BitVec 8)) (out wd i : Value) (wr : World) : Prop :=
  ∃ t : Nat, t ≤ s.length ∧ i = .int .i64 (t : Int) ∧ wd = Sv (splitS (s.take t)).2 ∧ Own wr w.heap.size 9 out ((splitS (s.take t)).1.map Sv) ∧ Below w.heap.size w wr
theorem splitS_len (s : List (BitVec 8)) : (splitS s).1.length + (splitS s).2.length ≤ s.length := by
  have key : ∀ k, k ≤ s.length → (splitS (s.take k)).1.length + (splitS (s.take k)).2.length ≤ k := by
    intro k
    induction k with
    | zero => intro _; simp [splitS]
    | succ k ih =>
      intro hk
      have hc : s[k]? = some s[k] := List.getElem?_eq_getElem (by omega)
      have := ih (by omega)
      rw [splitS_next hc, splitStep]
      split
      · simp only [List.length_append, List.length_cons, List.length_nil]
        omega
      · simp only [List.length_append, List.length_cons, List.length_nil]
        omega
  have := key s.length (Nat.le_refl _)
  rwa [List.take_length] at this
set_option maxRecDepth 100000 in
set_option maxHeartbeats 2000000 in
theorem erSplit_cap (w : World) (s : List (BitVec 8)) (hl : s.length ≤ 900) :
    Calls Tryd.prog 23 #[Sv s, .string ⟨#[32]⟩] w fun e w' => ∃ g c, e = .returned (.slice (some ⟨g, 0, none⟩) (splitL s).length c) ∧ w.heap.size ≤ g ∧ WordsAt w' g (splitL s) ∧ Below w.heap.size w w' ∧ (splitL s).length ≤ c := by
  obtain ⟨L, hL⟩ : ∃ L, L = s.length := ⟨_, rfl⟩
  have HP := Lib.hid (And.intro hL hl)
  have hL6 : L ≤ 900 := by omega
  have hlen : ∀ w ty, (Builtin.len_ #[9] ty #[Sv s]).run Tryd.prog w = .ok (.int .i64 (L : Int)) w := by
    rw [hL]
    exact fun w ty => run_len_Sv w ty s
  clear hL hl
  go_enter Tryd.func23, Tryd.ntmps23
  go_wp2_with (fail)
  rw [Sv_nil]
  go_loopw [5, 6, 7] (RSp w s) (fun _ _ i _ => L - (intOf i).toNat)
  case atStart => exact ⟨0, Nat.zero_le _, rfl, rfl, Own.nil _ _ _, Below.refl _ _⟩
  case round =>
    obtain ⟨t, ht, rfl, rfl, hO, hB⟩ := hrel
    rw [← HP.out.1] at ht
    by_cases hlt : t < L
    · have hi0 : (0 : Int) ≤ (t : Int) ∧ (t : Int) < (L : Int) := by omega
      obtain ⟨c, hc⟩ : ∃ c, c = gl s t := ⟨_, rfl⟩
      have hmid : ∀ w, (Instr.slice 9 (Sv s) (some (.int .i64 (t : Int))) (some (.int .i64 ((t : Int) + 1))) none).run Tryd.prog w = .ok (Sv [c]) w := by
        rw [hc]
        exact fun w => run_one_Sv w s t (by have := HP.out.1; omega)
      obtain ⟨o, ho⟩ : ∃ o, o = (splitS (s.take t)).1 := ⟨_, rfl⟩
      obtain ⟨acc, hacc⟩ : ∃ a, a = (splitS (s.take t)).2 := ⟨_, rfl⟩
      rw [← ho] at hO
      rw [← hacc]
      have hn : splitS (s.take (t + 1)) = splitStep (o, acc) c := by
        rw [ho, hacc, hc]
        exact splitS_next (gl_at s t (by have := HP.out.1; omega))
      have hlo := splitS_len (s.take t)
      rw [← ho, ← hacc] at hlo
      have htl : (s.take t).length = t := by
        rw [List.length_take]
        have := HP.out.1
        omega
      by_cases h32 : c = 32
      · have hev : ∀ w, (binOp .eql 9 (Sv [c]) (.string ⟨#[32]⟩)).run Tryd.prog w = .ok (.bool true) w := fun w => by
          rw [h32]
          exact run_eql_Sv w [32] [32]
        rw [splitStep, if_pos h32] at hn
        have HR := Lib.hid (And.intro hO (And.intro hB (And.intro hn (And.intro (show o.length ≤ 900 by omega) hlt))))
        clear hO hB hn hlo htl h32 ho hacc hc ht
        go_upto_region 6 with (fail)
        refine wp_region_lit ?_
        iterate 6 go_step
        refine wpList_slice1_S rfl (.tmp 31) rfl acc rfl ?_
        refine wpList_push Tryd.underlying49 infoStr rfl rfl (.tmp 30) (.tmp 32) rfl w.heap.size _ (o.map Sv) rfl (HR.out.1.alloc _) (Sv acc) wr.heap.size rfl (by rw [cell_of_row _ _ _ _ _ _ (heap_alloc_new wr _)]; rfl) rfl (by have := HR.out.2.2.2.1; simp; omega) (by have := HR.out.2.1.size; simp; omega) (by omega) ?_
        intro v' w3 g1 g2 g3
        have HR3 : Hid (RSp w s v' (Sv []) (.int .i64 ((t : Int) + 1)) w3) := by
          obtain ⟨h1, h2, h3, h4, h5⟩ := HR.out
          have hB1 := h2.alloc h2.size (.cells #[Sv acc] 9)
          refine Lib.hid ⟨t + 1, by have := HP.out.1; omega, by go_num, by rw [h3], ?_, hB1.trans (below_grown (h1.alloc _) g2 hB1.size)⟩
          rw [h3, List.map_append]
          exact g1
        clear g1 g2 g3
        go_wp2_with (fail)
        refine ⟨HR3.out, ?_⟩
        have := HR.out.2.2.2.2
        simp [intOf]
        omega
      · have hev : ∀ w, (binOp .eql 9 (Sv [c]) (.string ⟨#[32]⟩)).run Tryd.prog w = .ok (.bool false) w := fun w => by
          have h := run_eql_Sv w [c] [32]
          rwa [decide_eq_false (by simpa using h32)] at h
        have hadd : ∀ w, (binOp .add 9 (Sv acc) (Sv [c])).run Tryd.prog w = .ok (Sv (acc ++ [c])) w := fun w => run_add_Sv w _ _ (by simp; omega)
        rw [splitStep, if_neg h32] at hn
        obtain ⟨acc2, hacc2⟩ : ∃ a, a = acc ++ [c] := ⟨_, rfl⟩
        rw [← hacc2] at hadd hn
        have HR := Lib.hid (And.intro hO (And.intro hB (And.intro hn hlt)))
        clear hO hB hn hlo htl h32 ho hacc hc ht hacc2
        go_wp2_with (fail)
        have HR3 : Hid (RSp w s u5 (Sv acc2) (.int .i64 ((t : Int) + 1)) wr) := by
          obtain ⟨h1, h2, h3, h4⟩ := HR.out
          exact Lib.hid ⟨t + 1, by have := HP.out.1; omega, by go_num, by rw [h3], by rw [h3]; exact h1, h2⟩
        refine ⟨HR3.out, ?_⟩
        have := HR.out.2.2.2
        simp [intOf]
        omega
    · obtain rfl : t = L := by omega
      have hts : s.take t = s := by rw [HP.out.1, List.take_length]
      rw [hts] at hO ⊢
      obtain ⟨acc, hacc⟩ : ∃ a, a = (splitS s).2 := ⟨_, rfl⟩
      obtain ⟨o, ho⟩ : ∃ o, o = (splitS s).1 := ⟨_, rfl⟩
      have hlo := splitS_len s
      rw [← ho, ← hacc] at hlo
      rw [← ho] at hO
      rw [← hacc]
      have HR : Hid (Own wr w.heap.size 9 u5 (o.map Sv) ∧ Below w.heap.size w wr ∧ splitL s = o ++ [acc] ∧ o.length ≤ 900) := by
        refine Lib.hid ⟨hO, hB, ?_, by have := HP.out; omega⟩
        rw [ho, hacc]
        rfl
      clear hO hB hlo ho hacc ht hts hlt
      go_upto_region 11 with (fail)
      refine wp_region_lit ?_
      iterate 6 go_step
      refine wpList_slice1_S rfl (.tmp 48) rfl acc rfl ?_
      refine wpList_push Tryd.underlying49 infoStr rfl rfl (.tmp 47) (.tmp 49) rfl w.heap.size _ (o.map Sv) rfl (HR.out.1.alloc _) (Sv acc) wr.heap.size rfl (by rw [cell_of_row _ _ _ _ _ _ (heap_alloc_new wr _)]; rfl) rfl (by have := HR.out.2.2.2; simp; omega) (by have := HR.out.2.1.size; simp; omega) (by omega) ?_
      intro v' w3 g1 g2 g3
      have hB3 : Below w.heap.size w w3 := by
        obtain ⟨h1, h2, h3, h4⟩ := HR.out
        have hB1 := h2.alloc h2.size (.cells #[Sv acc] 9)
        exact hB1.trans (below_grown (h1.alloc _) g2 hB1.size)
      have g1' : Own w3 w.heap.size 9 v' ((splitL s).map Sv) := by
        rw [HR.out.2.2.1, List.map_append]
        exact g1
      have hpos : 0 < ((splitL s).map Sv).length := by
        rw [HR.out.2.2.1]
        simp
      obtain ⟨g, c, rfl, hg1, hg2⟩ := g1'.form1 hpos
      have hcap : (splitL s).length ≤ c := by
        rcases g1'.2 with ⟨hv, _⟩ | ⟨g', cap', cur, hv, _, _, hle, _, _, _⟩
        · cases hv
        · cases hv
          simpa using hle
      have HZ : Hid (w.heap.size ≤ g ∧ WordsAt w3 g (splitL s) ∧ Below w.heap.size w w3 ∧ (splitL s).length ≤ c) := by
        refine Lib.hid ⟨hg1, fun j x hj => ?_, hB3, hcap⟩
        have hjl := (List.getElem?_eq_some_iff.1 hj).1
        rw [g1'.cellAt j (by simpa using hjl), List.getElem?_map, hj]
        rfl
      rw [List.length_map]
      clear g1 g2 g3 hB3 g1' hpos hg1 hg2 hcap
      go_wp2_with (fail)
      go_ret
      exact ⟨g, c, rfl, HZ.out⟩
theorem erSplit_any (w : World) (s : List (BitVec 8)) (hl : s.length ≤ 900) :
    Calls Tryd.prog 23 #[Sv s, .string ⟨#[32]⟩] w fun e w' => ∃ g c, e = .returned (.slice (some ⟨g, 0, none⟩) (splitL s).length c) ∧ w.heap.size ≤ g ∧ WordsAt w' g (splitL s) ∧ Below w.heap.size w w' :=
  (erSplit_cap w s hl).mono fun _ _ ⟨g, c, h1, h2, h3, h4, _⟩ => ⟨g, c, h1, h2, h3, h4⟩
end Go.Proofs.YteoolfifpmbkeaaDoor
