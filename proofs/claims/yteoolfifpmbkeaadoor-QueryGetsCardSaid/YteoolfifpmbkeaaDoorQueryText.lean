/-
  The contract of package query's Text; its tables of words.
-/
import Derived.Test.YteoolfifpmbkeaaDoorQueryRight
import Derived.Test.YteoolfifpmbkeaaDoorCoreItoa
import Derived.Test.YteoolfifpmbkeaaDoorLate
namespace Go.Proofs.YteoolfifpmbkeaaDoor
open Go Go.RowKit

def kindsL : List (List (BitVec 8)) := [[], wTumbling, wSliding, wSession]
def aggsL : List (List (BitVec 8)) := [[], wCount, wSum, wMin, wMax, wMean, wTop, wSwing]
/-- The tables of words lie in a world. -/
def WordTabs (w : World) : Prop := (∀ i < 4, w.cell? ⟨0, i, none⟩ = some (Sv (kindsL.getD i []))) ∧ ∀ i < 8, w.cell? ⟨1, i, none⟩ = some (Sv (aggsL.getD i []))
theorem WordTabs.below {w w' : World} (h : WordTabs w) (hB : Below w.heap.size w w') : WordTabs w' :=
  ⟨fun i hi => (hB.cell (block_lt_of_cell (h.1 i hi))).trans (h.1 i hi), fun i hi => (hB.cell (block_lt_of_cell (h.2 i hi))).trans (h.2 i hi)⟩
theorem kindW_at (n : Nat) (h : n < 4) : kindsL.getD n [] = kindW (n : Int) := by
  obtain rfl | rfl | rfl | rfl : n = 0 ∨ n = 1 ∨ n = 2 ∨ n = 3 := by omega
  all_goals decide
theorem aggW_at (n : Nat) (h : n < 8) : aggsL.getD n [] = aggW (n : Int) := by
  obtain rfl | rfl | rfl | rfl | rfl | rfl | rfl | rfl : n = 0 ∨ n = 1 ∨ n = 2 ∨ n = 3 ∨ n = 4 ∨ n = 5 ∨ n = 6 ∨ n = 7 := by omega
  all_goals decide
theorem kindW_len (n : Int) : (kindW n).length ≤ 8 := by
  unfold kindW
  repeat' split
  all_goals decide
theorem aggW_len (n : Int) : (aggW n).length ≤ 8 := by
  unfold aggW
  repeat' split
  all_goals decide
set_option maxRecDepth 100000 in
theorem qtext_no (w : World) (q : QueryL) (hr : q.rightB = false) : Calls Tryd.prog 11 #[.agg q.cells] w (Below0 w (Sv [])) := by
  obtain ⟨w1, hw1⟩ : ∃ W, W = w.alloc (.cells q.cells 23) := ⟨_, rfl⟩
  have HB : Hid (Below w.heap.size w w1) := by rw [hw1]; exact (Below.refl _ w).alloc (Nat.le_refl _) _
  have HR := Lib.hid (qright_any w1 q)
  rw [hr] at HR
  clear hr
  obtain ⟨kind, size, slide, late, agg, k⟩ := q
  rw [hw1] at HB HR
  clear hw1 w1
  unfold QueryL.cells at HB HR ⊢
  go_enter Tryd.func11, Tryd.ntmps11
  go_wp2_with (fail)
  refine HR.out.mono ?_
  rintro e w3 ⟨rfl, hB3⟩
  have HZ : Hid (Below w.heap.size w w3) := HB.out.trans (hB3.mono HB.out.size)
  clear hB3
  dsimp only
  go_wp2_with (fail)
  go_ret
  exact ⟨rfl, HZ.out⟩
theorem sizeStr (w : World) : (sizeOf 9).run Tryd.prog w = .ok 1 w := by
  have h : (Tryd.prog.info? 9).map (·.size) = some 1 := by kernel_rfl
  cases hq : Tryd.prog.info? 9 with
  | none => simp [hq] at h
  | some i => simp [hq] at h; simp [sizeOf, typeInfo, hq, h]
theorem run_indexAt_arr {P : Program} (T e n : Nat) (hT : P.underlying T = some (.array n e)) (hz : ∀ w, (sizeOf e).run P w = .ok 1 w) (b k : Nat) (hk : k < n) (w : World) :
    (Instr.indexAt T (.pointer (some ⟨b, 0, none⟩)) (.int .i64 (k : Int))).run P w = .ok (.pointer (some ⟨b, k, none⟩)) w := by
  simp [Instr.indexAt, run_underlying hT, Instr.sureAddr, asIntOf, hz, addr_add, hk]
def bLate : List (BitVec 8) := [32, 108, 97, 116, 101, 32]
set_option maxRecDepth 100000 in
set_option maxHeartbeats 4000000 in
theorem qtext_yes (w : World) (q : QueryL) (hr : q.rightB = true) (hT : PowTab w) (hQ : WordTabs w) :
    Calls Tryd.prog 11 #[.agg q.cells] w (Below0 w (Sv q.text)) := by
  obtain ⟨b1, b2, b3, b4, b5, b6, b7, b8, b9, b10, b11, b12⟩ := rightQ_bd hr
  obtain ⟨w1, hw1⟩ : ∃ W, W = w.alloc (.cells q.cells 23) := ⟨_, rfl⟩
  have HB : Hid (Below w.heap.size w w1) := by rw [hw1]; exact (Below.refl _ w).alloc (Nat.le_refl _) _
  have HC : Hid (∀ w', Below w1.heap.size w1 w' → ∀ i v, q.cells[i]? = some v → w'.cell? ⟨w.heap.size, i, none⟩ = some v) := by rw [hw1]; exact Lib.hid (box_cells w q)
  have HR := Lib.hid (qright_any w1 q)
  rw [hr] at HR
  obtain ⟨kind, size, slide, late, agg, k⟩ := q
  simp only at b1 b2 b3 b4 b5 b6 b7 b8 b9 b10 b11 b12
  obtain ⟨kn, rfl⟩ : ∃ n : Nat, kind = (n : Int) := ⟨kind.toNat, by omega⟩
  obtain ⟨an, rfl⟩ : ∃ n : Nat, agg = (n : Int) := ⟨agg.toNat, by omega⟩
  have l1 := itoaL_length size (by omega)
  have l2 := itoaL_length slide (by omega)
  have l3 := itoaL_length late (by omega)
  have l4 := itoaL_length k (by omega)
  have l5 := kindW_len kn
  have l6 := aggW_len an
  have hTK : ∀ w', Below w.heap.size w w' → w'.cell? ⟨0, kn, none⟩ = some (Sv (kindW (kn : Int))) := fun w' h => by rw [← kindW_at kn (by omega)]; exact (hQ.below h).1 kn (by omega)
  have hTA : ∀ w', Below w.heap.size w w' → w'.cell? ⟨1, an, none⟩ = some (Sv (aggW (an : Int))) := fun w' h => by rw [← aggW_at an (by omega)]; exact (hQ.below h).2 an (by omega)
  obtain ⟨kw, hkw⟩ : ∃ a, a = kindW (kn : Int) := ⟨_, rfl⟩
  obtain ⟨aw, haw⟩ : ∃ a, a = aggW (an : Int) := ⟨_, rfl⟩
  obtain ⟨a1, ha1⟩ : ∃ a, a = itoaL size := ⟨_, rfl⟩
  obtain ⟨a2, ha2⟩ : ∃ a, a = itoaL slide := ⟨_, rfl⟩
  obtain ⟨a3, ha3⟩ : ∃ a, a = itoaL late := ⟨_, rfl⟩
  obtain ⟨a4, ha4⟩ : ∃ a, a = itoaL k := ⟨_, rfl⟩
  obtain ⟨s1, hs1⟩ : ∃ a, a = kw ++ bBlank := ⟨_, rfl⟩
  obtain ⟨s2, hs2⟩ : ∃ a, a = s1 ++ a1 := ⟨_, rfl⟩
  obtain ⟨s3, hs3⟩ : ∃ a, a = bBlank ++ a2 := ⟨_, rfl⟩
  obtain ⟨s4, hs4⟩ : ∃ a, a = s2 ++ s3 := ⟨_, rfl⟩
  obtain ⟨t1, ht1⟩ : ∃ a, a = bLate ++ a3 := ⟨_, rfl⟩
  obtain ⟨t2, ht2⟩ : ∃ a, a = t1 ++ bBlank := ⟨_, rfl⟩
  obtain ⟨t3, ht3⟩ : ∃ a, a = t2 ++ aw := ⟨_, rfl⟩
  obtain ⟨t4, ht4⟩ : ∃ a, a = (if kn = 2 then s4 else s2) ++ t3 := ⟨_, rfl⟩
  obtain ⟨u1, hu1⟩ : ∃ a, a = bBlank ++ a4 := ⟨_, rfl⟩
  obtain ⟨u2, hu2⟩ : ∃ a, a = t4 ++ u1 := ⟨_, rfl⟩
  have htext : (QueryL.mk kn size slide late an k).text = if an = 6 then u2 else t4 := by
    have e1 : ((kn : Int) = 2) ↔ kn = 2 := by omega
    have e2 : ((an : Int) = 6) ↔ an = 6 := by omega
    rw [hu2, hu1, ht4, ht3, ht2, ht1, hs4, hs3, hs2, hs1, ha1, ha2, ha3, ha4, hkw, haw]
    simp only [QueryL.text, e1, e2]
    by_cases h1 : kn = 2 <;> by_cases h2 : an = 6 <;> simp [h1, h2, bLate, bBlank, wLate, List.append_assoc]
  rw [htext]
  rw [← hkw] at hTK
  rw [← haw] at hTA
  have HTK := Lib.hid hTK
  have HTA := Lib.hid hTA
  have HIA : Hid ((∀ w, (Instr.indexAt 55 (.pointer (some ⟨0, 0, none⟩)) (.int .i64 (kn : Int))).run Tryd.prog w = .ok (.pointer (some ⟨0, kn, none⟩)) w) ∧
      (∀ w, (Instr.indexAt 56 (.pointer (some ⟨1, 0, none⟩)) (.int .i64 (an : Int))).run Tryd.prog w = .ok (.pointer (some ⟨1, an, none⟩)) w)) :=
    Lib.hid ⟨fun w => run_indexAt_arr 55 9 4 Tryd.underlying55 sizeStr _ kn (by omega) w, fun w => run_indexAt_arr 56 9 8 Tryd.underlying56 sizeStr _ an (by omega) w⟩
  have HCL : Hid ((∀ w', Below w.heap.size w w' → Calls Tryd.prog 21 #[.int .i64 size] w' (Below0 w' (Sv a1))) ∧ (∀ w', Below w.heap.size w w' → Calls Tryd.prog 21 #[.int .i64 slide] w' (Below0 w' (Sv a2))) ∧
      (∀ w', Below w.heap.size w w' → Calls Tryd.prog 21 #[.int .i64 late] w' (Below0 w' (Sv a3))) ∧ (∀ w', Below w.heap.size w w' → Calls Tryd.prog 21 #[.int .i64 k] w' (Below0 w' (Sv a4)))) := by
    rw [ha1, ha2, ha3, ha4]
    exact ⟨fun w' h => itoa_any w' size (by omega) (by omega) (hT.below h), fun w' h => itoa_any w' slide (by omega) (by omega) (hT.below h), fun w' h => itoa_any w' late (by omega) (by omega) (hT.below h), fun w' h => itoa_any w' k (by omega) (by omega) (hT.below h)⟩
  rw [← ha1] at l1
  rw [← ha2] at l2
  rw [← ha3] at l3
  rw [← ha4] at l4
  rw [← hkw] at l5
  rw [← haw] at l6
  have e1 : bBlank.length = 1 := rfl
  have e2 : bLate.length = 6 := rfl
  have m1 : s1.length = kw.length + bBlank.length := by rw [hs1, List.length_append]
  have m2 : s2.length = s1.length + a1.length := by rw [hs2, List.length_append]
  have m3 : s3.length = bBlank.length + a2.length := by rw [hs3, List.length_append]
  have m4 : s4.length = s2.length + s3.length := by rw [hs4, List.length_append]
  have m5 : t1.length = bLate.length + a3.length := by rw [ht1, List.length_append]
  have m6 : t2.length = t1.length + bBlank.length := by rw [ht2, List.length_append]
  have m7 : t3.length = t2.length + aw.length := by rw [ht3, List.length_append]
  have m8 : u1.length = bBlank.length + a4.length := by rw [hu1, List.length_append]
  have hkv : 0 ≤ size := by omega
  by_cases k2 : kn = 2
  · rw [if_pos k2] at ht4
    have e2k : ((kn : Int) == 2) = true := by rw [k2]; rfl
    have m9 : t4.length = s4.length + t3.length := by rw [ht4, List.length_append]
    have HADD : Hid ((∀ w, (binOp .add 9 (Sv kw) (.string ⟨#[32]⟩)).run Tryd.prog w = .ok (Sv s1) w) ∧
        (∀ w, (binOp .add 9 (Sv s1) (Sv a1)).run Tryd.prog w = .ok (Sv s2) w) ∧
        (∀ w, (binOp .add 9 (.string ⟨#[32]⟩) (Sv a2)).run Tryd.prog w = .ok (Sv s3) w) ∧
        (∀ w, (binOp .add 9 (Sv s2) (Sv s3)).run Tryd.prog w = .ok (Sv s4) w) ∧
        (∀ w, (binOp .add 9 (.string ⟨#[32, 108, 97, 116, 101, 32]⟩) (Sv a3)).run Tryd.prog w = .ok (Sv t1) w) ∧
        (∀ w, (binOp .add 9 (Sv t1) (.string ⟨#[32]⟩)).run Tryd.prog w = .ok (Sv t2) w) ∧
        (∀ w, (binOp .add 9 (Sv t2) (Sv aw)).run Tryd.prog w = .ok (Sv t3) w) ∧
        (∀ w, (binOp .add 9 (Sv s4) (Sv t3)).run Tryd.prog w = .ok (Sv t4) w) ∧
        (∀ w, (binOp .add 9 (.string ⟨#[32]⟩) (Sv a4)).run Tryd.prog w = .ok (Sv u1) w) ∧
        (∀ w, (binOp .add 9 (Sv t4) (Sv u1)).run Tryd.prog w = .ok (Sv u2) w)) :=
      Lib.hid ⟨fun w => by rw [hs1]; exact run_add_Sv w kw bBlank (by omega), fun w => by rw [hs2]; exact run_add_Sv w s1 a1 (by omega), fun w => by rw [hs3]; exact run_add_Sv w bBlank a2 (by omega), fun w => by rw [hs4]; exact run_add_Sv w s2 s3 (by omega), fun w => by rw [ht1]; exact run_add_Sv w bLate a3 (by omega), fun w => by rw [ht2]; exact run_add_Sv w t1 bBlank (by omega), fun w => by rw [ht3]; exact run_add_Sv w t2 aw (by omega), fun w => by rw [ht4]; exact run_add_Sv w s4 t3 (by omega), fun w => by rw [hu1]; exact run_add_Sv w bBlank a4 (by omega), fun w => by rw [hu2]; exact run_add_Sv w t4 u1 (by omega)⟩
    have c0 := HC.out w1 (Below.refl _ _) 0 _ rfl
    have c1 := HC.out w1 (Below.refl _ _) 1 _ rfl
    have c2 := HC.out w1 (Below.refl _ _) 2 _ rfl
    have c3 := HC.out w1 (Below.refl _ _) 3 _ rfl
    have c4 := HC.out w1 (Below.refl _ _) 4 _ rfl
    have c5 := HC.out w1 (Below.refl _ _) 5 _ rfl
    unfold QueryL.cells at hw1 HC HR c0 c1 c2 c3 c4 c5 ⊢
    by_cases a6 : an = 6
    · rw [if_pos a6]
      have e6 : ((an : Int) == 6) = true := by rw [a6]; rfl
      clear a6 k2
      clear htext hTK hTA hT hQ hr hkw haw ha1 ha2 ha3 ha4 hs1 hs2 hs3 hs4 ht1 ht2 ht3 ht4 hu1 hu2 l1 l2 l3 l4 l5 l6 e1 e2 m1 m2 m3 m4 m5 m6 m7 m8 m9 b2 b3 b4 b5 b6 b7 b8 b10 b11 b12 hkv
      go_enter Tryd.func11, Tryd.ntmps11
      go_upto_region 1 with (fail)
      rw [← hw1]
      clear hw1
      go_wp2_with (fail)
      refine HR.out.mono ?_
      rintro e w3 ⟨rfl, hB3⟩
      have H3 := Lib.hid hB3
      have HG3 : Hid (Below w1.heap.size w1 w3.drew) := H3.out.drew
      clear hB3 c0 c1 c2 c3 c4 c5
      dsimp only
      go_upto_region 3 with (fail)
      refine wp_region_seq_frame (by kernel_rfl) [none, none, none, none, none, none, none, none, none, none] [] (vOfC [.pointer (some ⟨w.heap.size, 0, none⟩), .int .i64 (kn : Int), .pointer (some ⟨0, kn, none⟩), Sv kw, Sv s1, .pointer (some ⟨w.heap.size, 1, none⟩), .int .i64 size, Sv a1, Sv s2, Sv s2]) (fun _ w' => Below w1.heap.size w1 w') (fun _ _ => True) (fun _ _ _ _ _ h => h) (by kernel_rfl) (by kernel_rfl) (by kernel_rfl) HG3.out ⟨trivial, trivial, trivial, trivial, trivial, trivial, trivial, trivial, trivial, trivial, trivial⟩ ?_ ?_
      · refine ⟨?_, ?_, ?_, ?_, ?_, ?_, ?_, ?_, ?_, ?_, trivial⟩
        · intro k a w' hG hout hpre K hK
          have q1 := ev_of ((hout 1 rfl).trans (show _ = .pointer (some ⟨w.heap.size, 0, none⟩) from rfl))
          clear hout hpre
          go_step
          exact hK _ _ rfl hG trivial
        · intro k a w' hG hout hpre K hK
          obtain ⟨p0, _⟩ := hpre
          have q7 := ev_of (show a.eval (.tmp 7) = .pointer (some ⟨w.heap.size, 0, none⟩) from p0)
          have hc : w'.cell? ⟨w.heap.size, 0, none⟩ = some (.int .i64 (kn : Int)) := HC.out w' hG 0 _ rfl
          clear hout p0
          go_step
          exact hK _ _ rfl hG trivial
        · intro k a w' hG hout hpre K hK
          obtain ⟨p0, _⟩ := hpre
          have q8 := ev_of (show a.eval (.tmp 8) = .int .i64 (kn : Int) from p0)
          have hia := HIA.out.1
          clear hout p0
          go_step
          exact hK _ _ rfl hG trivial
        · intro k a w' hG hout hpre K hK
          obtain ⟨p0, _⟩ := hpre
          have q9 := ev_of (show a.eval (.tmp 9) = .pointer (some ⟨0, kn, none⟩) from p0)
          have hc := HTK.out w' (HB.out.trans (hG.mono HB.out.size))
          clear hout p0
          go_step
          exact hK _ _ rfl hG trivial
        · intro k a w' hG hout hpre K hK
          obtain ⟨p0, _⟩ := hpre
          have q10 := ev_of (show a.eval (.tmp 10) = Sv kw from p0)
          have hadd := HADD.out.1
          clear hout p0
          go_step
          exact hK _ _ rfl hG trivial
        · intro k a w' hG hout hpre K hK
          have q1 := ev_of ((hout 1 rfl).trans (show _ = .pointer (some ⟨w.heap.size, 0, none⟩) from rfl))
          clear hout hpre
          go_step
          exact hK _ _ rfl hG trivial
        · intro k a w' hG hout hpre K hK
          obtain ⟨p0, _⟩ := hpre
          have q12 := ev_of (show a.eval (.tmp 12) = .pointer (some ⟨w.heap.size, 1, none⟩) from p0)
          have hc : w'.cell? ⟨w.heap.size, 1, none⟩ = some (.int .i64 size) := HC.out w' hG 1 _ rfl
          clear hout p0
          go_step
          exact hK _ _ rfl hG trivial
        · intro k a w' hG hout hpre K hK
          obtain ⟨p0, _⟩ := hpre
          have q13 := ev_of (show a.eval (.tmp 13) = .int .i64 size from p0)
          have HS := Lib.hid (HCL.out.1 w' (HB.out.trans (hG.mono HB.out.size)))
          clear hout p0
          go_step
          refine HS.out.mono ?_
          rintro e w3 ⟨rfl, hB⟩
          exact hK _ _ rfl (hG.trans (hB.mono hG.size)) trivial
        · intro k a w' hG hout hpre K hK
          obtain ⟨p0, p1, _⟩ := hpre
          have q11 := ev_of (show a.eval (.tmp 11) = Sv s1 from p0)
          have q14 := ev_of (show a.eval (.tmp 14) = Sv a1 from p1)
          have hadd := HADD.out.2.1
          clear hout p0 p1
          go_step
          exact hK _ _ rfl hG trivial
        · intro k a w' hG hout hpre K hK
          obtain ⟨p0, _⟩ := hpre
          have q15 := ev_of (show a.eval (.tmp 15) = Sv s2 from p0)
          clear hout p0
          go_step
          exact hK _ _ rfl hG trivial
      · intro vs w2 hG hlen hV
        match vs, hlen, hV with
        | [v0, v1, v2, v3, v4, v5, v6, v7, v8, v9], _, hV =>
          obtain rfl : v9 = Sv s2 := hV 9 3 v9 rfl rfl
          clear hV
          simp only [putsL, List.tail_cons, List.headD_cons]
          simp only [Act.put, List.setIfInBounds_toArray, List.set_cons_succ, List.set_cons_zero]
          have H4 := Lib.hid hG
          clear hG
          have c0 := HC.out w2 H4.out 0 _ rfl
          have c2 := HC.out w2 H4.out 2 _ rfl
          go_wp2_with (fail)
          refine (HCL.out.2.1 w2 (HB.out.trans (H4.out.mono HB.out.size))).mono ?_
          rintro e w5 ⟨rfl, hB⟩
          have H5 := Lib.hid (H4.out.trans (hB.mono H4.out.size))
          clear hB c0 c2
          have hadd1 := HADD.out.2.2.1
          have hadd2 := HADD.out.2.2.2.1
          dsimp only
          go_upto_region 6 with (fail)
          clear hadd1 hadd2
          obtain ⟨w6, rfl⟩ : ∃ x, x = w5 := ⟨w5, rfl⟩
          have HG5 : Hid (Below w1.heap.size w1 w6.drew) := H5.out.drew
          refine wp_region_late_frame (by kernel_rfl) [none, none, none, none, none, none, none, none, none, none, none, none, none] [] (vOfC [Sv s4, .pointer (some ⟨w.heap.size, 3, none⟩), .int .i64 late, Sv a3, Sv t1, Sv t2, .pointer (some ⟨w.heap.size, 4, none⟩), .int .i64 (an : Int), .pointer (some ⟨1, an, none⟩), Sv aw, Sv t3, Sv t4, Sv t4]) (fun _ w' => Below w1.heap.size w1 w') (fun _ _ => True) (fun _ _ _ _ _ h => h) (by kernel_rfl) (by kernel_rfl) (by kernel_rfl) HG5.out ⟨trivial, trivial, trivial, trivial, trivial, trivial, trivial, trivial, trivial, trivial, trivial, trivial, trivial, trivial⟩ ?_ ?_
          · refine ⟨?_, ?_, ?_, ?_, ?_, ?_, ?_, ?_, ?_, ?_, ?_, ?_, ?_, trivial⟩
            · intro k a w' hG hout hpre K hK
              have q3 := ev_of ((hout 3 rfl).trans (show _ = Sv s4 from rfl))
              clear hout hpre
              go_step
              exact hK _ _ rfl hG trivial
            · intro k a w' hG hout hpre K hK
              have q1 := ev_of ((hout 1 rfl).trans (show _ = .pointer (some ⟨w.heap.size, 0, none⟩) from rfl))
              clear hout hpre
              go_step
              exact hK _ _ rfl hG trivial
            · intro k a w' hG hout hpre K hK
              obtain ⟨p0, _⟩ := hpre
              have q26 := ev_of (show a.eval (.tmp 26) = .pointer (some ⟨w.heap.size, 3, none⟩) from p0)
              have hc : w'.cell? ⟨w.heap.size, 3, none⟩ = some (.int .i64 late) := HC.out w' hG 3 _ rfl
              clear hout p0
              go_step
              exact hK _ _ rfl hG trivial
            · intro k a w' hG hout hpre K hK
              obtain ⟨p0, _⟩ := hpre
              have q27 := ev_of (show a.eval (.tmp 27) = .int .i64 late from p0)
              have HS := Lib.hid (HCL.out.2.2.1 w' (HB.out.trans (hG.mono HB.out.size)))
              clear hout p0
              go_step
              refine HS.out.mono ?_
              rintro e w3 ⟨rfl, hB⟩
              exact hK _ _ rfl (hG.trans (hB.mono hG.size)) trivial
            · intro k a w' hG hout hpre K hK
              obtain ⟨p0, _⟩ := hpre
              have q28 := ev_of (show a.eval (.tmp 28) = Sv a3 from p0)
              have hadd := HADD.out.2.2.2.2.1
              clear hout p0
              go_step
              exact hK _ _ rfl hG trivial
            · intro k a w' hG hout hpre K hK
              obtain ⟨p0, _⟩ := hpre
              have q29 := ev_of (show a.eval (.tmp 29) = Sv t1 from p0)
              have hadd := HADD.out.2.2.2.2.2.1
              clear hout p0
              go_step
              exact hK _ _ rfl hG trivial
            · intro k a w' hG hout hpre K hK
              have q1 := ev_of ((hout 1 rfl).trans (show _ = .pointer (some ⟨w.heap.size, 0, none⟩) from rfl))
              clear hout hpre
              go_step
              exact hK _ _ rfl hG trivial
            · intro k a w' hG hout hpre K hK
              obtain ⟨p0, _⟩ := hpre
              have q31 := ev_of (show a.eval (.tmp 31) = .pointer (some ⟨w.heap.size, 4, none⟩) from p0)
              have hc : w'.cell? ⟨w.heap.size, 4, none⟩ = some (.int .i64 (an : Int)) := HC.out w' hG 4 _ rfl
              clear hout p0
              go_step
              exact hK _ _ rfl hG trivial
            · intro k a w' hG hout hpre K hK
              obtain ⟨p0, _⟩ := hpre
              have q32 := ev_of (show a.eval (.tmp 32) = .int .i64 (an : Int) from p0)
              have hia := HIA.out.2
              clear hout p0
              go_step
              exact hK _ _ rfl hG trivial
            · intro k a w' hG hout hpre K hK
              obtain ⟨p0, _⟩ := hpre
              have q33 := ev_of (show a.eval (.tmp 33) = .pointer (some ⟨1, an, none⟩) from p0)
              have hc := HTA.out w' (HB.out.trans (hG.mono HB.out.size))
              clear hout p0
              go_step
              exact hK _ _ rfl hG trivial
            · intro k a w' hG hout hpre K hK
              obtain ⟨p0, p1, _⟩ := hpre
              have q30 := ev_of (show a.eval (.tmp 30) = Sv t2 from p0)
              have q34 := ev_of (show a.eval (.tmp 34) = Sv aw from p1)
              have hadd := HADD.out.2.2.2.2.2.2.1
              clear hout p0 p1
              go_step
              exact hK _ _ rfl hG trivial
            · intro k a w' hG hout hpre K hK
              obtain ⟨p0, p1, _⟩ := hpre
              have q25 := ev_of (show a.eval (.tmp 25) = Sv s4 from p0)
              have q35 := ev_of (show a.eval (.tmp 35) = Sv t3 from p1)
              have hadd := HADD.out.2.2.2.2.2.2.2.1
              clear hout p0 p1
              go_step
              exact hK _ _ rfl hG trivial
            · intro k a w' hG hout hpre K hK
              obtain ⟨p0, _⟩ := hpre
              have q36 := ev_of (show a.eval (.tmp 36) = Sv t4 from p0)
              clear hout p0
              go_step
              exact hK _ _ rfl hG trivial
          · intro vs w2 hG hlen hV
            match vs, hlen, hV with
            | [v0, v1, v2, v3, v4, v5, v6, v7, v8, v9, v10, v11, v12], _, hV =>
              obtain rfl : v12 = Sv t4 := hV 12 3 v12 rfl rfl
              clear hV
              simp only [putsL, List.tail_cons, List.headD_cons]
              simp only [Act.put, List.setIfInBounds_toArray, List.set_cons_succ, List.set_cons_zero]
              have H7 := Lib.hid hG
              clear hG
              have c4 := HC.out w2 H7.out 4 _ rfl
              have c5 := HC.out w2 H7.out 5 _ rfl
              go_wp2_with (fail)
              refine (HCL.out.2.2.2 w2 (HB.out.trans (H7.out.mono HB.out.size))).mono ?_
              rintro e w8 ⟨rfl, hB⟩
              have H8 := Lib.hid (H7.out.trans (hB.mono H7.out.size))
              clear hB c4 c5
              have hadd1 := HADD.out.2.2.2.2.2.2.2.2.1
              have hadd2 := HADD.out.2.2.2.2.2.2.2.2.2
              dsimp only
              go_wp2_with (fail)
              go_ret
              exact ⟨rfl, HB.out.trans (H8.out.mono HB.out.size)⟩
    · rw [if_neg a6]
      have e6 : ((an : Int) == 6) = false := by simp; omega
      clear a6 k2
      clear htext hTK hTA hT hQ hr hkw haw ha1 ha2 ha3 ha4 hs1 hs2 hs3 hs4 ht1 ht2 ht3 ht4 hu1 hu2 l1 l2 l3 l4 l5 l6 e1 e2 m1 m2 m3 m4 m5 m6 m7 m8 m9 b2 b3 b4 b5 b6 b7 b8 b10 b11 b12 hkv
      go_enter Tryd.func11, Tryd.ntmps11
      go_upto_region 1 with (fail)
      rw [← hw1]
      clear hw1
      go_wp2_with (fail)
      refine HR.out.mono ?_
      rintro e w3 ⟨rfl, hB3⟩
      have H3 := Lib.hid hB3
      have HG3 : Hid (Below w1.heap.size w1 w3.drew) := H3.out.drew
      clear hB3 c0 c1 c2 c3 c4 c5
      dsimp only
      go_upto_region 3 with (fail)
      refine wp_region_seq_frame (by kernel_rfl) [none, none, none, none, none, none, none, none, none, none] [] (vOfC [.pointer (some ⟨w.heap.size, 0, none⟩), .int .i64 (kn : Int), .pointer (some ⟨0, kn, none⟩), Sv kw, Sv s1, .pointer (some ⟨w.heap.size, 1, none⟩), .int .i64 size, Sv a1, Sv s2, Sv s2]) (fun _ w' => Below w1.heap.size w1 w') (fun _ _ => True) (fun _ _ _ _ _ h => h) (by kernel_rfl) (by kernel_rfl) (by kernel_rfl) HG3.out ⟨trivial, trivial, trivial, trivial, trivial, trivial, trivial, trivial, trivial, trivial, trivial⟩ ?_ ?_
      · refine ⟨?_, ?_, ?_, ?_, ?_, ?_, ?_, ?_, ?_, ?_, trivial⟩
        · intro k a w' hG hout hpre K hK
          have q1 := ev_of ((hout 1 rfl).trans (show _ = .pointer (some ⟨w.heap.size, 0, none⟩) from rfl))
          clear hout hpre
          go_step
          exact hK _ _ rfl hG trivial
        · intro k a w' hG hout hpre K hK
          obtain ⟨p0, _⟩ := hpre
          have q7 := ev_of (show a.eval (.tmp 7) = .pointer (some ⟨w.heap.size, 0, none⟩) from p0)
          have hc : w'.cell? ⟨w.heap.size, 0, none⟩ = some (.int .i64 (kn : Int)) := HC.out w' hG 0 _ rfl
          clear hout p0
          go_step
          exact hK _ _ rfl hG trivial
        · intro k a w' hG hout hpre K hK
          obtain ⟨p0, _⟩ := hpre
          have q8 := ev_of (show a.eval (.tmp 8) = .int .i64 (kn : Int) from p0)
          have hia := HIA.out.1
          clear hout p0
          go_step
          exact hK _ _ rfl hG trivial
        · intro k a w' hG hout hpre K hK
          obtain ⟨p0, _⟩ := hpre
          have q9 := ev_of (show a.eval (.tmp 9) = .pointer (some ⟨0, kn, none⟩) from p0)
          have hc := HTK.out w' (HB.out.trans (hG.mono HB.out.size))
          clear hout p0
          go_step
          exact hK _ _ rfl hG trivial
        · intro k a w' hG hout hpre K hK
          obtain ⟨p0, _⟩ := hpre
          have q10 := ev_of (show a.eval (.tmp 10) = Sv kw from p0)
          have hadd := HADD.out.1
          clear hout p0
          go_step
          exact hK _ _ rfl hG trivial
        · intro k a w' hG hout hpre K hK
          have q1 := ev_of ((hout 1 rfl).trans (show _ = .pointer (some ⟨w.heap.size, 0, none⟩) from rfl))
          clear hout hpre
          go_step
          exact hK _ _ rfl hG trivial
        · intro k a w' hG hout hpre K hK
          obtain ⟨p0, _⟩ := hpre
          have q12 := ev_of (show a.eval (.tmp 12) = .pointer (some ⟨w.heap.size, 1, none⟩) from p0)
          have hc : w'.cell? ⟨w.heap.size, 1, none⟩ = some (.int .i64 size) := HC.out w' hG 1 _ rfl
          clear hout p0
          go_step
          exact hK _ _ rfl hG trivial
        · intro k a w' hG hout hpre K hK
          obtain ⟨p0, _⟩ := hpre
          have q13 := ev_of (show a.eval (.tmp 13) = .int .i64 size from p0)
          have HS := Lib.hid (HCL.out.1 w' (HB.out.trans (hG.mono HB.out.size)))
          clear hout p0
          go_step
          refine HS.out.mono ?_
          rintro e w3 ⟨rfl, hB⟩
          exact hK _ _ rfl (hG.trans (hB.mono hG.size)) trivial
        · intro k a w' hG hout hpre K hK
          obtain ⟨p0, p1, _⟩ := hpre
          have q11 := ev_of (show a.eval (.tmp 11) = Sv s1 from p0)
          have q14 := ev_of (show a.eval (.tmp 14) = Sv a1 from p1)
          have hadd := HADD.out.2.1
          clear hout p0 p1
          go_step
          exact hK _ _ rfl hG trivial
        · intro k a w' hG hout hpre K hK
          obtain ⟨p0, _⟩ := hpre
          have q15 := ev_of (show a.eval (.tmp 15) = Sv s2 from p0)
          clear hout p0
          go_step
          exact hK _ _ rfl hG trivial
      · intro vs w2 hG hlen hV
        match vs, hlen, hV with
        | [v0, v1, v2, v3, v4, v5, v6, v7, v8, v9], _, hV =>
          obtain rfl : v9 = Sv s2 := hV 9 3 v9 rfl rfl
          clear hV
          simp only [putsL, List.tail_cons, List.headD_cons]
          simp only [Act.put, List.setIfInBounds_toArray, List.set_cons_succ, List.set_cons_zero]
          have H4 := Lib.hid hG
          clear hG
          have c0 := HC.out w2 H4.out 0 _ rfl
          have c2 := HC.out w2 H4.out 2 _ rfl
          go_wp2_with (fail)
          refine (HCL.out.2.1 w2 (HB.out.trans (H4.out.mono HB.out.size))).mono ?_
          rintro e w5 ⟨rfl, hB⟩
          have H5 := Lib.hid (H4.out.trans (hB.mono H4.out.size))
          clear hB c0 c2
          have hadd1 := HADD.out.2.2.1
          have hadd2 := HADD.out.2.2.2.1
          dsimp only
          go_upto_region 6 with (fail)
          clear hadd1 hadd2
          obtain ⟨w6, rfl⟩ : ∃ x, x = w5 := ⟨w5, rfl⟩
          have HG5 : Hid (Below w1.heap.size w1 w6.drew) := H5.out.drew
          refine wp_region_late_frame (by kernel_rfl) [none, none, none, none, none, none, none, none, none, none, none, none, none] [] (vOfC [Sv s4, .pointer (some ⟨w.heap.size, 3, none⟩), .int .i64 late, Sv a3, Sv t1, Sv t2, .pointer (some ⟨w.heap.size, 4, none⟩), .int .i64 (an : Int), .pointer (some ⟨1, an, none⟩), Sv aw, Sv t3, Sv t4, Sv t4]) (fun _ w' => Below w1.heap.size w1 w') (fun _ _ => True) (fun _ _ _ _ _ h => h) (by kernel_rfl) (by kernel_rfl) (by kernel_rfl) HG5.out ⟨trivial, trivial, trivial, trivial, trivial, trivial, trivial, trivial, trivial, trivial, trivial, trivial, trivial, trivial⟩ ?_ ?_
          · refine ⟨?_, ?_, ?_, ?_, ?_, ?_, ?_, ?_, ?_, ?_, ?_, ?_, ?_, trivial⟩
            · intro k a w' hG hout hpre K hK
              have q3 := ev_of ((hout 3 rfl).trans (show _ = Sv s4 from rfl))
              clear hout hpre
              go_step
              exact hK _ _ rfl hG trivial
            · intro k a w' hG hout hpre K hK
              have q1 := ev_of ((hout 1 rfl).trans (show _ = .pointer (some ⟨w.heap.size, 0, none⟩) from rfl))
              clear hout hpre
              go_step
              exact hK _ _ rfl hG trivial
            · intro k a w' hG hout hpre K hK
              obtain ⟨p0, _⟩ := hpre
              have q26 := ev_of (show a.eval (.tmp 26) = .pointer (some ⟨w.heap.size, 3, none⟩) from p0)
              have hc : w'.cell? ⟨w.heap.size, 3, none⟩ = some (.int .i64 late) := HC.out w' hG 3 _ rfl
              clear hout p0
              go_step
              exact hK _ _ rfl hG trivial
            · intro k a w' hG hout hpre K hK
              obtain ⟨p0, _⟩ := hpre
              have q27 := ev_of (show a.eval (.tmp 27) = .int .i64 late from p0)
              have HS := Lib.hid (HCL.out.2.2.1 w' (HB.out.trans (hG.mono HB.out.size)))
              clear hout p0
              go_step
              refine HS.out.mono ?_
              rintro e w3 ⟨rfl, hB⟩
              exact hK _ _ rfl (hG.trans (hB.mono hG.size)) trivial
            · intro k a w' hG hout hpre K hK
              obtain ⟨p0, _⟩ := hpre
              have q28 := ev_of (show a.eval (.tmp 28) = Sv a3 from p0)
              have hadd := HADD.out.2.2.2.2.1
              clear hout p0
              go_step
              exact hK _ _ rfl hG trivial
            · intro k a w' hG hout hpre K hK
              obtain ⟨p0, _⟩ := hpre
              have q29 := ev_of (show a.eval (.tmp 29) = Sv t1 from p0)
              have hadd := HADD.out.2.2.2.2.2.1
              clear hout p0
              go_step
              exact hK _ _ rfl hG trivial
            · intro k a w' hG hout hpre K hK
              have q1 := ev_of ((hout 1 rfl).trans (show _ = .pointer (some ⟨w.heap.size, 0, none⟩) from rfl))
              clear hout hpre
              go_step
              exact hK _ _ rfl hG trivial
            · intro k a w' hG hout hpre K hK
              obtain ⟨p0, _⟩ := hpre
              have q31 := ev_of (show a.eval (.tmp 31) = .pointer (some ⟨w.heap.size, 4, none⟩) from p0)
              have hc : w'.cell? ⟨w.heap.size, 4, none⟩ = some (.int .i64 (an : Int)) := HC.out w' hG 4 _ rfl
              clear hout p0
              go_step
              exact hK _ _ rfl hG trivial
            · intro k a w' hG hout hpre K hK
              obtain ⟨p0, _⟩ := hpre
              have q32 := ev_of (show a.eval (.tmp 32) = .int .i64 (an : Int) from p0)
              have hia := HIA.out.2
              clear hout p0
              go_step
              exact hK _ _ rfl hG trivial
            · intro k a w' hG hout hpre K hK
              obtain ⟨p0, _⟩ := hpre
              have q33 := ev_of (show a.eval (.tmp 33) = .pointer (some ⟨1, an, none⟩) from p0)
              have hc := HTA.out w' (HB.out.trans (hG.mono HB.out.size))
              clear hout p0
              go_step
              exact hK _ _ rfl hG trivial
            · intro k a w' hG hout hpre K hK
              obtain ⟨p0, p1, _⟩ := hpre
              have q30 := ev_of (show a.eval (.tmp 30) = Sv t2 from p0)
              have q34 := ev_of (show a.eval (.tmp 34) = Sv aw from p1)
              have hadd := HADD.out.2.2.2.2.2.2.1
              clear hout p0 p1
              go_step
              exact hK _ _ rfl hG trivial
            · intro k a w' hG hout hpre K hK
              obtain ⟨p0, p1, _⟩ := hpre
              have q25 := ev_of (show a.eval (.tmp 25) = Sv s4 from p0)
              have q35 := ev_of (show a.eval (.tmp 35) = Sv t3 from p1)
              have hadd := HADD.out.2.2.2.2.2.2.2.1
              clear hout p0 p1
              go_step
              exact hK _ _ rfl hG trivial
            · intro k a w' hG hout hpre K hK
              obtain ⟨p0, _⟩ := hpre
              have q36 := ev_of (show a.eval (.tmp 36) = Sv t4 from p0)
              clear hout p0
              go_step
              exact hK _ _ rfl hG trivial
          · intro vs w2 hG hlen hV
            match vs, hlen, hV with
            | [v0, v1, v2, v3, v4, v5, v6, v7, v8, v9, v10, v11, v12], _, hV =>
              obtain rfl : v12 = Sv t4 := hV 12 3 v12 rfl rfl
              clear hV
              simp only [putsL, List.tail_cons, List.headD_cons]
              simp only [Act.put, List.setIfInBounds_toArray, List.set_cons_succ, List.set_cons_zero]
              have H7 := Lib.hid hG
              clear hG
              have c4 := HC.out w2 H7.out 4 _ rfl
              have c5 := HC.out w2 H7.out 5 _ rfl
              go_wp2_with (fail)
              go_ret
              exact ⟨rfl, HB.out.trans (H7.out.mono HB.out.size)⟩
  · rw [if_neg k2] at ht4
    have m9 : t4.length = s2.length + t3.length := by rw [ht4, List.length_append]
    have e2k : ((kn : Int) == 2) = false := by simp; omega
    have HADD : Hid ((∀ w, (binOp .add 9 (Sv kw) (.string ⟨#[32]⟩)).run Tryd.prog w = .ok (Sv s1) w) ∧
        (∀ w, (binOp .add 9 (Sv s1) (Sv a1)).run Tryd.prog w = .ok (Sv s2) w) ∧
        (∀ w, (binOp .add 9 (.string ⟨#[32]⟩) (Sv a2)).run Tryd.prog w = .ok (Sv s3) w) ∧
        (∀ w, (binOp .add 9 (Sv s2) (Sv s3)).run Tryd.prog w = .ok (Sv s4) w) ∧
        (∀ w, (binOp .add 9 (.string ⟨#[32, 108, 97, 116, 101, 32]⟩) (Sv a3)).run Tryd.prog w = .ok (Sv t1) w) ∧
        (∀ w, (binOp .add 9 (Sv t1) (.string ⟨#[32]⟩)).run Tryd.prog w = .ok (Sv t2) w) ∧
        (∀ w, (binOp .add 9 (Sv t2) (Sv aw)).run Tryd.prog w = .ok (Sv t3) w) ∧
        (∀ w, (binOp .add 9 (Sv s2) (Sv t3)).run Tryd.prog w = .ok (Sv t4) w) ∧
        (∀ w, (binOp .add 9 (.string ⟨#[32]⟩) (Sv a4)).run Tryd.prog w = .ok (Sv u1) w) ∧
        (∀ w, (binOp .add 9 (Sv t4) (Sv u1)).run Tryd.prog w = .ok (Sv u2) w)) :=
      Lib.hid ⟨fun w => by rw [hs1]; exact run_add_Sv w kw bBlank (by omega), fun w => by rw [hs2]; exact run_add_Sv w s1 a1 (by omega), fun w => by rw [hs3]; exact run_add_Sv w bBlank a2 (by omega), fun w => by rw [hs4]; exact run_add_Sv w s2 s3 (by omega), fun w => by rw [ht1]; exact run_add_Sv w bLate a3 (by omega), fun w => by rw [ht2]; exact run_add_Sv w t1 bBlank (by omega), fun w => by rw [ht3]; exact run_add_Sv w t2 aw (by omega), fun w => by rw [ht4]; exact run_add_Sv w s2 t3 (by omega), fun w => by rw [hu1]; exact run_add_Sv w bBlank a4 (by omega), fun w => by rw [hu2]; exact run_add_Sv w t4 u1 (by omega)⟩
    have c0 := HC.out w1 (Below.refl _ _) 0 _ rfl
    have c1 := HC.out w1 (Below.refl _ _) 1 _ rfl
    have c2 := HC.out w1 (Below.refl _ _) 2 _ rfl
    have c3 := HC.out w1 (Below.refl _ _) 3 _ rfl
    have c4 := HC.out w1 (Below.refl _ _) 4 _ rfl
    have c5 := HC.out w1 (Below.refl _ _) 5 _ rfl
    unfold QueryL.cells at hw1 HC HR c0 c1 c2 c3 c4 c5 ⊢
    by_cases a6 : an = 6
    · rw [if_pos a6]
      have e6 : ((an : Int) == 6) = true := by rw [a6]; rfl
      clear a6 k2
      clear htext hTK hTA hT hQ hr hkw haw ha1 ha2 ha3 ha4 hs1 hs2 hs3 hs4 ht1 ht2 ht3 ht4 hu1 hu2 l1 l2 l3 l4 l5 l6 e1 e2 m1 m2 m3 m4 m5 m6 m7 m8 m9 b2 b3 b4 b5 b6 b7 b8 b10 b11 b12 hkv
      go_enter Tryd.func11, Tryd.ntmps11
      go_upto_region 1 with (fail)
      rw [← hw1]
      clear hw1
      go_wp2_with (fail)
      refine HR.out.mono ?_
      rintro e w3 ⟨rfl, hB3⟩
      have H3 := Lib.hid hB3
      have HG3 : Hid (Below w1.heap.size w1 w3.drew) := H3.out.drew
      clear hB3 c0 c1 c2 c3 c4 c5
      dsimp only
      go_upto_region 3 with (fail)
      refine wp_region_seq_frame (by kernel_rfl) [none, none, none, none, none, none, none, none, none, none] [] (vOfC [.pointer (some ⟨w.heap.size, 0, none⟩), .int .i64 (kn : Int), .pointer (some ⟨0, kn, none⟩), Sv kw, Sv s1, .pointer (some ⟨w.heap.size, 1, none⟩), .int .i64 size, Sv a1, Sv s2, Sv s2]) (fun _ w' => Below w1.heap.size w1 w') (fun _ _ => True) (fun _ _ _ _ _ h => h) (by kernel_rfl) (by kernel_rfl) (by kernel_rfl) HG3.out ⟨trivial, trivial, trivial, trivial, trivial, trivial, trivial, trivial, trivial, trivial, trivial⟩ ?_ ?_
      · refine ⟨?_, ?_, ?_, ?_, ?_, ?_, ?_, ?_, ?_, ?_, trivial⟩
        · intro k a w' hG hout hpre K hK
          have q1 := ev_of ((hout 1 rfl).trans (show _ = .pointer (some ⟨w.heap.size, 0, none⟩) from rfl))
          clear hout hpre
          go_step
          exact hK _ _ rfl hG trivial
        · intro k a w' hG hout hpre K hK
          obtain ⟨p0, _⟩ := hpre
          have q7 := ev_of (show a.eval (.tmp 7) = .pointer (some ⟨w.heap.size, 0, none⟩) from p0)
          have hc : w'.cell? ⟨w.heap.size, 0, none⟩ = some (.int .i64 (kn : Int)) := HC.out w' hG 0 _ rfl
          clear hout p0
          go_step
          exact hK _ _ rfl hG trivial
        · intro k a w' hG hout hpre K hK
          obtain ⟨p0, _⟩ := hpre
          have q8 := ev_of (show a.eval (.tmp 8) = .int .i64 (kn : Int) from p0)
          have hia := HIA.out.1
          clear hout p0
          go_step
          exact hK _ _ rfl hG trivial
        · intro k a w' hG hout hpre K hK
          obtain ⟨p0, _⟩ := hpre
          have q9 := ev_of (show a.eval (.tmp 9) = .pointer (some ⟨0, kn, none⟩) from p0)
          have hc := HTK.out w' (HB.out.trans (hG.mono HB.out.size))
          clear hout p0
          go_step
          exact hK _ _ rfl hG trivial
        · intro k a w' hG hout hpre K hK
          obtain ⟨p0, _⟩ := hpre
          have q10 := ev_of (show a.eval (.tmp 10) = Sv kw from p0)
          have hadd := HADD.out.1
          clear hout p0
          go_step
          exact hK _ _ rfl hG trivial
        · intro k a w' hG hout hpre K hK
          have q1 := ev_of ((hout 1 rfl).trans (show _ = .pointer (some ⟨w.heap.size, 0, none⟩) from rfl))
          clear hout hpre
          go_step
          exact hK _ _ rfl hG trivial
        · intro k a w' hG hout hpre K hK
          obtain ⟨p0, _⟩ := hpre
          have q12 := ev_of (show a.eval (.tmp 12) = .pointer (some ⟨w.heap.size, 1, none⟩) from p0)
          have hc : w'.cell? ⟨w.heap.size, 1, none⟩ = some (.int .i64 size) := HC.out w' hG 1 _ rfl
          clear hout p0
          go_step
          exact hK _ _ rfl hG trivial
        · intro k a w' hG hout hpre K hK
          obtain ⟨p0, _⟩ := hpre
          have q13 := ev_of (show a.eval (.tmp 13) = .int .i64 size from p0)
          have HS := Lib.hid (HCL.out.1 w' (HB.out.trans (hG.mono HB.out.size)))
          clear hout p0
          go_step
          refine HS.out.mono ?_
          rintro e w3 ⟨rfl, hB⟩
          exact hK _ _ rfl (hG.trans (hB.mono hG.size)) trivial
        · intro k a w' hG hout hpre K hK
          obtain ⟨p0, p1, _⟩ := hpre
          have q11 := ev_of (show a.eval (.tmp 11) = Sv s1 from p0)
          have q14 := ev_of (show a.eval (.tmp 14) = Sv a1 from p1)
          have hadd := HADD.out.2.1
          clear hout p0 p1
          go_step
          exact hK _ _ rfl hG trivial
        · intro k a w' hG hout hpre K hK
          obtain ⟨p0, _⟩ := hpre
          have q15 := ev_of (show a.eval (.tmp 15) = Sv s2 from p0)
          clear hout p0
          go_step
          exact hK _ _ rfl hG trivial
      · intro vs w2 hG hlen hV
        match vs, hlen, hV with
        | [v0, v1, v2, v3, v4, v5, v6, v7, v8, v9], _, hV =>
          obtain rfl : v9 = Sv s2 := hV 9 3 v9 rfl rfl
          clear hV
          simp only [putsL, List.tail_cons, List.headD_cons]
          simp only [Act.put, List.setIfInBounds_toArray, List.set_cons_succ, List.set_cons_zero]
          have H4 := Lib.hid hG
          clear hG
          have c0 := HC.out w2 H4.out 0 _ rfl
          have c2 := HC.out w2 H4.out 2 _ rfl
          go_upto_region 6 with (fail)
          clear c0 c2
          obtain ⟨w6, rfl⟩ : ∃ x, x = w2 := ⟨w2, rfl⟩
          have H5 := H4
          have HG5 : Hid (Below w1.heap.size w1 w6.drew) := H5.out.drew
          refine wp_region_late_frame (by kernel_rfl) [none, none, none, none, none, none, none, none, none, none, none, none, none] [] (vOfC [Sv s2, .pointer (some ⟨w.heap.size, 3, none⟩), .int .i64 late, Sv a3, Sv t1, Sv t2, .pointer (some ⟨w.heap.size, 4, none⟩), .int .i64 (an : Int), .pointer (some ⟨1, an, none⟩), Sv aw, Sv t3, Sv t4, Sv t4]) (fun _ w' => Below w1.heap.size w1 w') (fun _ _ => True) (fun _ _ _ _ _ h => h) (by kernel_rfl) (by kernel_rfl) (by kernel_rfl) HG5.out ⟨trivial, trivial, trivial, trivial, trivial, trivial, trivial, trivial, trivial, trivial, trivial, trivial, trivial, trivial⟩ ?_ ?_
          · refine ⟨?_, ?_, ?_, ?_, ?_, ?_, ?_, ?_, ?_, ?_, ?_, ?_, ?_, trivial⟩
            · intro k a w' hG hout hpre K hK
              have q3 := ev_of ((hout 3 rfl).trans (show _ = Sv s2 from rfl))
              clear hout hpre
              go_step
              exact hK _ _ rfl hG trivial
            · intro k a w' hG hout hpre K hK
              have q1 := ev_of ((hout 1 rfl).trans (show _ = .pointer (some ⟨w.heap.size, 0, none⟩) from rfl))
              clear hout hpre
              go_step
              exact hK _ _ rfl hG trivial
            · intro k a w' hG hout hpre K hK
              obtain ⟨p0, _⟩ := hpre
              have q26 := ev_of (show a.eval (.tmp 26) = .pointer (some ⟨w.heap.size, 3, none⟩) from p0)
              have hc : w'.cell? ⟨w.heap.size, 3, none⟩ = some (.int .i64 late) := HC.out w' hG 3 _ rfl
              clear hout p0
              go_step
              exact hK _ _ rfl hG trivial
            · intro k a w' hG hout hpre K hK
              obtain ⟨p0, _⟩ := hpre
              have q27 := ev_of (show a.eval (.tmp 27) = .int .i64 late from p0)
              have HS := Lib.hid (HCL.out.2.2.1 w' (HB.out.trans (hG.mono HB.out.size)))
              clear hout p0
              go_step
              refine HS.out.mono ?_
              rintro e w3 ⟨rfl, hB⟩
              exact hK _ _ rfl (hG.trans (hB.mono hG.size)) trivial
            · intro k a w' hG hout hpre K hK
              obtain ⟨p0, _⟩ := hpre
              have q28 := ev_of (show a.eval (.tmp 28) = Sv a3 from p0)
              have hadd := HADD.out.2.2.2.2.1
              clear hout p0
              go_step
              exact hK _ _ rfl hG trivial
            · intro k a w' hG hout hpre K hK
              obtain ⟨p0, _⟩ := hpre
              have q29 := ev_of (show a.eval (.tmp 29) = Sv t1 from p0)
              have hadd := HADD.out.2.2.2.2.2.1
              clear hout p0
              go_step
              exact hK _ _ rfl hG trivial
            · intro k a w' hG hout hpre K hK
              have q1 := ev_of ((hout 1 rfl).trans (show _ = .pointer (some ⟨w.heap.size, 0, none⟩) from rfl))
              clear hout hpre
              go_step
              exact hK _ _ rfl hG trivial
            · intro k a w' hG hout hpre K hK
              obtain ⟨p0, _⟩ := hpre
              have q31 := ev_of (show a.eval (.tmp 31) = .pointer (some ⟨w.heap.size, 4, none⟩) from p0)
              have hc : w'.cell? ⟨w.heap.size, 4, none⟩ = some (.int .i64 (an : Int)) := HC.out w' hG 4 _ rfl
              clear hout p0
              go_step
              exact hK _ _ rfl hG trivial
            · intro k a w' hG hout hpre K hK
              obtain ⟨p0, _⟩ := hpre
              have q32 := ev_of (show a.eval (.tmp 32) = .int .i64 (an : Int) from p0)
              have hia := HIA.out.2
              clear hout p0
              go_step
              exact hK _ _ rfl hG trivial
            · intro k a w' hG hout hpre K hK
              obtain ⟨p0, _⟩ := hpre
              have q33 := ev_of (show a.eval (.tmp 33) = .pointer (some ⟨1, an, none⟩) from p0)
              have hc := HTA.out w' (HB.out.trans (hG.mono HB.out.size))
              clear hout p0
              go_step
              exact hK _ _ rfl hG trivial
            · intro k a w' hG hout hpre K hK
              obtain ⟨p0, p1, _⟩ := hpre
              have q30 := ev_of (show a.eval (.tmp 30) = Sv t2 from p0)
              have q34 := ev_of (show a.eval (.tmp 34) = Sv aw from p1)
              have hadd := HADD.out.2.2.2.2.2.2.1
              clear hout p0 p1
              go_step
              exact hK _ _ rfl hG trivial
            · intro k a w' hG hout hpre K hK
              obtain ⟨p0, p1, _⟩ := hpre
              have q25 := ev_of (show a.eval (.tmp 25) = Sv s2 from p0)
              have q35 := ev_of (show a.eval (.tmp 35) = Sv t3 from p1)
              have hadd := HADD.out.2.2.2.2.2.2.2.1
              clear hout p0 p1
              go_step
              exact hK _ _ rfl hG trivial
            · intro k a w' hG hout hpre K hK
              obtain ⟨p0, _⟩ := hpre
              have q36 := ev_of (show a.eval (.tmp 36) = Sv t4 from p0)
              clear hout p0
              go_step
              exact hK _ _ rfl hG trivial
          · intro vs w2 hG hlen hV
            match vs, hlen, hV with
            | [v0, v1, v2, v3, v4, v5, v6, v7, v8, v9, v10, v11, v12], _, hV =>
              obtain rfl : v12 = Sv t4 := hV 12 3 v12 rfl rfl
              clear hV
              simp only [putsL, List.tail_cons, List.headD_cons]
              simp only [Act.put, List.setIfInBounds_toArray, List.set_cons_succ, List.set_cons_zero]
              have H7 := Lib.hid hG
              clear hG
              have c4 := HC.out w2 H7.out 4 _ rfl
              have c5 := HC.out w2 H7.out 5 _ rfl
              go_wp2_with (fail)
              refine (HCL.out.2.2.2 w2 (HB.out.trans (H7.out.mono HB.out.size))).mono ?_
              rintro e w8 ⟨rfl, hB⟩
              have H8 := Lib.hid (H7.out.trans (hB.mono H7.out.size))
              clear hB c4 c5
              have hadd1 := HADD.out.2.2.2.2.2.2.2.2.1
              have hadd2 := HADD.out.2.2.2.2.2.2.2.2.2
              dsimp only
              go_wp2_with (fail)
              go_ret
              exact ⟨rfl, HB.out.trans (H8.out.mono HB.out.size)⟩
    · rw [if_neg a6]
      have e6 : ((an : Int) == 6) = false := by simp; omega
      clear a6 k2
      clear htext hTK hTA hT hQ hr hkw haw ha1 ha2 ha3 ha4 hs1 hs2 hs3 hs4 ht1 ht2 ht3 ht4 hu1 hu2 l1 l2 l3 l4 l5 l6 e1 e2 m1 m2 m3 m4 m5 m6 m7 m8 m9 b2 b3 b4 b5 b6 b7 b8 b10 b11 b12 hkv
      go_enter Tryd.func11, Tryd.ntmps11
      go_upto_region 1 with (fail)
      rw [← hw1]
      clear hw1
      go_wp2_with (fail)
      refine HR.out.mono ?_
      rintro e w3 ⟨rfl, hB3⟩
      have H3 := Lib.hid hB3
      have HG3 : Hid (Below w1.heap.size w1 w3.drew) := H3.out.drew
      clear hB3 c0 c1 c2 c3 c4 c5
      dsimp only
      go_upto_region 3 with (fail)
      refine wp_region_seq_frame (by kernel_rfl) [none, none, none, none, none, none, none, none, none, none] [] (vOfC [.pointer (some ⟨w.heap.size, 0, none⟩), .int .i64 (kn : Int), .pointer (some ⟨0, kn, none⟩), Sv kw, Sv s1, .pointer (some ⟨w.heap.size, 1, none⟩), .int .i64 size, Sv a1, Sv s2, Sv s2]) (fun _ w' => Below w1.heap.size w1 w') (fun _ _ => True) (fun _ _ _ _ _ h => h) (by kernel_rfl) (by kernel_rfl) (by kernel_rfl) HG3.out ⟨trivial, trivial, trivial, trivial, trivial, trivial, trivial, trivial, trivial, trivial, trivial⟩ ?_ ?_
      · refine ⟨?_, ?_, ?_, ?_, ?_, ?_, ?_, ?_, ?_, ?_, trivial⟩
        · intro k a w' hG hout hpre K hK
          have q1 := ev_of ((hout 1 rfl).trans (show _ = .pointer (some ⟨w.heap.size, 0, none⟩) from rfl))
          clear hout hpre
          go_step
          exact hK _ _ rfl hG trivial
        · intro k a w' hG hout hpre K hK
          obtain ⟨p0, _⟩ := hpre
          have q7 := ev_of (show a.eval (.tmp 7) = .pointer (some ⟨w.heap.size, 0, none⟩) from p0)
          have hc : w'.cell? ⟨w.heap.size, 0, none⟩ = some (.int .i64 (kn : Int)) := HC.out w' hG 0 _ rfl
          clear hout p0
          go_step
          exact hK _ _ rfl hG trivial
        · intro k a w' hG hout hpre K hK
          obtain ⟨p0, _⟩ := hpre
          have q8 := ev_of (show a.eval (.tmp 8) = .int .i64 (kn : Int) from p0)
          have hia := HIA.out.1
          clear hout p0
          go_step
          exact hK _ _ rfl hG trivial
        · intro k a w' hG hout hpre K hK
          obtain ⟨p0, _⟩ := hpre
          have q9 := ev_of (show a.eval (.tmp 9) = .pointer (some ⟨0, kn, none⟩) from p0)
          have hc := HTK.out w' (HB.out.trans (hG.mono HB.out.size))
          clear hout p0
          go_step
          exact hK _ _ rfl hG trivial
        · intro k a w' hG hout hpre K hK
          obtain ⟨p0, _⟩ := hpre
          have q10 := ev_of (show a.eval (.tmp 10) = Sv kw from p0)
          have hadd := HADD.out.1
          clear hout p0
          go_step
          exact hK _ _ rfl hG trivial
        · intro k a w' hG hout hpre K hK
          have q1 := ev_of ((hout 1 rfl).trans (show _ = .pointer (some ⟨w.heap.size, 0, none⟩) from rfl))
          clear hout hpre
          go_step
          exact hK _ _ rfl hG trivial
        · intro k a w' hG hout hpre K hK
          obtain ⟨p0, _⟩ := hpre
          have q12 := ev_of (show a.eval (.tmp 12) = .pointer (some ⟨w.heap.size, 1, none⟩) from p0)
          have hc : w'.cell? ⟨w.heap.size, 1, none⟩ = some (.int .i64 size) := HC.out w' hG 1 _ rfl
          clear hout p0
          go_step
          exact hK _ _ rfl hG trivial
        · intro k a w' hG hout hpre K hK
          obtain ⟨p0, _⟩ := hpre
          have q13 := ev_of (show a.eval (.tmp 13) = .int .i64 size from p0)
          have HS := Lib.hid (HCL.out.1 w' (HB.out.trans (hG.mono HB.out.size)))
          clear hout p0
          go_step
          refine HS.out.mono ?_
          rintro e w3 ⟨rfl, hB⟩
          exact hK _ _ rfl (hG.trans (hB.mono hG.size)) trivial
        · intro k a w' hG hout hpre K hK
          obtain ⟨p0, p1, _⟩ := hpre
          have q11 := ev_of (show a.eval (.tmp 11) = Sv s1 from p0)
          have q14 := ev_of (show a.eval (.tmp 14) = Sv a1 from p1)
          have hadd := HADD.out.2.1
          clear hout p0 p1
          go_step
          exact hK _ _ rfl hG trivial
        · intro k a w' hG hout hpre K hK
          obtain ⟨p0, _⟩ := hpre
          have q15 := ev_of (show a.eval (.tmp 15) = Sv s2 from p0)
          clear hout p0
          go_step
          exact hK _ _ rfl hG trivial
      · intro vs w2 hG hlen hV
        match vs, hlen, hV with
        | [v0, v1, v2, v3, v4, v5, v6, v7, v8, v9], _, hV =>
          obtain rfl : v9 = Sv s2 := hV 9 3 v9 rfl rfl
          clear hV
          simp only [putsL, List.tail_cons, List.headD_cons]
          simp only [Act.put, List.setIfInBounds_toArray, List.set_cons_succ, List.set_cons_zero]
          have H4 := Lib.hid hG
          clear hG
          have c0 := HC.out w2 H4.out 0 _ rfl
          have c2 := HC.out w2 H4.out 2 _ rfl
          go_upto_region 6 with (fail)
          clear c0 c2
          obtain ⟨w6, rfl⟩ : ∃ x, x = w2 := ⟨w2, rfl⟩
          have H5 := H4
          have HG5 : Hid (Below w1.heap.size w1 w6.drew) := H5.out.drew
          refine wp_region_late_frame (by kernel_rfl) [none, none, none, none, none, none, none, none, none, none, none, none, none] [] (vOfC [Sv s2, .pointer (some ⟨w.heap.size, 3, none⟩), .int .i64 late, Sv a3, Sv t1, Sv t2, .pointer (some ⟨w.heap.size, 4, none⟩), .int .i64 (an : Int), .pointer (some ⟨1, an, none⟩), Sv aw, Sv t3, Sv t4, Sv t4]) (fun _ w' => Below w1.heap.size w1 w') (fun _ _ => True) (fun _ _ _ _ _ h => h) (by kernel_rfl) (by kernel_rfl) (by kernel_rfl) HG5.out ⟨trivial, trivial, trivial, trivial, trivial, trivial, trivial, trivial, trivial, trivial, trivial, trivial, trivial, trivial⟩ ?_ ?_
          · refine ⟨?_, ?_, ?_, ?_, ?_, ?_, ?_, ?_, ?_, ?_, ?_, ?_, ?_, trivial⟩
            · intro k a w' hG hout hpre K hK
              have q3 := ev_of ((hout 3 rfl).trans (show _ = Sv s2 from rfl))
              clear hout hpre
              go_step
              exact hK _ _ rfl hG trivial
            · intro k a w' hG hout hpre K hK
              have q1 := ev_of ((hout 1 rfl).trans (show _ = .pointer (some ⟨w.heap.size, 0, none⟩) from rfl))
              clear hout hpre
              go_step
              exact hK _ _ rfl hG trivial
            · intro k a w' hG hout hpre K hK
              obtain ⟨p0, _⟩ := hpre
              have q26 := ev_of (show a.eval (.tmp 26) = .pointer (some ⟨w.heap.size, 3, none⟩) from p0)
              have hc : w'.cell? ⟨w.heap.size, 3, none⟩ = some (.int .i64 late) := HC.out w' hG 3 _ rfl
              clear hout p0
              go_step
              exact hK _ _ rfl hG trivial
            · intro k a w' hG hout hpre K hK
              obtain ⟨p0, _⟩ := hpre
              have q27 := ev_of (show a.eval (.tmp 27) = .int .i64 late from p0)
              have HS := Lib.hid (HCL.out.2.2.1 w' (HB.out.trans (hG.mono HB.out.size)))
              clear hout p0
              go_step
              refine HS.out.mono ?_
              rintro e w3 ⟨rfl, hB⟩
              exact hK _ _ rfl (hG.trans (hB.mono hG.size)) trivial
            · intro k a w' hG hout hpre K hK
              obtain ⟨p0, _⟩ := hpre
              have q28 := ev_of (show a.eval (.tmp 28) = Sv a3 from p0)
              have hadd := HADD.out.2.2.2.2.1
              clear hout p0
              go_step
              exact hK _ _ rfl hG trivial
            · intro k a w' hG hout hpre K hK
              obtain ⟨p0, _⟩ := hpre
              have q29 := ev_of (show a.eval (.tmp 29) = Sv t1 from p0)
              have hadd := HADD.out.2.2.2.2.2.1
              clear hout p0
              go_step
              exact hK _ _ rfl hG trivial
            · intro k a w' hG hout hpre K hK
              have q1 := ev_of ((hout 1 rfl).trans (show _ = .pointer (some ⟨w.heap.size, 0, none⟩) from rfl))
              clear hout hpre
              go_step
              exact hK _ _ rfl hG trivial
            · intro k a w' hG hout hpre K hK
              obtain ⟨p0, _⟩ := hpre
              have q31 := ev_of (show a.eval (.tmp 31) = .pointer (some ⟨w.heap.size, 4, none⟩) from p0)
              have hc : w'.cell? ⟨w.heap.size, 4, none⟩ = some (.int .i64 (an : Int)) := HC.out w' hG 4 _ rfl
              clear hout p0
              go_step
              exact hK _ _ rfl hG trivial
            · intro k a w' hG hout hpre K hK
              obtain ⟨p0, _⟩ := hpre
              have q32 := ev_of (show a.eval (.tmp 32) = .int .i64 (an : Int) from p0)
              have hia := HIA.out.2
              clear hout p0
              go_step
              exact hK _ _ rfl hG trivial
            · intro k a w' hG hout hpre K hK
              obtain ⟨p0, _⟩ := hpre
              have q33 := ev_of (show a.eval (.tmp 33) = .pointer (some ⟨1, an, none⟩) from p0)
              have hc := HTA.out w' (HB.out.trans (hG.mono HB.out.size))
              clear hout p0
              go_step
              exact hK _ _ rfl hG trivial
            · intro k a w' hG hout hpre K hK
              obtain ⟨p0, p1, _⟩ := hpre
              have q30 := ev_of (show a.eval (.tmp 30) = Sv t2 from p0)
              have q34 := ev_of (show a.eval (.tmp 34) = Sv aw from p1)
              have hadd := HADD.out.2.2.2.2.2.2.1
              clear hout p0 p1
              go_step
              exact hK _ _ rfl hG trivial
            · intro k a w' hG hout hpre K hK
              obtain ⟨p0, p1, _⟩ := hpre
              have q25 := ev_of (show a.eval (.tmp 25) = Sv s2 from p0)
              have q35 := ev_of (show a.eval (.tmp 35) = Sv t3 from p1)
              have hadd := HADD.out.2.2.2.2.2.2.2.1
              clear hout p0 p1
              go_step
              exact hK _ _ rfl hG trivial
            · intro k a w' hG hout hpre K hK
              obtain ⟨p0, _⟩ := hpre
              have q36 := ev_of (show a.eval (.tmp 36) = Sv t4 from p0)
              clear hout p0
              go_step
              exact hK _ _ rfl hG trivial
          · intro vs w2 hG hlen hV
            match vs, hlen, hV with
            | [v0, v1, v2, v3, v4, v5, v6, v7, v8, v9, v10, v11, v12], _, hV =>
              obtain rfl : v12 = Sv t4 := hV 12 3 v12 rfl rfl
              clear hV
              simp only [putsL, List.tail_cons, List.headD_cons]
              simp only [Act.put, List.setIfInBounds_toArray, List.set_cons_succ, List.set_cons_zero]
              have H7 := Lib.hid hG
              clear hG
              have c4 := HC.out w2 H7.out 4 _ rfl
              have c5 := HC.out w2 H7.out 5 _ rfl
              go_wp2_with (fail)
              go_ret
              exact ⟨rfl, HB.out.trans (H7.out.mono HB.out.size)⟩
theorem qtext_any (w : World) (q : QueryL) (hT : PowTab w) (hQ : WordTabs w) : Calls Tryd.prog 11 #[.agg q.cells] w (Below0 w (Sv q.told)) := by
  unfold QueryL.told
  cases hr : q.rightB with
  | true => rw [if_pos rfl]; exact qtext_yes w q hr hT hQ
  | false => rw [if_neg (by decide)]; exact qtext_no w q hr
end Go.Proofs.YteoolfifpmbkeaaDoor
