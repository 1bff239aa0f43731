/-
  The contract of the reference's Sorted (layer 9).
  The contract of the reference's Take (layer 9).
  The contract of the reference's All (layer 9).
-/
import Derived.Test.YtbfioekbahcicaaSessCore
import Derived.Deep.CutBlock
import Derived.Test.YtbfioekbahcicaaSkip
namespace Go.Proofs.Ytbfioekbahcicaa
open Go Go.RowKit

theorem insW_length (out : List WindowL) (x : WindowL) : (insW out x).length = out.length + 1 := by
  rw [(insW_perm out x).length_eq, List.length_cons]
/-- What is sorted behind j rounds. -/
def sortTo (l : List WindowL) (j : Nat) : List WindowL := (l.take j).foldl insW []
theorem sortTo_succ {l : List WindowL} {j : Nat} {x : WindowL} (h : l[j]? = some x) : sortTo l (j + 1) = insW (sortTo l j) x := by
  rw [sortTo, List.take_add_one, h, List.foldl_append]
  rfl
theorem sortTo_length {l : List WindowL} : ∀ {j : Nat}, j ≤ l.length → (sortTo l j).length = j
  | 0, _ => rfl
  | j + 1, h => by
    rw [sortTo_succ (List.getElem?_eq_getElem h), insW_length, sortTo_length (Nat.le_of_succ_le h)]
theorem sortTo_all (l : List WindowL) : sortTo l l.length = sortedW l := by
  rw [sortTo, List.take_length]
  rfl
def SRel (w : World) (l : List WindowL) (v i : Value) (wr : World) : Prop := ∃ j : Nat, j ≤ l.length ∧ i = .int .i64 (j : Int) ∧ OwnW wr w.heap.size v (sortTo l j) ∧ Below w.heap.size w wr
def PRel (w : World) (x : WindowL) (out : List WindowL) (i : Value) (wr : World) : Prop := ∃ k : Nat, k ≤ out.length ∧ i = .int .i64 (k : Int) ∧ posW x out k = posW x out out.length ∧ Below w.heap.size w wr
set_option maxRecDepth 100000 in
set_option maxHeartbeats 4000000 in
theorem rsSorted_any (w : World) (sa : Option Addr) (sc : Nat) (l : List WindowL) (hA : WinsAt w sa l) (hn : l.length ≤ 300000) :
    Calls Try.prog 28 #[.slice sa l.length sc] w (WinsNew w (sortedW l)) := by
  obtain ⟨n, hN⟩ : ∃ n, n = l.length := ⟨_, rfl⟩
  obtain ⟨P, hP⟩ : ∃ P, P = WinsNew w (sortedW l) := ⟨_, rfl⟩
  rw [← hP, ← hN]
  have HN : Hid (n = l.length ∧ n ≤ 300000) := Lib.hid ⟨hN, by omega⟩
  have hn6 : n ≤ 300000 := by omega
  have HA := Lib.hid hA
  have HYes : Hid (∀ wz v, OwnW wz w.heap.size v (sortTo l n) → Below w.heap.size w wz → P (.returned v) wz) := Lib.hid (fun wz v h hB => by
    rw [hN, sortTo_all] at h
    rw [hP]
    exact ⟨v, rfl, h, hB⟩)
  clear hN hA hn hP
  go_enter Try.func28, Try.ntmps28
  go_wp2_with (fail)
  go_loopw [3, 10] (SRel w l) (fun _ i _ => n - (intOf i).toNat)
  case atStart => exact ⟨0, Nat.zero_le _, rfl, OwnW.nil _ _, Below.refl _ _⟩
  case round =>
    obtain ⟨j, hj, rfl, hO, hB⟩ := hrel
    rw [← HN.out.1] at hj
    obtain ⟨oa, oc, rfl, hcap, hW⟩ := hO.form
    have hlen : (sortTo l j).length = j := sortTo_length (by have := HN.out.1; omega)
    have HO := Lib.hid (And.intro hO (And.intro hB (And.intro hW (And.intro hlen hcap))))
    rw [hlen]
    clear hO hB hW hcap hlen
    by_cases hlt : j < n
    · have hi0 : (0 : Int) ≤ (j : Int) ∧ (j : Int) < (n : Int) := by omega
      obtain ⟨x, pa, po, hx, hsa, c0, c1, c2⟩ := (HA.out.below HO.out.2.1).get (t := j) (by rw [← HN.out.1]; exact hlt)
      subst hsa
      have HXl := Lib.hid (And.intro hx hlt)
      obtain ⟨xk, xl, xh⟩ := x
      simp only at c0 c1 c2
      clear hx hj
      go_upto_region 4 with (fail)
      refine wp_region_lit ?_
      iterate 9 go_step
      refine wpList_store_row rfl _ _ _ rfl wr.heap.size (WindowL.mk xk xl xh).cells rfl rfl 24 zeroW.cells (heap_alloc_new wr _) window_size rfl (window_one _) ?_
      obtain ⟨W1, hwx⟩ : ∃ W, W = (wr.alloc (Obj.cells #[.string ⟨#[]⟩, .int .i64 0, .int .i64 0] 24)).setRow wr.heap.size (WindowL.mk xk xl xh).cells := ⟨_, rfl⟩
      obtain ⟨xb, hxb⟩ : ∃ b, b = wr.heap.size := ⟨_, rfl⟩
      have Hwx : Hid (RowW W1 xb (WindowL.mk xk xl xh) ∧ Below wr.heap.size wr W1) := by
        obtain ⟨k1, k2⟩ := stored_window wr (WindowL.mk xk xl xh)
        rw [hwx, hxb]
        exact Lib.hid ⟨k1, k2⟩
      rw [← hwx, ← hxb]
      clear hwx hxb
      clear c0 c1 c2
      obtain ⟨out, hout⟩ : ∃ o, o = sortTo l j := ⟨_, rfl⟩
      have H1 : Hid (RowW W1 xb ⟨xk, xl, xh⟩ ∧ OwnW W1 w.heap.size (.slice oa j oc) out ∧ WinsAt W1 oa out ∧ Below w.heap.size w W1 ∧ out.length = j ∧ j ≤ oc ∧ sortTo l (j + 1) = insW out ⟨xk, xl, xh⟩) := by
        obtain ⟨h1, h2, h3, h4, h5⟩ := HO.out
        rw [h4] at h1 h5
        rw [hout]
        exact Lib.hid ⟨Hwx.out.1, h1.far Hwx.out.2, h3.below Hwx.out.2, h2.trans (Hwx.out.2.mono h2.size), h4, h5, sortTo_succ HXl.out.1⟩
      clear hout Hwx HO
      go_upto_block 2 with (fail)
      go_cut [6] from 16 to 29 (fun s6 wx => s6 = .int .i64 (posW ⟨xk, xl, xh⟩ out out.length : Int) ∧ Below W1.heap.size W1 wx)
      case first =>
        go_wp2_with (fail)
        go_loopw [6] (PRel W1 ⟨xk, xl, xh⟩ out) (fun v _ => (intOf v).toNat)
        case atStart => exact ⟨j, by rw [H1.out.2.2.2.2.1]; exact Nat.le_refl _, rfl, by rw [H1.out.2.2.2.2.1], Below.refl _ _⟩
        case round =>
          obtain ⟨k, hk, rfl, hpos, hB⟩ := hrel
          rw [H1.out.2.2.2.2.1] at hk
          have HK := Lib.hid (And.intro hpos (And.intro hB hk))
          have HG0 : Hid (Below wr.heap.size wr wr.drew) := (Below.refl _ wr).drew
          have HRx : Hid (∀ w', Below wr.heap.size wr w' → D3 w' xb xk xl xh) := Lib.hid (fun w' h => ((H1.out.1.below hB).below h).d3)
          have HZ : Hid (∀ w', Below wr.heap.size wr w' → Below W1.heap.size W1 w') := Lib.hid (fun w' h => hB.trans (h.mono hB.size))
          clear hpos hB
          by_cases hk0 : k = 0
          · subst hk0
            have HGd : Hid (0 = posW ⟨xk, xl, xh⟩ out out.length) := Lib.hid HK.out.1
            rw [show ((0 : Nat) : Int) = 0 from rfl]
            clear hk
            go_upto_region 6 with (fail)
            refine wp_region_skip_frame (fun i => ([3, 4, 5, 6, 7, 8, 9, 10] : List Nat).contains i) (by kernel_rfl) [none, none, none, none, none, none, none, none, none, none, none, none] [] (fun i_ _ _ v_ => v_ = (((Value.int .i64 (0 : Int)) :: (Value.bool false) :: (Value.bool false) :: undef :: undef :: undef :: undef :: undef :: undef :: undef :: undef :: (Value.bool false) :: ([] : List Value))).getD i_ undef) (fun _ w' => Below wr.heap.size wr w') (fun w w' => Below w.heap.size w w') (fun _ _ _ _ _ _ h => h) (by kernel_rfl) (by kernel_rfl) (by kernel_rfl) HG0.out (fun _ => ⟨rfl, rfl, rfl, fun _ _ h => .inl h, fun _ _ h => .inl h, fun _ _ h => .inl h, fun _ _ h => .inl h, fun _ _ h => .inl h, fun _ _ h => .inl h, fun _ _ h => .inl h, fun _ _ h => .inl h, rfl, trivial⟩) (fun i hi => by have hm := List.contains_iff_mem.1 hi; simp only [List.mem_cons, List.not_mem_nil, or_false] at hm; rcases hm with rfl | rfl | rfl | rfl | rfl | rfl | rfl | rfl <;> exact ⟨rfl, fun _ _ => rfl⟩) ?_ ?_
            · refine ⟨?_, ?_, ?_, ?_, ?_, ?_, ?_, ?_, ?_, ?_, ?_, ?_, trivial⟩
              · intro _ k a w' hG hout hpre K hK
                have q6 := ev_of ((hout 6 rfl).trans (show _ = .int .i64 (0 : Int) from rfl))
                clear hout hpre
                go_step
                exact hK _ _ rfl hG (Below.refl _ _)
              · intro _ k a w' hG hout hpre K hK
                obtain ⟨p0, _⟩ := hpre
                have q16 := ev_of (show a.eval (.tmp 16) = .int .i64 (0 : Int) from p0)
                clear hout p0
                go_step
                exact hK _ _ rfl hG (Below.refl _ _)
              · intro _ k a w' hG hout hpre K hK
                obtain ⟨p0, _⟩ := hpre
                have q17 := ev_of (show a.eval (.tmp 17) = .bool false from p0)
                clear hout p0
                go_step
                exact hK _ _ rfl hG (Below.refl _ _)
              · exact fun h => absurd h (by decide)
              · exact fun h => absurd h (by decide)
              · exact fun h => absurd h (by decide)
              · exact fun h => absurd h (by decide)
              · exact fun h => absurd h (by decide)
              · exact fun h => absurd h (by decide)
              · exact fun h => absurd h (by decide)
              · exact fun h => absurd h (by decide)
              · intro _ k a w' hG hout hpre K hK
                obtain ⟨p0, p1, _⟩ := hpre
                have q18 := ev_of (show a.eval (.tmp 18) = .bool false from p0)
                have q26 := ev_of (show a.eval (.tmp 26) = undef from p1)
                clear hout p0 p1
                go_step
                exact hK _ _ rfl hG (Below.refl _ _)
            · intro vs w2 hG hlen hV
              match vs, hlen, hV with
              | [v0, v1, v2, v3, v4, v5, v6, v7, v8, v9, v10, v11], _, hV =>
                obtain rfl : v11 = .bool false := (hV 11 27 v11 rfl rfl)
                clear hV
                simp only [putsL, List.tail_cons, List.headD_cons]
                simp only [Act.put, List.setIfInBounds_toArray, List.set_cons_succ, List.set_cons_zero]
                have HZz := Lib.hid (HZ.out w2 hG)
                clear hG
                go_wp2_with (fail)
                go_meet
                exact ⟨by rw [← HGd.out]; rfl, HZz.out⟩
          · obtain ⟨m, rfl⟩ : ∃ m, k = m + 1 := ⟨k - 1, by omega⟩
            obtain ⟨y, qa, qo, hy, hqa, _⟩ := H1.out.2.2.1.get (t := m) (by rw [H1.out.2.2.2.2.1]; omega)
            subst hqa
            obtain ⟨VX, hVX⟩ : ∃ V, V = Value.agg (WindowL.mk xk xl xh).cells := ⟨_, rfl⟩
            obtain ⟨VP, hVP⟩ : ∃ V, V = Value.agg y.cells := ⟨_, rfl⟩
            obtain ⟨p, hp⟩ : ∃ p, p = placeW ⟨xk, xl, xh⟩ y := ⟨_, rfl⟩
            have HCp : Hid (∀ w', Calls Try.prog 21 #[VX, VP] w' (Below0 w' (.int .i64 p))) := by
              rw [hVX, hVP, hp]
              exact Lib.hid (fun w' => rwPlace_any w' ⟨xk, xl, xh⟩ y)
            have HY : Hid (∀ w', Below wr.heap.size wr w' → w'.cell? ⟨qa, qo + m * 3, none⟩ = some (Sv y.key) ∧ w'.cell? ⟨qa, qo + m * 3 + 1, none⟩ = some (.int .i64 y.lo) ∧ w'.cell? ⟨qa, qo + m * 3 + 2, none⟩ = some (.int .i64 y.hi)) := by
              refine Lib.hid (fun w' h => ?_)
              obtain ⟨x', b', o', hx', ha', d⟩ := (H1.out.2.2.1.below (HZ.out w' h)).get (t := m) (by rw [H1.out.2.2.2.2.1]; omega)
              cases ha'
              rw [hy] at hx'
              cases hx'
              exact d
            have HPs : Hid (posW ⟨xk, xl, xh⟩ out (m + 1) = if p < 0 then posW ⟨xk, xl, xh⟩ out m else m + 1) := by
              rw [hp, posW, show out.getD m zeroW = y from atW_some hy]
              exact Lib.hid rfl
            obtain ⟨yk, yl, yh⟩ := y
            have HV := Lib.hid (And.intro hVX hVP)
            have HGt0 : Hid ((0 : Int) < ((m + 1 : Nat) : Int)) := Lib.hid (by omega)
            have HIm : Hid (((m + 1 : Nat) : Int) - 1 = (m : Int) ∧ (0 : Int) ≤ ((m + 1 : Nat) : Int) ∧ ((m + 1 : Nat) : Int) ≤ 1000000) := Lib.hid (by omega)
            have HI1 : Hid ((0 : Int) ≤ (m : Int) ∧ (m : Int) < (j : Int)) := Lib.hid (by omega)
            clear hy hk0 hVX hVP hp hk
            by_cases hp0 : p < 0
            · have HPn : Hid (p < 0) := Lib.hid hp0
              have HRz : Hid (∀ w', Below wr.heap.size wr w' → PRel W1 ⟨xk, xl, xh⟩ out (.int .i64 (m : Int)) w') := Lib.hid (fun w' h => ⟨m, by have := HK.out.2.2; rw [H1.out.2.2.2.2.1]; omega, rfl, by
                have h1 := HPs.out
                rw [if_pos HPn.out] at h1
                rw [← h1]
                exact HK.out.1, HZ.out w' h⟩)
              clear hp0
              go_upto_region 6 with (fail)
              refine wp_region_skip_frame (fun i => ([] : List Nat).contains i) (by kernel_rfl) [none, none, none, none, none, none, none, none, none, none, none, none] [] (fun i_ _ _ v_ => v_ = (((Value.int .i64 (((m + 1 : Nat)) : Int)) :: (Value.bool true) :: (Value.bool true) :: VX :: (Value.slice (some ⟨qa, qo, none⟩) j oc) :: (Value.int .i64 (((m + 1 : Nat)) : Int)) :: (Value.int .i64 (m : Int)) :: (Value.pointer (some ⟨qa, qo + m * 3, none⟩)) :: VP :: (Value.int .i64 p) :: (Value.bool true) :: (Value.bool true) :: ([] : List Value))).getD i_ undef) (fun _ w' => Below wr.heap.size wr w') (fun w w' => Below w.heap.size w w') (fun _ _ _ _ _ _ h => h) (by kernel_rfl) (by kernel_rfl) (by kernel_rfl) HG0.out (fun _ => ⟨rfl, rfl, rfl, fun _ _ h => .inl h, fun _ _ h => .inl h, fun _ _ h => .inl h, fun _ _ h => .inl h, fun _ _ h => .inl h, fun _ _ h => .inl h, fun _ _ h => .inl h, fun _ _ h => .inl h, rfl, trivial⟩) (fun _ h => by simp at h) ?_ ?_
              · refine ⟨?_, ?_, ?_, ?_, ?_, ?_, ?_, ?_, ?_, ?_, ?_, ?_, trivial⟩
                · intro _ k a w' hG hout hpre K hK
                  have q6 := ev_of ((hout 6 rfl).trans (show _ = .int .i64 (((m + 1 : Nat)) : Int) from rfl))
                  clear hout hpre
                  go_step
                  exact hK _ _ rfl hG (Below.refl _ _)
                · intro _ k a w' hG hout hpre K hK
                  obtain ⟨p0, _⟩ := hpre
                  have q16 := ev_of (show a.eval (.tmp 16) = .int .i64 (((m + 1 : Nat)) : Int) from p0)
                  have hgt := HGt0.out
                  clear hout p0
                  go_step
                  exact hK _ _ rfl hG (Below.refl _ _)
                · intro _ k a w' hG hout hpre K hK
                  obtain ⟨p0, _⟩ := hpre
                  have q17 := ev_of (show a.eval (.tmp 17) = .bool true from p0)
                  clear hout p0
                  go_step
                  exact hK _ _ rfl hG (Below.refl _ _)
                · intro _ k a w' hG hout hpre K hK
                  have q5 := ev_of ((hout 5 rfl).trans (show _ = .pointer (some ⟨xb, 0, none⟩) from rfl))
                  obtain ⟨d0, d1, d2⟩ := HRx.out w' hG
                  clear hout hpre
                  go_step
                  exact hK _ _ HV.out.1.symm hG (Below.refl _ _)
                · intro _ k a w' hG hout hpre K hK
                  have q3 := ev_of ((hout 3 rfl).trans (show _ = .slice (some ⟨qa, qo, none⟩) j oc from rfl))
                  clear hout hpre
                  go_step
                  exact hK _ _ rfl hG (Below.refl _ _)
                · intro _ k a w' hG hout hpre K hK
                  have q6 := ev_of ((hout 6 rfl).trans (show _ = .int .i64 (((m + 1 : Nat)) : Int) from rfl))
                  clear hout hpre
                  go_step
                  exact hK _ _ rfl hG (Below.refl _ _)
                · intro _ k a w' hG hout hpre K hK
                  obtain ⟨p0, _⟩ := hpre
                  have q21 := ev_of (show a.eval (.tmp 21) = .int .i64 (((m + 1 : Nat)) : Int) from p0)
                  have him := HIm.out
                  clear hout p0
                  go_step
                  exact hK _ _ rfl hG (Below.refl _ _)
                · intro _ k a w' hG hout hpre K hK
                  obtain ⟨p0, p1, _⟩ := hpre
                  have q20 := ev_of (show a.eval (.tmp 20) = .slice (some ⟨qa, qo, none⟩) j oc from p0)
                  have q22 := ev_of (show a.eval (.tmp 22) = .int .i64 (m : Int) from p1)
                  have hi0 := HI1.out
                  clear hout p0 p1
                  go_step
                  exact hK _ _ rfl hG (Below.refl _ _)
                · intro _ k a w' hG hout hpre K hK
                  obtain ⟨p0, _⟩ := hpre
                  have q23 := ev_of (show a.eval (.tmp 23) = .pointer (some ⟨qa, qo + m * 3, none⟩) from p0)
                  obtain ⟨d0, d1, d2⟩ := HY.out w' hG
                  clear hout p0
                  go_step
                  exact hK _ _ HV.out.2.symm hG (Below.refl _ _)
                · intro _ k a w' hG hout hpre K hK
                  obtain ⟨p0, p1, _⟩ := hpre
                  have q19 := ev_of (show a.eval (.tmp 19) = VX from p0)
                  have q24 := ev_of (show a.eval (.tmp 24) = VP from p1)
                  have HS := Lib.hid (HCp.out w')
                  clear hout p0 p1
                  go_step
                  refine HS.out.mono ?_
                  rintro e w3 ⟨rfl, hB⟩
                  exact hK _ _ rfl (hG.trans (hB.mono hG.size)) hB
                · intro _ k a w' hG hout hpre K hK
                  obtain ⟨p0, _⟩ := hpre
                  have q25 := ev_of (show a.eval (.tmp 25) = .int .i64 p from p0)
                  have hp := HPn.out
                  clear hout p0
                  go_step
                  exact hK _ _ rfl hG (Below.refl _ _)
                · intro _ k a w' hG hout hpre K hK
                  obtain ⟨p0, p1, _⟩ := hpre
                  have q18 := ev_of (show a.eval (.tmp 18) = .bool true from p0)
                  have q26 := ev_of (show a.eval (.tmp 26) = .bool true from p1)
                  clear hout p0 p1
                  go_step
                  exact hK _ _ rfl hG (Below.refl _ _)
              · intro vs w2 hG hlen hV
                match vs, hlen, hV with
                | [v0, v1, v2, v3, v4, v5, v6, v7, v8, v9, v10, v11], _, hV =>
                  obtain rfl : v11 = .bool true := (hV 11 27 v11 rfl rfl)
                  clear hV
                  simp only [putsL, List.tail_cons, List.headD_cons]
                  simp only [Act.put, List.setIfInBounds_toArray, List.set_cons_succ, List.set_cons_zero]
                  have HZz := Lib.hid (HRz.out w2 hG)
                  have him := HIm.out
                  clear hG
                  go_wp2_with (fail)
                  go_roundw
                  case rel => exact HZz.out
                  case measure => simp [intOf]
            · have HPn : Hid (decide (p < 0) = false) := Lib.hid (decide_eq_false hp0)
              have HGd : Hid (m + 1 = posW ⟨xk, xl, xh⟩ out out.length) := by
                have h1 := HPs.out
                rw [if_neg hp0] at h1
                rw [← h1]
                exact Lib.hid HK.out.1
              clear hp0
              go_upto_region 6 with (fail)
              refine wp_region_skip_frame (fun i => ([] : List Nat).contains i) (by kernel_rfl) [none, none, none, none, none, none, none, none, none, none, none, none] [] (fun i_ _ _ v_ => v_ = (((Value.int .i64 (((m + 1 : Nat)) : Int)) :: (Value.bool true) :: (Value.bool true) :: VX :: (Value.slice (some ⟨qa, qo, none⟩) j oc) :: (Value.int .i64 (((m + 1 : Nat)) : Int)) :: (Value.int .i64 (m : Int)) :: (Value.pointer (some ⟨qa, qo + m * 3, none⟩)) :: VP :: (Value.int .i64 p) :: (Value.bool false) :: (Value.bool false) :: ([] : List Value))).getD i_ undef) (fun _ w' => Below wr.heap.size wr w') (fun w w' => Below w.heap.size w w') (fun _ _ _ _ _ _ h => h) (by kernel_rfl) (by kernel_rfl) (by kernel_rfl) HG0.out (fun _ => ⟨rfl, rfl, rfl, fun _ _ h => .inl h, fun _ _ h => .inl h, fun _ _ h => .inl h, fun _ _ h => .inl h, fun _ _ h => .inl h, fun _ _ h => .inl h, fun _ _ h => .inl h, fun _ _ h => .inl h, rfl, trivial⟩) (fun _ h => by simp at h) ?_ ?_
              · refine ⟨?_, ?_, ?_, ?_, ?_, ?_, ?_, ?_, ?_, ?_, ?_, ?_, trivial⟩
                · intro _ k a w' hG hout hpre K hK
                  have q6 := ev_of ((hout 6 rfl).trans (show _ = .int .i64 (((m + 1 : Nat)) : Int) from rfl))
                  clear hout hpre
                  go_step
                  exact hK _ _ rfl hG (Below.refl _ _)
                · intro _ k a w' hG hout hpre K hK
                  obtain ⟨p0, _⟩ := hpre
                  have q16 := ev_of (show a.eval (.tmp 16) = .int .i64 (((m + 1 : Nat)) : Int) from p0)
                  have hgt := HGt0.out
                  clear hout p0
                  go_step
                  exact hK _ _ rfl hG (Below.refl _ _)
                · intro _ k a w' hG hout hpre K hK
                  obtain ⟨p0, _⟩ := hpre
                  have q17 := ev_of (show a.eval (.tmp 17) = .bool true from p0)
                  clear hout p0
                  go_step
                  exact hK _ _ rfl hG (Below.refl _ _)
                · intro _ k a w' hG hout hpre K hK
                  have q5 := ev_of ((hout 5 rfl).trans (show _ = .pointer (some ⟨xb, 0, none⟩) from rfl))
                  obtain ⟨d0, d1, d2⟩ := HRx.out w' hG
                  clear hout hpre
                  go_step
                  exact hK _ _ HV.out.1.symm hG (Below.refl _ _)
                · intro _ k a w' hG hout hpre K hK
                  have q3 := ev_of ((hout 3 rfl).trans (show _ = .slice (some ⟨qa, qo, none⟩) j oc from rfl))
                  clear hout hpre
                  go_step
                  exact hK _ _ rfl hG (Below.refl _ _)
                · intro _ k a w' hG hout hpre K hK
                  have q6 := ev_of ((hout 6 rfl).trans (show _ = .int .i64 (((m + 1 : Nat)) : Int) from rfl))
                  clear hout hpre
                  go_step
                  exact hK _ _ rfl hG (Below.refl _ _)
                · intro _ k a w' hG hout hpre K hK
                  obtain ⟨p0, _⟩ := hpre
                  have q21 := ev_of (show a.eval (.tmp 21) = .int .i64 (((m + 1 : Nat)) : Int) from p0)
                  have him := HIm.out
                  clear hout p0
                  go_step
                  exact hK _ _ rfl hG (Below.refl _ _)
                · intro _ k a w' hG hout hpre K hK
                  obtain ⟨p0, p1, _⟩ := hpre
                  have q20 := ev_of (show a.eval (.tmp 20) = .slice (some ⟨qa, qo, none⟩) j oc from p0)
                  have q22 := ev_of (show a.eval (.tmp 22) = .int .i64 (m : Int) from p1)
                  have hi0 := HI1.out
                  clear hout p0 p1
                  go_step
                  exact hK _ _ rfl hG (Below.refl _ _)
                · intro _ k a w' hG hout hpre K hK
                  obtain ⟨p0, _⟩ := hpre
                  have q23 := ev_of (show a.eval (.tmp 23) = .pointer (some ⟨qa, qo + m * 3, none⟩) from p0)
                  obtain ⟨d0, d1, d2⟩ := HY.out w' hG
                  clear hout p0
                  go_step
                  exact hK _ _ HV.out.2.symm hG (Below.refl _ _)
                · intro _ k a w' hG hout hpre K hK
                  obtain ⟨p0, p1, _⟩ := hpre
                  have q19 := ev_of (show a.eval (.tmp 19) = VX from p0)
                  have q24 := ev_of (show a.eval (.tmp 24) = VP from p1)
                  have HS := Lib.hid (HCp.out w')
                  clear hout p0 p1
                  go_step
                  refine HS.out.mono ?_
                  rintro e w3 ⟨rfl, hB⟩
                  exact hK _ _ rfl (hG.trans (hB.mono hG.size)) hB
                · intro _ k a w' hG hout hpre K hK
                  obtain ⟨p0, _⟩ := hpre
                  have q25 := ev_of (show a.eval (.tmp 25) = .int .i64 p from p0)
                  have hp := HPn.out
                  clear hout p0
                  go_step
                  exact hK _ _ rfl hG (Below.refl _ _)
                · intro _ k a w' hG hout hpre K hK
                  obtain ⟨p0, p1, _⟩ := hpre
                  have q18 := ev_of (show a.eval (.tmp 18) = .bool true from p0)
                  have q26 := ev_of (show a.eval (.tmp 26) = .bool false from p1)
                  clear hout p0 p1
                  go_step
                  exact hK _ _ rfl hG (Below.refl _ _)
              · intro vs w2 hG hlen hV
                match vs, hlen, hV with
                | [v0, v1, v2, v3, v4, v5, v6, v7, v8, v9, v10, v11], _, hV =>
                  obtain rfl : v11 = .bool false := (hV 11 27 v11 rfl rfl)
                  clear hV
                  simp only [putsL, List.tail_cons, List.headD_cons]
                  simp only [Act.put, List.setIfInBounds_toArray, List.set_cons_succ, List.set_cons_zero]
                  have HZz := Lib.hid (HZ.out w2 hG)
                  clear hG
                  go_wp2_with (fail)
                  go_meet
                  exact ⟨by rw [← HGd.out]; exact congrArg _ (by omega), HZz.out⟩
      case rest =>
      obtain ⟨rfl, hBc⟩ := hcut
      obtain ⟨w6, hw6⟩ : ∃ W, W = wc := ⟨_, rfl⟩
      subst wc
      obtain ⟨p, hp⟩ : ∃ p, p = posW ⟨xk, xl, xh⟩ out out.length := ⟨_, rfl⟩
      rw [← hp]
      have hpl : p ≤ j := by rw [hp, ← H1.out.2.2.2.2.1]; exact posW_le _ _ _
      obtain ⟨ra, hra, hRa⟩ := run_sliceW_l w6 oa out oc p (H1.out.2.2.1.below hBc) (by rw [H1.out.2.2.2.2.1]; exact hpl) (by rw [H1.out.2.2.2.2.1]; exact H1.out.2.2.2.2.2.1)
      rw [H1.out.2.2.2.2.1] at hra
      have HSl : Hid ((∀ w, (Instr.slice 22 (.slice oa j oc) (some (.int .i64 (p : Int))) none none).run Try.prog w = .ok (.slice ra (j - p) (oc - p)) w) ∧ (∀ w, (Instr.slice 22 (.slice oa j oc) none (some (.int .i64 (p : Int))) none).run Try.prog w = .ok (.slice oa p oc) w)) :=
        Lib.hid ⟨hra, fun w => run_sliceW_h w oa j oc p (by have := H1.out.2.2.2.2.2.1; omega)⟩
      have H6 : Hid (RowW w6 xb ⟨xk, xl, xh⟩ ∧ WinsAt w6 oa (out.take p) ∧ WinsAt w6 ra (out.drop p) ∧ Below w.heap.size w w6 ∧ out.length = j ∧ p ≤ j ∧ sortTo l (j + 1) = out.take p ++ [⟨xk, xl, xh⟩] ++ out.drop p) := by
        obtain ⟨h1, h2, h3, h4, h5, h6, h7⟩ := H1.out
        refine Lib.hid ⟨h1.below hBc, (h3.below hBc).take p, hRa, h4.trans (hBc.mono h4.size), h5, hpl, ?_⟩
        rw [h7, insW, ← hp]
      clear hra hRa hp H1 hBc
      have hsl := HSl.out.2
      go_upto_region 8 with (fail)
      refine wp_region_lit ?_
      iterate 12 go_step
      have B0 : Below w6.heap.size w6 (w6.alloc (.cells #[] 24)) := (Below.refl _ w6).alloc (Nat.le_refl _) _
      have HA0 : Hid (OwnW (w6.alloc (.cells #[] 24)) w6.heap.size (.slice (some ⟨w6.heap.size, 0, none⟩) 0 0) [] ∧ WinsAt (w6.alloc (.cells #[] 24)) oa (out.take p) ∧ w6.heap.size ≤ (w6.alloc (.cells #[] 24)).heap.size ∧ (out.take p).length = p) :=
        Lib.hid ⟨OwnW.new0 w6 _ (Nat.le_refl _), H6.out.2.1.below B0, B0.size, by rw [List.length_take, H6.out.2.2.2.2.1]; have := H6.out.2.2.2.2.2.1; omega⟩
      refine wpList_appendW rfl (.tmp 30) (.tmp 33) rfl w6.heap.size (.slice (some ⟨w6.heap.size, 0, none⟩) 0 0) [] (out.take p) rfl HA0.out.1 oa oc p HA0.out.2.2.2.symm rfl HA0.out.2.1 (by rw [HA0.out.2.2.2]; simp; omega) HA0.out.2.2.1 ?_
      intro v1 w7 g1 g2 g3
      rw [List.nil_append] at g1
      obtain ⟨va, vc, rfl, _, _⟩ := g1.form
      have H7 : Hid (OwnW w7 w6.heap.size (.slice va p vc) (out.take p) ∧ Below w6.heap.size w6 w7) := by
        have h := B0.trans (OwnW.below (OwnW.new0 w6 _ (Nat.le_refl _)) g2 B0.size)
        rw [HA0.out.2.2.2] at g1
        exact Lib.hid ⟨g1, h⟩
      rw [HA0.out.2.2.2]
      clear g1 g2 g3 B0 HA0
      obtain ⟨d0, d1, d2⟩ := (H6.out.1.below H7.out.2).d3
      simp only at d0 d1 d2
      clear hsl
      go_upto_region 9 with (fail)
      refine wp_region_lit ?_
      iterate 6 go_step
      refine wpList_slice1_W rfl (.tmp 36) rfl ⟨xk, xl, xh⟩ rfl ?_
      obtain ⟨w8, hw8⟩ : ∃ W, W = w7.alloc (.cells (WindowL.mk xk xl xh).cells 24) := ⟨_, rfl⟩
      obtain ⟨gb, hgb⟩ : ∃ b, b = w7.heap.size := ⟨_, rfl⟩
      have H8 : Hid (OwnW w8 w6.heap.size (.slice va p vc) (out.take p) ∧ Below w6.heap.size w6 w8 ∧ (∀ j z, (WindowL.mk xk xl xh).cells[j]? = some z → w8.cell? ⟨gb, j, none⟩ = some z) ∧ w6.heap.size ≤ w8.heap.size) := by
        have hB : Below w7.heap.size w7 w8 := by rw [hw8]; exact (Below.refl _ w7).alloc (Nat.le_refl _) _
        have h2 := H7.out.2.trans (hB.mono H7.out.2.size)
        refine Lib.hid ⟨H7.out.1.far hB, h2, fun j z hz => ?_, h2.size⟩
        rw [hw8, hgb, cell_of_row _ _ _ _ _ _ (heap_alloc_new w7 _)]
        exact hz
      rw [← hw8, ← hgb]
      clear hw8 hgb d0 d1 d2
      have HL1 : Hid ((out.take p).length = p) := Lib.hid (by rw [List.length_take, H6.out.2.2.2.2.1]; have := H6.out.2.2.2.2.2.1; omega)
      refine wpList_pushW rfl (.tmp 35) (.tmp 37) rfl w6.heap.size (.slice va p vc) (out.take p) rfl H8.out.1 ⟨xk, xl, xh⟩ gb rfl H8.out.2.2.1 (by rw [HL1.out]; omega) H8.out.2.2.2 ?_
      intro v2 w9 g1 g2 g3
      obtain ⟨vb, vd, rfl, _, _⟩ := g1.form
      have HL2 : Hid ((out.take p ++ [WindowL.mk xk xl xh]).length = p + 1 ∧ (out.drop p).length = j - p) := Lib.hid ⟨by rw [List.length_append, HL1.out]; rfl, by rw [List.length_drop, H6.out.2.2.2.2.1]⟩
      have H9 : Hid (OwnW w9 w6.heap.size (.slice vb (p + 1) vd) (out.take p ++ [⟨xk, xl, xh⟩]) ∧ Below w6.heap.size w6 w9 ∧ w6.heap.size ≤ w9.heap.size) := by
        have h := H8.out.2.1.trans (OwnW.below H8.out.1 g2 H8.out.2.1.size)
        rw [HL2.out.1] at g1
        exact Lib.hid ⟨g1, h, h.size⟩
      rw [HL2.out.1]
      clear g1 g2 g3
      have hsl := HSl.out.1
      go_upto_region 10 with (fail)
      refine wp_region_lit ?_
      iterate 12 go_step
      refine wpList_appendW rfl (.tmp 39) (.tmp 42) rfl w6.heap.size (.slice vb (p + 1) vd) (out.take p ++ [⟨xk, xl, xh⟩]) (out.drop p) rfl H9.out.1 ra (oc - p) (j - p) HL2.out.2.symm rfl (H6.out.2.2.1.below H9.out.2.1) (by rw [HL2.out.1, HL2.out.2]; omega) H9.out.2.2 ?_
      intro v3 wz g1 g2 g3
      have HZ : Hid (SRel w l v3 (.int .i64 ((j : Int) + 1)) wz) := by
        have h := H9.out.2.1.trans (OwnW.below H9.out.1 g2 H9.out.2.1.size)
        have h6 := H6.out.2.2.2.1
        refine Lib.hid ⟨j + 1, by have := HN.out.1; omega, by go_num, ?_, h6.trans (h.mono h6.size)⟩
        rw [H6.out.2.2.2.2.2.2]
        exact g1.mono h6.size
      clear g1 g2 g3 hsl
      go_wp2_with (fail)
      go_roundw
      case rel => exact HZ.out
      case measure => simp [intOf]; omega
    · obtain rfl : j = n := by omega
      have HZ : Hid (P (.returned (.slice oa j oc)) wr) := HYes.out _ _ (by have h := HO.out.1; rw [HO.out.2.2.2.1] at h; exact h) HO.out.2.1
      clear hlt hj
      go_wp2_with (fail)
      exact HZ.out
end Go.Proofs.Ytbfioekbahcicaa
namespace Go.Proofs.Ytbfioekbahcicaa
open Go Go.RowKit

def hullTo (l : List WindowL) (x : WindowL) (j : Nat) : WindowL := (l.take j).foldl (hullW x) x
def restTo (l : List WindowL) (x : WindowL) (j : Nat) : List WindowL := (l.take j).filter fun o => !joinsB o x
def gaveTo (l : List WindowL) (x : WindowL) (j : Nat) : List Nat := (List.range j).filter fun i => joinsB (l.getD i zeroW) x
theorem hullTo_succ {l : List WindowL} {x o : WindowL} {j : Nat} (h : l[j]? = some o) : hullTo l x (j + 1) = hullW x (hullTo l x j) o := by
  rw [hullTo, List.take_add_one, h, List.foldl_append]
  rfl
theorem restTo_succ {l : List WindowL} {x o : WindowL} {j : Nat} (h : l[j]? = some o) : restTo l x (j + 1) = restTo l x j ++ (if joinsB o x = true then [] else [o]) := by
  rw [restTo, List.take_add_one, h, List.filter_append]
  congr 1
  cases hj : joinsB o x <;> simp [hj]
theorem gaveTo_succ {l : List WindowL} {x o : WindowL} {j : Nat} (h : l[j]? = some o) : gaveTo l x (j + 1) = gaveTo l x j ++ (if joinsB o x = true then [j] else []) := by
  rw [gaveTo, List.range_succ, List.filter_append]
  congr 1
  have : l.getD j zeroW = o := atW_some h
  cases hj : joinsB o x <;> simp only [List.filter_cons, List.filter_nil, this, hj] <;> rfl
theorem restTo_le (l : List WindowL) (x : WindowL) (j : Nat) : (restTo l x j).length ≤ j := Nat.le_trans (List.length_filter_le _ _) (by simp; omega)
theorem gaveTo_le (l : List WindowL) (x : WindowL) (j : Nat) : (gaveTo l x j).length ≤ j := Nat.le_trans (List.length_filter_le _ _) (by simp)
theorem hullTo_all (l : List WindowL) (x : WindowL) : hullTo l x l.length = became l x := by rw [hullTo, List.take_length]; rfl
theorem restTo_all (l : List WindowL) (x : WindowL) : restTo l x l.length = restW l x := by rw [restTo, List.take_length]; rfl
theorem gaveTo_all (l : List WindowL) (x : WindowL) : gaveTo l x l.length = gaveW l x := rfl
/-- What Take answers. -/
def TakeEnd (w : World) (l : List WindowL) (x : WindowL) (g : List Nat) (e : Ending) (w' : World) : Prop :=
  ∃ v u, e = .returned (.tuple #[v, .agg x.cells, u]) ∧ OwnW w' w.heap.size v l ∧ OwnN w' w.heap.size u g ∧ Below w.heap.size w w'
def TRel (w : World) (B b1 b2 b3 : Nat) (l : List WindowL) (x : WindowL) (v g i : Value) (wr : World) : Prop :=
  ∃ j : Nat, j ≤ l.length ∧ i = .int .i64 (j : Int) ∧ TInv w B b1 b2 b3 x (hullTo l x j) v (restTo l x j) g (gaveTo l x j) wr
/-- The last region's stages. -/
def TakeG (w : World) (b3 b1 b2 : Nat) (X y : WindowL) (v : Value) (out : List WindowL) (g : Value) (gv : List Nat) (k : Nat) (w' : World) : Prop :=
  cond (Nat.ble k 1) (TInv w (b3 + 1) b1 b2 b3 X y v out g gv w') (cond (Nat.ble k 3) (∃ v', TInv w (b3 + 1) b1 b2 b3 X y v' (out ++ [y]) g gv w') (RowW w' b3 y ∧ RowW w' b2 y ∧ OwnN w' (b3 + 1) g gv ∧ Below w.heap.size w w' ∧ w.heap.size ≤ b3))
theorem TakeG.row {w : World} {b3 b1 b2 : Nat} {X y : WindowL} {v : Value} {out : List WindowL} {g : Value} {gv : List Nat} {k : Nat} {w' : World} (h : TakeG w b3 b1 b2 X y v out g gv k w') : RowW w' b3 y := by
  unfold TakeG at h
  cases h1 : Nat.ble k 1 <;> rw [h1] at h
  · cases h2 : Nat.ble k 3 <;> rw [h2] at h
    · exact h.1
    · obtain ⟨v', h⟩ := h
      exact h.2.2.2.2.1
  · exact h.2.2.2.2.1
theorem rows_ne {w : World} {B b : Nat} {g : Value} {n : List Nat} {x : WindowL} (h : OwnN w B g n) (h' : RowW w b x) : g.ownBlock = none ∨ g.ownBlock ≠ some b := by
  rcases h.2 with ⟨k1, _⟩ | ⟨a, c, cur, k1, _, k2, _⟩
  · exact .inl (by rw [k1]; rfl)
  · right
    rw [k1]
    intro e
    simp only [Value.ownBlock, Option.some.injEq] at e
    unfold RowW at h'
    rw [e, h'] at k2
    simp only [Option.some.injEq, Obj.cells.injEq] at k2
    exact absurd k2.2.1 (by decide)
set_option maxRecDepth 100000 in
set_option maxHeartbeats 4000000 in
theorem rsTake_any (w : World) (sa : Option Addr) (sc : Nat) (l : List WindowL) (x : WindowL) (hA : WinsAt w sa l) (hk : ∀ y ∈ l, y.key.length ≤ 1000000) (hx : x.key.length ≤ 1000000) (hn : l.length ≤ 900) :
    Calls Try.prog 15 #[.slice sa l.length sc, .agg x.cells] w (TakeEnd w (takeS l x) (became l x) (gaveW l x)) := by
  obtain ⟨n, hN⟩ : ∃ n, n = l.length := ⟨_, rfl⟩
  obtain ⟨P, hP⟩ : ∃ P, P = TakeEnd w (takeS l x) (became l x) (gaveW l x) := ⟨_, rfl⟩
  rw [← hP, ← hN]
  have HN : Hid (n = l.length ∧ n ≤ 900) := Lib.hid ⟨hN, by omega⟩
  have hn6 : n ≤ 900 := by omega
  have HA := Lib.hid hA
  have HP := Lib.hid hP
  have HK : Hid (∀ (i : Nat) (y : WindowL), l[i]? = some y → y.key.length ≤ 1000000) := Lib.hid (fun i y h => hk y (List.mem_of_getElem? h))
  have HX := Lib.hid hx
  obtain ⟨X, hX⟩ : ∃ X, X = x := ⟨_, rfl⟩
  obtain ⟨w2, hw2⟩ : ∃ W, W = (w.alloc (.cells x.cells 24)).alloc (.cells #[.string ⟨#[]⟩, .int .i64 0, .int .i64 0] 24) := ⟨_, rfl⟩
  obtain ⟨b1, hb1⟩ : ∃ b, b = w.heap.size := ⟨_, rfl⟩
  obtain ⟨b2, hb2⟩ : ∃ b, b = w.heap.size + 1 := ⟨_, rfl⟩
  have hs1 : (w.alloc (.cells x.cells 24)).heap.size = w.heap.size + 1 := heap_alloc_size w _
  have H2 : Hid (RowW w2 b1 x ∧ RowW w2 b2 zeroW ∧ Below w.heap.size w w2 ∧ w.heap.size = b1 ∧ b2 = b1 + 1 ∧ w2.heap.size = b1 + 2) := by
    have k1 := (Below.refl _ w).alloc (Nat.le_refl _) (.cells x.cells 24)
    have k2 := (Below.refl _ (w.alloc (.cells x.cells 24))).alloc (Nat.le_refl _) (.cells #[.string ⟨#[]⟩, .int .i64 0, .int .i64 0] 24)
    refine Lib.hid ⟨?_, ?_, ?_, hb1.symm, by omega, by rw [hw2, heap_alloc_size, hs1, hb1]⟩
    · rw [hw2, hb1]
      exact RowW.below (heap_alloc_new w _) k2
    · rw [hw2, hb2, ← hs1]
      exact heap_alloc_new _ _
    · rw [hw2]
      exact k1.trans (k2.mono k1.size)
  clear hN hA hn hP hk hx
  obtain ⟨xk, xl, xh⟩ := x
  have HXe : Hid (X = ⟨xk, xl, xh⟩) := Lib.hid hX
  rw [← hX] at H2 HX HP
  unfold WindowL.cells at hw2 hs1 ⊢
  simp only at hw2 hs1
  obtain ⟨d0, d1, d2⟩ := H2.out.1.d3
  rw [HXe.out] at d0 d1 d2
  simp only at d0 d1 d2
  clear hX
  go_enter Try.func15, Try.ntmps15
  go_upto_region 3 with (fail)
  rw [← hw2, ← hb2, ← hb1]
  clear hw2 hb1 hb2 hs1
  refine wp_region_lit ?_
  iterate 6 go_step
  refine wpList_store_row rfl _ _ _ rfl w2.heap.size (WindowL.mk xk xl xh).cells rfl rfl 24 zeroW.cells (heap_alloc_new w2 _) window_size rfl (window_one _) ?_
  obtain ⟨w3, hw3⟩ : ∃ W, W = (w2.alloc (Obj.cells #[.string ⟨#[]⟩, .int .i64 0, .int .i64 0] 24)).setRow w2.heap.size (WindowL.mk xk xl xh).cells := ⟨_, rfl⟩
  obtain ⟨b3, hb3⟩ : ∃ b, b = w2.heap.size := ⟨_, rfl⟩
  have H3 : Hid (TInv w (b3 + 1) b1 b2 b3 X X (.slice none 0 0) [] (.slice none 0 0) [] w3) := by
    have k1 : RowW w3 b3 ⟨xk, xl, xh⟩ := by rw [hw3, hb3]; exact (stored_window w2 (WindowL.mk xk xl xh)).1
    have k2 : Below w2.heap.size w2 w3 := by rw [hw3]; exact (stored_window w2 (WindowL.mk xk xl xh)).2
    obtain ⟨h1, h2, h4, h5, h6, h7⟩ := H2.out
    rw [← HXe.out] at k1
    have := k1.lt
    exact Lib.hid ⟨⟨by omega, by omega, by omega, by omega, by omega⟩, h4.trans (k2.mono h4.size), h1.below k2, h2.below k2, k1, OwnW.nil _ _, Own.nil _ _ _⟩
  rw [← hw3, ← hb3]
  clear hw3 hb3 d0 d1 d2 H2
  go_wp2_with (fail)
  go_loopw [7, 8, 15] (TRel w (b3 + 1) b1 b2 b3 l X) (fun _ _ i _ => n - (intOf i).toNat)
  case atStart => exact ⟨0, Nat.zero_le _, rfl, H3.out⟩
  case round =>
    obtain ⟨j, hj, rfl, hT⟩ := hrel
    rw [← HN.out.1] at hj
    have HT := Lib.hid hT
    clear hT
    obtain ⟨v, hv⟩ : ∃ v, v = u7 := ⟨_, rfl⟩
    subst hv
    obtain ⟨g, hg⟩ : ∃ v, v = u8 := ⟨_, rfl⟩
    subst hg
    by_cases hlt : j < n
    · have hi0 : (0 : Int) ≤ (j : Int) ∧ (j : Int) < (n : Int) := by omega
      obtain ⟨o, pa, po, ho, hsa, c0, c1, c2⟩ := (HA.out.below HT.out.2.1).get (t := j) (by rw [← HN.out.1]; exact hlt)
      subst hsa
      have HO := Lib.hid (And.intro ho hlt)
      have HOk := Lib.hid (HK.out j o ho)
      obtain ⟨ok, ol, oh⟩ := o
      simp only at c0 c1 c2
      clear ho hj hlt
      go_upto_region 6 with (fail)
      refine wp_region_lit ?_
      iterate 15 go_step
      refine wpList_store_row rfl _ _ _ rfl wr.heap.size (WindowL.mk ok ol oh).cells rfl rfl 24 zeroW.cells (heap_alloc_new wr _) window_size rfl (window_one _) ?_
      obtain ⟨W1, hwx⟩ : ∃ W, W = (wr.alloc (Obj.cells #[.string ⟨#[]⟩, .int .i64 0, .int .i64 0] 24)).setRow wr.heap.size (WindowL.mk ok ol oh).cells := ⟨_, rfl⟩
      obtain ⟨ob, hob⟩ : ∃ b, b = wr.heap.size := ⟨_, rfl⟩
      have Hwx : Hid (RowW W1 ob (WindowL.mk ok ol oh) ∧ Below wr.heap.size wr W1) := by
        obtain ⟨k1, k2⟩ := stored_window wr (WindowL.mk ok ol oh)
        rw [hwx, hob]
        exact Lib.hid ⟨k1, k2⟩
      have Hob : Hid (b3 + 1 ≤ ob) := Lib.hid (by rw [hob]; exact HT.out.1.2.2.2.2)
      rw [← hwx, ← hob]
      clear hwx hob
      clear c0 c1 c2
      have H1 : Hid (TInv w (b3 + 1) b1 b2 b3 X (hullTo l X j) v (restTo l X j) g (gaveTo l X j) W1) := Lib.hid (HT.out.below Hwx.out.2)
      clear HT
      obtain ⟨jb, hjb⟩ : ∃ b, b = joinsB ⟨ok, ol, oh⟩ X := ⟨_, rfl⟩
      have HJ : Hid (∀ w', Calls Try.prog 9 #[.agg #[Sv ok, .int .i64 ol, .int .i64 oh], .agg #[Sv xk, .int .i64 xl, .int .i64 xh]] w' (Below0 w' (.bool jb))) := by
        rw [hjb, HXe.out]
        exact Lib.hid (fun w' => rsJoins_any w' ⟨ok, ol, oh⟩ ⟨xk, xl, xh⟩ HOk.out (by have := HX.out; rw [HXe.out] at this; exact this))
      have Hjb := Lib.hid hjb
      clear hjb
      obtain ⟨d0, d1, d2⟩ := H1.out.2.2.1.d3
      rw [HXe.out] at d0 d1 d2
      obtain ⟨e0, e1, e2⟩ := Hwx.out.1.d3
      simp only at d0 d1 d2 e0 e1 e2
      go_wp2_with (fail)
      refine (HJ.out W1).mono ?_
      rintro e w4 ⟨rfl, hB⟩
      have H4 : Hid (TInv w (b3 + 1) b1 b2 b3 X (hullTo l X j) v (restTo l X j) g (gaveTo l X j) w4 ∧ RowW w4 ob ⟨ok, ol, oh⟩ ∧ b3 + 1 ≤ ob) := Lib.hid ⟨H1.out.below hB, Hwx.out.1.below hB, Hob.out⟩
      clear hB d0 d1 d2 e0 e1 e2
      dsimp only
      cases jb with
      | true =>
        have HG : Hid (gaveTo l X (j + 1) = gaveTo l X j ++ [j] ∧ restTo l X (j + 1) = restTo l X j ∧ hullTo l X (j + 1) = hullW X (hullTo l X j) ⟨ok, ol, oh⟩) := by
          rw [gaveTo_succ HO.out.1, restTo_succ HO.out.1, hullTo_succ HO.out.1, ← Hjb.out]
          exact Lib.hid ⟨rfl, by simp, rfl⟩
        have HH : Hid (hullW X (hullTo l X j) ⟨ok, ol, oh⟩ = ⟨(hullTo l X j).key, min (hullTo l X j).lo ol, max (hullTo l X j).hi oh⟩) := by
          rw [hullW, ← Hjb.out]
          exact Lib.hid rfl
        obtain ⟨y, hy⟩ : ∃ y, y = hullTo l X j := ⟨_, rfl⟩
        rw [← hy] at H4 HG HH
        clear hy
        obtain ⟨yk, yl, yh⟩ := y
        simp only at HH
        go_upto_region 8 with (fail)
        refine wp_region_lit ?_
        iterate 9 go_step
        have HgL : Hid ((natsV (gaveTo l X j)).length + 1 ≤ 1000) := Lib.hid (by have h := gaveTo_le l X j; have := HO.out.2; simp only [natsV, List.length_map]; omega)
        have H5 : Hid (TInv w (b3 + 1) b1 b2 b3 X ⟨yk, yl, yh⟩ v (restTo l X j) g (gaveTo l X j) (w4.alloc (.cells #[.int .i64 (j : Int)] 3)) ∧ Below w4.heap.size w4 (w4.alloc (.cells #[.int .i64 (j : Int)] 3))) := by
          have hB := (Below.refl _ w4).alloc (Nat.le_refl _) (.cells #[.int .i64 (j : Int)] 3)
          exact Lib.hid ⟨H4.out.1.below hB, hB⟩
        refine wpList_push Try.underlying28 infoI rfl rfl (.tmp 23) (.tmp 25) rfl (b3 + 1) g (natsV (gaveTo l X j)) rfl H5.out.1.2.2.2.2.2.2 (.int .i64 (j : Int)) w4.heap.size rfl (by rw [cell_of_row _ _ _ _ _ _ (heap_alloc_new w4 _)]; rfl) rfl HgL.out H5.out.1.1.2.2.2.2 (by decide) ?_
        intro g' w5 k1 k2 k3
        have H6 : Hid (TInv w (b3 + 1) b1 b2 b3 X ⟨yk, yl, yh⟩ v (restTo l X j) g' (gaveTo l X (j + 1)) w5 ∧ RowW w5 ob ⟨ok, ol, oh⟩) := by
          have k1' : OwnN w5 (b3 + 1) g' (gaveTo l X (j + 1)) := by
            rw [HG.out.1]
            unfold OwnN natsV
            rw [List.map_append]
            exact k1
          refine Lib.hid ⟨H5.out.1.pushN k1' k2, (H4.out.2.1.below H5.out.2).grown k2 ?_⟩
          intro e
          have h6 : OwnN w4 (b3 + 1) g (gaveTo l X j) := H4.out.1.2.2.2.2.2.2
          rcases rows_ne h6 H4.out.2.1 with q | q
          · rw [q] at e
            cases e
          · exact q e.symm
        clear k1 k2 k3
        obtain ⟨d0, d1, d2⟩ := H6.out.1.2.2.2.2.1.d3
        obtain ⟨e0, e1, e2⟩ := H6.out.2.d3
        simp only at d0 d1 d2 e0 e1 e2
        obtain ⟨ml, hml⟩ : ∃ m, m = min yl ol := ⟨_, rfl⟩
        obtain ⟨mh, hmh⟩ : ∃ m, m = max yh oh := ⟨_, rfl⟩
        have e3 : (if ol < yl then ol else yl) = ml := by rw [hml]; split <;> omega
        have e4 : (if yh < oh then oh else yh) = mh := by rw [hmh]; split <;> omega
        have HM := Lib.hid (And.intro hml hmh)
        clear hml hmh
        go_upto_region 9 with (fail)
        refine wp_region_lit ?_
        iterate 18 go_step
        refine wpList_store1 rfl _ (.tmp 32) (.tmp 31) rfl ⟨b3, 1, none⟩ (.int .i64 ml) (.int .i64 yl) rfl rfl rfl rfl Try.sizeOf3 d1 (H6.out.1.2.2.2.2.1.fro 1) ?_
        obtain ⟨w6, hw6⟩ : ∃ W, W = w5.setCell ⟨b3, 1, none⟩ (.int .i64 ml) := ⟨_, rfl⟩
        have H7 : Hid (TInv w (b3 + 1) b1 b2 b3 X ⟨yk, ml, yh⟩ v (restTo l X j) g' (gaveTo l X (j + 1)) w6 ∧ RowW w6 ob ⟨ok, ol, oh⟩) := by
          have hg : w5.grownBy w6 (some b3) := by rw [hw6]; exact grown_setCell _ _ _ _
          exact Lib.hid ⟨H6.out.1.set (by rw [hw6]; exact H6.out.1.2.2.2.2.1.setLo ml) hg, H6.out.2.grown hg (by have := H4.out.2.2; simp; omega)⟩
        rw [← hw6]
        clear hw6 d0 d1 d2 e0 e1 e2
        obtain ⟨d0, d1, d2⟩ := H7.out.1.2.2.2.2.1.d3
        obtain ⟨e0, e1, e2⟩ := H7.out.2.d3
        simp only at d0 d1 d2 e0 e1 e2
        go_upto_region 10 with (fail)
        refine wp_region_lit ?_
        iterate 18 go_step
        refine wpList_store1 rfl _ (.tmp 38) (.tmp 37) rfl ⟨b3, 2, none⟩ (.int .i64 mh) (.int .i64 yh) rfl rfl rfl rfl Try.sizeOf3 d2 (H7.out.1.2.2.2.2.1.fro 2) ?_
        obtain ⟨w7, hw7⟩ : ∃ W, W = w6.setCell ⟨b3, 2, none⟩ (.int .i64 mh) := ⟨_, rfl⟩
        have H8 : Hid (TRel w (b3 + 1) b1 b2 b3 l X v g' (.int .i64 ((j : Int) + 1)) w7) := by
          have hg : w6.grownBy w7 (some b3) := by rw [hw7]; exact grown_setCell _ _ _ _
          refine Lib.hid ⟨j + 1, by have := HO.out.2; have := HN.out.1; omega, by go_num, ?_⟩
          rw [HG.out.2.1, HG.out.2.2, HH.out, ← HM.out.1, ← HM.out.2]
          exact H7.out.1.set (by rw [hw7]; exact H7.out.1.2.2.2.2.1.setHi mh) hg
        rw [← hw7]
        clear hw7 d0 d1 d2 e0 e1 e2 e3 e4
        have HJn := Lib.hid HO.out.2
        go_wp2_with (fail)
        go_roundw
        case rel => exact H8.out
        case measure => have := HJn.out; simp [intOf]; omega
      | false =>
        have HG : Hid (gaveTo l X (j + 1) = gaveTo l X j ∧ restTo l X (j + 1) = restTo l X j ++ [⟨ok, ol, oh⟩] ∧ hullTo l X (j + 1) = hullTo l X j) := by
          rw [gaveTo_succ HO.out.1, restTo_succ HO.out.1, hullTo_succ HO.out.1, hullW, ← Hjb.out]
          exact Lib.hid ⟨by simp, rfl, rfl⟩
        obtain ⟨e0, e1, e2⟩ := H4.out.2.1.d3
        simp only at e0 e1 e2
        go_upto_region 11 with (fail)
        refine wp_region_lit ?_
        iterate 6 go_step
        refine wpList_slice1_W rfl (.tmp 40) rfl ⟨ok, ol, oh⟩ rfl ?_
        obtain ⟨w8, hw8⟩ : ∃ W, W = w4.alloc (.cells (WindowL.mk ok ol oh).cells 24) := ⟨_, rfl⟩
        obtain ⟨gb, hgb⟩ : ∃ b, b = w4.heap.size := ⟨_, rfl⟩
        have H8 : Hid (TInv w (b3 + 1) b1 b2 b3 X (hullTo l X j) v (restTo l X j) g (gaveTo l X j) w8 ∧ (∀ j z, (WindowL.mk ok ol oh).cells[j]? = some z → w8.cell? ⟨gb, j, none⟩ = some z)) := by
          have hB : Below w4.heap.size w4 w8 := by rw [hw8]; exact (Below.refl _ w4).alloc (Nat.le_refl _) _
          refine Lib.hid ⟨H4.out.1.below hB, fun j z hz => ?_⟩
          rw [hw8, hgb, cell_of_row _ _ _ _ _ _ (heap_alloc_new w4 _)]
          exact hz
        rw [← hw8, ← hgb]
        clear hw8 hgb e0 e1 e2
        refine wpList_pushW rfl (.tmp 39) (.tmp 41) rfl (b3 + 1) v (restTo l X j) rfl H8.out.1.2.2.2.2.2.1 ⟨ok, ol, oh⟩ gb rfl H8.out.2 (by have h := restTo_le l X j; have := HO.out.2; omega) H8.out.1.1.2.2.2.2 ?_
        intro v' w9 g1 g2 g3
        have H9 : Hid (TRel w (b3 + 1) b1 b2 b3 l X v' g (.int .i64 ((j : Int) + 1)) w9) := by
          refine Lib.hid ⟨j + 1, by have := HO.out.2; have := HN.out.1; omega, by go_num, ?_⟩
          rw [HG.out.1, HG.out.2.1, HG.out.2.2]
          exact H8.out.1.pushW g1 g2
        clear g1 g2 g3
        have HJn := Lib.hid HO.out.2
        go_wp2_with (fail)
        go_roundw
        case rel => exact H9.out
        case measure => have := HJn.out; simp [intOf]; omega
    · obtain rfl : j = n := by omega
      have HT' : Hid (TInv w (b3 + 1) b1 b2 b3 X (became l X) v (restW l X) g (gaveW l X) wr) := by
        have h := HT.out
        rw [HN.out.1, hullTo_all, restTo_all, gaveTo_all] at h
        exact Lib.hid h
      obtain ⟨out, hout⟩ : ∃ o, o = restW l X := ⟨_, rfl⟩
      obtain ⟨y, hy⟩ : ∃ o, o = became l X := ⟨_, rfl⟩
      obtain ⟨gv, hgv⟩ : ∃ o, o = gaveW l X := ⟨_, rfl⟩
      have HPz : Hid (∀ wz v4 base, OwnW wz base v4 (sortedW (out ++ [y])) → OwnN wz (b3 + 1) g gv → Below w.heap.size w wz → w.heap.size ≤ base → w.heap.size ≤ b3 → P (.returned (.tuple #[v4, .agg y.cells, g])) wz) := by
        refine Lib.hid (fun wz v4 base h1 h2 h3 h4 h5 => ?_)
        rw [HP.out]
        refine ⟨v4, g, by rw [hy], ?_, ?_, h3⟩
        · rw [takeS, ← hout, ← hy]
          exact h1.mono h4
        · rw [← hgv]
          exact Own.mono h2 (by omega)
      have HoL : Hid (out.length ≤ j) := by rw [hout, HN.out.1]; exact Lib.hid (List.length_filter_le _ _)
      rw [← hout, ← hy, ← hgv] at HT'
      clear hout hy hgv HT hlt hj
      obtain ⟨oa, oc, rfl, hcap, hW⟩ := HT'.out.2.2.2.2.2.1.form
      obtain ⟨m, hm⟩ : ∃ m, m = out.length := ⟨_, rfl⟩
      have Hm : Hid (m = out.length ∧ m ≤ 900) := Lib.hid ⟨hm, by have := HoL.out; omega⟩
      rw [← hm] at HT' ⊢
      clear hcap hW hm
      obtain ⟨VY, hVY⟩ : ∃ V, V = Value.agg y.cells := ⟨_, rfl⟩
      have HV := Lib.hid hVY
      have HPv : Hid (∀ wz v4 base, OwnW wz base v4 (sortedW (out ++ [y])) → OwnN wz (b3 + 1) g gv → Below w.heap.size w wz → w.heap.size ≤ base → w.heap.size ≤ b3 → P (.returned (.tuple #[v4, VY, g])) wz) := by rw [hVY]; exact HPz
      clear hVY
      have HG0 : Hid (TInv w (b3 + 1) b1 b2 b3 X y (.slice oa m oc) out g gv wr.drew) := Lib.hid (HT'.out.below (Below.refl _ wr).drew)
      have HGy : Hid (∀ k w', TakeG w b3 b1 b2 X y (.slice oa m oc) out g gv k w' → RowW w' b3 y) := Lib.hid (fun k w' h => TakeG.row h)
      go_upto_region 13 with (fail)
      refine wp_region_skip_frame (fun i => ([] : List Nat).contains i) (by kernel_rfl) [none, none, some 0, some 1, some 2, none, none, none, some 3, none] [2, 3, 4, 8] (V4 ((Value.slice oa m oc) :: VY :: undef :: undef :: undef :: VY :: g :: undef :: undef :: g :: ([] : List Value)) 2 (fun k w' v => k = 1 → ∃ gb, v = .slice (some ⟨gb, 0, none⟩) 1 1 ∧ ∀ j z, y.cells[j]? = some z → w'.cell? ⟨gb, j, none⟩ = some z) 3 (fun k w' v => k = 2 → ∃ a c, v = .slice a (m + 1) c ∧ WinsAt w' a (out ++ [y])) 4 (fun k w' v => 3 ≤ k ∧ ∃ base, b3 + 1 ≤ base ∧ OwnW w' base v (sortedW (out ++ [y]))) 7 (fun k w' v => 3 ≤ k ∧ ∃ base, b3 + 1 ≤ base ∧ OwnW w' base v (sortedW (out ++ [y])))) (TakeG w b3 b1 b2 X y (.slice oa m oc) out g gv) (fun w w' => Below w.heap.size w w') (V4_le _ (fun k w w' v h ha hk => by obtain ⟨gb, h1, h2⟩ := ha hk; exact ⟨gb, h1, fun j z hz => (h.cell (block_lt_of_cell (h2 j z hz))).trans (h2 j z hz)⟩) (fun k w w' v h ha hk => by obtain ⟨a, c, h1, h2⟩ := ha hk; exact ⟨a, c, h1, h2.below h⟩) (fun k w w' v h ⟨h1, base, h2, h3⟩ => ⟨h1, base, h2, h3.far h⟩) (fun k w w' v h ⟨h1, base, h2, h3⟩ => ⟨h1, base, h2, h3.far h⟩)) (by kernel_rfl) (by kernel_rfl) (by kernel_rfl) HG0.out (fun _ => ⟨rfl, rfl, rfl, rfl, rfl, rfl, rfl, rfl, rfl, rfl, trivial⟩) (fun _ h => by simp at h) ?_ ?_
      · refine ⟨?_, ?_, ?_, ?_, ?_, ?_, ?_, ?_, ?_, ?_, trivial⟩
        · intro _ k a w' hG hout hpre K hK
          have q7 := ev_of ((hout 7 rfl).trans (show _ = .slice oa m oc from rfl))
          clear hout hpre
          go_step
          exact hK _ _ rfl hG (Below.refl _ _)
        · intro _ k a w' hG hout hpre K hK
          have q9 := ev_of ((hout 9 rfl).trans (show _ = .pointer (some ⟨b3, 0, none⟩) from rfl))
          obtain ⟨d0, d1, d2⟩ := (HGy.out _ _ hG).d3
          clear hout hpre
          go_step
          exact hK _ _ HV.out.symm hG (Below.refl _ _)
        · intro _ a w' hG hout hpre K hK
          obtain ⟨p0, _⟩ := hpre
          have q45 := (show a.eval (.tmp 45) = VY from p0)
          clear hout p0
          rw [HV.out] at q45
          refine wp_slice1_W (.tmp 45) rfl y q45 ?_
          have hB : Below w'.heap.size w' (w'.alloc (.cells y.cells 24)) := (Below.refl _ w').alloc (Nat.le_refl _) _
          have hG1 : TInv w (b3 + 1) b1 b2 b3 X y (.slice oa m oc) out g gv w' := hG
          exact hK _ _ (fun _ => ⟨w'.heap.size, rfl, fun j z hz => by rw [cell_of_row _ _ _ _ _ _ (heap_alloc_new w' _)]; exact hz⟩) (hG1.below hB) (V4_keep (.inl rfl) (.inr fun u _ hk => absurd hk (by decide)) (.inr fun u h => absurd h.1 (by decide)) (.inr fun u h => absurd h.1 (by decide)))
        · intro _ a w' hG hout hpre K hK
          obtain ⟨p0, p1, _⟩ := hpre
          have q44 := (show a.eval (.tmp 44) = .slice oa m oc from p0)
          obtain ⟨gb, hv, hc⟩ := (show (1 = 1) → (∃ gb, a.eval (.tmp 46) = .slice (some ⟨gb, 0, none⟩) 1 1 ∧ ∀ j z, y.cells[j]? = some z → w'.cell? ⟨gb, j, none⟩ = some z) from p1) rfl
          have q46 := hv
          clear hout p0 p1 hv
          have hG1 : TInv w (b3 + 1) b1 b2 b3 X y (.slice oa m oc) out g gv w' := hG
          refine wp_appendW (.tmp 44) (.tmp 46) rfl (b3 + 1) (.slice oa m oc) out [y] q44 hG1.2.2.2.2.2.1 (some ⟨gb, 0, none⟩) 1 1 rfl q46 (WinsAt.one hc) (by have := Hm.out; simp; omega) hG1.1.2.2.2.2 ?_
          intro v' w3 g1 g2 g3
          obtain ⟨a', c', rfl, _, hW⟩ := g1.form
          exact hK _ _ (fun _ => ⟨a', c', by rw [List.length_append, Hm.out.1]; rfl, hW⟩) ⟨_, hG1.pushW g1 g2⟩ (V4_keep (.inr fun u _ hk => absurd hk (by decide)) (.inl rfl) (.inr fun u h => absurd h.1 (by decide)) (.inr fun u h => absurd h.1 (by decide)))
        · intro _ a w' hG hout hpre K hK
          obtain ⟨p0, _⟩ := hpre
          obtain ⟨a', c', hv, hW⟩ := (show (2 = 2) → (∃ a' c, a.eval (.tmp 47) = .slice a' (m + 1) c ∧ WinsAt w' a' (out ++ [y])) from p0) rfl
          have q47 := ev_of hv
          have HS : Hid (Calls Try.prog 28 #[.slice a' (m + 1) c'] w' (WinsNew w' (sortedW (out ++ [y])))) := by
            have h := rsSorted_any w' a' c' (out ++ [y]) hW (by rw [List.length_append, ← Hm.out.1]; have := Hm.out.2; simp; omega)
            rw [List.length_append, ← Hm.out.1] at h
            exact Lib.hid h
          obtain ⟨v', hG1⟩ := (show ∃ v', TInv w (b3 + 1) b1 b2 b3 X y v' (out ++ [y]) g gv w' from hG)
          clear hout p0 hv hG
          go_step
          refine HS.out.mono ?_
          rintro e w3 ⟨v4, rfl, k1, k2⟩
          exact hK _ _ ⟨Nat.le_refl 3, _, hG1.1.2.2.2.2, k1⟩ ⟨v', hG1.below k2⟩ (V4_keep (.inr fun u _ hk => absurd hk (by decide)) (.inr fun u _ hk => absurd hk (by decide)) (.inl rfl) (.inr fun u h => absurd h.1 (by decide)))
        · intro _ k a w' hG hout hpre K hK
          have q9 := ev_of ((hout 9 rfl).trans (show _ = .pointer (some ⟨b3, 0, none⟩) from rfl))
          obtain ⟨d0, d1, d2⟩ := (HGy.out _ _ hG).d3
          clear hout hpre
          go_step
          exact hK _ _ HV.out.symm hG (Below.refl _ _)
        · intro _ k a w' hG hout hpre K hK
          have q8 := ev_of ((hout 8 rfl).trans (show _ = g from rfl))
          clear hout hpre
          go_step
          exact hK _ _ rfl hG (Below.refl _ _)
        · intro _ k a w' hG hout hpre K hK
          obtain ⟨p0, _⟩ := hpre
          unfold Oper.wp
          exact hK _ _ p0 hG (Below.refl _ _)
        · intro _ a w' hG hout hpre K hK
          obtain ⟨p0, _⟩ := hpre
          have q49 := (show a.eval (.tmp 49) = VY from p0)
          have q5 := ((hout 5 rfl).trans (show _ = Value.pointer (some ⟨b2, 0, none⟩) from rfl))
          obtain ⟨v', hG1⟩ := (show ∃ v', TInv w (b3 + 1) b1 b2 b3 X y v' (out ++ [y]) g gv w' from hG)
          rw [HV.out] at q49
          clear hout p0 hG
          refine wp_storeW (.tmp 5) (.tmp 49) rfl b2 y zeroW q5 q49 hG1.2.2.2.1 ?_
          obtain ⟨⟨a1, a2, a3, a4, a5⟩, h1, h2, h3, h4, h5, h6⟩ := hG1
          have hg := grown_setRow w' b2 y.cells
          have hBl : Below w.heap.size w' (w'.setRow b2 y.cells) := ⟨hg.os, hg.tape, hg.output, hg.size, fun k hk => hg.block k (by have := h1.size; omega) (by simp; omega)⟩
          have key : ∀ u : Value, (3 ≤ 3 ∧ ∃ base, b3 + 1 ≤ base ∧ OwnW w' base u (sortedW (out ++ [y]))) → (3 ≤ 4 ∧ ∃ base, b3 + 1 ≤ base ∧ OwnW (w'.setRow b2 y.cells) base u (sortedW (out ++ [y]))) := fun u ⟨_, base, k1, k2⟩ => ⟨by decide, base, k1, k2.kept hg (.inr (fun e => by have := k2.lt e; omega))⟩
          exact hK _ _ rfl ⟨h4.grown hg (by simp; omega), h3.reset y, h6.kept hg (.inr (fun e => by have := Own.lt h6 e; omega)), h1.trans hBl, by omega⟩ (V4_keep (.inr fun u _ hk => absurd hk (by decide)) (.inr fun u _ hk => absurd hk (by decide)) (.inr key) (.inr key))
        · intro _ k a w' hG hout hpre K hK
          obtain ⟨p0, _⟩ := hpre
          have q50 := ev_of (show a.eval (.tmp 50) = g from p0)
          clear hout p0
          go_step
          exact hK _ _ rfl hG (Below.refl _ _)
      · intro vs w2 hG hlen hV
        match vs, hlen, hV with
        | [v0, v1, v2, v3, v4, v5, v6, v7, v8, v9], _, hV =>
          obtain ⟨_, base, hb, ho⟩ := (show 3 ≤ 4 ∧ ∃ base, b3 + 1 ≤ base ∧ OwnW w2 base v7 (sortedW (out ++ [y])) from hV 7 4 v7 rfl rfl)
          obtain rfl : v9 = g := hV 9 6 v9 rfl rfl
          have hG1 : RowW w2 b3 y ∧ RowW w2 b2 y ∧ OwnN w2 (b3 + 1) v9 gv ∧ Below w.heap.size w w2 ∧ w.heap.size ≤ b3 := hG
          have HZ := Lib.hid (And.intro hG1.2.1 (HPv.out w2 v7 base ho hG1.2.2.1 hG1.2.2.2.1 (by have := hG1.2.2.2.2; omega) hG1.2.2.2.2))
          clear hV hG hG1 ho
          simp only [putsL, List.tail_cons, List.headD_cons]
          simp only [Act.put, List.setIfInBounds_toArray, List.set_cons_succ, List.set_cons_zero]
          go_wp2_with (fail)
          exact bodyPost_ret (v := .tuple #[v7, .agg y.cells, v9]) ((results_tmp_cell_tmp (s := 4) (p := 5) (u := 6) (ty := 24) rfl _ _ b2 24 y.cells (0, 0) _ rfl HZ.out.1 Try.underlying24 rfl window_size).trans rfl) rfl (by have h := HZ.out.2; rw [HV.out] at h; exact h)
end Go.Proofs.Ytbfioekbahcicaa
namespace Go.Proofs.Ytbfioekbahcicaa
open Go Go.RowKit

def rightTo (l : List WindowL) (j : Nat) : List WindowL := (l.take j).filter WindowL.rightB
theorem rightTo_succ {l : List WindowL} {o : WindowL} {j : Nat} (h : l[j]? = some o) : rightTo l (j + 1) = rightTo l j ++ (if o.rightB = true then [o] else []) := by
  rw [rightTo, List.take_add_one, h, List.filter_append]
  congr 1
  cases hj : o.rightB <;> simp [hj]
theorem rightTo_le (l : List WindowL) (j : Nat) : (rightTo l j).length ≤ j := Nat.le_trans (List.length_filter_le _ _) (by simp; omega)
theorem rightTo_all (l : List WindowL) : rightTo l l.length = rightsW l := by rw [rightTo, List.take_length]; rfl
def FRel (w : World) (l : List WindowL) (v i : Value) (wr : World) : Prop := ∃ j : Nat, j ≤ l.length ∧ i = .int .i64 (j : Int) ∧ OwnW wr w.heap.size v (rightTo l j) ∧ Below w.heap.size w wr
/-- A list on the way to what all come to. -/
def AO (w : World) (v : Value) (out : List WindowL) (wr : World) : Prop := Below w.heap.size w wr ∧ OwnW wr w.heap.size v out
theorem AO.below {w : World} {v : Value} {out : List WindowL} {wr wz : World} (h : AO w v out wr) (hB : Below wr.heap.size wr wz) : AO w v out wz := ⟨h.1.trans (hB.mono h.1.size), h.2.far hB⟩
def Way (l out : List WindowL) : Prop := (∀ x ∈ out, x.rightB = true) ∧ (∀ q p, Cov out q p ↔ Cov (rightsW l) q p) ∧ out.length ≤ 300
def noneTo (out : List WindowL) (i : Nat) : Prop := ∀ a < i, ∀ b, a < b → b < out.length → joinsB (atW out a) (atW out b) = false
def noneAt (out : List WindowL) (i k : Nat) : Prop := ∀ b, i < b → b < k → joinsB (atW out i) (atW out b) = false
theorem Way.done {l out : List WindowL} (h : Way l out) (hn : noneTo out out.length) : sortedW out = allL l := by
  have hat : ∀ i (h : i < out.length), atW out i = out[i] := fun i h => atW_some (List.getElem?_eq_getElem h)
  obtain ⟨h1, h2⟩ := sortedW_settled h.1 (List.pairwise_iff_getElem.2 fun i j hi hj hij => by
    have := hn i hi j hij hj
    rwa [hat i hi, hat j hj] at this)
  exact allL_ext h1 fun q p => (h2 q p).trans (h.2.1 q p)
theorem Way.join {l out : List WindowL} {i k : Nat} (h : Way l out) (hik : i < k) (hk : k < out.length) (hj : joinsB (atW out i) (atW out k) = true) : Way l (joinAt out i k (wholeW (atW out i) (atW out k))) ∧ (joinAt out i k (wholeW (atW out i) (atW out k))).length < out.length := by
  obtain ⟨j1, j2, j3⟩ := joinAt_spec hik hk h.1 hj
  exact ⟨⟨j1, fun q p => (j2 q p).trans (h.2.1 q p), by have := h.2.2; omega⟩, by omega⟩
def lenOfV : Value → Nat
  | .slice _ n _ => n
  | _ => 0
def meas (N : Nat) (d i : Value) : Nat := match d with
  | .bool true => N + 1 - (intOf i).toNat
  | _ => 0
def ARel (w : World) (l : List WindowL) (v : Value) (wr : World) : Prop := ∃ out, AO w v out wr ∧ Way l out
def Less (w : World) (l : List WindowL) (N : Nat) (v : Value) (wr : World) : Prop := ∃ out, AO w v out wr ∧ Way l out ∧ out.length < N
def A3 (w : World) (l out : List WindowL) (v s3 s6 s7 : Value) (wr : World) : Prop :=
  (∃ i : Nat, i ≤ out.length ∧ s7 = .int .i64 (i : Int) ∧ s3 = v ∧ s6 = .bool true ∧ AO w v out wr ∧ noneTo out i) ∨
  (∃ i : Nat, i ≤ 301 ∧ s7 = .int .i64 (i : Int) ∧ s6 = .bool false ∧ Less w l out.length s3 wr)
def C3 (w : World) (l out : List WindowL) (v s3 s6 : Value) (wr : World) : Prop :=
  (s3 = v ∧ s6 = .bool true ∧ AO w v out wr ∧ noneTo out out.length) ∨ (s6 = .bool false ∧ Less w l out.length s3 wr)
def A4 (w : World) (l out : List WindowL) (v : Value) (i : Nat) (s3 s6 s8 : Value) (wr : World) : Prop :=
  (∃ k : Nat, i < k ∧ k ≤ out.length ∧ s8 = .int .i64 (k : Int) ∧ s3 = v ∧ s6 = .bool true ∧ AO w v out wr ∧ noneAt out i k) ∨
  (∃ k : Nat, k ≤ 301 ∧ s8 = .int .i64 (k : Int) ∧ s6 = .bool false ∧ Less w l out.length s3 wr)
def C4 (w : World) (l out : List WindowL) (v : Value) (i : Nat) (s3 s6 : Value) (wr : World) : Prop :=
  (s3 = v ∧ s6 = .bool true ∧ AO w v out wr ∧ noneAt out i out.length) ∨ (s6 = .bool false ∧ Less w l out.length s3 wr)
def GA (w : World) (v : Value) (out out' : List WindowL) (q : Nat) (w' : World) : Prop := cond (Nat.ble q 1) (AO w v out w') (AO w v out' w')
theorem AO.cells {w : World} {b c n : Nat} {out : List WindowL} {wr : World} (h : AO w (.slice (some ⟨b, 0, none⟩) n c) out wr) {k : Nat} {y : WindowL} (hy : out[k]? = some y) :
    wr.cell? ⟨b, k * 3, none⟩ = some (Sv y.key) ∧ wr.cell? ⟨b, k * 3 + 1, none⟩ = some (.int .i64 y.lo) ∧ wr.cell? ⟨b, k * 3 + 2, none⟩ = some (.int .i64 y.hi) := by
  obtain ⟨a, c', e, _, hW⟩ := h.2.form
  cases e
  obtain ⟨x, b', o', hx, e, d⟩ := hW.get (t := k) (List.getElem?_eq_some_iff.1 hy).1
  cases e
  rw [hy] at hx
  cases hx
  simpa using d
theorem GA.cells {w : World} {b c n : Nat} {out out' : List WindowL} {q : Nat} {w' : World} (h : GA w (.slice (some ⟨b, 0, none⟩) n c) out out' q w') {k : Nat} {y : WindowL} (hy : out[k]? = some y) (hy' : out'[k]? = some y) :
    w'.cell? ⟨b, k * 3, none⟩ = some (Sv y.key) ∧ w'.cell? ⟨b, k * 3 + 1, none⟩ = some (.int .i64 y.lo) ∧ w'.cell? ⟨b, k * 3 + 2, none⟩ = some (.int .i64 y.hi) := by
  unfold GA at h
  cases h1 : Nat.ble q 1 <;> rw [h1] at h
  · exact AO.cells h hy'
  · exact AO.cells h hy
set_option maxRecDepth 100000 in
set_option maxHeartbeats 8000000 in
theorem rsAll_any (w : World) (sa : Option Addr) (sc : Nat) (l : List WindowL) (hA : WinsAt w sa l) (hk : ∀ y ∈ l, y.key.length ≤ 1000000) (hn : l.length ≤ 300) :
    Calls Try.prog 17 #[.slice sa l.length sc] w (WinsNew w (allL l)) := by
  obtain ⟨n, hN⟩ : ∃ n, n = l.length := ⟨_, rfl⟩
  obtain ⟨P, hP⟩ : ∃ P, P = WinsNew w (allL l) := ⟨_, rfl⟩
  rw [← hP, ← hN]
  have HN : Hid (n = l.length ∧ n ≤ 300) := Lib.hid ⟨hN, by omega⟩
  have hn6 : n ≤ 300 := by omega
  have HA := Lib.hid hA
  have HYes : Hid (∀ wz v base, w.heap.size ≤ base → OwnW wz base v (allL l) → Below w.heap.size w wz → P (.returned v) wz) := Lib.hid (fun wz v base hb h hB => by
    rw [hP]
    exact ⟨v, rfl, h.mono hb, hB⟩)
  have HK : Hid (∀ (i : Nat) (y : WindowL), l[i]? = some y → y.key.length ≤ 1000000) := Lib.hid (fun i y h => hk y (List.mem_of_getElem? h))
  clear hN hA hn hP hk
  go_enter Try.func17, Try.ntmps17
  go_upto_block 0 with (fail)
  go_cut [3, 5] from 11 to 21 (fun s3 _ wx => AO w s3 (rightsW l) wx)
  case first =>
    go_wp2_with (fail)
    go_loopw [3, 11] (FRel w l) (fun _ i _ => n - (intOf i).toNat)
    case atStart => exact ⟨0, Nat.zero_le _, rfl, OwnW.nil _ _, Below.refl _ _⟩
    case round =>
      obtain ⟨j, hj, rfl, hO, hB⟩ := hrel
      rw [← HN.out.1] at hj
      have HO := Lib.hid (And.intro hO hB)
      obtain ⟨v, hv⟩ : ∃ v, v = u3 := ⟨_, rfl⟩
      subst hv
      clear hO hB
      by_cases hlt : j < n
      · have hi0 : (0 : Int) ≤ (j : Int) ∧ (j : Int) < (n : Int) := by omega
        obtain ⟨x, pa, po, hx, hsa, c0, c1, c2⟩ := (HA.out.below HO.out.2).get (t := j) (by rw [← HN.out.1]; exact hlt)
        subst hsa
        have HXl := Lib.hid (And.intro hx hlt)
        obtain ⟨xk, xl, xh⟩ := x
        simp only at c0 c1 c2
        clear hx hj hlt
        go_upto_region 4 with (fail)
        refine wp_region_lit ?_
        iterate 9 go_step
        refine wpList_store_row rfl _ _ _ rfl wr.heap.size (WindowL.mk xk xl xh).cells rfl rfl 24 zeroW.cells (heap_alloc_new wr _) window_size rfl (window_one _) ?_
        obtain ⟨W1, hwx⟩ : ∃ W, W = (wr.alloc (Obj.cells #[.string ⟨#[]⟩, .int .i64 0, .int .i64 0] 24)).setRow wr.heap.size (WindowL.mk xk xl xh).cells := ⟨_, rfl⟩
        obtain ⟨xb, hxb⟩ : ∃ b, b = wr.heap.size := ⟨_, rfl⟩
        have Hwx : Hid (RowW W1 xb (WindowL.mk xk xl xh) ∧ Below wr.heap.size wr W1) := by
          obtain ⟨k1, k2⟩ := stored_window wr (WindowL.mk xk xl xh)
          rw [hwx, hxb]
          exact Lib.hid ⟨k1, k2⟩
        rw [← hwx, ← hxb]
        clear hwx hxb
        clear c0 c1 c2
        obtain ⟨r, hr⟩ : ∃ r, r = (WindowL.mk xk xl xh).rightB := ⟨_, rfl⟩
        have HR : Hid (∀ w', Calls Try.prog 13 #[.agg #[Sv xk, .int .i64 xl, .int .i64 xh]] w' (Below0 w' (.bool r))) := by
          rw [hr]
          exact Lib.hid (fun w' => rwRight_any w' ⟨xk, xl, xh⟩ (HK.out j _ HXl.out.1))
        have Hr := Lib.hid hr
        have HS := Lib.hid (rightTo_succ HXl.out.1)
        have H1 : Hid (AO w v (rightTo l j) W1) := Lib.hid (AO.below ⟨HO.out.2, HO.out.1⟩ Hwx.out.2)
        clear hr HO
        obtain ⟨d0, d1, d2⟩ := Hwx.out.1.d3
        simp only at d0 d1 d2
        go_wp2_with (fail)
        refine (HR.out W1).mono ?_
        rintro e w4 ⟨rfl, hB⟩
        have H4 : Hid (AO w v (rightTo l j) w4 ∧ RowW w4 xb ⟨xk, xl, xh⟩) := Lib.hid ⟨H1.out.below hB, Hwx.out.1.below hB⟩
        clear hB d0 d1 d2
        dsimp only
        cases r with
        | true =>
          obtain ⟨e0, e1, e2⟩ := H4.out.2.d3
          simp only at e0 e1 e2
          go_upto_region 6 with (fail)
          refine wp_region_lit ?_
          iterate 6 go_step
          refine wpList_slice1_W rfl (.tmp 18) rfl ⟨xk, xl, xh⟩ rfl ?_
          obtain ⟨w8, hw8⟩ : ∃ W, W = w4.alloc (.cells (WindowL.mk xk xl xh).cells 24) := ⟨_, rfl⟩
          obtain ⟨gb, hgb⟩ : ∃ b, b = w4.heap.size := ⟨_, rfl⟩
          have H8 : Hid (AO w v (rightTo l j) w8 ∧ (∀ j z, (WindowL.mk xk xl xh).cells[j]? = some z → w8.cell? ⟨gb, j, none⟩ = some z)) := by
            have hB : Below w4.heap.size w4 w8 := by rw [hw8]; exact (Below.refl _ w4).alloc (Nat.le_refl _) _
            refine Lib.hid ⟨H4.out.1.below hB, fun j z hz => ?_⟩
            rw [hw8, hgb, cell_of_row _ _ _ _ _ _ (heap_alloc_new w4 _)]
            exact hz
          rw [← hw8, ← hgb]
          clear hw8 hgb e0 e1 e2
          refine wpList_pushW rfl (.tmp 17) (.tmp 19) rfl w.heap.size v (rightTo l j) rfl H8.out.1.2 ⟨xk, xl, xh⟩ gb rfl H8.out.2 (by have h := rightTo_le l j; have := HXl.out.2; omega) H8.out.1.1.size ?_
          intro v' w9 g1 g2 g3
          have H9 : Hid (FRel w l v' (.int .i64 ((j : Int) + 1)) w9) := by
            refine Lib.hid ⟨j + 1, by have := HXl.out.2; have := HN.out.1; omega, by go_num, ?_, H8.out.1.1.trans (OwnW.below H8.out.1.2 g2 H8.out.1.1.size)⟩
            rw [HS.out, ← Hr.out]
            exact g1
          clear g1 g2 g3
          have HJn := Lib.hid HXl.out.2
          go_wp2_with (fail)
          go_roundw
          case rel => exact H9.out
          case measure => have := HJn.out; simp [intOf]; omega
        | false =>
          have H9 : Hid (FRel w l v (.int .i64 ((j : Int) + 1)) w4) := by
            refine Lib.hid ⟨j + 1, by have := HXl.out.2; have := HN.out.1; omega, by go_num, ?_, H4.out.1.1⟩
            rw [HS.out, ← Hr.out, if_neg (by decide), List.append_nil]
            exact H4.out.1.2
          have HJn := Lib.hid HXl.out.2
          go_wp2_with (fail)
          go_roundw
          case rel => exact H9.out
          case measure => have := HJn.out; simp [intOf]; omega
      · obtain rfl : j = n := by omega
        have HZ : Hid (AO w v (rightsW l) wr) := by
          have h := HO.out.1
          rw [HN.out.1, rightTo_all] at h
          exact Lib.hid ⟨HO.out.2, h⟩
        clear hlt hj
        go_wp2_with (fail)
        go_meet
        exact HZ.out
  case rest =>
  have HW0 : Hid (Way l (rightsW l)) := Lib.hid ⟨fun x hx => (List.mem_filter.1 hx).2, fun _ _ => Iff.rfl, Nat.le_trans (List.length_filter_le _ _) (by have := HN.out; omega)⟩
  have HC := Lib.hid hcut
  clear hcut
  go_wp2_with (fail)
  go_loopw [3] (ARel w l) (fun v _ => lenOfV v)
  case atStart => exact ⟨_, HC.out, HW0.out⟩
  case round =>
    clear HC HW0
    obtain ⟨out, hAO, hW⟩ := hrel
    obtain ⟨oa, oc, hv, hcap, _⟩ := hAO.2.form
    obtain ⟨N, hNo⟩ : ∃ n, n = out.length := ⟨_, rfl⟩
    rw [← hNo] at hv
    subst hv
    have HO := Lib.hid (And.intro hAO (And.intro hW (And.intro hNo hcap)))
    have hN3 : N ≤ 300 := by rw [hNo]; exact hW.2.2
    clear hAO hW hNo hcap
    go_upto_block 4 with (fail)
    go_cut [3, 6, 7, 8] from 22 to 90 (fun s3 s6 _ _ wx => C3 w l out (.slice oa N oc) s3 s6 wx)
    case first =>
      go_wp2_with (fail)
      go_loopw [3, 6, 7] (A3 w l out (.slice oa N oc)) (fun _ d i _ => meas N d i)
      case atStart => exact .inl ⟨0, Nat.zero_le _, rfl, rfl, rfl, HO.out.1, fun a h => absurd h (Nat.not_lt_zero _)⟩
      case round =>
        rcases hrel with ⟨i, hi, rfl, rfl, rfl, hAO, hno⟩ | ⟨i, hi, rfl, rfl, hL⟩
        · rw [← HO.out.2.2.1] at hi
          have HI := Lib.hid (And.intro hAO hno)
          clear hAO hno
          by_cases hlt : i < N
          · have hi0 : (0 : Int) ≤ (i : Int) ∧ (i : Int) < (N : Int) := by omega
            obtain ⟨pa, oc', e, _⟩ := World.ownsRow.form HI.out.1.2 (by rw [← HO.out.2.2.1]; omega)
            obtain rfl : oa = some ⟨pa, 0, none⟩ := by injection e
            clear e
            have HLt := Lib.hid (And.intro hlt hN3)
            clear hlt hi
            go_upto_block 5 with (fail)
            go_cut [3, 6, 8] from 31 to 90 (fun s3 s6 _ wx => C4 w l out (.slice (some ⟨pa, 0, none⟩) N oc) i s3 s6 wx)
            case first =>
              go_wp2_with (fail)
              go_loopw [3, 6, 8] (A4 w l out (.slice (some ⟨pa, 0, none⟩) N oc) i) (fun _ d k _ => meas N d k)
              case atStart => exact .inl ⟨i + 1, Nat.lt_succ_self _, by rw [← HO.out.2.2.1]; exact HLt.out.1, by go_num, rfl, rfl, HI.out.1, fun b h1 h2 => by omega⟩
              case round =>
                rcases hrel with ⟨k, hik, hk, rfl, rfl, rfl, hAO, hno⟩ | ⟨k, hk, rfl, rfl, hL⟩
                · rw [← HO.out.2.2.1] at hk
                  have HJ := Lib.hid (And.intro hAO (And.intro hno hik))
                  clear hAO hno
                  by_cases hlt : k < N
                  · have hk0 : (0 : Int) ≤ (k : Int) ∧ (k : Int) < (N : Int) := by omega
                    have HK0 := Lib.hid hk0
                    have HI0 := Lib.hid hi0
                    obtain ⟨x, hx⟩ : ∃ x, out[i]? = some x := ⟨_, List.getElem?_eq_getElem (by rw [← HO.out.2.2.1]; exact HLt.out.1)⟩
                    obtain ⟨y, hy⟩ : ∃ y, out[k]? = some y := ⟨_, List.getElem?_eq_getElem (by rw [← HO.out.2.2.1]; exact hlt)⟩
                    have HXY := Lib.hid (And.intro hx (And.intro hy (And.intro (atW_some hx) (And.intro (atW_some hy) (And.intro hik hlt)))))
                    obtain ⟨jb, hjb⟩ : ∃ b, b = joinsB x y := ⟨_, rfl⟩
                    obtain ⟨VX, hVX⟩ : ∃ V, V = Value.agg x.cells := ⟨_, rfl⟩
                    obtain ⟨VY, hVY⟩ : ∃ V, V = Value.agg y.cells := ⟨_, rfl⟩
                    have hrx := HO.out.2.1.1 x (List.mem_of_getElem? hx)
                    have hry := HO.out.2.1.1 y (List.mem_of_getElem? hy)
                    have HCj : Hid (∀ w', Calls Try.prog 9 #[VX, VY] w' (Below0 w' (.bool jb))) := by
                      rw [hVX, hVY, hjb]
                      exact Lib.hid (fun w' => rsJoins_any w' x y (by have := rightW_cases hrx; omega) (by have := rightW_cases hry; omega))
                    have HV := Lib.hid (And.intro hVX hVY)
                    have HG0 : Hid (Below wr.heap.size wr wr.drew) := (Below.refl _ wr).drew
                    have HCx : Hid (∀ w', Below wr.heap.size wr w' → AO w (.slice (some ⟨pa, 0, none⟩) N oc) out w') := Lib.hid (fun w' h => HJ.out.1.below h)
                    have Hjb := Lib.hid hjb
                    obtain ⟨xk, xl, xh⟩ := x
                    obtain ⟨yk, yl, yh⟩ := y
                    have HN1 : Hid (jb = false → noneAt out i (k + 1)) := by
                      refine Lib.hid (fun h b h1 h2 => ?_)
                      by_cases e : b = k
                      · rw [e, HXY.out.2.2.1, HXY.out.2.2.2.1, ← Hjb.out]
                        exact h
                      · exact HJ.out.2.1 b h1 (by omega)
                    clear hx hy hik hk hlt hjb hVX hVY hrx hry
                    cases jb with
                    | false =>
                      go_upto_region 15 with (fail)
                      refine wp_region_skip_frame (fun i => ([] : List Nat).contains i) (by kernel_rfl) [none, none, none, none, none, none, none, none, none] [] (fun i_ _ _ v_ => v_ = (((Value.slice (some ⟨pa, 0, none⟩) N oc) :: (Value.int .i64 (i : Int)) :: (Value.pointer (some ⟨pa, i * 3, none⟩)) :: VX :: (Value.slice (some ⟨pa, 0, none⟩) N oc) :: (Value.int .i64 (k : Int)) :: (Value.pointer (some ⟨pa, k * 3, none⟩)) :: VY :: (Value.bool false) :: ([] : List Value))).getD i_ undef) (fun _ w' => Below wr.heap.size wr w') (fun w w' => Below w.heap.size w w') (fun _ _ _ _ _ _ h => h) (by kernel_rfl) (by kernel_rfl) (by kernel_rfl) HG0.out (fun _ => ⟨rfl, rfl, rfl, rfl, rfl, rfl, rfl, rfl, rfl, trivial⟩) (fun _ h => by simp at h) ?_ ?_
                      · refine ⟨?_, ?_, ?_, ?_, ?_, ?_, ?_, ?_, ?_, trivial⟩
                        · intro _ _ a w' hG hout hpre K hK
                          have q3 := ev_of ((hout 3 rfl).trans (show _ = .slice (some ⟨pa, 0, none⟩) N oc from rfl))
                          clear hout hpre
                          go_step
                          exact hK _ _ rfl hG (Below.refl _ _)
                        · intro _ _ a w' hG hout hpre K hK
                          have q7 := ev_of ((hout 7 rfl).trans (show _ = .int .i64 (i : Int) from rfl))
                          clear hout hpre
                          go_step
                          exact hK _ _ rfl hG (Below.refl _ _)
                        · intro _ _ a w' hG hout hpre K hK
                          obtain ⟨p0, p1, _⟩ := hpre
                          have q42 := ev_of (show a.eval (.tmp 42) = .slice (some ⟨pa, 0, none⟩) N oc from p0)
                          have q43 := ev_of (show a.eval (.tmp 43) = .int .i64 (i : Int) from p1)
                          have hi0 := HI0.out
                          clear hout p0 p1
                          go_step
                          exact hK _ _ rfl hG (Below.refl _ _)
                        · intro _ _ a w' hG hout hpre K hK
                          obtain ⟨p0, _⟩ := hpre
                          have q44 := ev_of (show a.eval (.tmp 44) = .pointer (some ⟨pa, i * 3, none⟩) from p0)
                          obtain ⟨d0, d1, d2⟩ := (HCx.out w' hG).cells HXY.out.1
                          clear hout p0
                          go_step
                          exact hK _ _ HV.out.1.symm hG (Below.refl _ _)
                        · intro _ _ a w' hG hout hpre K hK
                          have q3 := ev_of ((hout 3 rfl).trans (show _ = .slice (some ⟨pa, 0, none⟩) N oc from rfl))
                          clear hout hpre
                          go_step
                          exact hK _ _ rfl hG (Below.refl _ _)
                        · intro _ _ a w' hG hout hpre K hK
                          have q8 := ev_of ((hout 8 rfl).trans (show _ = .int .i64 (k : Int) from rfl))
                          clear hout hpre
                          go_step
                          exact hK _ _ rfl hG (Below.refl _ _)
                        · intro _ _ a w' hG hout hpre K hK
                          obtain ⟨p0, p1, _⟩ := hpre
                          have q46 := ev_of (show a.eval (.tmp 46) = .slice (some ⟨pa, 0, none⟩) N oc from p0)
                          have q47 := ev_of (show a.eval (.tmp 47) = .int .i64 (k : Int) from p1)
                          have hk0 := HK0.out
                          clear hout p0 p1
                          go_step
                          exact hK _ _ rfl hG (Below.refl _ _)
                        · intro _ _ a w' hG hout hpre K hK
                          obtain ⟨p0, _⟩ := hpre
                          have q48 := ev_of (show a.eval (.tmp 48) = .pointer (some ⟨pa, k * 3, none⟩) from p0)
                          obtain ⟨d0, d1, d2⟩ := (HCx.out w' hG).cells HXY.out.2.1
                          clear hout p0
                          go_step
                          exact hK _ _ HV.out.2.symm hG (Below.refl _ _)
                        · intro _ _ a w' hG hout hpre K hK
                          obtain ⟨p0, p1, _⟩ := hpre
                          have q45 := ev_of (show a.eval (.tmp 45) = VX from p0)
                          have q49 := ev_of (show a.eval (.tmp 49) = VY from p1)
                          have HS := Lib.hid (HCj.out w')
                          clear hout p0 p1
                          go_step
                          refine HS.out.mono ?_
                          rintro e w3 ⟨rfl, hB⟩
                          exact hK _ _ rfl (hG.trans (hB.mono hG.size)) hB
                      · intro vs w2 hG hlen hV
                        match vs, hlen, hV with
                        | [v0, v1, v2, v3, v4, v5, v6, v7, v8], _, hV =>
                          obtain rfl : v8 = .bool false := (hV 8 50 v8 rfl rfl)
                          clear hV
                          simp only [putsL, List.tail_cons, List.headD_cons]
                          simp only [Act.put, List.setIfInBounds_toArray, List.set_cons_succ, List.set_cons_zero]
                          have HZ : Hid (A4 w l out (.slice (some ⟨pa, 0, none⟩) N oc) i (.slice (some ⟨pa, 0, none⟩) N oc) (.bool true) (.int .i64 ((k : Int) + 1)) w2) := Lib.hid (.inl ⟨k + 1, by have := HXY.out.2.2.2.2.1; omega, by have := HXY.out.2.2.2.2.2; have := HO.out.2.2.1; omega, by go_num, rfl, rfl, HCx.out w2 hG, HN1.out rfl⟩)
                          have HKN := Lib.hid HXY.out.2.2.2.2.2
                          clear hG
                          go_wp2_with (fail)
                          go_roundw
                          case rel => exact HZ.out
                          case measure => have := HKN.out; simp [meas, intOf]; omega
                    | true =>
                      go_upto_region 15 with (fail)
                      refine wp_region_skip_frame (fun i => ([] : List Nat).contains i) (by kernel_rfl) [none, none, none, none, none, none, none, none, none] [] (fun i_ _ _ v_ => v_ = (((Value.slice (some ⟨pa, 0, none⟩) N oc) :: (Value.int .i64 (i : Int)) :: (Value.pointer (some ⟨pa, i * 3, none⟩)) :: VX :: (Value.slice (some ⟨pa, 0, none⟩) N oc) :: (Value.int .i64 (k : Int)) :: (Value.pointer (some ⟨pa, k * 3, none⟩)) :: VY :: (Value.bool true) :: ([] : List Value))).getD i_ undef) (fun _ w' => Below wr.heap.size wr w') (fun w w' => Below w.heap.size w w') (fun _ _ _ _ _ _ h => h) (by kernel_rfl) (by kernel_rfl) (by kernel_rfl) HG0.out (fun _ => ⟨rfl, rfl, rfl, rfl, rfl, rfl, rfl, rfl, rfl, trivial⟩) (fun _ h => by simp at h) ?_ ?_
                      · refine ⟨?_, ?_, ?_, ?_, ?_, ?_, ?_, ?_, ?_, trivial⟩
                        · intro _ _ a w' hG hout hpre K hK
                          have q3 := ev_of ((hout 3 rfl).trans (show _ = .slice (some ⟨pa, 0, none⟩) N oc from rfl))
                          clear hout hpre
                          go_step
                          exact hK _ _ rfl hG (Below.refl _ _)
                        · intro _ _ a w' hG hout hpre K hK
                          have q7 := ev_of ((hout 7 rfl).trans (show _ = .int .i64 (i : Int) from rfl))
                          clear hout hpre
                          go_step
                          exact hK _ _ rfl hG (Below.refl _ _)
                        · intro _ _ a w' hG hout hpre K hK
                          obtain ⟨p0, p1, _⟩ := hpre
                          have q42 := ev_of (show a.eval (.tmp 42) = .slice (some ⟨pa, 0, none⟩) N oc from p0)
                          have q43 := ev_of (show a.eval (.tmp 43) = .int .i64 (i : Int) from p1)
                          have hi0 := HI0.out
                          clear hout p0 p1
                          go_step
                          exact hK _ _ rfl hG (Below.refl _ _)
                        · intro _ _ a w' hG hout hpre K hK
                          obtain ⟨p0, _⟩ := hpre
                          have q44 := ev_of (show a.eval (.tmp 44) = .pointer (some ⟨pa, i * 3, none⟩) from p0)
                          obtain ⟨d0, d1, d2⟩ := (HCx.out w' hG).cells HXY.out.1
                          clear hout p0
                          go_step
                          exact hK _ _ HV.out.1.symm hG (Below.refl _ _)
                        · intro _ _ a w' hG hout hpre K hK
                          have q3 := ev_of ((hout 3 rfl).trans (show _ = .slice (some ⟨pa, 0, none⟩) N oc from rfl))
                          clear hout hpre
                          go_step
                          exact hK _ _ rfl hG (Below.refl _ _)
                        · intro _ _ a w' hG hout hpre K hK
                          have q8 := ev_of ((hout 8 rfl).trans (show _ = .int .i64 (k : Int) from rfl))
                          clear hout hpre
                          go_step
                          exact hK _ _ rfl hG (Below.refl _ _)
                        · intro _ _ a w' hG hout hpre K hK
                          obtain ⟨p0, p1, _⟩ := hpre
                          have q46 := ev_of (show a.eval (.tmp 46) = .slice (some ⟨pa, 0, none⟩) N oc from p0)
                          have q47 := ev_of (show a.eval (.tmp 47) = .int .i64 (k : Int) from p1)
                          have hk0 := HK0.out
                          clear hout p0 p1
                          go_step
                          exact hK _ _ rfl hG (Below.refl _ _)
                        · intro _ _ a w' hG hout hpre K hK
                          obtain ⟨p0, _⟩ := hpre
                          have q48 := ev_of (show a.eval (.tmp 48) = .pointer (some ⟨pa, k * 3, none⟩) from p0)
                          obtain ⟨d0, d1, d2⟩ := (HCx.out w' hG).cells HXY.out.2.1
                          clear hout p0
                          go_step
                          exact hK _ _ HV.out.2.symm hG (Below.refl _ _)
                        · intro _ _ a w' hG hout hpre K hK
                          obtain ⟨p0, p1, _⟩ := hpre
                          have q45 := ev_of (show a.eval (.tmp 45) = VX from p0)
                          have q49 := ev_of (show a.eval (.tmp 49) = VY from p1)
                          have HS := Lib.hid (HCj.out w')
                          clear hout p0 p1
                          go_step
                          refine HS.out.mono ?_
                          rintro e w3 ⟨rfl, hB⟩
                          exact hK _ _ rfl (hG.trans (hB.mono hG.size)) hB
                      · intro vs w2 hG hlen hV
                        match vs, hlen, hV with
                        | [v0, v1, v2, v3, v4, v5, v6, v7, v8], _, hV =>
                          obtain rfl : v8 = .bool true := (hV 8 50 v8 rfl rfl)
                          clear hV
                          simp only [putsL, List.tail_cons, List.headD_cons]
                          simp only [Act.put, List.setIfInBounds_toArray, List.set_cons_succ, List.set_cons_zero]
                          have H5 := Lib.hid (HCx.out w2 hG)
                          clear hG HCj HV HN1 HCx HG0
                          obtain ⟨ml, hml⟩ : ∃ m, m = min xl yl := ⟨_, rfl⟩
                          obtain ⟨mh, hmh⟩ : ∃ m, m = max xh yh := ⟨_, rfl⟩
                          have e3 : (if yl < xl then yl else xl) = ml := by rw [hml]; split <;> omega
                          have e4 : (if xh < yh then yh else xh) = mh := by rw [hmh]; split <;> omega
                          have E3 := Lib.hid e3
                          have E4 := Lib.hid e4
                          clear e3 e4
                          have HM : Hid (wholeW ⟨xk, xl, xh⟩ ⟨yk, yl, yh⟩ = ⟨xk, ml, mh⟩) := by
                            rw [hml, hmh]
                            exact Lib.hid rfl
                          clear hml hmh
                          obtain ⟨o2, ho2⟩ : ∃ o, o = out.set i ⟨xk, ml, xh⟩ := ⟨_, rfl⟩
                          obtain ⟨o3, ho3⟩ : ∃ o, o = out.set i ⟨xk, ml, mh⟩ := ⟨_, rfl⟩
                          have HL2 : Hid (o2.length = N ∧ o3.length = N ∧ N = out.length) := Lib.hid ⟨by rw [ho2, List.length_set]; exact HO.out.2.2.1.symm, by rw [ho3, List.length_set]; exact HO.out.2.2.1.symm, HO.out.2.2.1⟩
                          have HI2 : Hid (o2[i]? = some ⟨xk, ml, xh⟩ ∧ o2[k]? = some ⟨yk, yl, yh⟩ ∧ o3[k]? = some ⟨yk, yl, yh⟩ ∧ o3 = o2.set i ⟨xk, ml, mh⟩) := by
                            have hik := HXY.out.2.2.2.2.1
                            have hlt := HLt.out.1
                            have hno := HO.out.2.2.1
                            refine Lib.hid ⟨?_, ?_, ?_, ?_⟩
                            · rw [ho2, List.getElem?_set_self (by omega)]
                            · rw [ho2, List.getElem?_set_ne (by omega)]
                              exact HXY.out.2.1
                            · rw [ho3, List.getElem?_set_ne (by omega)]
                              exact HXY.out.2.1
                            · rw [ho3, ho2, List.set_set]
                          have HWy : Hid (Way l (o3.take k ++ o3.drop (k + 1)) ∧ (o3.take k ++ o3.drop (k + 1)).length < N) := by
                            have h := HO.out.2.1.join HXY.out.2.2.2.2.1 (by rw [← HO.out.2.2.1]; exact HXY.out.2.2.2.2.2) (by rw [HXY.out.2.2.1, HXY.out.2.2.2.1]; exact Hjb.out.symm)
                            rw [HXY.out.2.2.1, HXY.out.2.2.2.1, HM.out, joinAt, ← ho3, ← HO.out.2.2.1] at h
                            exact Lib.hid h
                          have Ho := Lib.hid ho2
                          clear ho2 ho3
                          have HGy : Hid (∀ q w', GA w (.slice (some ⟨pa, 0, none⟩) N oc) out o2 q w' → w'.cell? ⟨pa, k * 3 + 1, none⟩ = some (.int .i64 yl)) := Lib.hid (fun q w' h => (GA.cells h HXY.out.2.1 HI2.out.2.1).2.1)
                          have HG1 : Hid (AO w (.slice (some ⟨pa, 0, none⟩) N oc) out w2.drew) := Lib.hid (H5.out.below (Below.refl _ w2).drew)
                          go_upto_region 16 with (fail)
                          refine wp_region_skip_frame (fun i => ([] : List Nat).contains i) (by kernel_rfl) [none, none, none, none, none, none, some 0, none, none, none, none, none, none, none, none, some 1] [6, 15] (V4 ((Value.slice (some ⟨pa, 0, none⟩) N oc) :: (Value.int .i64 (i : Int)) :: (Value.slice (some ⟨pa, 0, none⟩) N oc) :: (Value.int .i64 (i : Int)) :: (Value.pointer (some ⟨pa, i * 3, none⟩)) :: (Value.pointer (some ⟨pa, i * 3 + 1, none⟩)) :: (Value.int .i64 xl) :: (Value.slice (some ⟨pa, 0, none⟩) N oc) :: (Value.int .i64 (k : Int)) :: (Value.pointer (some ⟨pa, k * 3, none⟩)) :: (Value.pointer (some ⟨pa, k * 3 + 1, none⟩)) :: (Value.int .i64 yl) :: (Value.int .i64 ml) :: (Value.pointer (some ⟨pa, i * 3, none⟩)) :: (Value.pointer (some ⟨pa, i * 3 + 1, none⟩)) :: undef :: ([] : List Value)) 99 (fun _ _ _ => True) 98 (fun _ _ _ => True) 97 (fun _ _ _ => True) 96 (fun _ _ _ => True)) (GA w (.slice (some ⟨pa, 0, none⟩) N oc) out o2) (fun w w' => Below w.heap.size w w') (V4_le _ (fun _ _ _ _ _ h => h) (fun _ _ _ _ _ h => h) (fun _ _ _ _ _ h => h) (fun _ _ _ _ _ h => h)) (by kernel_rfl) (by kernel_rfl) (by kernel_rfl) HG1.out (fun _ => ⟨rfl, rfl, rfl, rfl, rfl, rfl, rfl, rfl, rfl, rfl, rfl, rfl, rfl, rfl, rfl, rfl, trivial⟩) (fun _ h => by simp at h) ?_ ?_
                          · refine ⟨?_, ?_, ?_, ?_, ?_, ?_, ?_, ?_, ?_, ?_, ?_, ?_, ?_, ?_, ?_, ?_, trivial⟩
                            · intro _ _ a w' hG hout hpre K hK
                              have q3 := ev_of ((hout 3 rfl).trans (show _ = .slice (some ⟨pa, 0, none⟩) N oc from rfl))
                              clear hout hpre
                              go_step
                              exact hK _ _ rfl hG (Below.refl _ _)
                            · intro _ _ a w' hG hout hpre K hK
                              have q7 := ev_of ((hout 7 rfl).trans (show _ = .int .i64 (i : Int) from rfl))
                              clear hout hpre
                              go_step
                              exact hK _ _ rfl hG (Below.refl _ _)
                            · intro _ _ a w' hG hout hpre K hK
                              have q3 := ev_of ((hout 3 rfl).trans (show _ = .slice (some ⟨pa, 0, none⟩) N oc from rfl))
                              clear hout hpre
                              go_step
                              exact hK _ _ rfl hG (Below.refl _ _)
                            · intro _ _ a w' hG hout hpre K hK
                              have q7 := ev_of ((hout 7 rfl).trans (show _ = .int .i64 (i : Int) from rfl))
                              clear hout hpre
                              go_step
                              exact hK _ _ rfl hG (Below.refl _ _)
                            · intro _ _ a w' hG hout hpre K hK
                              obtain ⟨p0, p1, _⟩ := hpre
                              have q53 := ev_of (show a.eval (.tmp 53) = .slice (some ⟨pa, 0, none⟩) N oc from p0)
                              have q54 := ev_of (show a.eval (.tmp 54) = .int .i64 (i : Int) from p1)
                              have hi0 := HI0.out
                              clear hout p0 p1
                              go_step
                              exact hK _ _ rfl hG (Below.refl _ _)
                            · intro _ _ a w' hG hout hpre K hK
                              obtain ⟨p0, _⟩ := hpre
                              have q55 := ev_of (show a.eval (.tmp 55) = .pointer (some ⟨pa, i * 3, none⟩) from p0)
                              clear hout p0
                              go_step
                              exact hK _ _ rfl hG (Below.refl _ _)
                            · intro _ a w' hG hout hpre K hK
                              obtain ⟨p0, _⟩ := hpre
                              have q56 := ev_of (show a.eval (.tmp 56) = .pointer (some ⟨pa, i * 3 + 1, none⟩) from p0)
                              obtain ⟨d0, d1, d2⟩ := AO.cells (show AO w (.slice (some ⟨pa, 0, none⟩) N oc) out w' from hG) HXY.out.1
                              clear hout p0
                              go_step
                              exact hK _ _ rfl hG (V4_keep (.inr fun _ h => h) (.inr fun _ h => h) (.inr fun _ h => h) (.inr fun _ h => h))
                            · intro _ _ a w' hG hout hpre K hK
                              have q3 := ev_of ((hout 3 rfl).trans (show _ = .slice (some ⟨pa, 0, none⟩) N oc from rfl))
                              clear hout hpre
                              go_step
                              exact hK _ _ rfl hG (Below.refl _ _)
                            · intro _ _ a w' hG hout hpre K hK
                              have q8 := ev_of ((hout 8 rfl).trans (show _ = .int .i64 (k : Int) from rfl))
                              clear hout hpre
                              go_step
                              exact hK _ _ rfl hG (Below.refl _ _)
                            · intro _ _ a w' hG hout hpre K hK
                              obtain ⟨p0, p1, _⟩ := hpre
                              have q58 := ev_of (show a.eval (.tmp 58) = .slice (some ⟨pa, 0, none⟩) N oc from p0)
                              have q59 := ev_of (show a.eval (.tmp 59) = .int .i64 (k : Int) from p1)
                              have hk0 := HK0.out
                              clear hout p0 p1
                              go_step
                              exact hK _ _ rfl hG (Below.refl _ _)
                            · intro _ _ a w' hG hout hpre K hK
                              obtain ⟨p0, _⟩ := hpre
                              have q60 := ev_of (show a.eval (.tmp 60) = .pointer (some ⟨pa, k * 3, none⟩) from p0)
                              clear hout p0
                              go_step
                              exact hK _ _ rfl hG (Below.refl _ _)
                            · intro _ _ a w' hG hout hpre K hK
                              obtain ⟨p0, _⟩ := hpre
                              have q61 := ev_of (show a.eval (.tmp 61) = .pointer (some ⟨pa, k * 3 + 1, none⟩) from p0)
                              have d0 := HGy.out _ w' hG
                              clear hout p0
                              go_step
                              exact hK _ _ rfl hG (Below.refl _ _)
                            · intro _ _ a w' hG hout hpre K hK
                              obtain ⟨p0, p1, _⟩ := hpre
                              have q57 := ev_of (show a.eval (.tmp 57) = .int .i64 xl from p0)
                              have q62 := ev_of (show a.eval (.tmp 62) = .int .i64 yl from p1)
                              have e3 := E3.out
                              clear hout p0 p1
                              go_step
                              exact hK _ _ rfl hG (Below.refl _ _)
                            · intro _ _ a w' hG hout hpre K hK
                              obtain ⟨p0, p1, _⟩ := hpre
                              have q51 := ev_of (show a.eval (.tmp 51) = .slice (some ⟨pa, 0, none⟩) N oc from p0)
                              have q52 := ev_of (show a.eval (.tmp 52) = .int .i64 (i : Int) from p1)
                              have hi0 := HI0.out
                              clear hout p0 p1
                              go_step
                              exact hK _ _ rfl hG (Below.refl _ _)
                            · intro _ _ a w' hG hout hpre K hK
                              obtain ⟨p0, _⟩ := hpre
                              have q64 := ev_of (show a.eval (.tmp 64) = .pointer (some ⟨pa, i * 3, none⟩) from p0)
                              clear hout p0
                              go_step
                              exact hK _ _ rfl hG (Below.refl _ _)
                            · intro _ a w' hG hout hpre K hK
                              obtain ⟨p0, p1, _⟩ := hpre
                              have qa := (show a.eval (.tmp 65) = .pointer (some ⟨pa, i * 3 + 1, none⟩) from p0)
                              have qb := (show a.eval (.tmp 63) = .int .i64 ml from p1)
                              clear hout p0 p1
                              have hG1 : AO w (.slice (some ⟨pa, 0, none⟩) N oc) out w' := hG
                              refine wp_store1 (.tmp 65) (.tmp 63) rfl ⟨pa, i * 3 + 1, none⟩ (.int .i64 ml) (.int .i64 xl) qa qb rfl rfl Try.sizeOf3 (AO.cells hG1 HXY.out.1).2.1 (hG1.2.fro HL2.out.2.2 _) ?_
                              have hg := grown_setCell w' pa (i * 3 + 1) (.int .i64 ml)
                              have hG2 : AO w (.slice (some ⟨pa, 0, none⟩) N oc) o2 (w'.setCell ⟨pa, i * 3 + 1, none⟩ (.int .i64 ml)) := by
                                refine ⟨hG1.1.trans (OwnW.below hG1.2 hg hG1.1.size), ?_⟩
                                rw [Ho.out]
                                exact hG1.2.setLo HL2.out.2.2 HXY.out.1 _
                              exact hK _ _ rfl hG2 (V4_keep (.inr fun _ h => h) (.inr fun _ h => h) (.inr fun _ h => h) (.inr fun _ h => h))
                          · intro vs w2_ hG hlen hV
                            match vs, hlen, hV with
                            | [v0, v1, v2, v3, v4, v5, v6, v7, v8, v9, v10, v11, v12, v13, v14, v15], _, hV =>
                              clear hV
                              simp only [putsL, List.tail_cons, List.headD_cons]
                              simp only [Act.put, List.setIfInBounds_toArray, List.set_cons_succ, List.set_cons_zero]
                              obtain ⟨w3, hw3⟩ : ∃ W, W = w2_ := ⟨_, rfl⟩
                              subst w2_
                              have H6 : Hid (AO w (.slice (some ⟨pa, 0, none⟩) N oc) o2 w3) := Lib.hid hG
                              clear hG HG1 HGy
                              have HGy : Hid (∀ q w', GA w (.slice (some ⟨pa, 0, none⟩) N oc) o2 o3 q w' → w'.cell? ⟨pa, k * 3 + 2, none⟩ = some (.int .i64 yh)) := Lib.hid (fun q w' h => (GA.cells h HI2.out.2.1 HI2.out.2.2.1).2.2)
                              have HG1 : Hid (AO w (.slice (some ⟨pa, 0, none⟩) N oc) o2 w3.drew) := Lib.hid (H6.out.below (Below.refl _ w3).drew)
                              go_upto_region 17 with (fail)
                              refine wp_region_skip_frame (fun i => ([] : List Nat).contains i) (by kernel_rfl) [none, none, none, none, none, none, some 0, none, none, none, none, none, none, none, none, some 1] [6, 15] (V4 ((Value.slice (some ⟨pa, 0, none⟩) N oc) :: (Value.int .i64 (i : Int)) :: (Value.slice (some ⟨pa, 0, none⟩) N oc) :: (Value.int .i64 (i : Int)) :: (Value.pointer (some ⟨pa, i * 3, none⟩)) :: (Value.pointer (some ⟨pa, i * 3 + 2, none⟩)) :: (Value.int .i64 xh) :: (Value.slice (some ⟨pa, 0, none⟩) N oc) :: (Value.int .i64 (k : Int)) :: (Value.pointer (some ⟨pa, k * 3, none⟩)) :: (Value.pointer (some ⟨pa, k * 3 + 2, none⟩)) :: (Value.int .i64 yh) :: (Value.int .i64 mh) :: (Value.pointer (some ⟨pa, i * 3, none⟩)) :: (Value.pointer (some ⟨pa, i * 3 + 2, none⟩)) :: undef :: ([] : List Value)) 99 (fun _ _ _ => True) 98 (fun _ _ _ => True) 97 (fun _ _ _ => True) 96 (fun _ _ _ => True)) (GA w (.slice (some ⟨pa, 0, none⟩) N oc) o2 o3) (fun w w' => Below w.heap.size w w') (V4_le _ (fun _ _ _ _ _ h => h) (fun _ _ _ _ _ h => h) (fun _ _ _ _ _ h => h) (fun _ _ _ _ _ h => h)) (by kernel_rfl) (by kernel_rfl) (by kernel_rfl) HG1.out (fun _ => ⟨rfl, rfl, rfl, rfl, rfl, rfl, rfl, rfl, rfl, rfl, rfl, rfl, rfl, rfl, rfl, rfl, trivial⟩) (fun _ h => by simp at h) ?_ ?_
                              · refine ⟨?_, ?_, ?_, ?_, ?_, ?_, ?_, ?_, ?_, ?_, ?_, ?_, ?_, ?_, ?_, ?_, trivial⟩
                                · intro _ _ a w' hG hout hpre K hK
                                  have q3 := ev_of ((hout 3 rfl).trans (show _ = .slice (some ⟨pa, 0, none⟩) N oc from rfl))
                                  clear hout hpre
                                  go_step
                                  exact hK _ _ rfl hG (Below.refl _ _)
                                · intro _ _ a w' hG hout hpre K hK
                                  have q7 := ev_of ((hout 7 rfl).trans (show _ = .int .i64 (i : Int) from rfl))
                                  clear hout hpre
                                  go_step
                                  exact hK _ _ rfl hG (Below.refl _ _)
                                · intro _ _ a w' hG hout hpre K hK
                                  have q3 := ev_of ((hout 3 rfl).trans (show _ = .slice (some ⟨pa, 0, none⟩) N oc from rfl))
                                  clear hout hpre
                                  go_step
                                  exact hK _ _ rfl hG (Below.refl _ _)
                                · intro _ _ a w' hG hout hpre K hK
                                  have q7 := ev_of ((hout 7 rfl).trans (show _ = .int .i64 (i : Int) from rfl))
                                  clear hout hpre
                                  go_step
                                  exact hK _ _ rfl hG (Below.refl _ _)
                                · intro _ _ a w' hG hout hpre K hK
                                  obtain ⟨p0, p1, _⟩ := hpre
                                  have q68 := ev_of (show a.eval (.tmp 68) = .slice (some ⟨pa, 0, none⟩) N oc from p0)
                                  have q69 := ev_of (show a.eval (.tmp 69) = .int .i64 (i : Int) from p1)
                                  have hi0 := HI0.out
                                  clear hout p0 p1
                                  go_step
                                  exact hK _ _ rfl hG (Below.refl _ _)
                                · intro _ _ a w' hG hout hpre K hK
                                  obtain ⟨p0, _⟩ := hpre
                                  have q70 := ev_of (show a.eval (.tmp 70) = .pointer (some ⟨pa, i * 3, none⟩) from p0)
                                  clear hout p0
                                  go_step
                                  exact hK _ _ rfl hG (Below.refl _ _)
                                · intro _ a w' hG hout hpre K hK
                                  obtain ⟨p0, _⟩ := hpre
                                  have q71 := ev_of (show a.eval (.tmp 71) = .pointer (some ⟨pa, i * 3 + 2, none⟩) from p0)
                                  obtain ⟨d0, d1, d2⟩ := AO.cells (show AO w (.slice (some ⟨pa, 0, none⟩) N oc) o2 w' from hG) HI2.out.1
                                  clear hout p0
                                  go_step
                                  exact hK _ _ rfl hG (V4_keep (.inr fun _ h => h) (.inr fun _ h => h) (.inr fun _ h => h) (.inr fun _ h => h))
                                · intro _ _ a w' hG hout hpre K hK
                                  have q3 := ev_of ((hout 3 rfl).trans (show _ = .slice (some ⟨pa, 0, none⟩) N oc from rfl))
                                  clear hout hpre
                                  go_step
                                  exact hK _ _ rfl hG (Below.refl _ _)
                                · intro _ _ a w' hG hout hpre K hK
                                  have q8 := ev_of ((hout 8 rfl).trans (show _ = .int .i64 (k : Int) from rfl))
                                  clear hout hpre
                                  go_step
                                  exact hK _ _ rfl hG (Below.refl _ _)
                                · intro _ _ a w' hG hout hpre K hK
                                  obtain ⟨p0, p1, _⟩ := hpre
                                  have q73 := ev_of (show a.eval (.tmp 73) = .slice (some ⟨pa, 0, none⟩) N oc from p0)
                                  have q74 := ev_of (show a.eval (.tmp 74) = .int .i64 (k : Int) from p1)
                                  have hk0 := HK0.out
                                  clear hout p0 p1
                                  go_step
                                  exact hK _ _ rfl hG (Below.refl _ _)
                                · intro _ _ a w' hG hout hpre K hK
                                  obtain ⟨p0, _⟩ := hpre
                                  have q75 := ev_of (show a.eval (.tmp 75) = .pointer (some ⟨pa, k * 3, none⟩) from p0)
                                  clear hout p0
                                  go_step
                                  exact hK _ _ rfl hG (Below.refl _ _)
                                · intro _ _ a w' hG hout hpre K hK
                                  obtain ⟨p0, _⟩ := hpre
                                  have q76 := ev_of (show a.eval (.tmp 76) = .pointer (some ⟨pa, k * 3 + 2, none⟩) from p0)
                                  have d0 := HGy.out _ w' hG
                                  clear hout p0
                                  go_step
                                  exact hK _ _ rfl hG (Below.refl _ _)
                                · intro _ _ a w' hG hout hpre K hK
                                  obtain ⟨p0, p1, _⟩ := hpre
                                  have q72 := ev_of (show a.eval (.tmp 72) = .int .i64 xh from p0)
                                  have q77 := ev_of (show a.eval (.tmp 77) = .int .i64 yh from p1)
                                  have e3 := E4.out
                                  clear hout p0 p1
                                  go_step
                                  exact hK _ _ rfl hG (Below.refl _ _)
                                · intro _ _ a w' hG hout hpre K hK
                                  obtain ⟨p0, p1, _⟩ := hpre
                                  have q66 := ev_of (show a.eval (.tmp 66) = .slice (some ⟨pa, 0, none⟩) N oc from p0)
                                  have q67 := ev_of (show a.eval (.tmp 67) = .int .i64 (i : Int) from p1)
                                  have hi0 := HI0.out
                                  clear hout p0 p1
                                  go_step
                                  exact hK _ _ rfl hG (Below.refl _ _)
                                · intro _ _ a w' hG hout hpre K hK
                                  obtain ⟨p0, _⟩ := hpre
                                  have q79 := ev_of (show a.eval (.tmp 79) = .pointer (some ⟨pa, i * 3, none⟩) from p0)
                                  clear hout p0
                                  go_step
                                  exact hK _ _ rfl hG (Below.refl _ _)
                                · intro _ a w' hG hout hpre K hK
                                  obtain ⟨p0, p1, _⟩ := hpre
                                  have qa := (show a.eval (.tmp 80) = .pointer (some ⟨pa, i * 3 + 2, none⟩) from p0)
                                  have qb := (show a.eval (.tmp 78) = .int .i64 mh from p1)
                                  clear hout p0 p1
                                  have hG1 : AO w (.slice (some ⟨pa, 0, none⟩) N oc) o2 w' := hG
                                  refine wp_store1 (.tmp 80) (.tmp 78) rfl ⟨pa, i * 3 + 2, none⟩ (.int .i64 mh) (.int .i64 xh) qa qb rfl rfl Try.sizeOf3 (AO.cells hG1 HI2.out.1).2.2 (hG1.2.fro HL2.out.1.symm _) ?_
                                  have hg := grown_setCell w' pa (i * 3 + 2) (.int .i64 mh)
                                  have hG2 : AO w (.slice (some ⟨pa, 0, none⟩) N oc) o3 (w'.setCell ⟨pa, i * 3 + 2, none⟩ (.int .i64 mh)) := by
                                    refine ⟨hG1.1.trans (OwnW.below hG1.2 hg hG1.1.size), ?_⟩
                                    rw [HI2.out.2.2.2]
                                    exact hG1.2.setHi HL2.out.1.symm HI2.out.1 _
                                  exact hK _ _ rfl hG2 (V4_keep (.inr fun _ h => h) (.inr fun _ h => h) (.inr fun _ h => h) (.inr fun _ h => h))
                              · intro vs w2_ hG hlen hV
                                match vs, hlen, hV with
                                | [v0, v1, v2, v3, v4, v5, v6, v7, v8, v9, v10, v11, v12, v13, v14, v15], _, hV =>
                                  clear hV
                                  simp only [putsL, List.tail_cons, List.headD_cons]
                                  simp only [Act.put, List.setIfInBounds_toArray, List.set_cons_succ, List.set_cons_zero]
                                  obtain ⟨w4, hw4⟩ : ∃ W, W = w2_ := ⟨_, rfl⟩
                                  subst w2_
                                  have H7 : Hid (AO w (.slice (some ⟨pa, 0, none⟩) N oc) o3 w4) := Lib.hid hG
                                  clear hG HG1 HGy H6 H5
                                  obtain ⟨ka, kb, e, hcp, hWa⟩ := H7.out.2.form
                                  rw [HL2.out.2.1] at e
                                  cases e
                                  obtain ⟨ra, hra, hRa⟩ := run_sliceW_l w4 (some ⟨pa, 0, none⟩) o3 oc (k + 1) hWa (by rw [HL2.out.2.1]; exact HXY.out.2.2.2.2.2) hcp
                                  rw [HL2.out.2.1, show ((k + 1 : Nat) : Int) = (k : Int) + 1 by omega] at hra
                                  have HSa : Hid ((∀ w, (Instr.slice 22 (.slice (some ⟨pa, 0, none⟩) N oc) (some (.int .i64 ((k : Int) + 1))) none none).run Try.prog w = .ok (.slice ra (N - (k + 1)) (oc - (k + 1))) w) ∧ WinsAt w4 ra (o3.drop (k + 1))) := Lib.hid ⟨hra, hRa⟩
                                  have HSb : Hid ((∀ w, (Instr.slice 22 (.slice (some ⟨pa, 0, none⟩) N oc) none (some (.int .i64 (k : Int))) none).run Try.prog w = .ok (.slice (some ⟨pa, 0, none⟩) k oc) w) ∧ WinsAt w4 (some ⟨pa, 0, none⟩) (o3.take k)) := Lib.hid ⟨fun w => run_sliceW_h w _ N oc k (by have := HXY.out.2.2.2.2.2; rw [HL2.out.2.1] at hcp; omega), hWa.take k⟩
                                  clear hra hRa hcp hWa
                                  have HLL : Hid ((o3.take k).length = k ∧ (o3.drop (k + 1)).length = N - (k + 1)) := Lib.hid ⟨by rw [List.length_take, HL2.out.2.1]; have := HXY.out.2.2.2.2.2; omega, by rw [List.length_drop, HL2.out.2.1]⟩
                                  have HG0 : Hid (Below w4.heap.size w4 w4.drew) := (Below.refl _ w4).drew
                                  go_upto_region 18 with (fail)
                                  refine wp_region_skip_frame (fun i => ([] : List Nat).contains i) (by kernel_rfl) [some 0, none, none, none, some 1, none, none, none, none, some 2, none] [0, 4, 9] (V4 (undef :: (Value.slice (some ⟨pa, 0, none⟩) N oc) :: (Value.int .i64 (k : Int)) :: (Value.slice (some ⟨pa, 0, none⟩) k oc) :: undef :: (Value.slice (some ⟨pa, 0, none⟩) N oc) :: (Value.int .i64 (k : Int)) :: (Value.int .i64 ((k : Int) + 1)) :: (Value.slice ra (N - (k + 1)) (oc - (k + 1))) :: undef :: undef :: ([] : List Value)) 0 (fun q w' v => q = 1 → OwnW w' w4.heap.size v []) 4 (fun q w' v => q = 2 → OwnW w' w4.heap.size v (o3.take k)) 9 (fun q w' v => 3 ≤ q ∧ OwnW w' w4.heap.size v (o3.take k ++ o3.drop (k + 1))) 10 (fun q w' v => 3 ≤ q ∧ OwnW w' w4.heap.size v (o3.take k ++ o3.drop (k + 1)))) (fun _ w' => Below w4.heap.size w4 w') (fun w w' => Below w.heap.size w w') (V4_le _ (fun q w w' v h ha hk => (ha hk).far h) (fun q w w' v h ha hk => (ha hk).far h) (fun q w w' v h ⟨h1, h2⟩ => ⟨h1, h2.far h⟩) (fun q w w' v h ⟨h1, h2⟩ => ⟨h1, h2.far h⟩)) (by kernel_rfl) (by kernel_rfl) (by kernel_rfl) HG0.out (fun _ => ⟨rfl, rfl, rfl, rfl, rfl, rfl, rfl, rfl, rfl, rfl, rfl, trivial⟩) (fun _ h => by simp at h) ?_ ?_
                                  · refine ⟨?_, ?_, ?_, ?_, ?_, ?_, ?_, ?_, ?_, ?_, ?_, trivial⟩
                                    · intro _ a w' hG hout hpre K hK
                                      clear hout hpre
                                      go_step
                                      exact hK _ _ (fun _ => (OwnW.new0 w' _ hG.size)) (hG.alloc hG.size _) (V4_keep (.inl rfl) (.inr fun u _ hk => absurd hk (by decide)) (.inr fun u h => absurd h.1 (by decide)) (.inr fun u h => absurd h.1 (by decide)))
                                    · intro _ _ a w' hG hout hpre K hK
                                      have q3 := ev_of ((hout 3 rfl).trans (show _ = .slice (some ⟨pa, 0, none⟩) N oc from rfl))
                                      clear hout hpre
                                      go_step
                                      exact hK _ _ rfl hG (Below.refl _ _)
                                    · intro _ _ a w' hG hout hpre K hK
                                      have q8 := ev_of ((hout 8 rfl).trans (show _ = .int .i64 (k : Int) from rfl))
                                      clear hout hpre
                                      go_step
                                      exact hK _ _ rfl hG (Below.refl _ _)
                                    · intro _ _ a w' hG hout hpre K hK
                                      obtain ⟨p0, p1, _⟩ := hpre
                                      have q82 := ev_of (show a.eval (.tmp 82) = .slice (some ⟨pa, 0, none⟩) N oc from p0)
                                      have q83 := ev_of (show a.eval (.tmp 83) = .int .i64 (k : Int) from p1)
                                      have hsl := HSb.out.1
                                      clear hout p0 p1
                                      go_step
                                      exact hK _ _ rfl hG (Below.refl _ _)
                                    · intro _ a w' hG hout hpre K hK
                                      obtain ⟨p0, p1, _⟩ := hpre
                                      have h0 := (show (1 = 1) → OwnW w' w4.heap.size (a.eval (.tmp 81)) [] from p0) rfl
                                      have q84 := (show a.eval (.tmp 84) = .slice (some ⟨pa, 0, none⟩) k oc from p1)
                                      clear hout p0 p1
                                      refine wp_appendW (.tmp 81) (.tmp 84) rfl w4.heap.size _ [] (o3.take k) rfl h0 (some ⟨pa, 0, none⟩) oc k HLL.out.1.symm q84 (HSb.out.2.below hG) (by rw [HLL.out.1]; have := HXY.out.2.2.2.2.2; simp; omega) hG.size ?_
                                      intro v' w5 g1 g2 g3
                                      exact hK _ _ (fun _ => by simpa using g1) (hG.trans (OwnW.below h0 g2 hG.size)) (V4_keep (.inr fun u _ hk => absurd hk (by decide)) (.inl rfl) (.inr fun u h => absurd h.1 (by decide)) (.inr fun u h => absurd h.1 (by decide)))
                                    · intro _ _ a w' hG hout hpre K hK
                                      have q3 := ev_of ((hout 3 rfl).trans (show _ = .slice (some ⟨pa, 0, none⟩) N oc from rfl))
                                      clear hout hpre
                                      go_step
                                      exact hK _ _ rfl hG (Below.refl _ _)
                                    · intro _ _ a w' hG hout hpre K hK
                                      have q8 := ev_of ((hout 8 rfl).trans (show _ = .int .i64 (k : Int) from rfl))
                                      clear hout hpre
                                      go_step
                                      exact hK _ _ rfl hG (Below.refl _ _)
                                    · intro _ _ a w' hG hout hpre K hK
                                      obtain ⟨p0, _⟩ := hpre
                                      have q87 := ev_of (show a.eval (.tmp 87) = .int .i64 (k : Int) from p0)
                                      have hk0 := HK0.out
                                      clear hout p0
                                      go_step
                                      exact hK _ _ rfl hG (Below.refl _ _)
                                    · intro _ _ a w' hG hout hpre K hK
                                      obtain ⟨p0, p1, _⟩ := hpre
                                      have q86 := ev_of (show a.eval (.tmp 86) = .slice (some ⟨pa, 0, none⟩) N oc from p0)
                                      have q88 := ev_of (show a.eval (.tmp 88) = .int .i64 ((k : Int) + 1) from p1)
                                      have hsl := HSa.out.1
                                      clear hout p0 p1
                                      go_step
                                      exact hK _ _ rfl hG (Below.refl _ _)
                                    · intro _ a w' hG hout hpre K hK
                                      obtain ⟨p0, p1, _⟩ := hpre
                                      have h0 := (show (2 = 2) → OwnW w' w4.heap.size (a.eval (.tmp 85)) (o3.take k) from p0) rfl
                                      have q89 := (show a.eval (.tmp 89) = .slice ra (N - (k + 1)) (oc - (k + 1)) from p1)
                                      clear hout p0 p1
                                      refine wp_appendW (.tmp 85) (.tmp 89) rfl w4.heap.size _ (o3.take k) (o3.drop (k + 1)) rfl h0 ra (oc - (k + 1)) (N - (k + 1)) HLL.out.2.symm q89 (HSa.out.2.below hG) (by rw [HLL.out.1, HLL.out.2]; omega) hG.size ?_
                                      intro v' w5 g1 g2 g3
                                      exact hK _ _ ⟨Nat.le_refl 3, g1⟩ (hG.trans (OwnW.below h0 g2 hG.size)) (V4_keep (.inr fun u _ hk => absurd hk (by decide)) (.inr fun u _ hk => absurd hk (by decide)) (.inl rfl) (.inr fun u h => absurd h.1 (by decide)))
                                    · intro _ _ a w' hG hout hpre K hK
                                      obtain ⟨p0, _⟩ := hpre
                                      unfold Oper.wp
                                      exact hK _ _ p0 hG (Below.refl _ _)
                                  · intro vs w2_ hG hlen hV
                                    match vs, hlen, hV with
                                    | [v0, v1, v2, v3, v4, v5, v6, v7, v8, v9, v10], _, hV =>
                                      obtain ⟨_, ho⟩ := (show 3 ≤ 3 ∧ OwnW w2_ w4.heap.size v10 (o3.take k ++ o3.drop (k + 1)) from hV 10 3 v10 rfl rfl)
                                      have HZ : Hid (A4 w l out (.slice (some ⟨pa, 0, none⟩) N oc) i v10 (.bool false) (.int .i64 ((k : Int) + 1)) w2_) := Lib.hid (.inr ⟨k + 1, by have := HXY.out.2.2.2.2.2; omega, by go_num, rfl, _, ⟨H7.out.1.trans (hG.mono H7.out.1.size), ho.mono H7.out.1.size⟩, HWy.out.1, by rw [← HL2.out.2.2]; exact HWy.out.2⟩)
                                      have HKN := Lib.hid HXY.out.2.2.2.2.2
                                      clear hV hG ho
                                      simp only [putsL, List.tail_cons, List.headD_cons]
                                      simp only [Act.put, List.setIfInBounds_toArray, List.set_cons_succ, List.set_cons_zero]
                                      go_wp2_with (fail)
                                      go_roundw
                                      case rel => exact HZ.out
                                      case measure => have := HKN.out; simp [meas, intOf]; omega
                  · obtain rfl : k = N := by omega
                    have HZ : Hid (C4 w l out (.slice (some ⟨pa, 0, none⟩) k oc) i (.slice (some ⟨pa, 0, none⟩) k oc) (.bool true) wr) := Lib.hid (.inl ⟨rfl, rfl, HJ.out.1, by rw [← HO.out.2.2.1]; exact HJ.out.2.1⟩)
                    clear hlt hk hik
                    go_wp2_with (fail)
                    go_meet
                    exact HZ.out
                · have HL := Lib.hid hL
                  clear hL hk
                  go_wp2_with (fail)
                  go_meet
                  exact .inr ⟨rfl, HL.out⟩
            case rest =>
            have HLt' := Lib.hid hN3
            rcases hcut with ⟨rfl, rfl, hAO, hno⟩ | ⟨rfl, hL⟩
            · have HZ : Hid (A3 w l out (.slice (some ⟨pa, 0, none⟩) N oc) (.slice (some ⟨pa, 0, none⟩) N oc) (.bool true) (.int .i64 ((i : Int) + 1)) wc) := by
                refine Lib.hid (.inl ⟨i + 1, by rw [← HO.out.2.2.1]; exact HLt.out.1, by go_num, rfl, rfl, hAO, fun a ha b hab hb => ?_⟩)
                by_cases e : a = i
                · rw [e]
                  exact hno b (by omega) hb
                · exact HI.out.2 a (by omega) b hab hb
              clear hAO hno
              go_wp2_with (fail)
              go_roundw
              case rel => exact HZ.out
              case measure => have := HLt.out.1; simp [meas, intOf]; omega
            · have HZ := Lib.hid hL
              have HI3 : Hid (i + 1 ≤ 301) := Lib.hid (by have := HLt.out; omega)
              clear hL
              go_wp2_with (fail)
              go_roundw
              case rel => exact .inr ⟨i + 1, HI3.out, by go_num, rfl, HZ.out⟩
              case measure => have := HLt.out.1; simp [meas, intOf]; omega
          · obtain rfl : i = N := by omega
            have HZ : Hid (C3 w l out (.slice oa i oc) (.slice oa i oc) (.bool true) wr) := Lib.hid (.inl ⟨rfl, rfl, HI.out.1, by rw [← HO.out.2.2.1]; exact HI.out.2⟩)
            clear hlt hi
            go_wp2_with (fail)
            go_meet
            exact HZ.out
        · have HL := Lib.hid hL
          clear hL hi
          go_wp2_with (fail)
          go_meet
          exact .inr ⟨rfl, HL.out⟩
    case rest =>
    rcases hcut with ⟨rfl, rfl, hAO, hno⟩ | ⟨rfl, hL⟩
    · have HS : Hid (Calls Try.prog 28 #[.slice oa N oc] wc (WinsNew wc (allL l))) := by
        obtain ⟨a, c, e, _, hWa⟩ := hAO.2.form
        rw [← HO.out.2.2.1] at e
        cases e
        have h := rsSorted_any wc oa oc out hWa (by have := HO.out.2.2.1; omega)
        rw [← HO.out.2.2.1, HO.out.2.1.done hno] at h
        exact Lib.hid h
      have HB := Lib.hid hAO.1
      clear hAO hno
      go_wp2_with (fail)
      refine HS.out.mono ?_
      rintro e w5 ⟨v5, rfl, k1, k2⟩
      have HZ := Lib.hid (HYes.out w5 v5 wc.heap.size HB.out.size k1 (HB.out.trans (k2.mono HB.out.size)))
      clear k1 k2
      dsimp only
      go_wp2_with (fail)
      exact HZ.out
    · obtain ⟨out', h1, h2, h3⟩ := hL
      obtain ⟨a', c', e, _, _⟩ := h1.2.form
      have HZ : Hid (ARel w l (.slice a' out'.length c') wc ∧ out'.length < N) := Lib.hid ⟨⟨out', by rw [← e]; exact h1, h2⟩, by rw [HO.out.2.2.1]; exact h3⟩
      subst e
      clear h1 h2 h3
      go_wp2_with (fail)
      go_roundw
      case rel => exact HZ.out.1
      case measure => exact HZ.out.2
end Go.Proofs.Ytbfioekbahcicaa
