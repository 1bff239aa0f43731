/-
  Part 40 of 56 of what the proof leans on.
-/
import Derived.Test.YtjeeghafachebaaGreatK39
import Derived.Test.YtjeeghafachebaaGreatK33
namespace Go.Proofs.YtjeeghafachebaaGreat
open Go Go.RowKit
theorem run_slicePij (w : World) (g n c i j : Nat) (h : i ≤ j) (hj : j ≤ n) (hnc : n ≤ c) :
    (Instr.slice 27 (.slice (some ⟨g, 0, none⟩) n c) (some (.int .i64 (i : Int))) (some (.int .i64 (j : Int))) none).run Tryz.prog w = .ok (.slice (some ⟨g, (if c = i then 0 else i * 8), none⟩) (j - i) (c - i)) w := by
  have hz : ∀ w, (sizeOf 55).run Tryz.prog w = .ok 8 w := Tryz.sizeOf55
  have hjc : j ≤ c := by omega
  by_cases e : c = i
  · subst e
    simp [Instr.slice, run_underlying Tryz.underlying27, Instr.sliceBounds, run_sliceBound, hz, h, hjc]
  · simp [Instr.slice, run_underlying Tryz.underlying27, Instr.sliceBounds, run_sliceBound, hz, h, hjc, addr_add, e]
def RpG (w : World) (base g n c i j : Nat) (l : List PaneV) (y : PaneV) : Nat → World → Prop
  | 0, w' => OwnP w' base (.slice (some ⟨g, 0, none⟩) n c) (l.take i ++ [y] ++ l.drop (i + 1)) ∧ w.grownBy w' (some g)
  | _ + 1, w' => OwnP w' base (.slice (some ⟨g, 0, none⟩) n c) ((l.take i ++ [y] ++ l.drop (i + 1)).take (i + 1) ++ l.drop j ++ (l.take i ++ [y] ++ l.drop (i + 1)).drop (i + 1 + (n - j))) ∧ w.grownBy w' (some g)
theorem grown_far {w w' w'' : World} {r : Option Nat} (h : w.grownBy w' r) (hB : Below w'.heap.size w' w'') : w.grownBy w'' r :=
  ⟨hB.os.trans h.os, hB.tape.trans h.tape, hB.output.trans h.output, Nat.le_trans h.size hB.size, fun j hj hne => (hB.block j (Nat.lt_of_lt_of_le hj h.size)).trans (h.block j hj hne)⟩
theorem grown_two {w w' w'' : World} {r : Option Nat} (h : w.grownBy w' r) (h' : w'.grownBy w'' r) : w.grownBy w'' r :=
  ⟨h'.os.trans h.os, h'.tape.trans h.tape, h'.output.trans h.output, Nat.le_trans h.size h'.size, fun j hj hne => (h'.block j (Nat.lt_of_lt_of_le hj h.size) hne).trans (h.block j hj hne)⟩
set_option maxRecDepth 100000 in
set_option maxHeartbeats 4000000 in
theorem replaceP_at (w : World) (base g c i j q : Nat) (l : List PaneV) (y : PaneV) (hO : OwnP w base (.slice (some ⟨g, 0, none⟩) l.length c) l) (hq : RowP w q y) (hqv : q ≠ g) (hij : i < j) (hj : j ≤ l.length) (hn : l.length + 1 ≤ 1000000) :
    Calls Tryz.prog 66 #[.slice (some ⟨g, 0, none⟩) l.length c, .int .i64 (i : Int), .int .i64 (j : Int), .slice (some ⟨q, 0, none⟩) 1 1] w (InsEnd w base (.slice (some ⟨g, 0, none⟩) l.length c) (l.take i ++ [y] ++ l.drop j)) := by
  obtain ⟨n, hN⟩ : ∃ n, n = l.length := ⟨_, rfl⟩
  rw [← hN] at hO hj hn ⊢
  obtain ⟨P, hP⟩ : ∃ P, P = InsEnd w base (.slice (some ⟨g, 0, none⟩) n c) (l.take i ++ [y] ++ l.drop j) := ⟨_, rfl⟩
  rw [← hP]
  have HYes : Hid (∀ T w', OwnP w' base (.slice (some ⟨g, 0, none⟩) T c) (l.take i ++ [y] ++ l.drop j) → w.grownBy w' (some g) → P (.returned (.slice (some ⟨g, 0, none⟩) T c)) w') := Lib.hid (fun T w' h1 h2 => by
    rw [hP]
    exact ⟨_, rfl, h1, h2, .inl rfl⟩)
  have hnc : n ≤ c := by obtain ⟨_, _, _, _, _, _, h⟩ := hO.row hN; exact h
  have HO := Lib.hid (And.intro hO (And.intro hq (And.intro hN hqv)))
  have HLt : Hid (i < j ∧ j ≤ n ∧ n + 1 ≤ 1000000 ∧ n ≤ c) := Lib.hid ⟨hij, hj, hn, hnc⟩
  have hl1 : (l.take i ++ [y]).length = i + 1 := by rw [List.length_append, List.length_take, ← hN, List.length_singleton]; omega
  have HL1 := Lib.hid hl1
  have hsij : ∀ w', (Instr.slice 27 (.slice (some ⟨g, 0, none⟩) n c) (some (.int .i64 (i : Int))) (some (.int .i64 (j : Int))) none).run Tryz.prog w' = .ok (.slice (some ⟨g, i * 8, none⟩) (j - i) (c - i)) w' := fun w' => by
    have h := run_slicePij w' g n c i j (by omega) hj hnc
    rwa [if_neg (by omega)] at h
  have hslh : ∀ w', (Instr.slice 27 (.slice (some ⟨g, 0, none⟩) n c) none (some (.int .i64 (i : Int))) none).run Tryz.prog w' = .ok (.slice (some ⟨g, 0, none⟩) i c) w' := fun w' => run_sliceP_h w' _ n c i (by omega)
  have e0 : ((i : Int) == (j : Int)) = false := by simpa using fun h : (i : Int) = (j : Int) => by omega
  clear hP hN hO hq hqv hl1
  by_cases hjn : j = n
  · subst hjn
    have e1 : ((j : Int) == (j : Int)) = true := by simp
    go_enter Tryz.func66, Tryz.ntmps66
    go_upto_region 5 with (fail)
    refine wp_region_lit ?_
    iterate 12 go_step
    refine wpList_append_inP rfl (.tmp 32) (.tmp 33) rfl (i := i) HO.out.1 HO.out.2.2.1 (by omega) (fun k z hz => HO.out.2.1.cell k hz) rfl rfl ?_
    intro w2 k1 k2
    have H2 : Hid (OwnP w2 base (.slice (some ⟨g, 0, none⟩) j c) (l.take i ++ [y] ++ l.drop (i + 1)) ∧ w.grownBy w2 (some g)) := Lib.hid ⟨k1, k2⟩
    have hlen2 : j = (l.take i ++ [y] ++ l.drop (i + 1)).length := by rw [List.length_append, HL1.out, List.length_drop, ← HO.out.2.2.1]; omega
    have htk : (l.take i ++ [y] ++ l.drop (i + 1)).take (i + 1) = l.take i ++ [y] ++ l.drop j := by
      rw [List.take_left' HL1.out, List.drop_eq_nil_of_le (show l.length ≤ j by rw [← HO.out.2.2.1]; exact Nat.le_refl _), List.append_nil]
    have HT := Lib.hid (And.intro hlen2 htk)
    clear k1 k2 hlen2 htk
    by_cases hlt : i + 1 < j
    · have hlt' : (i : Int) + 1 < (j : Int) := by omega
      obtain ⟨o0, ho⟩ : ∃ o, o = (if c = i + 1 then 0 else (i + 1) * 8) := ⟨_, rfl⟩
      have Ho := Lib.hid ho
      have hs2 : ∀ w', (Instr.slice 27 (.slice (some ⟨g, 0, none⟩) j c) (some (.int .i64 ((i : Int) + 1))) none none).run Tryz.prog w' = .ok (.slice (some ⟨g, o0, none⟩) (j - (i + 1)) (c - (i + 1))) w' := fun w' => by
        have h := run_slicePx w' g j c (i + 1) (by omega)
        rwa [← ho, show ((i + 1 : Nat) : Int) = (i : Int) + 1 by omega] at h
      clear ho
      go_upto_region 7 with (fail)
      refine wp_region_lit ?_
      iterate 12 go_step
      refine wpList_clear_ownP rfl (.tmp 43) rfl (i := i + 1) H2.out.1 HT.out.1 (by omega) (by rw [← Ho.out]; rfl) ?_
      intro w3 j1 j2
      have HZ : Hid (P (.returned (.slice (some ⟨g, 0, none⟩) (i + 1) c)) w3) := by
        rw [HT.out.2] at j1
        exact Lib.hid (HYes.out (i + 1) w3 j1 (grown_two H2.out.2 j2))
      clear j1 j2 hs2
      go_wp2_with (fail)
      exact HZ.out
    · have hlt' : ¬ ((i : Int) + 1 < (j : Int)) := by omega
      have HZ : Hid (P (.returned (.slice (some ⟨g, 0, none⟩) (i + 1) c)) w2) := by
        have h := H2.out.1.take HT.out.1 (i := i + 1) (by omega)
        rw [HT.out.2] at h
        exact Lib.hid (HYes.out (i + 1) w2 h H2.out.2)
      go_wp2_with (fail)
      exact HZ.out
  · have hjlt : j < n := by omega
    have e1 : ((j : Int) == (n : Int)) = false := by simpa using fun h : (j : Int) = (n : Int) => hjn (by omega)
    obtain ⟨T, hT⟩ : ∃ T, T = i + 1 + (n - j) := ⟨_, rfl⟩
    have HT : Hid (T = i + 1 + (n - j) ∧ T ≤ n ∧ (i : Int) + 1 + ((n - j : Nat) : Int) = (T : Int) ∧ j < n) := Lib.hid ⟨hT, by omega, by omega, hjlt⟩
    have hsj : ∀ w', (Instr.slice 27 (.slice (some ⟨g, 0, none⟩) n c) (some (.int .i64 (j : Int))) none none).run Tryz.prog w' = .ok (.slice (some ⟨g, j * 8, none⟩) (n - j) (c - j)) w' := fun w' => by
      have h := run_slicePx w' g n c j hj
      rwa [if_neg (by omega)] at h
    have hsT : ∀ w', (Instr.slice 27 (.slice (some ⟨g, 0, none⟩) n c) none (some (.int .i64 (T : Int))) none).run Tryz.prog w' = .ok (.slice (some ⟨g, 0, none⟩) T c) w' := fun w' => run_sliceP_h w' _ n c T (by omega)
    have hsTi : ∀ w', (Instr.slice 27 (.slice (some ⟨g, 0, none⟩) T c) (some (.int .i64 (i : Int))) none none).run Tryz.prog w' = .ok (.slice (some ⟨g, i * 8, none⟩) (T - i) (c - i)) w' := fun w' => by
      have h := run_slicePx w' g T c i (by omega)
      rwa [if_neg (by omega)] at h
    have hsT1 : ∀ w', (Instr.slice 27 (.slice (some ⟨g, 0, none⟩) T c) (some (.int .i64 ((i : Int) + 1))) none none).run Tryz.prog w' = .ok (.slice (some ⟨g, (i + 1) * 8, none⟩) (n - j) (c - (i + 1))) w' := fun w' => by
      have h := run_slicePx w' g T c (i + 1) (by omega)
      rwa [if_neg (by omega), show ((i + 1 : Nat) : Int) = (i : Int) + 1 by omega, show T - (i + 1) = n - j by omega] at h
    obtain ⟨o0, ho⟩ : ∃ o, o = (if c = T then 0 else T * 8) := ⟨_, rfl⟩
    have Ho := Lib.hid ho
    have hscl : ∀ w', (Instr.slice 27 (.slice (some ⟨g, 0, none⟩) n c) (some (.int .i64 (T : Int))) none none).run Tryz.prog w' = .ok (.slice (some ⟨g, o0, none⟩) (n - T) (c - T)) w' := fun w' => by
      rw [ho]
      exact run_slicePx w' g n c T (by omega)
    have HS := Lib.hid (And.intro hslh (And.intro hsj hsT1))
    have hTc : ¬ ((c : Int) < (T : Int)) := by omega
    have hle : (i : Int) + 1 ≤ (j : Int) := by omega
    clear ho hT hjn
    go_enter Tryz.func66, Tryz.ntmps66
    go_upto_region 9 with (fail)
    have HG0 : Hid (w.drew = w.drew) := Lib.hid rfl
    have HR := Lib.hid (And.intro hsTi (And.intro hscl (And.intro hsT (And.intro hTc hle))))
    refine wp_region_skip_frame (fun i => ([] : List Nat).contains i) (by kernel_rfl) [none, none, none, none, none, none, none, none, none, none, none, none, none] [] (fun i_ _ _ v_ => v_ = (((Value.slice (some ⟨g, 0, none⟩) n c) :: (Value.int .i64 (i : Int)) :: (Value.slice (some ⟨g, 0, none⟩) i c) :: (Value.int .i64 (i : Int)) :: (Value.slice (some ⟨q, 0, none⟩) 1 1) :: (Value.int .i64 (1 : Int)) :: (Value.int .i64 ((i : Int) + 1)) :: (Value.slice (some ⟨g, 0, none⟩) n c) :: (Value.int .i64 (j : Int)) :: (Value.slice (some ⟨g, j * 8, none⟩) (n - j) (c - j)) :: (Value.int .i64 ((n - j : Nat) : Int)) :: (Value.int .i64 (T : Int)) :: (Value.int .i64 (T : Int)) :: ([] : List Value))).getD i_ undef) (fun _ w' => Below w.heap.size w w') (fun w w' => Below w.heap.size w w') (fun _ _ _ _ _ _ h => h) (by kernel_rfl) (by kernel_rfl) (by kernel_rfl) (show Below w.heap.size w w.drew from (Below.refl _ w).drew) (fun _ => ⟨rfl, rfl, rfl, rfl, rfl, rfl, rfl, rfl, rfl, rfl, rfl, rfl, rfl, trivial⟩) (fun _ h => by simp at h) ?_ ?_
    · refine ⟨?_, ?_, ?_, ?_, ?_, ?_, ?_, ?_, ?_, ?_, ?_, ?_, ?_, trivial⟩
      · intro _ _ a w' hG hout hpre K hK
        have q0 := ev_of ((hout 0 rfl).trans (show _ = .slice (some ⟨g, 0, none⟩) n c from rfl))
        clear hout hpre
        go_step
        exact hK _ _ rfl hG (Below.refl _ _)
      · intro _ _ a w' hG hout hpre K hK
        have q1 := ev_of ((hout 1 rfl).trans (show _ = .int .i64 (i : Int) from rfl))
        clear hout hpre
        go_step
        exact hK _ _ rfl hG (Below.refl _ _)
      · intro _ _ a w' hG hout hpre K hK
        obtain ⟨p0, p1, _⟩ := hpre
        have q45 := ev_of (show a.eval (.tmp 45) = .slice (some ⟨g, 0, none⟩) n c from p0)
        have q46 := ev_of (show a.eval (.tmp 46) = .int .i64 (i : Int) from p1)
        have hsl := HS.out.1
        clear hout p0 p1
        go_step
        exact hK _ _ rfl hG (Below.refl _ _)
      · intro _ _ a w' hG hout hpre K hK
        obtain ⟨p0, _⟩ := hpre
        have q47 := ev_of (show a.eval (.tmp 47) = .slice (some ⟨g, 0, none⟩) i c from p0)
        clear hout p0
        go_step
        exact hK _ _ rfl hG (Below.refl _ _)
      · intro _ _ a w' hG hout hpre K hK
        have q3 := ev_of ((hout 3 rfl).trans (show _ = .slice (some ⟨q, 0, none⟩) 1 1 from rfl))
        clear hout hpre
        go_step
        exact hK _ _ rfl hG (Below.refl _ _)
      · intro _ _ a w' hG hout hpre K hK
        obtain ⟨p0, _⟩ := hpre
        have q49 := ev_of (show a.eval (.tmp 49) = .slice (some ⟨q, 0, none⟩) 1 1 from p0)
        clear hout p0
        go_step
        exact hK _ _ rfl hG (Below.refl _ _)
      · intro _ _ a w' hG hout hpre K hK
        obtain ⟨p0, p1, _⟩ := hpre
        have q48 := ev_of (show a.eval (.tmp 48) = .int .i64 (i : Int) from p0)
        have q50 := ev_of (show a.eval (.tmp 50) = .int .i64 (1 : Int) from p1)
        have hl := HLt.out
        clear hout p0 p1
        go_step
        exact hK _ _ rfl hG (Below.refl _ _)
      · intro _ _ a w' hG hout hpre K hK
        have q0 := ev_of ((hout 0 rfl).trans (show _ = .slice (some ⟨g, 0, none⟩) n c from rfl))
        clear hout hpre
        go_step
        exact hK _ _ rfl hG (Below.refl _ _)
      · intro _ _ a w' hG hout hpre K hK
        have q2 := ev_of ((hout 2 rfl).trans (show _ = .int .i64 (j : Int) from rfl))
        clear hout hpre
        go_step
        exact hK _ _ rfl hG (Below.refl _ _)
      · intro _ _ a w' hG hout hpre K hK
        obtain ⟨p0, p1, _⟩ := hpre
        have q52 := ev_of (show a.eval (.tmp 52) = .slice (some ⟨g, 0, none⟩) n c from p0)
        have q53 := ev_of (show a.eval (.tmp 53) = .int .i64 (j : Int) from p1)
        have hsl := HS.out.2.1
        clear hout p0 p1
        go_step
        exact hK _ _ rfl hG (Below.refl _ _)
      · intro _ _ a w' hG hout hpre K hK
        obtain ⟨p0, _⟩ := hpre
        have q54 := ev_of (show a.eval (.tmp 54) = .slice (some ⟨g, j * 8, none⟩) (n - j) (c - j) from p0)
        clear hout p0
        go_step
        exact hK _ _ rfl hG (Below.refl _ _)
      · intro _ _ a w' hG hout hpre K hK
        obtain ⟨p0, p1, _⟩ := hpre
        have q51 := ev_of (show a.eval (.tmp 51) = .int .i64 ((i : Int) + 1) from p0)
        have q55 := ev_of (show a.eval (.tmp 55) = .int .i64 ((n - j : Nat) : Int) from p1)
        obtain ⟨hl1, hl2, hl3, hl4⟩ := HLt.out
        have hT := HT.out.2.2.1
        have hT2 := HT.out.2.1
        clear hout p0 p1
        go_step
        exact hK _ _ rfl hG (Below.refl _ _)
      · intro _ _ a w' hG hout hpre K hK
        obtain ⟨p0, _⟩ := hpre
        have q56 := ev_of (show a.eval (.tmp 56) = .int .i64 (T : Int) from p0)
        clear hout p0
        go_step
        exact hK _ _ rfl hG (Below.refl _ _)
    · intro vs w2 hG hlen hV
      match vs, hlen, hV with
      | [v0, v1, v2, v3, v4, v5, v6, v7, v8, v9, v10, v11, v12], _, hV =>
        obtain rfl : v12 = .int .i64 (T : Int) := (hV 12 10 v12 rfl rfl)
        clear hV
        simp only [putsL, List.tail_cons, List.headD_cons]
        simp only [Act.put, List.setIfInBounds_toArray, List.set_cons_succ, List.set_cons_zero]
        have HW2 : Hid (w.grownBy w2 none ∧ OwnP w2 base (.slice (some ⟨g, 0, none⟩) n c) l ∧ RowP w2 q y) := by
          have hgr : w.grownBy w2 none := ⟨hG.os, hG.tape, hG.output, hG.size, fun k hk _ => hG.block k hk⟩
          exact Lib.hid ⟨hgr, HO.out.1.far hG, HO.out.2.1.below hG⟩
        clear hG
        obtain ⟨hsTi, hscl, hsT, hTc, hle⟩ := HR.out
        go_upto_region 17 with (fail)
        refine wp_region_lit ?_
        iterate 12 go_step
        refine wpList_copy_ownP rfl (.tmp 95) (.tmp 96) rfl (M := [y]) (i := i) (k := 1) HW2.out.2.1 HO.out.2.2.1 rfl (by have := HLt.out; omega) (T - i) (c - i) ⟨q, 0, none⟩ 1 1 (Nat.min_eq_left (by have := HT.out; omega)).symm (fun k v hk => by
          rw [addr_add, Nat.zero_add]
          exact HW2.out.2.2.cell k (by simpa [cellsLP] using hk)) rfl rfl ?_
        intro w3 j1 j2
        have H3 : Hid (OwnP w3 base (.slice (some ⟨g, 0, none⟩) n c) (l.take i ++ [y] ++ l.drop (i + 1)) ∧ w.grownBy w3 (some g)) := Lib.hid ⟨j1, grown_two (grown_none HW2.out.1 _) j2⟩
        clear j1 j2
        have HR2 := Lib.hid hscl
        clear hsTi hscl hsT hTc hle
        go_upto_region 18 with (fail)
        have HG3 : Hid (RpG w base g n c i j l y 0 w3.drew) := by
          have hd := (Below.refl w3.heap.size w3).drew
          exact Lib.hid ⟨H3.out.1.far hd, grown_far H3.out.2 hd⟩
        refine wp_region_skip_frame (fun i => ([] : List Nat).contains i) (by kernel_rfl) [none, none, none, none, none, none, none, none, none, some 0] [9] (V4 ((Value.slice (some ⟨g, 0, none⟩) T c) :: (Value.int .i64 (i : Int)) :: (Value.slice (some ⟨q, 0, none⟩) 1 1) :: (Value.int .i64 (1 : Int)) :: (Value.int .i64 ((i : Int) + 1)) :: (Value.slice (some ⟨g, (i + 1) * 8, none⟩) (n - j) (c - (i + 1))) :: (Value.slice (some ⟨g, 0, none⟩) n c) :: (Value.int .i64 (j : Int)) :: (Value.slice (some ⟨g, j * 8, none⟩) (n - j) (c - j)) :: goInt ((n - j : Nat) : Int) :: ([] : List Value)) 99 (fun _ _ _ => True) 99 (fun _ _ _ => True) 99 (fun _ _ _ => True) 99 (fun _ _ _ => True)) (RpG w base g n c i j l y) (fun w w' => Below w.heap.size w w') (V4_le _ (fun _ _ _ _ _ h => h) (fun _ _ _ _ _ h => h) (fun _ _ _ _ _ h => h) (fun _ _ _ _ _ h => h)) (by kernel_rfl) (by kernel_rfl) (by kernel_rfl) HG3.out (fun _ => ⟨rfl, rfl, rfl, rfl, rfl, rfl, rfl, rfl, rfl, rfl, trivial⟩) (fun _ h => by simp at h) ?_ ?_
        · refine ⟨?_, ?_, ?_, ?_, ?_, ?_, ?_, ?_, ?_, ?_, trivial⟩
          · intro _ _ a w' hG hout hpre K hK
            have q12 := ev_of ((hout 12 rfl).trans (show _ = .slice (some ⟨g, 0, none⟩) T c from rfl))
            clear hout hpre
            go_step
            exact hK _ _ rfl hG (Below.refl _ _)
          · intro _ _ a w' hG hout hpre K hK
            have q1 := ev_of ((hout 1 rfl).trans (show _ = .int .i64 (i : Int) from rfl))
            clear hout hpre
            go_step
            exact hK _ _ rfl hG (Below.refl _ _)
          · intro _ _ a w' hG hout hpre K hK
            have q3 := ev_of ((hout 3 rfl).trans (show _ = .slice (some ⟨q, 0, none⟩) 1 1 from rfl))
            clear hout hpre
            go_step
            exact hK _ _ rfl hG (Below.refl _ _)
          · intro _ _ a w' hG hout hpre K hK
            obtain ⟨p0, _⟩ := hpre
            have q100 := ev_of (show a.eval (.tmp 100) = .slice (some ⟨q, 0, none⟩) 1 1 from p0)
            clear hout p0
            go_step
            exact hK _ _ rfl hG (Below.refl _ _)
          · intro _ _ a w' hG hout hpre K hK
            obtain ⟨p0, p1, _⟩ := hpre
            have q99 := ev_of (show a.eval (.tmp 99) = .int .i64 (i : Int) from p0)
            have q101 := ev_of (show a.eval (.tmp 101) = .int .i64 (1 : Int) from p1)
            have hl := HLt.out
            clear hout p0 p1
            go_step
            exact hK _ _ rfl hG (Below.refl _ _)
          · intro _ _ a w' hG hout hpre K hK
            obtain ⟨p0, p1, _⟩ := hpre
            have q98 := ev_of (show a.eval (.tmp 98) = .slice (some ⟨g, 0, none⟩) T c from p0)
            have q102 := ev_of (show a.eval (.tmp 102) = .int .i64 ((i : Int) + 1) from p1)
            have hsl := HS.out.2.2
            clear hout p0 p1
            go_step
            exact hK _ _ rfl hG (Below.refl _ _)
          · intro _ _ a w' hG hout hpre K hK
            have q0 := ev_of ((hout 0 rfl).trans (show _ = .slice (some ⟨g, 0, none⟩) n c from rfl))
            clear hout hpre
            go_step
            exact hK _ _ rfl hG (Below.refl _ _)
          · intro _ _ a w' hG hout hpre K hK
            have q2 := ev_of ((hout 2 rfl).trans (show _ = .int .i64 (j : Int) from rfl))
            clear hout hpre
            go_step
            exact hK _ _ rfl hG (Below.refl _ _)
          · intro _ _ a w' hG hout hpre K hK
            obtain ⟨p0, p1, _⟩ := hpre
            have q104 := ev_of (show a.eval (.tmp 104) = .slice (some ⟨g, 0, none⟩) n c from p0)
            have q105 := ev_of (show a.eval (.tmp 105) = .int .i64 (j : Int) from p1)
            have hsl := HS.out.2.1
            clear hout p0 p1
            go_step
            exact hK _ _ rfl hG (Below.refl _ _)
          · intro _ a w' hG hout hpre K hK
            obtain ⟨p0, p1, _⟩ := hpre
            have r103 := (show a.eval (.tmp 103) = .slice (some ⟨g, (i + 1) * 8, none⟩) (n - j) (c - (i + 1)) from p0)
            have r106 := (show a.eval (.tmp 106) = .slice (some ⟨g, j * 8, none⟩) (n - j) (c - j) from p1)
            obtain ⟨hO2, hgr⟩ := (show OwnP w' base (.slice (some ⟨g, 0, none⟩) n c) (l.take i ++ [y] ++ l.drop (i + 1)) ∧ w.grownBy w' (some g) from hG)
            obtain ⟨b1, b2, b3, b4⟩ := HLt.out
            obtain ⟨t1, t2, t3, t4⟩ := HT.out
            have hN := HO.out.2.2.1
            have hlen : n = (l.take i ++ [y] ++ l.drop (i + 1)).length := by rw [List.length_append, HL1.out, List.length_drop, ← hN]; omega
            have hdj : (l.take i ++ [y] ++ l.drop (i + 1)).drop j = l.drop j := by
              rw [List.drop_append, List.drop_eq_nil_of_le (show (l.take i ++ [y]).length ≤ j by rw [HL1.out]; omega), HL1.out, List.nil_append, List.drop_drop]
              congr 1
              omega
            refine wp_copy_ownP (.tmp 103) (.tmp 106) rfl (M := l.drop j) (i := i + 1) (k := n - j) hO2 hlen (by rw [List.length_drop, ← hN]) (by omega) (n - j) (c - (i + 1)) ⟨g, j * 8, none⟩ (n - j) (c - j) (Nat.min_self _).symm (fun k v hk => ?_) r103 r106 (fun w4_ m1 m2 => ?_)
            · have h := hO2.cellsFrom hlen (show j ≤ n by omega) k v
              rw [hdj] at h
              exact h hk
            · exact hK _ _ rfl ⟨m1, grown_two hgr m2⟩ (V4_keep (.inr fun _ h => h) (.inr fun _ h => h) (.inr fun _ h => h) (.inr fun _ h => h))
        · intro vs w4_ hG hlen hV
          match vs, hlen, hV with
          | [v0, v1, v2, v3, v4, v5, v6, v7, v8, v9], _, hV =>
            clear hV
            have hG1 : OwnP w4_ base (.slice (some ⟨g, 0, none⟩) n c) ((l.take i ++ [y] ++ l.drop (i + 1)).take (i + 1) ++ l.drop j ++ (l.take i ++ [y] ++ l.drop (i + 1)).drop (i + 1 + (n - j))) ∧ w.grownBy w4_ (some g) := hG
            have H4 : Hid (OwnP w4_ base (.slice (some ⟨g, 0, none⟩) n c) (l.take i ++ [y] ++ l.drop j ++ (l.take i ++ [y] ++ l.drop (i + 1)).drop T) ∧ w.grownBy w4_ (some g) ∧ n = (l.take i ++ [y] ++ l.drop j ++ (l.take i ++ [y] ++ l.drop (i + 1)).drop T).length ∧ (l.take i ++ [y] ++ l.drop j ++ (l.take i ++ [y] ++ l.drop (i + 1)).drop T).take T = l.take i ++ [y] ++ l.drop j) := by
              obtain ⟨b1, b2, b3, b4⟩ := HLt.out
              obtain ⟨t1, t2, t3, t4⟩ := HT.out
              have hN := HO.out.2.2.1
              have hl2 : (l.take i ++ [y] ++ l.drop j).length = T := by rw [List.length_append, HL1.out, List.length_drop, ← hN]; omega
              have h := hG1.1
              rw [List.take_left' HL1.out, ← t1] at h
              exact Lib.hid ⟨h, hG1.2, by rw [List.length_append, hl2, List.length_drop, List.length_append, HL1.out, List.length_drop, ← hN]; omega, List.take_left' hl2⟩
            clear hG hG1
            simp only [putsL, List.tail_cons, List.headD_cons]
            simp only [Act.put, List.setIfInBounds_toArray, List.set_cons_succ, List.set_cons_zero]
            have hscl := HR2.out
            go_upto_region 19 with (fail)
            refine wp_region_lit ?_
            iterate 9 go_step
            refine wpList_clear_ownP rfl (.tmp 110) rfl (i := T) H4.out.1 H4.out.2.2.1 HT.out.2.1 (by rw [← Ho.out]; rfl) ?_
            intro w5 m1 m2
            have HZ : Hid (P (.returned (.slice (some ⟨g, 0, none⟩) T c)) w5) := by
              rw [H4.out.2.2.2] at m1
              exact Lib.hid (HYes.out T w5 m1 (grown_two H4.out.2.1 m2))
            clear m1 m2 hscl
            go_wp2_with (fail)
            exact HZ.out
set_option maxRecDepth 100000 in
set_option maxHeartbeats 2000000 in
theorem replaceP_ins (w : World) (base i q : Nat) (v : Value) (l : List PaneV) (y : PaneV) (hO : OwnP w base v l) (hq : RowP w q y) (hqv : v.ownBlock ≠ some q) (hi : i ≤ l.length) (hb : base ≤ w.heap.size) (hn : l.length + 1 ≤ 1000000) :
    Calls Tryz.prog 66 #[v, .int .i64 (i : Int), .int .i64 (i : Int), .slice (some ⟨q, 0, none⟩) 1 1] w (InsEnd w base v (l.take i ++ [y] ++ l.drop i)) := by
  have HC := Lib.hid (insertP_all w base i q v l y hO hq hqv hi hb hn)
  obtain ⟨P, hP⟩ : ∃ P, P = InsEnd w base v (l.take i ++ [y] ++ l.drop i) := ⟨_, rfl⟩
  have HPo : Hid (∀ v' w', OwnP w' base v' (l.take i ++ [y] ++ l.drop i) → w.grownBy w' v.ownBlock → (v'.ownBlock = v.ownBlock ∨ v'.ownBlock = some w.heap.size) → P (.returned v') w') := Lib.hid (fun v' w' h1 h2 h3 => by rw [hP]; exact ⟨v', rfl, h1, h2, h3⟩)
  rw [← hP]
  rcases hO.shape with ⟨rfl, hl⟩ | ⟨g, c, rfl, hc⟩
  · obtain rfl : i = 0 := by rw [hl] at hi; simpa using hi
    have hs : ∀ w', (Instr.slice 27 (.slice none 0 0) (some (.int .i64 0)) (some (.int .i64 0)) none).run Tryz.prog w' = .ok (.slice none 0 0) w' := fun w' => by
      simp [Instr.slice, run_underlying Tryz.underlying27, Instr.sliceBounds, run_sliceBound, show ∀ w, (sizeOf 55).run Tryz.prog w = .ok 8 w from Tryz.sizeOf55]
    unfold nilV at HC ⊢
    rw [show ((0 : Nat) : Int) = 0 from rfl] at HC ⊢
    clear hP hO hq hqv hi hb hn hl
    go_enter Tryz.func66, Tryz.ntmps66
    go_wp2_with (fail)
    refine HC.out.mono ?_
    rintro e w' ⟨v', rfl, h1, h2, h3⟩
    have HZ := Lib.hid (HPo.out v' w' h1 h2 h3)
    have hsh := h1.shape
    clear h1 h2 h3
    dsimp only
    rcases hsh with ⟨rfl, h⟩ | ⟨g', c', rfl, _⟩
    · simp at h
    go_wp2_with (fail)
    exact HZ.out
  · obtain ⟨n, hN⟩ : ∃ n, n = l.length := ⟨_, rfl⟩
    rw [← hN] at HC hc hi ⊢
    obtain ⟨o0, ho⟩ : ∃ o, o = (if c = i then 0 else i * 8) := ⟨_, rfl⟩
    have hs : ∀ w', (Instr.slice 27 (.slice (some ⟨g, 0, none⟩) n c) (some (.int .i64 (i : Int))) (some (.int .i64 (i : Int))) none).run Tryz.prog w' = .ok (.slice (some ⟨g, o0, none⟩) (i - i) (c - i)) w' := fun w' => by
      rw [ho]
      exact run_slicePij w' g n c i i (Nat.le_refl _) hi hc
    have e1 : ((i : Int) == (i : Int)) = true := by simp
    clear hP hO hq hqv hi hb hn ho hN hc
    go_enter Tryz.func66, Tryz.ntmps66
    go_wp2_with (fail)
    refine HC.out.mono ?_
    rintro e w' ⟨v', rfl, h1, h2, h3⟩
    have HZ := Lib.hid (HPo.out v' w' h1 h2 h3)
    have hsh := h1.shape
    clear h1 h2 h3
    dsimp only
    rcases hsh with ⟨rfl, h⟩ | ⟨g', c', rfl, _⟩
    · simp at h
    go_wp2_with (fail)
    exact HZ.out
theorem replaceP_any (w : World) (base i j q : Nat) (v : Value) (l : List PaneV) (y : PaneV) (hO : OwnP w base v l) (hq : RowP w q y) (hqv : v.ownBlock ≠ some q) (hij : i ≤ j) (hj : j ≤ l.length) (hb : base ≤ w.heap.size) (hn : l.length + 1 ≤ 1000000) :
    Calls Tryz.prog 66 #[v, .int .i64 (i : Int), .int .i64 (j : Int), .slice (some ⟨q, 0, none⟩) 1 1] w (InsEnd w base v (l.take i ++ [y] ++ l.drop j)) := by
  by_cases he : i = j
  · subst he
    exact replaceP_ins w base i q v l y hO hq hqv hj hb hn
  · rcases hO.shape with ⟨rfl, hl⟩ | ⟨g, c, rfl, hc⟩
    · rw [hl] at hj
      simp at hj
      omega
    · exact replaceP_at w base g c i j q l y hO hq (fun e => hqv (by rw [e]; rfl)) (by omega) hj hn
end Go.Proofs.YtjeeghafachebaaGreat
namespace Go.Proofs.YtjeeghafachebaaGreat
open Go Go.RowKit
def SeekP (w : World) (ws : List WindowL) (t : WindowL) (e : Ending) (w' : World) : Prop := ∃ (p : Nat) (b : Bool), e = .returned (.tuple #[.int .i64 (p : Int), .bool b]) ∧ placeAt ws t p ∧ (b = true ↔ p < ws.length ∧ atW ws p = t) ∧ Below w.heap.size w w'
theorem box_pw (w : World) (x : PaneV) (t : WindowL) :
    RowP ((w.alloc (.cells x.cells 55)).alloc (.cells t.cells 47)) w.heap.size x ∧ RowW ((w.alloc (.cells x.cells 55)).alloc (.cells t.cells 47)) (w.heap.size + 1) t ∧ Below w.heap.size w ((w.alloc (.cells x.cells 55)).alloc (.cells t.cells 47)) := by
  have k1 := (Below.refl _ w).alloc (Nat.le_refl _) (.cells x.cells 55)
  have k2 := (Below.refl _ (w.alloc (.cells x.cells 55))).alloc (Nat.le_refl _) (.cells t.cells 47)
  have hs : (w.alloc (.cells x.cells 55)).heap.size = w.heap.size + 1 := heap_alloc_size w _
  refine ⟨RowP.below (heap_alloc_new w _) k2, ?_, k1.trans (k2.mono k1.size)⟩
  rw [← hs]
  exact heap_alloc_new _ _
set_option maxRecDepth 100000 in
theorem ohome1_any (w : World) (x : PaneV) (t : WindowL) : Calls Tryz.prog 98 #[.agg x.cells, .agg t.cells] w (Below0 w (.int .i64 (placeW x.p.w t))) := by
  obtain ⟨r, hr⟩ : ∃ r, r = placeW x.p.w t := ⟨_, rfl⟩
  rw [← hr]
  obtain ⟨w1, hw1⟩ : ∃ W, W = (w.alloc (.cells x.cells 55)).alloc (.cells t.cells 47) := ⟨_, rfl⟩
  obtain ⟨xb, hxb⟩ : ∃ b, b = w.heap.size := ⟨_, rfl⟩
  obtain ⟨tb, htb⟩ : ∃ b, b = w.heap.size + 1 := ⟨_, rfl⟩
  have H1 : Hid (RowP w1 xb x ∧ RowW w1 tb t ∧ Below w.heap.size w w1) := by rw [hw1, hxb, htb]; exact Lib.hid (box_pw w x t)
  have HC : Hid (Calls Tryz.prog 54 #[.agg x.p.w.cells, .agg t.cells] w1 (Below0 w1 (.int .i64 r))) := by
    rw [hr]
    exact Lib.hid (wplace_any w1 x.p.w t)
  have HB1 := Lib.hid H1.out.2.2
  have hs1 : (w.alloc (.cells x.cells 55)).heap.size = w.heap.size + 1 := heap_alloc_size w _
  clear hr
  obtain ⟨⟨⟨xk, xl, xh⟩, ⟨xn, xa, xt, xu, xv⟩, xr⟩, xtv, xz, xht, xhz⟩ := x
  obtain ⟨tk, tl, th⟩ := t
  obtain ⟨e0, e1, e2, _⟩ := H1.out.1.d8
  obtain ⟨f0, f1, f2⟩ := H1.out.2.1.d3
  unfold PaneV.cells at hw1 hs1 ⊢
  unfold WindowL.cells at hw1 HC ⊢
  simp only at hw1 hs1 HC e0 e1 e2 f0 f1 f2
  clear H1
  go_enter Tryz.func98, Tryz.ntmps98
  go_upto_region 1 with (fail)
  rw [← hw1, ← htb, ← hxb]
  clear hw1 htb hxb hs1
  go_wp2_with (fail)
  refine HC.out.mono ?_
  rintro e w2 ⟨rfl, hB⟩
  have HZ := Lib.hid (HB1.out.trans (hB.mono HB1.out.size))
  clear hB e0 e1 e2 f0 f1 f2
  dsimp only
  go_wp2_with (fail)
  go_ret
  exact ⟨rfl, HZ.out⟩
set_option maxRecDepth 100000 in
set_option maxHeartbeats 4000000 in
theorem bsearchP_any (w : World) (sa : Option Addr) (sc : Nat) (l : List PaneV) (t : WindowL) (hA : PanesAt w sa l) (hs : (l.map fun x => x.p.w).Pairwise aheadP) (hn : l.length ≤ 1000000) :
    Calls Tryz.prog 97 #[.slice sa l.length sc, .agg t.cells, .func (.func 98) #[] #[]] w (SeekP w (l.map fun x => x.p.w) t) := by
  obtain ⟨n, hN0⟩ : ∃ n, n = l.length := ⟨_, rfl⟩
  obtain ⟨ws, hws⟩ : ∃ ws, ws = l.map fun x => x.p.w := ⟨_, rfl⟩
  rw [← hws] at hs ⊢
  have HLn : Hid (n = l.length) := Lib.hid hN0
  clear hN0
  have HW : Hid (∀ (i : Nat) (x : PaneV), l[i]? = some x → ws[i]? = some x.p.w) := Lib.hid (fun i x h => by rw [hws, List.getElem?_map, h]; rfl)
  have hN : n = ws.length := by rw [hws, List.length_map, HLn.out]
  obtain ⟨P, hP⟩ : ∃ P, P = SeekP w ws t := ⟨_, rfl⟩
  rw [← hP, ← HLn.out]
  have hn6 : n ≤ 1000000 := by have := HLn.out; omega
  have HN : Hid (n = ws.length ∧ n ≤ 1000000) := Lib.hid ⟨hN, hn6⟩
  have HA := Lib.hid hA
  have HYes : Hid (∀ wz (p : Nat) b, placeAt ws t p → (b = true ↔ p < ws.length ∧ atW ws p = t) → Below w.heap.size w wz → P (.returned (.tuple #[.int .i64 (p : Int), .bool b])) wz) := Lib.hid (fun wz p b h h' hB => by
    rw [hP]
    exact ⟨p, b, rfl, h, h', hB⟩)
  have HM : Hid (∀ i j, i ≤ j → j < n → aheadP (atW ws j) t → aheadP (atW ws i) t) := by
    refine Lib.hid (fun i j hij hj h => ?_)
    rw [hN] at hj
    rcases Nat.lt_or_ge i j with h' | h'
    · have := List.pairwise_iff_getElem.1 hs i j (by omega) hj h'
      rw [atW_some (List.getElem?_eq_getElem hj)] at h
      rw [atW_some (List.getElem?_eq_getElem (show i < ws.length by omega))]
      exact this.trans h
    · obtain rfl : i = j := by omega
      exact h
  obtain ⟨w1, hw1⟩ : ∃ W, W = w.alloc (.cells t.cells 47) := ⟨_, rfl⟩
  obtain ⟨tb, htb⟩ : ∃ b, b = w.heap.size := ⟨_, rfl⟩
  have H1 : Hid (RowW w1 tb t ∧ Below w.heap.size w w1) := by
    rw [hw1, htb]
    exact Lib.hid ⟨heap_alloc_new w _, (Below.refl _ w).alloc (Nat.le_refl _) _⟩
  obtain ⟨T, hT⟩ : ∃ T, T = t := ⟨_, rfl⟩
  have HT := Lib.hid hT
  rw [← hT] at H1 HYes HM
  obtain ⟨tk, tl, th⟩ := t
  unfold WindowL.cells at hw1 ⊢
  simp only at hw1 ⊢
  clear hN hA hn hP hs hT hws
  go_enter Tryz.func97, Tryz.ntmps97
  go_upto_region 1 with (fail)
  rw [← hw1, ← htb]
  clear hw1 htb
  go_wp2_with (fail)
  go_loopw [9, 10] (BRel w1 ws T) (fun a b _ => gapV a b)
  case atStart => exact ⟨0, n, rfl, rfl, Nat.zero_le _, by rw [HN.out.1]; exact Nat.le_refl _, fun i h => absurd h (Nat.not_lt_zero _), fun i h1 h2 => by have := HN.out.1; omega, Below.refl _ _⟩
  case round =>
    obtain ⟨lo, hi, rfl, rfl, hlh, hhn, h1, h2, hB⟩ := hrel
    rw [← HN.out.1] at hhn h2
    have HB := Lib.hid (And.intro h1 (And.intro h2 (And.intro hB (And.intro hlh hhn))))
    clear h1 h2 hB
    have HG0 : Hid (Below wr.heap.size wr wr.drew) := (Below.refl _ wr).drew
    have HRt : Hid (∀ w', Below wr.heap.size wr w' → D3 w' tb tk tl th) := by
      refine Lib.hid (fun w' h => ?_)
      have := ((H1.out.1.below HB.out.2.2.1).below h).d3
      rw [HT.out] at this
      exact this
    obtain ⟨VT, hVT⟩ : ∃ V, V = Value.agg #[Sv tk, .int .i64 tl, .int .i64 th] := ⟨_, rfl⟩
    have HVT := Lib.hid hVT
    have HB1 : Hid (∀ w', Below wr.heap.size wr w' → Below w1.heap.size w1 w') := Lib.hid (fun w' h => HB.out.2.2.1.trans (h.mono HB.out.2.2.1.size))
    by_cases hlt : lo < hi
    · obtain ⟨m, hm⟩ : ∃ m, m = (lo + hi) / 2 := ⟨_, rfl⟩
      have hmid : lo ≤ m ∧ m < hi := by omega
      have hme : ((lo : Int) + (hi : Int)) / 2 = (m : Int) := by omega
      obtain ⟨x, pa, po, hx, hsa, _⟩ := HA.out.get (t := m) (by rw [← HLn.out]; omega)
      subst hsa
      have HX : Hid (∀ w', Below wr.heap.size wr w' → w'.cell? ⟨pa, po + m * 8, none⟩ = some (Sv x.p.w.key) ∧ w'.cell? ⟨pa, po + m * 8 + 1, none⟩ = some (.int .i64 x.p.w.lo) ∧ w'.cell? ⟨pa, po + m * 8 + 2, none⟩ = some (.int .i64 x.p.w.hi) ∧ w'.cell? ⟨pa, po + m * 8 + 3, none⟩ = some (.int .i64 x.p.a.n) ∧ w'.cell? ⟨pa, po + m * 8 + 4, none⟩ = some (.int .i64 x.p.a.a) ∧ w'.cell? ⟨pa, po + m * 8 + 5, none⟩ = some (x.tv) ∧ w'.cell? ⟨pa, po + m * 8 + 6, none⟩ = some (x.z) ∧ w'.cell? ⟨pa, po + m * 8 + 7, none⟩ = some (.int .i64 x.p.r)) := by
        refine Lib.hid (fun w' h => ?_)
        obtain ⟨x', b', o', hx', ha', d⟩ := ((HA.out.below H1.out.2).below (HB1.out w' h)).get (t := m) (by rw [← HLn.out]; omega)
        cases ha'
        rw [hx] at hx'
        cases hx'
        exact d
      obtain ⟨VX, hVX⟩ : ∃ V, V = Value.agg x.cells := ⟨_, rfl⟩
      obtain ⟨p, hp⟩ : ∃ p, p = placeW x.p.w T := ⟨_, rfl⟩
      have HCp : Hid (∀ w', Calls Tryz.prog 98 #[VX, VT] w' (Below0 w' (.int .i64 p))) := by
        rw [hVX, hVT, hp, HT.out]
        exact Lib.hid (fun w' => ohome1_any w' x ⟨tk, tl, th⟩)
      have HVX := Lib.hid hVX
      have HAt : Hid (p < 0 ↔ aheadP (atW ws m) T) := by
        rw [hp, atW_some (HW.out m x hx)]
        exact Lib.hid (placeW_neg _ _)
      have HI0 : Hid ((0 : Int) ≤ (m : Int) ∧ (m : Int) < (n : Int)) := Lib.hid (by omega)
      have Hm := Lib.hid (And.intro hmid (And.intro hhn hn6))
      obtain ⟨⟨⟨xk, xl, xh⟩, ⟨xn, xa, xt, xu, xv⟩, xr⟩, xtv, xz, xht, xhz⟩ := x
      clear hx hVX hp hm
      by_cases hp0 : p < 0
      · have HPn : Hid (p < 0) := Lib.hid hp0
        have HZ : Hid (∀ w', Below wr.heap.size wr w' → BRel w1 ws T (.int .i64 ((m : Int) + 1)) (.int .i64 (hi : Int)) w') := by
          refine Lib.hid (fun w' h => ⟨m + 1, hi, by go_num, rfl, by have := Hm.out; omega, by rw [← HN.out.1]; exact Hm.out.2.1, fun i h1 => ?_, by rw [← HN.out.1]; exact HB.out.2.1, HB1.out w' h⟩)
          exact HM.out i m (by omega) (by have := Hm.out; omega) (HAt.out.1 HPn.out)
        clear hp0
        go_upto_region 5 with (fail)
        clear hme hmid hlt hlh hhn hVT
        refine wp_region_skip_frame (fun i => ([] : List Nat).contains i) (by kernel_rfl) [none, none, none, none, none, none, none, none] [] (fun i_ _ _ v_ => v_ = (((Value.func (.func 98) #[] #[]) :: (Value.slice (some ⟨pa, po, none⟩) n sc) :: (Value.int .i64 (m : Int)) :: (Value.pointer (some ⟨pa, po + m * 8, none⟩)) :: VX :: VT :: (Value.int .i64 p) :: (Value.bool true) :: ([] : List Value))).getD i_ undef) (fun _ w' => Below wr.heap.size wr w') (fun w w' => Below w.heap.size w w') (fun _ _ _ _ _ _ h => h) (by kernel_rfl) (by kernel_rfl) (by kernel_rfl) HG0.out (fun _ => ⟨rfl, rfl, rfl, rfl, rfl, rfl, rfl, rfl, trivial⟩) (fun _ h => by simp at h) ?_ ?_
        · refine ⟨?_, ?_, ?_, ?_, ?_, ?_, ?_, ?_, trivial⟩
          · intro _ _ a w' hG hout hpre K hK
            have q2 := ev_of ((hout 2 rfl).trans (show _ = .func (.func 98) #[] #[] from rfl))
            clear hout hpre
            go_step
            exact hK _ _ rfl hG (Below.refl _ _)
          · intro _ _ a w' hG hout hpre K hK
            have q0 := ev_of ((hout 0 rfl).trans (show _ = .slice (some ⟨pa, po, none⟩) n sc from rfl))
            clear hout hpre
            go_step
            exact hK _ _ rfl hG (Below.refl _ _)
          · intro _ _ a w' hG hout hpre K hK
            have q11 := ev_of ((hout 11 rfl).trans (show _ = .int .i64 (m : Int) from rfl))
            clear hout hpre
            go_step
            exact hK _ _ rfl hG (Below.refl _ _)
          · intro _ _ a w' hG hout hpre K hK
            obtain ⟨p0, p1, _⟩ := hpre
            have q25 := ev_of (show a.eval (.tmp 25) = .slice (some ⟨pa, po, none⟩) n sc from p0)
            have q26 := ev_of (show a.eval (.tmp 26) = .int .i64 (m : Int) from p1)
            have hi0 := HI0.out
            clear hout p0 p1
            go_step
            exact hK _ _ rfl hG (Below.refl _ _)
          · intro _ _ a w' hG hout hpre K hK
            obtain ⟨p0, _⟩ := hpre
            have q27 := ev_of (show a.eval (.tmp 27) = .pointer (some ⟨pa, po + m * 8, none⟩) from p0)
            obtain ⟨d0, d1, d2, d3, d4, d5, d6, d7⟩ := HX.out w' hG
            clear hout p0
            go_step
            exact hK _ _ HVX.out.symm hG (Below.refl _ _)
          · intro _ _ a w' hG hout hpre K hK
            have q4 := ev_of ((hout 4 rfl).trans (show _ = .pointer (some ⟨tb, 0, none⟩) from rfl))
            obtain ⟨d0, d1, d2⟩ := HRt.out w' hG
            clear hout hpre
            go_step
            exact hK _ _ HVT.out.symm hG (Below.refl _ _)
          · intro _ _ a w' hG hout hpre K hK
            obtain ⟨p0, p1, p2, _⟩ := hpre
            have q24 := ev_of (show a.eval (.tmp 24) = .func (.func 98) #[] #[] from p0)
            have q28 := ev_of (show a.eval (.tmp 28) = VX from p1)
            have q29 := ev_of (show a.eval (.tmp 29) = VT from p2)
            have HS := Lib.hid (HCp.out w')
            clear hout p0 p1 p2
            go_step
            refine HS.out.mono ?_
            rintro e w3 ⟨rfl, hB⟩
            exact hK _ _ rfl (hG.trans (hB.mono hG.size)) hB
          · intro _ _ a w' hG hout hpre K hK
            obtain ⟨p0, _⟩ := hpre
            have q30 := ev_of (show a.eval (.tmp 30) = .int .i64 p from p0)
            have hp := HPn.out
            clear hout p0
            go_step
            exact hK _ _ rfl hG (Below.refl _ _)
        · intro vs w2 hG hlen hV
          match vs, hlen, hV with
          | [v0, v1, v2, v3, v4, v5, v6, v7], _, hV =>
            obtain rfl : v7 = .bool true := (hV 7 31 v7 rfl rfl)
            clear hV
            simp only [putsL, List.tail_cons, List.headD_cons]
            simp only [Act.put, List.setIfInBounds_toArray, List.set_cons_succ, List.set_cons_zero]
            have HZz := Lib.hid (HZ.out w2 hG)
            have HMm := Lib.hid Hm.out
            have hm3 : (m : Int) ≤ 1000000 := by have := Hm.out; omega
            clear hG
            go_wp2_with (fail)
            go_roundw
            case rel => exact HZz.out
            case measure => have := HMm.out; show (hi : Int).toNat - ((m : Int) + 1).toNat < (hi : Int).toNat - (lo : Int).toNat; omega
      · have HPn : Hid (decide (p < 0) = false) := Lib.hid (decide_eq_false hp0)
        have HZ : Hid (∀ w', Below wr.heap.size wr w' → BRel w1 ws T (.int .i64 (lo : Int)) (.int .i64 (m : Int)) w') := by
          refine Lib.hid (fun w' h => ⟨lo, m, rfl, rfl, Hm.out.1.1, by rw [← HN.out.1]; have := Hm.out; omega, HB.out.1, fun i h1 h2 hc => ?_, HB1.out w' h⟩)
          exact hp0 (HAt.out.2 (HM.out m i h1 (by rw [HN.out.1]; exact h2) hc))
        clear hp0
        go_upto_region 5 with (fail)
        clear hme hmid hlt hlh hhn hVT
        refine wp_region_skip_frame (fun i => ([] : List Nat).contains i) (by kernel_rfl) [none, none, none, none, none, none, none, none] [] (fun i_ _ _ v_ => v_ = (((Value.func (.func 98) #[] #[]) :: (Value.slice (some ⟨pa, po, none⟩) n sc) :: (Value.int .i64 (m : Int)) :: (Value.pointer (some ⟨pa, po + m * 8, none⟩)) :: VX :: VT :: (Value.int .i64 p) :: (Value.bool false) :: ([] : List Value))).getD i_ undef) (fun _ w' => Below wr.heap.size wr w') (fun w w' => Below w.heap.size w w') (fun _ _ _ _ _ _ h => h) (by kernel_rfl) (by kernel_rfl) (by kernel_rfl) HG0.out (fun _ => ⟨rfl, rfl, rfl, rfl, rfl, rfl, rfl, rfl, trivial⟩) (fun _ h => by simp at h) ?_ ?_
        · refine ⟨?_, ?_, ?_, ?_, ?_, ?_, ?_, ?_, trivial⟩
          · intro _ _ a w' hG hout hpre K hK
            have q2 := ev_of ((hout 2 rfl).trans (show _ = .func (.func 98) #[] #[] from rfl))
            clear hout hpre
            go_step
            exact hK _ _ rfl hG (Below.refl _ _)
          · intro _ _ a w' hG hout hpre K hK
            have q0 := ev_of ((hout 0 rfl).trans (show _ = .slice (some ⟨pa, po, none⟩) n sc from rfl))
            clear hout hpre
            go_step
            exact hK _ _ rfl hG (Below.refl _ _)
          · intro _ _ a w' hG hout hpre K hK
            have q11 := ev_of ((hout 11 rfl).trans (show _ = .int .i64 (m : Int) from rfl))
            clear hout hpre
            go_step
            exact hK _ _ rfl hG (Below.refl _ _)
          · intro _ _ a w' hG hout hpre K hK
            obtain ⟨p0, p1, _⟩ := hpre
            have q25 := ev_of (show a.eval (.tmp 25) = .slice (some ⟨pa, po, none⟩) n sc from p0)
            have q26 := ev_of (show a.eval (.tmp 26) = .int .i64 (m : Int) from p1)
            have hi0 := HI0.out
            clear hout p0 p1
            go_step
            exact hK _ _ rfl hG (Below.refl _ _)
          · intro _ _ a w' hG hout hpre K hK
            obtain ⟨p0, _⟩ := hpre
            have q27 := ev_of (show a.eval (.tmp 27) = .pointer (some ⟨pa, po + m * 8, none⟩) from p0)
            obtain ⟨d0, d1, d2, d3, d4, d5, d6, d7⟩ := HX.out w' hG
            clear hout p0
            go_step
            exact hK _ _ HVX.out.symm hG (Below.refl _ _)
          · intro _ _ a w' hG hout hpre K hK
            have q4 := ev_of ((hout 4 rfl).trans (show _ = .pointer (some ⟨tb, 0, none⟩) from rfl))
            obtain ⟨d0, d1, d2⟩ := HRt.out w' hG
            clear hout hpre
            go_step
            exact hK _ _ HVT.out.symm hG (Below.refl _ _)
          · intro _ _ a w' hG hout hpre K hK
            obtain ⟨p0, p1, p2, _⟩ := hpre
            have q24 := ev_of (show a.eval (.tmp 24) = .func (.func 98) #[] #[] from p0)
            have q28 := ev_of (show a.eval (.tmp 28) = VX from p1)
            have q29 := ev_of (show a.eval (.tmp 29) = VT from p2)
            have HS := Lib.hid (HCp.out w')
            clear hout p0 p1 p2
            go_step
            refine HS.out.mono ?_
            rintro e w3 ⟨rfl, hB⟩
            exact hK _ _ rfl (hG.trans (hB.mono hG.size)) hB
          · intro _ _ a w' hG hout hpre K hK
            obtain ⟨p0, _⟩ := hpre
            have q30 := ev_of (show a.eval (.tmp 30) = .int .i64 p from p0)
            have hp := HPn.out
            clear hout p0
            go_step
            exact hK _ _ rfl hG (Below.refl _ _)
        · intro vs w2 hG hlen hV
          match vs, hlen, hV with
          | [v0, v1, v2, v3, v4, v5, v6, v7], _, hV =>
            obtain rfl : v7 = .bool false := (hV 7 31 v7 rfl rfl)
            clear hV
            simp only [putsL, List.tail_cons, List.headD_cons]
            simp only [Act.put, List.setIfInBounds_toArray, List.set_cons_succ, List.set_cons_zero]
            have HZz := Lib.hid (HZ.out w2 hG)
            have HMm := Lib.hid Hm.out
            have hm3 : (m : Int) ≤ 1000000 := by have := Hm.out; omega
            clear hG
            go_wp2_with (fail)
            go_roundw
            case rel => exact HZz.out
            case measure => have := HMm.out; show (m : Int).toNat - (lo : Int).toNat < (hi : Int).toNat - (lo : Int).toNat; omega
    · obtain rfl : hi = lo := by omega
      have HPl : Hid (placeAt ws T hi) := Lib.hid ⟨by rw [← HN.out.1]; exact hhn, HB.out.1, by rw [← HN.out.1]; exact HB.out.2.1⟩
      have HPz : Hid (∀ w' b, (b = true ↔ hi < ws.length ∧ atW ws hi = T) → Below wr.heap.size wr w' → P (.returned (.tuple #[.int .i64 (hi : Int), .bool b])) w') := Lib.hid (fun w' b hb h => HYes.out w' hi b HPl.out hb (H1.out.2.trans ((HB1.out w' h).mono H1.out.2.size)))
      by_cases hin : hi < n
      · obtain ⟨x, pa, po, hx, hsa, _⟩ := HA.out.get (t := hi) (by rw [← HLn.out]; omega)
        subst hsa
        have HX : Hid (∀ w', Below wr.heap.size wr w' → w'.cell? ⟨pa, po + hi * 8, none⟩ = some (Sv x.p.w.key) ∧ w'.cell? ⟨pa, po + hi * 8 + 1, none⟩ = some (.int .i64 x.p.w.lo) ∧ w'.cell? ⟨pa, po + hi * 8 + 2, none⟩ = some (.int .i64 x.p.w.hi) ∧ w'.cell? ⟨pa, po + hi * 8 + 3, none⟩ = some (.int .i64 x.p.a.n) ∧ w'.cell? ⟨pa, po + hi * 8 + 4, none⟩ = some (.int .i64 x.p.a.a) ∧ w'.cell? ⟨pa, po + hi * 8 + 5, none⟩ = some (x.tv) ∧ w'.cell? ⟨pa, po + hi * 8 + 6, none⟩ = some (x.z) ∧ w'.cell? ⟨pa, po + hi * 8 + 7, none⟩ = some (.int .i64 x.p.r)) := by
          refine Lib.hid (fun w' h => ?_)
          obtain ⟨x', b', o', hx', ha', d⟩ := ((HA.out.below H1.out.2).below (HB1.out w' h)).get (t := hi) (by rw [← HLn.out]; omega)
          cases ha'
          rw [hx] at hx'
          cases hx'
          exact d
        obtain ⟨VX, hVX⟩ : ∃ V, V = Value.agg x.cells := ⟨_, rfl⟩
        obtain ⟨p, hp⟩ : ∃ p, p = placeW x.p.w T := ⟨_, rfl⟩
        have HCp : Hid (∀ w', Calls Tryz.prog 98 #[VX, VT] w' (Below0 w' (.int .i64 p))) := by
          rw [hVX, hVT, hp, HT.out]
          exact Lib.hid (fun w' => ohome1_any w' x ⟨tk, tl, th⟩)
        have HVX := Lib.hid hVX
        have HI0 : Hid ((0 : Int) ≤ (hi : Int) ∧ (hi : Int) < (n : Int)) := Lib.hid (by omega)
        obtain ⟨qz, hqz⟩ : ∃ b, b = (p == 0) := ⟨_, rfl⟩
        have HQ := Lib.hid hqz
        have HF : Hid (qz = true ↔ hi < ws.length ∧ atW ws hi = T) := by
          rw [hqz, hp, atW_some (HW.out hi _ hx), beq_iff_eq]
          refine Lib.hid ⟨fun h => ⟨by rw [← HN.out.1]; exact hin, ?_⟩, fun h => ?_⟩
          · rcases placeW_cases x.p.w T with ⟨e, _⟩ | ⟨_, e⟩ | ⟨e, _⟩
            · rw [e] at h; cases h
            · exact e
            · rw [e] at h; cases h
          · rcases placeW_cases x.p.w T with ⟨_, e⟩ | ⟨e, _⟩ | ⟨_, e⟩
            · rw [h.2] at e; exact e.irrefl.elim
            · exact e
            · rw [h.2] at e; exact e.irrefl.elim
        obtain ⟨⟨⟨xk, xl, xh⟩, ⟨xn, xa, xt, xu, xv⟩, xr⟩, xtv, xz, xht, xhz⟩ := x
        clear hx hVX hp hin hlt hlh hhn hVT hqz
        go_upto_region 8 with (fail)
        refine wp_region_skip_frame (fun i => ([] : List Nat).contains i) (by kernel_rfl) [none, none, none, none, none, none, none, none, none, none, none, none, none, none, none, none] [] (fun i_ _ _ v_ => v_ = (((Value.int .i64 (hi : Int)) :: (Value.int .i64 (hi : Int)) :: (Value.int .i64 (n : Int)) :: (Value.bool true) :: (Value.bool true) :: (Value.func (.func 98) #[] #[]) :: (Value.slice (some ⟨pa, po, none⟩) n sc) :: (Value.int .i64 (hi : Int)) :: (Value.pointer (some ⟨pa, po + hi * 8, none⟩)) :: VX :: VT :: (Value.int .i64 p) :: (Value.bool qz) :: (Value.bool qz) :: (Value.int .i64 (hi : Int)) :: (Value.bool qz) :: ([] : List Value))).getD i_ undef) (fun _ w' => Below wr.heap.size wr w') (fun w w' => Below w.heap.size w w') (fun _ _ _ _ _ _ h => h) (by kernel_rfl) (by kernel_rfl) (by kernel_rfl) HG0.out (fun _ => ⟨rfl, rfl, rfl, rfl, rfl, fun _ _ h => .inl h, fun _ _ h => .inl h, fun _ _ h => .inl h, fun _ _ h => .inl h, fun _ _ h => .inl h, fun _ _ h => .inl h, fun _ _ h => .inl h, fun _ _ h => .inl h, rfl, rfl, rfl, trivial⟩) (fun _ h => by simp at h) ?_ ?_
        · refine ⟨?_, ?_, ?_, ?_, ?_, ?_, ?_, ?_, ?_, ?_, ?_, ?_, ?_, ?_, ?_, ?_, trivial⟩
          · intro _ _ a w' hG hout hpre K hK
            have q9 := ev_of ((hout 9 rfl).trans (show _ = .int .i64 (hi : Int) from rfl))
            clear hout hpre
            go_step
            exact hK _ _ rfl hG (Below.refl _ _)
          · intro _ _ a w' hG hout hpre K hK
            have q9 := ev_of ((hout 9 rfl).trans (show _ = .int .i64 (hi : Int) from rfl))
            clear hout hpre
            go_step
            exact hK _ _ rfl hG (Below.refl _ _)
          · intro _ _ a w' hG hout hpre K hK
            have q8 := ev_of ((hout 8 rfl).trans (show _ = .int .i64 (n : Int) from rfl))
            clear hout hpre
            go_step
            exact hK _ _ rfl hG (Below.refl _ _)
          · intro _ _ a w' hG hout hpre K hK
            obtain ⟨p0, p1, _⟩ := hpre
            have q36 := ev_of (show a.eval (.tmp 36) = .int .i64 (hi : Int) from p0)
            have q37 := ev_of (show a.eval (.tmp 37) = .int .i64 (n : Int) from p1)
            have hi0 := HI0.out
            clear hout p0 p1
            go_step
            exact hK _ _ rfl hG (Below.refl _ _)
          · intro _ _ a w' hG hout hpre K hK
            obtain ⟨p0, _⟩ := hpre
            have q38 := ev_of (show a.eval (.tmp 38) = .bool true from p0)
            clear hout p0
            go_step
            exact hK _ _ rfl hG (Below.refl _ _)
          · intro _ _ a w' hG hout hpre K hK
            have q2 := ev_of ((hout 2 rfl).trans (show _ = .func (.func 98) #[] #[] from rfl))
            clear hout hpre
            go_step
            exact hK _ _ rfl hG (Below.refl _ _)
          · intro _ _ a w' hG hout hpre K hK
            have q0 := ev_of ((hout 0 rfl).trans (show _ = .slice (some ⟨pa, po, none⟩) n sc from rfl))
            clear hout hpre
            go_step
            exact hK _ _ rfl hG (Below.refl _ _)
          · intro _ _ a w' hG hout hpre K hK
            have q9 := ev_of ((hout 9 rfl).trans (show _ = .int .i64 (hi : Int) from rfl))
            clear hout hpre
            go_step
            exact hK _ _ rfl hG (Below.refl _ _)
          · intro _ _ a w' hG hout hpre K hK
            obtain ⟨p0, p1, _⟩ := hpre
            have q41 := ev_of (show a.eval (.tmp 41) = .slice (some ⟨pa, po, none⟩) n sc from p0)
            have q42 := ev_of (show a.eval (.tmp 42) = .int .i64 (hi : Int) from p1)
            have hi0 := HI0.out
            clear hout p0 p1
            go_step
            exact hK _ _ rfl hG (Below.refl _ _)
          · intro _ _ a w' hG hout hpre K hK
            obtain ⟨p0, _⟩ := hpre
            have q43 := ev_of (show a.eval (.tmp 43) = .pointer (some ⟨pa, po + hi * 8, none⟩) from p0)
            obtain ⟨d0, d1, d2, d3, d4, d5, d6, d7⟩ := HX.out w' hG
            clear hout p0
            go_step
            exact hK _ _ HVX.out.symm hG (Below.refl _ _)
          · intro _ _ a w' hG hout hpre K hK
            have q4 := ev_of ((hout 4 rfl).trans (show _ = .pointer (some ⟨tb, 0, none⟩) from rfl))
            obtain ⟨d0, d1, d2⟩ := HRt.out w' hG
            clear hout hpre
            go_step
            exact hK _ _ HVT.out.symm hG (Below.refl _ _)
          · intro _ _ a w' hG hout hpre K hK
            obtain ⟨p0, p1, p2, _⟩ := hpre
            have q40 := ev_of (show a.eval (.tmp 40) = .func (.func 98) #[] #[] from p0)
            have q44 := ev_of (show a.eval (.tmp 44) = VX from p1)
            have q45 := ev_of (show a.eval (.tmp 45) = VT from p2)
            have HS := Lib.hid (HCp.out w')
            clear hout p0 p1 p2
            go_step
            refine HS.out.mono ?_
            rintro e w3 ⟨rfl, hB⟩
            exact hK _ _ rfl (hG.trans (hB.mono hG.size)) hB
          · intro _ _ a w' hG hout hpre K hK
            obtain ⟨p0, _⟩ := hpre
            have q46 := ev_of (show a.eval (.tmp 46) = .int .i64 p from p0)
            have e := HQ.out.symm
            clear hout p0
            go_step
            exact hK _ _ rfl hG (Below.refl _ _)
          · intro _ _ a w' hG hout hpre K hK
            obtain ⟨p0, p1, _⟩ := hpre
            have q39 := ev_of (show a.eval (.tmp 39) = .bool true from p0)
            have q47 := ev_of (show a.eval (.tmp 47) = .bool qz from p1)
            clear hout p0 p1
            go_step
            exact hK _ _ rfl hG (Below.refl _ _)
          · intro _ _ a w' hG hout hpre K hK
            obtain ⟨p0, _⟩ := hpre
            have q35 := ev_of (show a.eval (.tmp 35) = .int .i64 (hi : Int) from p0)
            clear hout p0
            go_step
            exact hK _ _ rfl hG (Below.refl _ _)
          · intro _ _ a w' hG hout hpre K hK
            obtain ⟨p0, _⟩ := hpre
            have q48 := ev_of (show a.eval (.tmp 48) = .bool qz from p0)
            clear hout p0
            go_step
            exact hK _ _ rfl hG (Below.refl _ _)
        · intro vs w2 hG hlen hV
          match vs, hlen, hV with
          | [v0, v1, v2, v3, v4, v5, v6, v7, v8, v9, v10, v11, v12, v13, v14, v15], _, hV =>
            obtain rfl : v14 = .int .i64 (hi : Int) := (hV 14 6 v14 rfl rfl)
            obtain rfl : v15 = .bool qz := (hV 15 7 v15 rfl rfl)
            clear hV
            simp only [putsL, List.tail_cons, List.headD_cons]
            simp only [Act.put, List.setIfInBounds_toArray, List.set_cons_succ, List.set_cons_zero]
            have HZz := Lib.hid (HPz.out w2 qz HF.out hG)
            clear hG
            go_wp2_with (fail)
            exact HZz.out
      · have HI0 : Hid (decide (hi < n) = false) := Lib.hid (decide_eq_false hin)
        have HF : Hid (false = true ↔ hi < ws.length ∧ atW ws hi = T) := Lib.hid ⟨fun h => (by cases h), fun h => absurd h.1 (by rw [← HN.out.1]; exact hin)⟩
        clear hin hlt hlh hhn hVT
        go_upto_region 8 with (fail)
        refine wp_region_skip_frame (fun i => ([5, 6, 7, 8, 9, 10, 11, 12] : List Nat).contains i) (by kernel_rfl) [none, none, none, none, none, none, none, none, none, none, none, none, none, none, none, none] [] (fun i_ _ _ v_ => v_ = (((Value.int .i64 (hi : Int)) :: (Value.int .i64 (hi : Int)) :: (Value.int .i64 (n : Int)) :: (Value.bool false) :: (Value.bool false) :: undef :: undef :: undef :: undef :: undef :: undef :: undef :: undef :: (Value.bool false) :: (Value.int .i64 (hi : Int)) :: (Value.bool false) :: ([] : List Value))).getD i_ undef) (fun _ w' => Below wr.heap.size wr w') (fun w w' => Below w.heap.size w w') (fun _ _ _ _ _ _ h => h) (by kernel_rfl) (by kernel_rfl) (by kernel_rfl) HG0.out (fun _ => ⟨rfl, rfl, rfl, rfl, rfl, fun _ _ h => .inl h, fun _ _ h => .inl h, fun _ _ h => .inl h, fun _ _ h => .inl h, fun _ _ h => .inl h, fun _ _ h => .inl h, fun _ _ h => .inl h, fun _ _ h => .inl h, rfl, rfl, rfl, trivial⟩) (fun i hi => by have hm := List.contains_iff_mem.1 hi; simp only [List.mem_cons, List.not_mem_nil, or_false] at hm; rcases hm with rfl | rfl | rfl | rfl | rfl | rfl | rfl | rfl <;> exact ⟨rfl, fun _ _ => rfl⟩) ?_ ?_
        · refine ⟨?_, ?_, ?_, ?_, ?_, ?_, ?_, ?_, ?_, ?_, ?_, ?_, ?_, ?_, ?_, ?_, trivial⟩
          · intro _ _ a w' hG hout hpre K hK
            have q9 := ev_of ((hout 9 rfl).trans (show _ = .int .i64 (hi : Int) from rfl))
            clear hout hpre
            go_step
            exact hK _ _ rfl hG (Below.refl _ _)
          · intro _ _ a w' hG hout hpre K hK
            have q9 := ev_of ((hout 9 rfl).trans (show _ = .int .i64 (hi : Int) from rfl))
            clear hout hpre
            go_step
            exact hK _ _ rfl hG (Below.refl _ _)
          · intro _ _ a w' hG hout hpre K hK
            have q8 := ev_of ((hout 8 rfl).trans (show _ = .int .i64 (n : Int) from rfl))
            clear hout hpre
            go_step
            exact hK _ _ rfl hG (Below.refl _ _)
          · intro _ _ a w' hG hout hpre K hK
            obtain ⟨p0, p1, _⟩ := hpre
            have q36 := ev_of (show a.eval (.tmp 36) = .int .i64 (hi : Int) from p0)
            have q37 := ev_of (show a.eval (.tmp 37) = .int .i64 (n : Int) from p1)
            have hi0 := HI0.out
            clear hout p0 p1
            go_step
            exact hK _ _ rfl hG (Below.refl _ _)
          · intro _ _ a w' hG hout hpre K hK
            obtain ⟨p0, _⟩ := hpre
            have q38 := ev_of (show a.eval (.tmp 38) = .bool false from p0)
            clear hout p0
            go_step
            exact hK _ _ rfl hG (Below.refl _ _)
          · exact fun h => absurd h (by decide)
          · exact fun h => absurd h (by decide)
          · exact fun h => absurd h (by decide)
          · exact fun h => absurd h (by decide)
          · exact fun h => absurd h (by decide)
          · exact fun h => absurd h (by decide)
          · exact fun h => absurd h (by decide)
          · exact fun h => absurd h (by decide)
          · intro _ _ a w' hG hout hpre K hK
            obtain ⟨p0, p1, _⟩ := hpre
            have q39 := ev_of (show a.eval (.tmp 39) = .bool false from p0)
            have q47 := ev_of (show a.eval (.tmp 47) = undef from p1)
            clear hout p0 p1
            go_step
            exact hK _ _ rfl hG (Below.refl _ _)
          · intro _ _ a w' hG hout hpre K hK
            obtain ⟨p0, _⟩ := hpre
            have q35 := ev_of (show a.eval (.tmp 35) = .int .i64 (hi : Int) from p0)
            clear hout p0
            go_step
            exact hK _ _ rfl hG (Below.refl _ _)
          · intro _ _ a w' hG hout hpre K hK
            obtain ⟨p0, _⟩ := hpre
            have q48 := ev_of (show a.eval (.tmp 48) = .bool false from p0)
            clear hout p0
            go_step
            exact hK _ _ rfl hG (Below.refl _ _)
        · intro vs w2 hG hlen hV
          match vs, hlen, hV with
          | [v0, v1, v2, v3, v4, v5, v6, v7, v8, v9, v10, v11, v12, v13, v14, v15], _, hV =>
            obtain rfl : v14 = .int .i64 (hi : Int) := (hV 14 6 v14 rfl rfl)
            obtain rfl : v15 = .bool false := (hV 15 7 v15 rfl rfl)
            clear hV
            simp only [putsL, List.tail_cons, List.headD_cons]
            simp only [Act.put, List.setIfInBounds_toArray, List.set_cons_succ, List.set_cons_zero]
            have HZz := Lib.hid (HPz.out w2 false HF.out hG)
            clear hG
            go_wp2_with (fail)
            exact HZz.out
end Go.Proofs.YtjeeghafachebaaGreat
