/-
  The contract of ShaSame.
-/
import Derived.Test.YtoleebkpinhhlaaDoorShaSameOps
namespace Go.Proofs.YtoleebkpinhhlaaDoor
open Go.RowKit

theorem SrcP.take {w : World} {a : Option Addr} {m : List (BitVec 8)} (h : SrcP w a m.length m) {k : Nat} (hk : k ≤ m.length) : SrcP w a (m.take k).length (m.take k) := by
  rcases h with h | ⟨b, o, ha, hc⟩
  · exact .inl (by simp; omega)
  · refine .inr ⟨b, o, ha, fun i hi => ?_⟩
    simp at hi
    rw [hc i (by omega)]
    simp [gl, show i < k by omega]
theorem SrcP.drop {w : World} {a : Option Addr} {m : List (BitVec 8)} (h : SrcP w a m.length m) {k c : Nat} (hk : k ≤ m.length) (hc : m.length ≤ c) : SrcP w (if c = k then a else a.map (·.add k)) (m.drop k).length (m.drop k) := by
  rcases h with h | ⟨b, o, rfl, hc'⟩
  · exact .inl (by simp; omega)
  · by_cases e : k = m.length
    · exact .inl (by simp; omega)
    · refine .inr ⟨b, o + k, by rw [if_neg (by omega)]; simp [addr_add], fun i hi => ?_⟩
      simp at hi
      rw [Nat.add_assoc, hc' (k + i) (by omega)]
      simp [gl]

/-- What lies in memory when ShaSame begins its last statement. -/
def SameAt (W0 : World) (b : Nat) (a1 a2 A2 : Option Addr) (m1 m2 p q : List (BitVec 8)) : Prop :=
  (∃ c, W0.heap[b]? = some (.cells c 38 (0, 0)) ∧ HashW c m1) ∧ SrcP W0 a1 m1.length m1 ∧ SrcP W0 a2 m2.length m2 ∧ SrcP W0 a1 p.length p ∧ SrcP W0 A2 q.length q ∧ p ++ q = m1 ∧
  Tables W0 ∧ 0 < W0.heap.size ∧ 1 < W0.heap.size
theorem SameAt.below {W0 w : World} {b : Nat} {a1 a2 A2 : Option Addr} {m1 m2 p q : List (BitVec 8)} (h : SameAt W0 b a1 a2 A2 m1 m2 p q) (hG : Below W0.heap.size W0 w) : SameAt w b a1 a2 A2 m1 m2 p q := by
  obtain ⟨⟨c, hc, hH⟩, h1, h2, h3, h4, h5, hT, g0, g1⟩ := h
  have hs := hG.size
  exact ⟨⟨c, (hG.block _ (Array.getElem?_eq_some_iff.1 hc).1).trans hc, hH⟩, h1.below hG, h2.below hG, h3.below hG, h4.below hG, h5, hT.below hG, by omega, by omega⟩

def sameVs (W0 : World) (b k : Nat) (a1 a2 A2 : Option Addr) (c1 c2 C2 : Nat) (m1 m2 p q : List (BitVec 8)) : List StV :=
   [stEq (.slice a1 m1.length c1),
    stEq (.slice a2 m2.length c2),
    stEq (.bool (decide (m1 = m2))),
    stEq (.slice a1 m1.length c1),
    stEq (.string (strOf m1)),
    stEq (.slice a2 m2.length c2),
    stEq (.string (strOf m2)),
    stEq (.bool (decide (m1 = m2))),
    stEq (.bool true),
    stEq (.bool true),
    stEq (.slice a1 m1.length c1),
    stSl W0.heap.size 0 #[] 5,
    stEq (.slice a1 m1.length c1),
    stSrc m1,
    stEq (.bool true),
    stEq (.bool true),
    stEq (.bool true),
    stEq (.pointer (some ⟨b, 0, none⟩)),
    stEq (.agg (ShaA m1)),
    stEq (.slice a1 m1.length c1),
    stParts 1 m1,
    stEq (.agg (ShaA m1)),
    stEq (.bool true),
    stEq (.bool true),
    stEq (.bool true),
    stEq (.slice a1 m1.length c1),
    stEq (.int .i64 (k : Int)),
    stEq (.slice a1 p.length c1),
    stEq (.slice a1 m1.length c1),
    stEq (.int .i64 (k : Int)),
    stEq (.slice A2 q.length C2),
    stParts 2 m1,
    stEq (.agg (ShaA m1)),
    stEq (.slice a1 m1.length c1),
    stParts 1 m1,
    stEq (.agg (ShaA m1)),
    stEq (.bool true),
    stEq (.bool true),
    stEq (.bool true)]

set_option maxRecDepth 100000 in
set_option maxHeartbeats 2000000 in
theorem shaSame_any (w : World) (a1 a2 : Option Addr) (m1 m2 : List (BitVec 8)) (c1 c2 cut : Nat) (h1 : SrcP w a1 m1.length m1) (h2 : SrcP w a2 m2.length m2) (hc1 : m1.length ≤ c1) (hc2 : m2.length ≤ c2)
    (hm1 : c1 ≤ 140737488355328) (hm2 : c2 ≤ 140737488355328) (hcut : cut < 65536) (hT : Tables w) (hgl : 0 < w.heap.size ∧ 1 < w.heap.size) :
    Calls Tryd.prog 5 #[.slice a1 m1.length c1, .slice a2 m2.length c2, .int .u16 (cut : Int)] w (Below0 w (.bool true)) := by
  obtain ⟨L1, hL1⟩ : ∃ L, L = m1.length := ⟨_, rfl⟩
  obtain ⟨L2, hL2⟩ : ∃ L, L = m2.length := ⟨_, rfl⟩
  rw [← hL1] at h1 hc1 ⊢
  rw [← hL2] at h2 hc2 ⊢
  have HL := Lib.hid (And.intro hL1 hL2)
  have HT := Lib.hid (And.intro hT hgl)
  have HS := Lib.hid (And.intro h1 h2)
  clear hL1 hL2 hT hgl h1 h2
  go_enter Tryd.func5, Tryd.ntmps5
  go_wp2_with (fail)
  refine (first_any w HT.out.1 HT.out.2).mono ?_
  rintro e w1 ⟨rfl, hB1⟩
  have H1 := Lib.hid hB1
  clear hB1
  dsimp only
  by_cases hbig : (3000 : Int) < (L1 : Int) + (L2 : Int)
  · go_wp2_with (fail)
    go_ret
    exact ⟨rfl, H1.out⟩
  · obtain ⟨k, hk⟩ : ∃ k, k = cut % (L1 + 1) := ⟨_, rfl⟩
    have hkl : k < L1 + 1 := by rw [hk]; exact Nat.mod_lt _ (by omega)
    obtain ⟨M, hM⟩ : ∃ M : Nat, (L1 : Int) + 1 = M := ⟨L1 + 1, by omega⟩
    have hMw : IntKind.i64.wrap (M : Int) = M := IntWalk.i64_in _ (by omega)
    have hM0 : ¬ (M : Int) = 0 := by omega
    have hkm : k = cut % M := by rw [hk]; congr 1; omega
    have et : (cut : Int).tmod (M : Int) = k := by rw [hkm]; exact (Int.tmod_eq_emod_of_nonneg (by omega)).trans (by simp)
    have em : (cut : Int) % (M : Int) = k := by rw [hkm]; simp
    have hcw : IntKind.i64.wrap (cut : Int) = cut := IntWalk.i64_in _ (by omega)
    have HK := Lib.hid (And.intro hk (And.intro hkl hkm))
    clear hk hkl hkm
    obtain ⟨p, hp⟩ : ∃ p, p = m1.take k := ⟨_, rfl⟩
    obtain ⟨q, hq⟩ : ∃ q, q = m1.drop k := ⟨_, rfl⟩
    obtain ⟨A2, hA2⟩ : ∃ A2 : Option Addr, A2 = if c1 = k then a1 else a1.map (·.add k) := ⟨_, rfl⟩
    obtain ⟨C2, hC2⟩ : ∃ C2, C2 = c1 - k := ⟨_, rfl⟩
    have hkL : k ≤ m1.length := by have := HK.out.2.1; have := HL.out.1; omega
    have hpl : p.length = k := by rw [hp]; simp; omega
    have hql : q.length = L1 - k := by rw [hq, HL.out.1]; simp
    have hpq : p ++ q = m1 := by rw [hp, hq]; exact List.take_append_drop _ _
    have hsh : ∀ W', (Instr.slice 24 (.slice a1 L1 c1) none (some (.int .i64 (k : Int))) none).run Tryd.prog W' = .ok (.slice a1 p.length c1) W' := fun W' => by
      rw [hpl]
      exact run_slice_sl_h _ _ Tryd.underlying24 Tryd.sizeOf5 a1 L1 c1 k (by have := HK.out.2.1; omega) W'
    have hsh2 : ∀ W', (Instr.sliceAt 24 (.slice a1 L1 c1) none (some (.int .i64 (k : Int))) none).run Tryd.prog W' = .ok (.slice a1 p.length c1) W' := fun W' => by
      rw [run_sliceAt_sl _ _ Tryd.underlying24]
      exact hsh W'
    have hsd : ∀ W', (Instr.slice 24 (.slice a1 L1 c1) (some (.int .i64 (k : Int))) none none).run Tryd.prog W' = .ok (.slice A2 q.length C2) W' := fun W' => by
      rw [hA2, hC2, hql]
      exact run_slice_sl_any _ _ Tryd.underlying24 Tryd.sizeOf5 a1 L1 c1 k (by have := HK.out.2.1; omega) W'
    have hsd2 : ∀ W', (Instr.sliceAt 24 (.slice a1 L1 c1) (some (.int .i64 (k : Int))) none none).run Tryd.prog W' = .ok (.slice A2 q.length C2) W' := fun W' => by
      rw [run_sliceAt_sl _ _ Tryd.underlying24]
      exact hsd W'
    have hsrc1 : SrcP w a1 m1.length m1 := by rw [← HL.out.1]; exact HS.out.1
    have hsrc2 : SrcP w a2 m2.length m2 := by rw [← HL.out.2]; exact HS.out.2
    have hsp : SrcP w a1 p.length p := by rw [hp]; exact hsrc1.take hkL
    have hsq : SrcP w A2 q.length q := by rw [hq, hA2]; exact hsrc1.drop hkL (by rw [← HL.out.1]; exact hc1)
    have hqC : q.length ≤ C2 ∧ C2 ≤ 140737488355328 ∧ p.length ≤ c1 ∧ m1.length ≤ 3000 ∧ m2.length ≤ 3000 ∧ m1.length ≤ c1 := by have := HL.out; omega
    have HP := Lib.hid (And.intro hsrc1 (And.intro hsrc2 (And.intro hsp (And.intro hsq (And.intro hpq hqC)))))
    have HPL := Lib.hid (And.intro hpl hql)
    clear hp hq hA2 hC2 hkL hpl hql hpq hsrc1 hsrc2 hsp hsq hqC
    go_upto_region 6 with (fail)
    go_wp2_with (fail)
    refine (new_any w1).mono ?_
    rintro e w2 ⟨rfl, hw2⟩
    dsimp only
    have hB2 : Below w1.heap.size w1 w2 := by rw [hw2]; exact (Below.refl _ w1).alloc (Nat.le_refl _) _
    have hb2 : w2.heap[w1.heap.size]? = some (.cells zeroHash 38 (0, 0)) := by rw [hw2]; exact heap_alloc_new w1 _
    have H2 := Lib.hid (And.intro hB2 hb2)
    clear hw2 hB2 hb2
    go_wp2_with (fail)
    obtain ⟨hs1, hs2, hsp, hsq, hpq, hqC, hC2, hpc, hm13, hm23, hm1c⟩ := HP.out
    obtain ⟨hB2, hb2⟩ := H2.out
    have hB1 := H1.out
    obtain ⟨hT, hgl⟩ := HT.out
    have hsz := hB1.size
    have hpql : p.length + q.length = m1.length := by rw [← hpq]; simp
    have hT2 := (hT.below hB1).below hB2
    have hsp2 := (hsp.below hB1).src (b := w1.heap.size) (Nat.le_refl _)
    have hsq2 := (hsq.below hB1).src (b := w1.heap.size) (Nat.le_refl _)
    refine (write_any w2 w1.heap.size zeroHash [] p a1 c1 hb2 zeroHash_is hT2 (by omega) (by omega) hpc (by omega) (hsp2.belowS hB2) (by simp; omega)).mono ?_
    rintro e w3 ⟨rfl, c3, hb3, hS3, hg3⟩
    dsimp only
    have hT3 := hT2.grown hg3 (by omega) (by omega)
    have hgl3 : 0 < w3.heap.size ∧ 1 < w3.heap.size := by have := hg3.size; have := hB2.size; omega
    have H3 := Lib.hid (And.intro hb3 (And.intro (show HashS c3 p from hS3) (And.intro hg3 (And.intro hT3 (And.intro hgl3 ((hsq2.belowS hB2).grown hg3))))))
    clear hs1 hs2 hsp hsq hpq hqC hC2 hpc hm13 hm23 hm1c hB2 hb2 hB1 hT hgl hsz hpql hT2 hsp2 hsq2 hb3 hS3 hg3 hT3 hgl3
    go_wp2_with (fail)
    obtain ⟨hs1, hs2, hsp, hsq, hpq, hqC, hC2, hpc, hm13, hm23, hm1c⟩ := HP.out
    obtain ⟨hb3, hS3, hg3, hT3, hgl3, hsq3⟩ := H3.out
    have hpql : p.length + q.length = m1.length := by rw [← hpq]; simp
    refine (sum_any w3 (some ⟨w1.heap.size, 0, none⟩) p (.inr ⟨_, c3, rfl, hb3, hS3.weak⟩) hT3 hgl3 (by omega)).mono ?_
    rintro e w4 ⟨rfl, hB4⟩
    dsimp only
    have hb4 : w4.heap[w1.heap.size]? = some (.cells c3 38 (0, 0)) := (hB4.block _ (Array.getElem?_eq_some_iff.1 hb3).1).trans hb3
    have H4 := Lib.hid (And.intro hB4 (And.intro hb4 (And.intro (hT3.below hB4) (hsq3.belowS hB4))))
    clear hs1 hs2 hsp hsq hpq hqC hC2 hpc hm13 hm23 hm1c hb3 hS3 hg3 hT3 hgl3 hsq3 hpql hB4 hb4
    go_wp2_with (fail)
    obtain ⟨hs1, hs2, hsp, hsq, hpq, hqC, hC2, hpc, hm13, hm23, hm1c⟩ := HP.out
    obtain ⟨hb3, hS3, hg3, hT3, hgl3, hsq3⟩ := H3.out
    obtain ⟨hB4, hb4, hT4, hsq4⟩ := H4.out
    obtain ⟨hB2, hb2⟩ := H2.out
    have hB1 := H1.out
    have hgl := HT.out.2
    have hsz := hB1.size
    have hpql : p.length + q.length = m1.length := by rw [← hpq]; simp
    refine (write_any w4 w1.heap.size c3 p q A2 C2 hb4 hS3.weak hT4 (by omega) (by omega) hqC (by omega) hsq4 (by omega)).mono ?_
    rintro e W0 ⟨rfl, c5, hb5, hS5, hg5⟩
    dsimp only
    have hB3 : Below w1.heap.size w2 w3 := ⟨hg3.os, hg3.tape, hg3.output, hg3.size, fun k hk => hg3.block k (by have := hB2.size; omega) (by simp; omega)⟩
    have hB5 : Below w1.heap.size w4 W0 := ⟨hg5.os, hg5.tape, hg5.output, hg5.size, fun k hk => hg5.block k (by have := hB2.size; have := hB3.size; have := hB4.size; omega) (by simp; omega)⟩
    have hBA : Below w1.heap.size w1 W0 := ((hB2.trans hB3).trans (hB4.mono (by have := hB2.size; have := hB3.size; omega))).trans hB5
    have hBW : Below w.heap.size w W0 := hB1.trans (hBA.mono hsz)
    have hF : SameAt W0 w1.heap.size a1 a2 A2 m1 m2 p q ∧ Below w.heap.size w W0 := by
      rw [hpq] at hS5
      have := hBW.size
      exact ⟨⟨⟨c5, hb5, hS5.weak⟩, hs1.below hBW, hs2.below hBW, hsp.below hBW, hsq.below hBW, hpq, HT.out.1.below hBW, by omega, by omega⟩, hBW⟩
    have HF := Lib.hid hF
    clear hs1 hs2 hsp hsq hpq hqC hC2 hpc hm13 hm23 hm1c hb3 hS3 hg3 hT3 hgl3 hsq3 hB4 hb4 hT4 hsq4 hB2 hb2 hB1 hgl hsz hpql hb5 hS5 hg5 hB3 hB5 hBA hBW hF H4 H3 H2 H1 et em hcw hM0 hMw hM hbig
    go_wp2_with (fail)
    have HSL := Lib.hid (And.intro hsh (And.intro hsh2 (And.intro hsd hsd2)))
    clear hsh hsh2 hsd hsd2
    obtain ⟨e1, e2⟩ := HL.out
    subst e1
    subst e2
    clear HL HS HPL HK hcut hc1 hc2
    refine wp_region_local (by kernel_rfl) (vOf (sameVs W0 w1.heap.size k a1 a2 A2 c1 c2 C2 m1 m2 p q)) (fun w' => Below W0.heap.size W0 w') Lay (vOf_st _) (by kernel_rfl) ⟨rfl, rfl, rfl, Nat.le_refl _, fun _ _ => rfl⟩ ⟨trivial, trivial, trivial, trivial, trivial, trivial, trivial, trivial, trivial, trivial, fun _ _ h => h, fun _ _ h => h, fun _ _ h => h, fun _ _ h => h, fun _ _ h => h, trivial, trivial, fun _ _ h => h, fun _ _ h => h, fun _ _ h => h, fun _ _ h => h, fun _ _ h => h, fun _ _ h => h, trivial, trivial, fun _ _ h => h, fun _ _ h => h, fun _ _ h => h, fun _ _ h => h, fun _ _ h => h, fun _ _ h => h, fun _ _ h => h, fun _ _ h => h, fun _ _ h => h, fun _ _ h => h, fun _ _ h => h, fun _ _ h => h, trivial, trivial, trivial⟩ ?_ ?_
    · have hF := HF.out.1
      generalize w1.heap.size = b at hF ⊢
      obtain ⟨_, _, _, _, hpq, hqC, hC2, hpc, hm13, hm23, hm1c⟩ := HP.out
      clear HF HT HP
      have HE := Lib.hid (eql_sum m1 m1 rfl)
      refine ⟨?_, ?_, ?_, ?_, ?_, ?_, ?_, ?_, ?_, ?_, ?_, ?_, ?_, ?_, ?_, ?_, ?_, ?_, ?_, ?_, ?_, ?_, ?_, ?_, ?_, ?_, ?_, ?_, ?_, ?_, ?_, ?_, ?_, ?_, ?_, ?_, ?_, ?_, ?_, trivial⟩
      · intro a w hG hout hpre K hK
        have q0 := ev_of ((hout 0 rfl).trans (show _ = .slice a1 m1.length c1 from rfl))
        clear hout hpre
        go_step
        exact hK _ _ rfl hG (Lay.refl _)
      · intro a w hG hout hpre K hK
        have q1 := ev_of ((hout 1 rfl).trans (show _ = .slice a2 m2.length c2 from rfl))
        clear hout hpre
        go_step
        exact hK _ _ rfl hG (Lay.refl _)
      · intro a w hG hout hpre K hK
        obtain ⟨p0, p1, _⟩ := hpre
        have q36 := ev_of (show a.eval (.tmp 36) = .slice a1 m1.length c1 from p0)
        have q37 := ev_of (show a.eval (.tmp 37) = .slice a2 m2.length c2 from p1)
        obtain ⟨_, k1, k2, _⟩ := hF.below hG
        have HS := Lib.hid (same_any w a1 a2 m1 m2 c1 c2 k1 k2 (by omega) (by omega))
        clear hout k1 k2
        go_step
        refine HS.out.mono ?_
        rintro e w1 ⟨rfl, n, rfl⟩
        exact hK _ _ rfl (below_draws hG n) (Lay.below (below_draws (Below.refl _ w) n))
      · intro a w hG hout hpre K hK
        have q0 := ev_of ((hout 0 rfl).trans (show _ = .slice a1 m1.length c1 from rfl))
        clear hout hpre
        go_step
        exact hK _ _ rfl hG (Lay.refl _)
      · intro a w hG hout hpre K hK
        obtain ⟨p0, _⟩ := hpre
        have q39 := ev_of (show a.eval (.tmp 39) = .slice a1 m1.length c1 from p0)
        clear hout
        have hstr := run_conv_str w a1 c1 m1 (hF.below hG).2.1
        go_step
        exact hK _ _ rfl hG (Lay.refl _)
      · intro a w hG hout hpre K hK
        have q1 := ev_of ((hout 1 rfl).trans (show _ = .slice a2 m2.length c2 from rfl))
        clear hout hpre
        go_step
        exact hK _ _ rfl hG (Lay.refl _)
      · intro a w hG hout hpre K hK
        obtain ⟨p0, _⟩ := hpre
        have q41 := ev_of (show a.eval (.tmp 41) = .slice a2 m2.length c2 from p0)
        clear hout
        have hstr := run_conv_str w a2 c2 m2 (hF.below hG).2.2.1
        go_step
        exact hK _ _ rfl hG (Lay.refl _)
      · intro a w hG hout hpre K hK
        obtain ⟨p0, p1, _⟩ := hpre
        have q40 := ev_of (show a.eval (.tmp 40) = .string (strOf m1) from p0)
        have q42 := ev_of (show a.eval (.tmp 42) = .string (strOf m2) from p1)
        clear hout
        go_step
        refine hK _ _ (show _ = Value.bool (decide (m1 = m2)) from ?_) hG (Lay.refl _)
        rw [← str_eq]
      · intro a w hG hout hpre K hK
        obtain ⟨p0, p1, _⟩ := hpre
        have q38 := ev_of (show a.eval (.tmp 38) = .bool (decide (m1 = m2)) from p0)
        have q43 := ev_of (show a.eval (.tmp 43) = .bool (decide (m1 = m2)) from p1)
        clear hout
        go_step
        exact hK _ _ rfl hG (Lay.refl _)
      · intro a w hG hout hpre K hK
        obtain ⟨p0, _⟩ := hpre
        have q44 := ev_of (show a.eval (.tmp 44) = .bool true from p0)
        clear hout
        go_step
        exact hK _ _ rfl hG (Lay.refl _)
      · intro a w hG hout hpre K hK
        have q0 := ev_of ((hout 0 rfl).trans (show _ = .slice a1 m1.length c1 from rfl))
        clear hout hpre
        go_step
        exact hK _ _ rfl hG (Lay.refl _)
      · intro a w hG hout hpre K hK
        clear hout hpre
        go_step
        exact hK _ _ ⟨w.heap.size, (0, 0), rfl, hG.size, heap_alloc_new w _⟩ (hG.alloc hG.size _) (Lay.below ((Below.refl _ w).alloc (Nat.le_refl _) _))
      · intro a w hG hout hpre K hK
        have q0 := ev_of ((hout 0 rfl).trans (show _ = .slice a1 m1.length c1 from rfl))
        clear hout hpre
        go_step
        exact hK _ _ rfl hG (Lay.refl _)
      · intro a w hG hout hpre K hK
        obtain ⟨p0, p1, _⟩ := hpre
        obtain ⟨g, fr, hv, hb, hg⟩ := show (stSl W0.heap.size 0 #[] 5).p w (a.eval (.tmp 47)) from p0
        obtain ⟨v, w1, hrun, hvv, hB⟩ := append_empty w g a1 c1 m1 (hF.below hG).2.1 (by omega)
        have p48 : a.eval (.tmp 48) = .slice a1 m1.length c1 := p1
        unfold Oper.wp
        simp only [execOp, resolve, invoke, builtin, List.map_toArray, List.map_cons, List.map_nil, hv, p48, Sem.run_bind, Sem.run_pure, hrun, Result.andThen]
        exact hK _ _ hvv (hG.trans (hB.mono hG.size)) (Lay.below hB)
      · intro a w hG hout hpre K hK
        obtain ⟨p0, p1, _⟩ := hpre
        have q46 := ev_of (show a.eval (.tmp 46) = .slice a1 m1.length c1 from p0)
        obtain ⟨a3, c3, hv, hs⟩ := show (stSrc m1).p w (a.eval (.tmp 49)) from p1
        have q49 := ev_of hv
        have HS := Lib.hid (same_any w a1 a3 m1 m1 c1 c3 (hF.below hG).2.1 hs (by omega) (by omega))
        clear hout hs hv
        go_step
        refine HS.out.mono ?_
        rintro e w1 ⟨rfl, n, rfl⟩
        exact hK _ _ (show Value.bool (decide (m1 = m1)) = .bool true by simp) (below_draws hG n) (Lay.below (below_draws (Below.refl _ w) n))
      · intro a w hG hout hpre K hK
        obtain ⟨p0, p1, _⟩ := hpre
        have q45 := ev_of (show a.eval (.tmp 45) = .bool true from p0)
        have q50 := ev_of (show a.eval (.tmp 50) = .bool true from p1)
        clear hout
        go_step
        exact hK _ _ rfl hG (Lay.refl _)
      · intro a w hG hout hpre K hK
        obtain ⟨p0, _⟩ := hpre
        have q51 := ev_of (show a.eval (.tmp 51) = .bool true from p0)
        clear hout
        go_step
        exact hK _ _ rfl hG (Lay.refl _)
      · intro a w hG hout hpre K hK
        have q8 := ev_of ((hout 8 rfl).trans (show _ = .pointer (some ⟨b, 0, none⟩) from rfl))
        clear hout hpre
        go_step
        exact hK _ _ rfl hG (Lay.refl _)
      · intro a w hG hout hpre K hK
        obtain ⟨p0, _⟩ := hpre
        have q53 := ev_of (show a.eval (.tmp 53) = .pointer (some ⟨b, 0, none⟩) from p0)
        obtain ⟨⟨c, hc, hH⟩, _, _, _, _, _, hT, hgl⟩ := hF.below hG
        have HS := Lib.hid (sum_any w (some ⟨b, 0, none⟩) m1 (.inr ⟨b, c, rfl, hc, hH⟩) hT hgl (by omega))
        clear hout hc hH hT hgl
        go_step
        refine HS.out.mono ?_
        rintro e w1 ⟨rfl, hB⟩
        exact hK _ _ rfl (hG.trans (hB.mono hG.size)) (Lay.below hB)
      · intro a w hG hout hpre K hK
        have q0 := ev_of ((hout 0 rfl).trans (show _ = .slice a1 m1.length c1 from rfl))
        clear hout hpre
        go_step
        exact hK _ _ rfl hG (Lay.refl _)
      · intro a w hG hout hpre K hK
        obtain ⟨p0, _⟩ := hpre
        have q55 := ev_of (show a.eval (.tmp 55) = .slice a1 m1.length c1 from p0)
        clear hout
        go_step
        obtain ⟨_, k1, _, k3, k4, _⟩ := hF.below hG
        have hB : Below w.heap.size w (w.alloc (.cells #[.slice a1 m1.length c1] 24)) := (Below.refl _ w).alloc (Nat.le_refl _) _
        refine hK _ _ ⟨w.heap.size, [⟨a1, c1, m1⟩], rfl, rfl, by simp [flat], .inr ⟨w.heap.size, 0, rfl, fun i p hp => ?_⟩, fun p hp => ?_⟩ (hG.alloc hG.size _) (Lay.below hB)
        · rw [cell_of_row _ _ _ _ _ _ (heap_alloc_new w _), Nat.zero_add]
          match i, hp with
          | 0, hp => cases hp; rfl
        · simp only [List.mem_cons, List.not_mem_nil, or_false] at hp
          subst hp
          exact ⟨hm1c, Nat.le_trans hm1 (by decide), k1.below hB⟩
      · intro a w hG hout hpre K hK
        obtain ⟨p0, _⟩ := hpre
        obtain ⟨g, ps, hv, hn, hm, hP, hok⟩ := show (stParts 1 m1).p w (a.eval (.tmp 56)) from p0
        have q := ev_of hv
        obtain ⟨_, _, _, _, _, _, hT, hgl⟩ := hF.below hG
        have hs := sumF_any w (some ⟨g, 0, none⟩) 1 ps hP hok hT hgl (by rw [hm]; omega) (by omega)
        rw [hn, hm] at hs
        have HS := Lib.hid hs
        clear hout hs hn hm hP hok hv hT hgl
        go_step
        refine HS.out.mono ?_
        rintro e w1 ⟨rfl, hB⟩
        exact hK _ _ rfl (hG.trans (hB.mono hG.size)) (Lay.below hB)
      · intro a w hG hout hpre K hK
        obtain ⟨p0, p1, _⟩ := hpre
        have q54 := ev_of (show a.eval (.tmp 54) = .agg (ShaA m1) from p0)
        have q57 := ev_of (show a.eval (.tmp 57) = .agg (ShaA m1) from p1)
        clear hout
        obtain ⟨e1, e2, e3⟩ := HE.out
        go_step
        exact hK _ _ rfl hG (Lay.refl _)
      · intro a w hG hout hpre K hK
        obtain ⟨p0, p1, _⟩ := hpre
        have q52 := ev_of (show a.eval (.tmp 52) = .bool true from p0)
        have q58 := ev_of (show a.eval (.tmp 58) = .bool true from p1)
        clear hout
        go_step
        exact hK _ _ rfl hG (Lay.refl _)
      · intro a w hG hout hpre K hK
        obtain ⟨p0, _⟩ := hpre
        have q59 := ev_of (show a.eval (.tmp 59) = .bool true from p0)
        clear hout
        go_step
        exact hK _ _ rfl hG (Lay.refl _)
      · intro a w hG hout hpre K hK
        have q0 := ev_of ((hout 0 rfl).trans (show _ = .slice a1 m1.length c1 from rfl))
        clear hout hpre
        go_step
        exact hK _ _ rfl hG (Lay.refl _)
      · intro a w hG hout hpre K hK
        have q7 := ev_of ((hout 7 rfl).trans (show _ = .int .i64 (k : Int) from rfl))
        clear hout hpre
        go_step
        exact hK _ _ rfl hG (Lay.refl _)
      · intro a w hG hout hpre K hK
        obtain ⟨p0, p1, _⟩ := hpre
        have q61 := ev_of (show a.eval (.tmp 61) = .slice a1 m1.length c1 from p0)
        have q62 := ev_of (show a.eval (.tmp 62) = .int .i64 (k : Int) from p1)
        clear hout
        obtain ⟨e1, e2, _⟩ := HSL.out
        go_step
        exact hK _ _ rfl hG (Lay.refl _)
      · intro a w hG hout hpre K hK
        have q0 := ev_of ((hout 0 rfl).trans (show _ = .slice a1 m1.length c1 from rfl))
        clear hout hpre
        go_step
        exact hK _ _ rfl hG (Lay.refl _)
      · intro a w hG hout hpre K hK
        have q7 := ev_of ((hout 7 rfl).trans (show _ = .int .i64 (k : Int) from rfl))
        clear hout hpre
        go_step
        exact hK _ _ rfl hG (Lay.refl _)
      · intro a w hG hout hpre K hK
        obtain ⟨p0, p1, _⟩ := hpre
        have q64 := ev_of (show a.eval (.tmp 64) = .slice a1 m1.length c1 from p0)
        have q65 := ev_of (show a.eval (.tmp 65) = .int .i64 (k : Int) from p1)
        clear hout
        obtain ⟨_, _, e1, e2⟩ := HSL.out
        go_step
        exact hK _ _ rfl hG (Lay.refl _)
      · intro a w hG hout hpre K hK
        obtain ⟨p0, p1, _⟩ := hpre
        have q63 := ev_of (show a.eval (.tmp 63) = .slice a1 p.length c1 from p0)
        have q66 := ev_of (show a.eval (.tmp 66) = .slice A2 q.length C2 from p1)
        clear hout
        go_step
        obtain ⟨_, k1, _, k3, k4, _⟩ := hF.below hG
        have hB : Below w.heap.size w (w.alloc (.cells #[.slice a1 p.length c1, .slice A2 q.length C2] 24)) := (Below.refl _ w).alloc (Nat.le_refl _) _
        refine hK _ _ ⟨w.heap.size, [⟨a1, c1, p⟩, ⟨A2, C2, q⟩], rfl, rfl, (show flat [⟨a1, c1, p⟩, ⟨A2, C2, q⟩] = m1 by simpa [flat] using hpq), .inr ⟨w.heap.size, 0, rfl, fun i p hp => ?_⟩, fun p hp => ?_⟩ (hG.alloc hG.size _) (Lay.below hB)
        · rw [cell_of_row _ _ _ _ _ _ (heap_alloc_new w _), Nat.zero_add]
          match i, hp with
          | 0, hp => cases hp; rfl
          | 1, hp => cases hp; rfl
        · simp only [List.mem_cons, List.not_mem_nil, or_false] at hp
          rcases hp with rfl | rfl
          · exact ⟨hpc, Nat.le_trans hm1 (by decide), k3.below hB⟩
          · exact ⟨hqC, Nat.le_trans hC2 (by decide), k4.below hB⟩
      · intro a w hG hout hpre K hK
        obtain ⟨p0, _⟩ := hpre
        obtain ⟨g, ps, hv, hn, hm, hP, hok⟩ := show (stParts 2 m1).p w (a.eval (.tmp 67)) from p0
        have q := ev_of hv
        obtain ⟨_, _, _, _, _, _, hT, hgl⟩ := hF.below hG
        have hs := sumF_any w (some ⟨g, 0, none⟩) 2 ps hP hok hT hgl (by rw [hm]; omega) (by omega)
        rw [hn, hm] at hs
        have HS := Lib.hid hs
        clear hout hs hn hm hP hok hv hT hgl
        go_step
        refine HS.out.mono ?_
        rintro e w1 ⟨rfl, hB⟩
        exact hK _ _ rfl (hG.trans (hB.mono hG.size)) (Lay.below hB)
      · intro a w hG hout hpre K hK
        have q0 := ev_of ((hout 0 rfl).trans (show _ = .slice a1 m1.length c1 from rfl))
        clear hout hpre
        go_step
        exact hK _ _ rfl hG (Lay.refl _)
      · intro a w hG hout hpre K hK
        obtain ⟨p0, _⟩ := hpre
        have q69 := ev_of (show a.eval (.tmp 69) = .slice a1 m1.length c1 from p0)
        clear hout
        go_step
        obtain ⟨_, k1, _, k3, k4, _⟩ := hF.below hG
        have hB : Below w.heap.size w (w.alloc (.cells #[.slice a1 m1.length c1] 24)) := (Below.refl _ w).alloc (Nat.le_refl _) _
        refine hK _ _ ⟨w.heap.size, [⟨a1, c1, m1⟩], rfl, rfl, by simp [flat], .inr ⟨w.heap.size, 0, rfl, fun i p hp => ?_⟩, fun p hp => ?_⟩ (hG.alloc hG.size _) (Lay.below hB)
        · rw [cell_of_row _ _ _ _ _ _ (heap_alloc_new w _), Nat.zero_add]
          match i, hp with
          | 0, hp => cases hp; rfl
        · simp only [List.mem_cons, List.not_mem_nil, or_false] at hp
          subst hp
          exact ⟨hm1c, Nat.le_trans hm1 (by decide), k1.below hB⟩
      · intro a w hG hout hpre K hK
        obtain ⟨p0, _⟩ := hpre
        obtain ⟨g, ps, hv, hn, hm, hP, hok⟩ := show (stParts 1 m1).p w (a.eval (.tmp 70)) from p0
        have q := ev_of hv
        obtain ⟨_, _, _, _, _, _, hT, hgl⟩ := hF.below hG
        have hs := sumF_any w (some ⟨g, 0, none⟩) 1 ps hP hok hT hgl (by rw [hm]; omega) (by omega)
        rw [hn, hm] at hs
        have HS := Lib.hid hs
        clear hout hs hn hm hP hok hv hT hgl
        go_step
        refine HS.out.mono ?_
        rintro e w1 ⟨rfl, hB⟩
        exact hK _ _ rfl (hG.trans (hB.mono hG.size)) (Lay.below hB)
      · intro a w hG hout hpre K hK
        obtain ⟨p0, p1, _⟩ := hpre
        have q68 := ev_of (show a.eval (.tmp 68) = .agg (ShaA m1) from p0)
        have q71 := ev_of (show a.eval (.tmp 71) = .agg (ShaA m1) from p1)
        clear hout
        obtain ⟨e1, e2, e3⟩ := HE.out
        go_step
        exact hK _ _ rfl hG (Lay.refl _)
      · intro a w hG hout hpre K hK
        obtain ⟨p0, p1, _⟩ := hpre
        have q60 := ev_of (show a.eval (.tmp 60) = .bool true from p0)
        have q72 := ev_of (show a.eval (.tmp 72) = .bool true from p1)
        clear hout
        go_step
        exact hK _ _ rfl hG (Lay.refl _)
      · intro a w hG hout hpre K hK
        obtain ⟨p0, _⟩ := hpre
        have q73 := ev_of (show a.eval (.tmp 73) = .bool true from p0)
        clear hout
        go_step
        exact hK _ _ rfl hG (Lay.refl _)
    · intro a w' hG hd hsz hout hleft
      have hr : a.eval (.tmp 6) = .bool true := hleft 38 6 rfl
      clear hout hleft
      go_wp2_with (fail)
      refine bodyPost_ret (v := .bool true) ?_ (hd.trans rfl) ⟨rfl, HF.out.2.trans (hG.mono HF.out.2.size)⟩
      rw [results_tmp rfl, ← hr]
      rfl
end Go.Proofs.YtoleebkpinhhlaaDoor
