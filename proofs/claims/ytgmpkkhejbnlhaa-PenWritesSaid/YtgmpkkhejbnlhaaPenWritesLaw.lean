/-
  The contract of the statement PenWrites.
-/
import Derived.Test.YtgmpkkhejbnlhaaPenFirst
import Derived.Test.YtgmpkkhejbnlhaaPenActs
import Derived.Test.YtgmpkkhejbnlhaaLocalSeq
import Derived.Deep.CutBlock
namespace Go.Proofs.Ytgmpkkhejbnlhaa
open Go Go.RowKit

/-- Memory in a round: the act in block ob, the pen in block b: it has l0 ahead of the pen's call, and l1 behind it. -/
def WG (b ob : Nat) (wo : World) (κ N : Int) (pv : Value) (l0 l1 : List (BitVec 8)) (k : Nat) (w' : World) : Prop :=
  PenAt (fun k => k < b) w' b (if k = 0 then l0 else l1) ∧ PKept (fun k => k < b) b wo w' ∧ w'.heap[ob]? = some (.cells #[.int .i64 κ, .int .i64 N, pv] 29 (0, 0))
theorem WG.c0 {b ob : Nat} {wo w' : World} {κ N : Int} {pv : Value} {l0 l1 : List (BitVec 8)} {k : Nat} (h : WG b ob wo κ N pv l0 l1 k w') : w'.cell? ⟨ob, 0, none⟩ = some (.int .i64 κ) := by rw [cell_of_row _ _ _ _ _ _ h.2.2]; rfl
theorem WG.c1 {b ob : Nat} {wo w' : World} {κ N : Int} {pv : Value} {l0 l1 : List (BitVec 8)} {k : Nat} (h : WG b ob wo κ N pv l0 l1 k w') : w'.cell? ⟨ob, 1, none⟩ = some (.int .i64 N) := by rw [cell_of_row _ _ _ _ _ _ h.2.2]; rfl
theorem WG.c2 {b ob : Nat} {wo w' : World} {κ N : Int} {pv : Value} {l0 l1 : List (BitVec 8)} {k : Nat} (h : WG b ob wo κ N pv l0 l1 k w') : w'.cell? ⟨ob, 2, none⟩ = some pv := by rw [cell_of_row _ _ _ _ _ _ h.2.2]; rfl
theorem WG.skip {b ob : Nat} {wo w' : World} {κ N : Int} {pv : Value} {l0 l1 : List (BitVec 8)} (h : WG b ob wo κ N pv l0 l1 0 w') (e : l0 = l1) : WG b ob wo κ N pv l0 l1 1 w' := by
  subst e
  exact h
theorem WG.step {b ob : Nat} {wo w' w3 : World} {κ N : Int} {pv : Value} {l0 l1 : List (BitVec 8)} (h : WG b ob wo κ N pv l0 l1 0 w') (hP : PenAt (fun k => k < b) w3 b l1) (hK : PKept (fun k => k < b) b w' w3) (hne : ob ≠ b) : WG b ob wo κ N pv l0 l1 1 w3 :=
  ⟨hP, h.2.1.trans hK, hK.row h.2.2 (by decide) hne⟩
theorem WG.lt {b ob : Nat} {wo w' : World} {κ N : Int} {pv : Value} {l0 l1 : List (BitVec 8)} {k : Nat} (h : WG b ob wo κ N pv l0 l1 k w') (hb : b < wo.heap.size ∧ ob ≠ b) : ∀ i, i < b → i < w'.heap.size := fun i hi => by
  have := h.2.1.size
  omega
theorem run_conv_i64_u (w : World) (k : Int) : (convert 3 30 (.int .i64 k)).run Try.prog w = .ok (.int .u64 (IntKind.u64.wrap k)) w := by
  simp [convert, Conv.intToInt, run_underlying Try.underlying3, run_underlying Try.underlying30]
def PWRel (b : Nat) (W0 : World) (L : Nat) (s i : Value) (wr : World) : Prop :=
  ∃ (t : Nat) (acc : List (BitVec 8)), t ≤ L ∧ t ≤ 60 ∧ i = .int .i64 (t : Int) ∧ s = Sv acc ∧ acc.length ≤ t * 5010 ∧ PenAt (fun k => k < b) wr b acc ∧ PKept (fun k => k < b) b W0 wr
def PWCut (b : Nat) (W0 : World) (t : Nat) (s : Value) (wr : World) : Prop :=
  ∃ acc : List (BitVec 8), s = Sv acc ∧ acc.length ≤ (t + 1) * 5010 ∧ PenAt (fun k => k < b) wr b acc ∧ PKept (fun k => k < b) b W0 wr
set_option maxRecDepth 100000 in
set_option maxHeartbeats 4000000 in
theorem penWrites_any (w : World) (la : Option Addr) (lc : Nat) (l : List OpR) (hO : OpsR w la l) (hok : ∀ x ∈ l, x.ok w) (hl : l.length ≤ 9223372036854775807) :
    Calls Try.prog 3 #[.slice la l.length lc] w (Below0 w (.bool true)) := by
  obtain ⟨L, hL⟩ : ∃ L, L = l.length := ⟨_, rfl⟩
  rw [← hL] at hl ⊢
  have HP := Lib.hid (And.intro hO (And.intro hok hL))
  clear hO hok hL
  go_enter Try.func3, Try.ntmps3
  go_wp2_with (fail)
  refine (pfirst_any w).mono ?_
  rintro e w1 ⟨rfl, hB1⟩
  obtain ⟨W0, hW0⟩ : ∃ W0, W0 = w1.alloc (.cells #[.slice none 0 0] 27) := ⟨_, rfl⟩
  obtain ⟨b, hb⟩ : ∃ b, b = w1.heap.size := ⟨_, rfl⟩
  have H0 : Hid (PenAt (fun k => k < b) W0 b [] ∧ b < W0.heap.size ∧ w.heap.size ≤ b ∧ Below w.heap.size w W0) := by
    refine ⟨by rw [hW0, hb]; exact PenAt.new _ w1, by rw [hW0, hb]; simp, by rw [hb]; exact hB1.size, ?_⟩
    rw [hW0]
    exact hB1.trans ((Below.refl _ w1).alloc hB1.size _)
  clear hB1
  dsimp only
  go_upto_region 4 with (fail)
  rw [← hW0, ← hb]
  clear hW0 hb
  go_wp2_with (fail)
  rw [Sv_nil]
  go_loopw [5, 14] (PWRel b W0 L) (fun _ i _ => L - (intOf i).toNat)
  case atStart => exact ⟨0, [], by omega, by omega, rfl, rfl, by simp, H0.out.1, PKept.refl _ _ _⟩
  case round =>
    obtain ⟨t, acc, ht, ht60, rfl, rfl, hacc, hP, hK⟩ := hrel
    have HL := Lib.hid (And.intro hacc (And.intro hP hK))
    clear hacc hP hK
    by_cases hlt : t < L
    · have hi0 : (0 : Int) ≤ (t : Int) ∧ (t : Int) < (L : Int) := by omega
      obtain ⟨x, hx⟩ : ∃ x, l[t]? = some x := ⟨l[t]'(by have := HP.out.2.2; omega), List.getElem?_eq_getElem _⟩
      have hxm : x ∈ l := List.mem_of_getElem? hx
      have hBw : Below w.heap.size w wr := H0.out.2.2.2.trans (HL.out.2.2.below (B := w.heap.size) (fun k hk => (by have := H0.out.2.2.1; omega)) H0.out.2.2.1 (by have := H0.out; omega))
      have hxo := (HP.out.2.1 x hxm).below hBw
      rcases HP.out.1.below hBw with hnil | ⟨pb, po, rfl, hcells⟩
      · rw [hnil] at hx
        cases hx
      obtain ⟨d0, d1, d2⟩ := hcells t x hx
      obtain ⟨κ, hκ⟩ : ∃ κ, κ = x.kind := ⟨_, rfl⟩
      obtain ⟨N, hN⟩ : ∃ N, N = x.n := ⟨_, rfl⟩
      obtain ⟨pa, hpa⟩ : ∃ y, y = x.part.a := ⟨_, rfl⟩
      obtain ⟨m, hm⟩ : ∃ y, y = x.part.m := ⟨_, rfl⟩
      obtain ⟨pc, hpc⟩ : ∃ y, y = x.part.cap := ⟨_, rfl⟩
      obtain ⟨M, hM⟩ : ∃ M, M = m.length := ⟨_, rfl⟩
      have hpv : x.part.val = .slice pa M pc := by rw [hpa, hM, hm, hpc]; rfl
      rw [hpv] at d2
      rw [← hκ] at d0
      rw [← hN] at d1
      have hsrc : SrcK (fun k => k < b) b wr pa m := by
        have h1 := (HP.out.2.1 x hxm).1.2.2
        rw [hm, hpa]
        rcases h1 with h1 | ⟨ab, off, h1, h2⟩
        · exact .inl h1
        · by_cases h0 : x.part.m.length = 0
          · exact .inl h0
          · have hlb := block_lt_of_cell (h2 0 (by omega))
            have hlb' : ab < w.heap.size := hlb
            have := H0.out.2.2.1
            exact .inr ⟨ab, off, h1, by omega, by omega, fun i hi => (hBw.cell (p := ⟨ab, off + i, none⟩) hlb).trans (h2 i hi)⟩
      have hX : Hid (-9223372036854775808 ≤ N ∧ N < 9223372036854775808 ∧ M = m.length ∧ SrcK (fun k => k < b) b wr pa m) := by
        obtain ⟨_, _, h1, h2, _⟩ := hxo
        exact ⟨by rw [hN]; exact h1, by rw [hN]; exact h2, hM, hsrc⟩
      have hM47 : M ≤ 140737488355328 := by
        obtain ⟨_, _, _, _, h5⟩ := hxo
        rw [hM, hm]
        exact h5
      clear hx hxm hBw hxo hcells hκ hN hpa hm hpc hM hpv hsrc
      go_upto_region 9 with (fail)
      obtain ⟨wo, hwo⟩ : ∃ wo, wo = wr.alloc (.cells #[.int .i64 κ, .int .i64 N, .slice pa M pc] 29) := ⟨_, rfl⟩
      rw [← hwo]
      obtain ⟨ob, hob⟩ : ∃ ob, ob = wr.heap.size := ⟨_, rfl⟩
      rw [← hob]
      have hobl : wo.heap[ob]? = some (.cells #[.int .i64 κ, .int .i64 N, .slice pa M pc] 29 (0, 0)) := by rw [hwo, hob]; exact heap_alloc_new wr _
      have co0 : wo.cell? ⟨ob, 0, none⟩ = some (.int .i64 κ) := by rw [cell_of_row _ _ 0 _ _ _ hobl]; rfl
      have co1 : wo.cell? ⟨ob, 1, none⟩ = some (.int .i64 N) := by rw [cell_of_row _ _ 1 _ _ _ hobl]; rfl
      have co2 : wo.cell? ⟨ob, 2, none⟩ = some (.slice pa M pc) := by rw [cell_of_row _ _ 2 _ _ _ hobl]; rfl
      have hBo : Below wr.heap.size wr wo := by rw [hwo]; exact (Below.refl _ wr).alloc (Nat.le_refl _) _
      have hbr : b < wr.heap.size := HL.out.2.1.lt
      have HOb : Hid (b < wo.heap.size ∧ ob ≠ b) := ⟨by have := hBo.size; omega, by omega⟩
      have HROW := Lib.hid hobl
      have HPo : Hid (PenAt (fun k => k < b) wo b acc ∧ PKept (fun k => k < b) b W0 wo) := ⟨HL.out.2.1.below hBo, HL.out.2.2.trans (PKept.of_below hBo)⟩
      have HM : Hid (M = m.length ∧ SrcK (fun k => k < b) b wo pa m) := ⟨hX.out.2.2.1, hX.out.2.2.2.kept (PKept.of_below hBo)⟩
      have HE : Hid (Below w.heap.size w wo) := H0.out.2.2.2.trans (HPo.out.2.below (B := w.heap.size) (fun k hk => (by have := H0.out.2.2.1; omega)) H0.out.2.2.1 (by have := H0.out; omega))
      clear hwo hob hobl hBo d0 d1 d2 hbr
      by_cases h60 : 60 ≤ t
      · have h60' : (60 : Int) ≤ (t : Int) := by omega
        clear h60
        go_wp2_with (fail)
        go_ret
        exact ⟨rfl, HE.out⟩
      have h60' : ¬ (60 : Int) ≤ (t : Int) := by omega
      by_cases h5000 : 5000 < M
      · have h5000' : (5000 : Int) < (M : Int) := by omega
        clear h5000 h60
        go_wp2_with (fail)
        go_ret
        exact ⟨rfl, HE.out⟩
      have h5000' : ¬ (5000 : Int) < (M : Int) := by omega
      have HLEN : Hid (acc.length ≤ t * 5010 ∧ t < 60 ∧ M ≤ 5000 ∧ t < L) := ⟨HL.out.1, by omega, by omega, hlt⟩
      have HACC : Hid (acc.length ≤ 300600) := by have := HLEN.out; show _ ≤ _; omega
      clear h60 h5000 hM47
      obtain ⟨u, hu⟩ : ∃ u : Nat, IntKind.u64.wrap κ = (u : Int) := ⟨(IntKind.u64.wrap κ).toNat, by
        have : 0 ≤ IntKind.u64.wrap κ := by
          rw [wrap_u64]
          omega
        omega⟩
      have hcv : ∀ w, (convert 3 30 (.int .i64 κ)).run Try.prog w = .ok (.int .u64 (u : Int)) w := fun w => by rw [run_conv_i64_u, hu]
      clear hu
      obtain ⟨r, hr⟩ : ∃ r, r = u % 4 := ⟨_, rfl⟩
      have hr4 : r = 0 ∨ r = 1 ∨ r = 2 ∨ r = 3 := by omega
      have r1 : (u : Int) % 4 = (r : Int) := by omega
      clear hr
      rcases hr4 with h | h | h | h
      · have e0 : ((r : Int) == 0) = true := by rw [h]; rfl
        clear h
        go_upto_region 16 with (fail)
        by_cases hneg : N < 0
        · have hn0 : ¬ (0 : Int) ≤ N := by omega
          have HG0 : Hid (WG b ob wo κ N (.slice pa M pc) acc acc 0 wo.drew) := ⟨HPo.out.1, PKept.refl _ _ _, HROW.out⟩
          refine wp_region_seq_frame (by kernel_rfl) [none, none, none, some 0, none, none, none, none, none, none, none, none, none, none] [3] (vOfC [.pointer (some ⟨b, 0, none⟩), .pointer (some ⟨ob, 1, none⟩), .int .i64 N, .bool false, .pointer (some ⟨ob, 1, none⟩), .int .i64 N, .bool false, .bool false, .bool false, .pointer none, .pointer (some ⟨ob, 1, none⟩), .int .i64 N, .bool false, .bool false]) (WG b ob wo κ N (.slice pa M pc) acc acc) (fun _ _ => True) (fun _ _ _ _ _ h => h) (by kernel_rfl) (by kernel_rfl) (by kernel_rfl) HG0.out ⟨trivial, trivial, trivial, trivial, trivial, trivial, trivial, trivial, trivial, fun _ _ h => h, fun _ _ h => h, fun _ _ h => h, fun _ _ h => h, trivial, trivial⟩ ?_ ?_
          · refine ⟨?_, ?_, ?_, ?_, ?_, ?_, ?_, ?_, ?_, ?_, ?_, ?_, ?_, ?_, trivial⟩
            · intro k a w' hG hout hpre K hK
              have q3 := ev_of ((hout 3 rfl).trans (show _ = .pointer (some ⟨b, 0, none⟩) from rfl))
              clear hout hpre
              go_step
              exact hK _ _ rfl hG trivial
            · intro k a w' hG hout hpre K hK
              have q7 := ev_of ((hout 7 rfl).trans (show _ = .pointer (some ⟨ob, 0, none⟩) from rfl))
              clear hout hpre
              go_step
              exact hK _ _ rfl hG trivial
            · intro k a w' hG hout hpre K hK
              obtain ⟨p0, _⟩ := hpre
              have q47 := ev_of (show a.eval (.tmp 47) = .pointer (some ⟨ob, 1, none⟩) from p0)
              have hc := WG.c1 hG
              clear hout p0
              go_step
              exact hK _ _ rfl hG trivial
            · intro a w' hG hout hpre K hK
              obtain ⟨p0, p1, _⟩ := hpre
              have q46 := ev_of (show a.eval (.tmp 46) = .pointer (some ⟨b, 0, none⟩) from p0)
              have q48 := ev_of (show a.eval (.tmp 48) = .int .i64 N from p1)
              have HS := Lib.hid (pnumber_neg w' ⟨b, 0, none⟩ N hneg)
              clear hout p0 p1
              go_step
              refine HS.out.mono ?_
              rintro e w3 ⟨rfl, rfl⟩
              exact hK _ _ rfl (hG.skip rfl) trivial
            · intro k a w' hG hout hpre K hK
              have q7 := ev_of ((hout 7 rfl).trans (show _ = .pointer (some ⟨ob, 0, none⟩) from rfl))
              clear hout hpre
              go_step
              exact hK _ _ rfl hG trivial
            · intro k a w' hG hout hpre K hK
              obtain ⟨p0, _⟩ := hpre
              have q50 := ev_of (show a.eval (.tmp 50) = .pointer (some ⟨ob, 1, none⟩) from p0)
              have hc := WG.c1 hG
              clear hout p0
              go_step
              exact hK _ _ rfl hG trivial
            · intro k a w' hG hout hpre K hK
              obtain ⟨p0, _⟩ := hpre
              have q51 := ev_of (show a.eval (.tmp 51) = .int .i64 N from p0)
              clear hout p0
              go_step
              exact hK _ _ rfl hG trivial
            · intro k a w' hG hout hpre K hK
              obtain ⟨p0, p1, _⟩ := hpre
              have q49 := ev_of (show a.eval (.tmp 49) = .bool false from p0)
              have q52 := ev_of (show a.eval (.tmp 52) = .bool false from p1)
              clear hout p0 p1
              go_step
              exact hK _ _ rfl hG trivial
            · intro k a w' hG hout hpre K hK
              obtain ⟨p0, _⟩ := hpre
              have q53 := ev_of (show a.eval (.tmp 53) = .bool false from p0)
              clear hout p0
              go_step
              exact hK _ _ rfl hG trivial
            · intro k a w' hG hout hpre K hK
              have q4 := ev_of ((hout 4 rfl).trans (show _ = .pointer none from rfl))
              clear hout hpre
              go_step
              exact hK _ _ rfl hG trivial
            · intro k a w' hG hout hpre K hK
              have q7 := ev_of ((hout 7 rfl).trans (show _ = .pointer (some ⟨ob, 0, none⟩) from rfl))
              clear hout hpre
              go_step
              exact hK _ _ rfl hG trivial
            · intro k a w' hG hout hpre K hK
              obtain ⟨p0, _⟩ := hpre
              have q56 := ev_of (show a.eval (.tmp 56) = .pointer (some ⟨ob, 1, none⟩) from p0)
              have hc := WG.c1 hG
              clear hout p0
              go_step
              exact hK _ _ rfl hG trivial
            · intro k a w' hG hout hpre K hK
              obtain ⟨p0, p1, _⟩ := hpre
              have q55 := ev_of (show a.eval (.tmp 55) = .pointer none from p0)
              have q57 := ev_of (show a.eval (.tmp 57) = .int .i64 N from p1)
              have HS := Lib.hid (pnumber_nil w' N)
              clear hout p0 p1
              go_step
              refine HS.out.mono ?_
              rintro e w3 ⟨rfl, rfl⟩
              exact hK _ _ rfl hG trivial
            · intro k a w' hG hout hpre K hK
              obtain ⟨p0, p1, _⟩ := hpre
              have q54 := ev_of (show a.eval (.tmp 54) = .bool false from p0)
              have q58 := ev_of (show a.eval (.tmp 58) = .bool false from p1)
              clear hout p0 p1
              go_step
              exact hK _ _ rfl hG trivial
          · intro vs w2 hG hlen hV
            match vs, hlen, hV with
            | [v0, v1, v2, v3, v4, v5, v6, v7, v8, v9, v10, v11, v12, v13], _, hV =>
              obtain rfl : v13 = .bool false := hV 13 59 v13 rfl rfl
              clear hV
              simp only [putsL, List.tail_cons, List.headD_cons]
              simp only [Act.put, List.setIfInBounds_toArray, List.set_cons_succ, List.set_cons_zero]
              have HR := Lib.hid (And.intro (show PenAt (fun k => k < b) w2 b acc from hG.1) (HPo.out.2.trans hG.2.1))
              have c1 := hG.c1
              clear hG co0 co1 co2
              go_wp2_with (fail)
              exact ⟨⟨t + 1, acc, by have := HLEN.out; omega, by have := HLEN.out; omega, by go_num, rfl, by have := HLEN.out; omega, HR.out.1, HR.out.2⟩, by have := HLEN.out; simp [intOf]; omega⟩
        · obtain ⟨n, rfl⟩ := Int.eq_ofNat_of_zero_le (show 0 ≤ N by omega)
          have hn0 : (0 : Int) ≤ (n : Int) := by omega
          have hn63 : n < 9223372036854775808 := by have := hX.out.2.1; omega
          have HG0 : Hid (WG b ob wo κ (n : Int) (.slice pa M pc) acc (acc ++ wordL n) 0 wo.drew) := ⟨HPo.out.1, PKept.refl _ _ _, HROW.out⟩
          refine wp_region_seq_frame (by kernel_rfl) [none, none, none, some 0, none, none, none, none, none, none, none, none, none, none] [3] (vOfC [.pointer (some ⟨b, 0, none⟩), .pointer (some ⟨ob, 1, none⟩), .int .i64 (n : Int), .bool true, .pointer (some ⟨ob, 1, none⟩), .int .i64 (n : Int), .bool true, .bool false, .bool false, .pointer none, .pointer (some ⟨ob, 1, none⟩), .int .i64 (n : Int), .bool false, .bool false]) (WG b ob wo κ (n : Int) (.slice pa M pc) acc (acc ++ wordL n)) (fun _ _ => True) (fun _ _ _ _ _ h => h) (by kernel_rfl) (by kernel_rfl) (by kernel_rfl) HG0.out ⟨trivial, trivial, trivial, trivial, trivial, trivial, trivial, trivial, trivial, fun _ _ h => h, fun _ _ h => h, fun _ _ h => h, fun _ _ h => h, trivial, trivial⟩ ?_ ?_
          · refine ⟨?_, ?_, ?_, ?_, ?_, ?_, ?_, ?_, ?_, ?_, ?_, ?_, ?_, ?_, trivial⟩
            · intro k a w' hG hout hpre K hK
              have q3 := ev_of ((hout 3 rfl).trans (show _ = .pointer (some ⟨b, 0, none⟩) from rfl))
              clear hout hpre
              go_step
              exact hK _ _ rfl hG trivial
            · intro k a w' hG hout hpre K hK
              have q7 := ev_of ((hout 7 rfl).trans (show _ = .pointer (some ⟨ob, 0, none⟩) from rfl))
              clear hout hpre
              go_step
              exact hK _ _ rfl hG trivial
            · intro k a w' hG hout hpre K hK
              obtain ⟨p0, _⟩ := hpre
              have q47 := ev_of (show a.eval (.tmp 47) = .pointer (some ⟨ob, 1, none⟩) from p0)
              have hc := WG.c1 hG
              clear hout p0
              go_step
              exact hK _ _ rfl hG trivial
            · intro a w' hG hout hpre K hK
              obtain ⟨p0, p1, _⟩ := hpre
              have q46 := ev_of (show a.eval (.tmp 46) = .pointer (some ⟨b, 0, none⟩) from p0)
              have q48 := ev_of (show a.eval (.tmp 48) = .int .i64 (n : Int) from p1)
              have HS := Lib.hid (pnumber_any w' (fun k => k < b) b n acc hn63 hG.1 (hG.lt HOb.out) (by have := HACC.out; omega))
              clear hout p0 p1
              go_step
              refine HS.out.mono ?_
              rintro e w3 ⟨rfl, hP, hK3⟩
              exact hK _ _ rfl (hG.step hP hK3 HOb.out.2) trivial
            · intro k a w' hG hout hpre K hK
              have q7 := ev_of ((hout 7 rfl).trans (show _ = .pointer (some ⟨ob, 0, none⟩) from rfl))
              clear hout hpre
              go_step
              exact hK _ _ rfl hG trivial
            · intro k a w' hG hout hpre K hK
              obtain ⟨p0, _⟩ := hpre
              have q50 := ev_of (show a.eval (.tmp 50) = .pointer (some ⟨ob, 1, none⟩) from p0)
              have hc := WG.c1 hG
              clear hout p0
              go_step
              exact hK _ _ rfl hG trivial
            · intro k a w' hG hout hpre K hK
              obtain ⟨p0, _⟩ := hpre
              have q51 := ev_of (show a.eval (.tmp 51) = .int .i64 (n : Int) from p0)
              clear hout p0
              go_step
              exact hK _ _ rfl hG trivial
            · intro k a w' hG hout hpre K hK
              obtain ⟨p0, p1, _⟩ := hpre
              have q49 := ev_of (show a.eval (.tmp 49) = .bool true from p0)
              have q52 := ev_of (show a.eval (.tmp 52) = .bool true from p1)
              clear hout p0 p1
              go_step
              exact hK _ _ rfl hG trivial
            · intro k a w' hG hout hpre K hK
              obtain ⟨p0, _⟩ := hpre
              have q53 := ev_of (show a.eval (.tmp 53) = .bool false from p0)
              clear hout p0
              go_step
              exact hK _ _ rfl hG trivial
            · intro k a w' hG hout hpre K hK
              have q4 := ev_of ((hout 4 rfl).trans (show _ = .pointer none from rfl))
              clear hout hpre
              go_step
              exact hK _ _ rfl hG trivial
            · intro k a w' hG hout hpre K hK
              have q7 := ev_of ((hout 7 rfl).trans (show _ = .pointer (some ⟨ob, 0, none⟩) from rfl))
              clear hout hpre
              go_step
              exact hK _ _ rfl hG trivial
            · intro k a w' hG hout hpre K hK
              obtain ⟨p0, _⟩ := hpre
              have q56 := ev_of (show a.eval (.tmp 56) = .pointer (some ⟨ob, 1, none⟩) from p0)
              have hc := WG.c1 hG
              clear hout p0
              go_step
              exact hK _ _ rfl hG trivial
            · intro k a w' hG hout hpre K hK
              obtain ⟨p0, p1, _⟩ := hpre
              have q55 := ev_of (show a.eval (.tmp 55) = .pointer none from p0)
              have q57 := ev_of (show a.eval (.tmp 57) = .int .i64 (n : Int) from p1)
              have HS := Lib.hid (pnumber_nil w' (n : Int))
              clear hout p0 p1
              go_step
              refine HS.out.mono ?_
              rintro e w3 ⟨rfl, rfl⟩
              exact hK _ _ rfl hG trivial
            · intro k a w' hG hout hpre K hK
              obtain ⟨p0, p1, _⟩ := hpre
              have q54 := ev_of (show a.eval (.tmp 54) = .bool false from p0)
              have q58 := ev_of (show a.eval (.tmp 58) = .bool false from p1)
              clear hout p0 p1
              go_step
              exact hK _ _ rfl hG trivial
          · intro vs w2 hG hlen hV
            match vs, hlen, hV with
            | [v0, v1, v2, v3, v4, v5, v6, v7, v8, v9, v10, v11, v12, v13], _, hV =>
              obtain rfl : v13 = .bool false := hV 13 59 v13 rfl rfl
              clear hV
              simp only [putsL, List.tail_cons, List.headD_cons]
              simp only [Act.put, List.setIfInBounds_toArray, List.set_cons_succ, List.set_cons_zero]
              have HR := Lib.hid (And.intro (show PenAt (fun k => k < b) w2 b (acc ++ wordL n) from hG.1) (HPo.out.2.trans hG.2.1))
              have c1 := hG.c1
              have HN63 := Lib.hid hn63
              clear hG co0 co1 co2 hn63
              go_wp2_with (fail)
              obtain ⟨z, hz⟩ : ∃ z, z = wordL n := ⟨_, rfl⟩
              have hzl : z.length ≤ 10 := by rw [hz]; exact wordL_length _
              have hadd : ∀ w, (binOp .add 9 (Sv acc) (Sv z)).run Try.prog w = .ok (Sv (acc ++ z)) w := fun w => run_add_Sv w acc z (by have := HACC.out; omega)
              have hcall := rpNumber_any w2 n HN63.out
              rw [← hz] at hcall
              refine hcall.mono ?_
              rintro e w5 ⟨rfl, hB5⟩
              have HR2 : Hid (PenAt (fun k => k < b) w5 b (acc ++ z) ∧ PKept (fun k => k < b) b W0 w5 ∧ (acc ++ z).length ≤ (t + 1) * 5010) := by
                obtain ⟨k1, k2⟩ := HR.out
                rw [← hz] at k1
                have := HLEN.out
                exact ⟨k1.below hB5, k2.trans (PKept.of_below hB5), by rw [List.length_append]; omega⟩
              clear hz hzl hcall hB5
              dsimp only
              go_wp2_with (fail)
              exact ⟨⟨t + 1, acc ++ z, by have := HLEN.out; omega, by have := HLEN.out; omega, by go_num, rfl, HR2.out.2.2, HR2.out.1, HR2.out.2.1⟩, by have := HLEN.out; simp [intOf]; omega⟩
      · have e0 : ((r : Int) == 0) = false := by rw [h]; rfl
        have e1 : ((r : Int) == 1) = true := by rw [h]; rfl
        clear h
        go_wp2_with (fail)
        have hnb : -9223372036854775808 ≤ N ∧ N < 9223372036854775808 := ⟨hX.out.1, hX.out.2.1⟩
        refine (psigned_any wo (fun k => k < b) b N acc hnb.1 hnb.2 HPo.out.1 (fun k hk => Nat.lt_trans hk HOb.out.1) (by have := HACC.out; omega)).mono ?_
        rintro e w3 ⟨rfl, hP3, hK3⟩
        have c1 : w3.cell? ⟨ob, 1, none⟩ = some (.int .i64 N) := by rw [cell_of_row _ _ 1 _ _ _ (hK3.row HROW.out (by decide) HOb.out.2)]; rfl
        have HR := Lib.hid (And.intro hP3 (HPo.out.2.trans hK3))
        have HNB := Lib.hid hnb
        clear hP3 hK3 co0 co1 co2 hnb
        dsimp only
        go_wp2_with (fail)
        refine (psigned_nil w3 N).mono ?_
        rintro e w4 ⟨rfl, rfl⟩
        dsimp only
        go_wp2_with (fail)
        obtain ⟨z, hz⟩ : ∃ z, z = signedL N := ⟨_, rfl⟩
        have hzl : z.length ≤ 10 := by rw [hz]; exact wordL_length _
        have hadd : ∀ w, (binOp .add 9 (Sv acc) (Sv z)).run Try.prog w = .ok (Sv (acc ++ z)) w := fun w => run_add_Sv w acc z (by have := HACC.out; omega)
        have hcall := rpSigned_any w4 N HNB.out.1 HNB.out.2
        rw [← hz] at hcall
        refine hcall.mono ?_
        rintro e w5 ⟨rfl, hB5⟩
        have HR2 : Hid (PenAt (fun k => k < b) w5 b (acc ++ z) ∧ PKept (fun k => k < b) b W0 w5 ∧ (acc ++ z).length ≤ (t + 1) * 5010) := by
          obtain ⟨k1, k2⟩ := HR.out
          rw [← hz] at k1
          have := HLEN.out
          exact ⟨k1.below hB5, k2.trans (PKept.of_below hB5), by rw [List.length_append]; omega⟩
        clear hz hzl hcall hB5
        dsimp only
        go_wp2_with (fail)
        exact ⟨⟨t + 1, acc ++ z, by have := HLEN.out; omega, by have := HLEN.out; omega, by go_num, rfl, HR2.out.2.2, HR2.out.1, HR2.out.2.1⟩, by have := HLEN.out; simp [intOf]; omega⟩
      · have e0 : ((r : Int) == 0) = false := by rw [h]; rfl
        have e1 : ((r : Int) == 1) = false := by rw [h]; rfl
        have e2 : ((r : Int) == 2) = true := by rw [h]; rfl
        clear h
        go_upto_region 25 with (fail)
        by_cases hlong : 4096 < M
        · have hl0 : ¬ (M : Int) ≤ 4096 := by omega
          have HG0 : Hid (WG b ob wo κ N (.slice pa M pc) acc acc 0 wo.drew) := ⟨HPo.out.1, PKept.refl _ _ _, HROW.out⟩
          refine wp_region_seq_frame (by kernel_rfl) [none, none, none, some 0, none, none, none, none, none, none, none, none, none, none, none] [3] (vOfC [.pointer (some ⟨b, 0, none⟩), .pointer (some ⟨ob, 2, none⟩), .slice pa M pc, .bool false, .pointer (some ⟨ob, 2, none⟩), .slice pa M pc, .int .i64 (M : Int), .bool false, .bool false, .bool false, .pointer none, .pointer (some ⟨ob, 2, none⟩), .slice pa M pc, .bool false, .bool false]) (WG b ob wo κ N (.slice pa M pc) acc acc) (fun _ _ => True) (fun _ _ _ _ _ h => h) (by kernel_rfl) (by kernel_rfl) (by kernel_rfl) HG0.out ⟨trivial, trivial, trivial, trivial, trivial, trivial, trivial, trivial, trivial, trivial, fun _ _ h => h, fun _ _ h => h, fun _ _ h => h, fun _ _ h => h, trivial, trivial⟩ ?_ ?_
          · refine ⟨?_, ?_, ?_, ?_, ?_, ?_, ?_, ?_, ?_, ?_, ?_, ?_, ?_, ?_, ?_, trivial⟩
            · intro k a w' hG hout hpre K hK
              have q3 := ev_of ((hout 3 rfl).trans (show _ = .pointer (some ⟨b, 0, none⟩) from rfl))
              clear hout hpre
              go_step
              exact hK _ _ rfl hG trivial
            · intro k a w' hG hout hpre K hK
              have q7 := ev_of ((hout 7 rfl).trans (show _ = .pointer (some ⟨ob, 0, none⟩) from rfl))
              clear hout hpre
              go_step
              exact hK _ _ rfl hG trivial
            · intro k a w' hG hout hpre K hK
              obtain ⟨p0, _⟩ := hpre
              have q86 := ev_of (show a.eval (.tmp 86) = .pointer (some ⟨ob, 2, none⟩) from p0)
              have hc := WG.c2 hG
              clear hout p0
              go_step
              exact hK _ _ rfl hG trivial
            · intro a w' hG hout hpre K hK
              obtain ⟨p0, p1, _⟩ := hpre
              have q85 := ev_of (show a.eval (.tmp 85) = .pointer (some ⟨b, 0, none⟩) from p0)
              have q87 := ev_of (show a.eval (.tmp 87) = .slice pa M pc from p1)
              have HS := Lib.hid (ptext_long w' ⟨b, 0, none⟩ pa M pc hlong)
              clear hout p0 p1
              go_step
              refine HS.out.mono ?_
              rintro e w3 ⟨rfl, rfl⟩
              exact hK _ _ rfl (hG.skip rfl) trivial
            · intro k a w' hG hout hpre K hK
              have q7 := ev_of ((hout 7 rfl).trans (show _ = .pointer (some ⟨ob, 0, none⟩) from rfl))
              clear hout hpre
              go_step
              exact hK _ _ rfl hG trivial
            · intro k a w' hG hout hpre K hK
              obtain ⟨p0, _⟩ := hpre
              have q89 := ev_of (show a.eval (.tmp 89) = .pointer (some ⟨ob, 2, none⟩) from p0)
              have hc := WG.c2 hG
              clear hout p0
              go_step
              exact hK _ _ rfl hG trivial
            · intro k a w' hG hout hpre K hK
              obtain ⟨p0, _⟩ := hpre
              have q90 := ev_of (show a.eval (.tmp 90) = .slice pa M pc from p0)
              clear hout p0
              go_step
              exact hK _ _ rfl hG trivial
            · intro k a w' hG hout hpre K hK
              obtain ⟨p0, _⟩ := hpre
              have q91 := ev_of (show a.eval (.tmp 91) = .int .i64 (M : Int) from p0)
              clear hout p0
              go_step
              exact hK _ _ rfl hG trivial
            · intro k a w' hG hout hpre K hK
              obtain ⟨p0, p1, _⟩ := hpre
              have q88 := ev_of (show a.eval (.tmp 88) = .bool false from p0)
              have q92 := ev_of (show a.eval (.tmp 92) = .bool false from p1)
              clear hout p0 p1
              go_step
              exact hK _ _ rfl hG trivial
            · intro k a w' hG hout hpre K hK
              obtain ⟨p0, _⟩ := hpre
              have q93 := ev_of (show a.eval (.tmp 93) = .bool false from p0)
              clear hout p0
              go_step
              exact hK _ _ rfl hG trivial
            · intro k a w' hG hout hpre K hK
              have q4 := ev_of ((hout 4 rfl).trans (show _ = .pointer none from rfl))
              clear hout hpre
              go_step
              exact hK _ _ rfl hG trivial
            · intro k a w' hG hout hpre K hK
              have q7 := ev_of ((hout 7 rfl).trans (show _ = .pointer (some ⟨ob, 0, none⟩) from rfl))
              clear hout hpre
              go_step
              exact hK _ _ rfl hG trivial
            · intro k a w' hG hout hpre K hK
              obtain ⟨p0, _⟩ := hpre
              have q96 := ev_of (show a.eval (.tmp 96) = .pointer (some ⟨ob, 2, none⟩) from p0)
              have hc := WG.c2 hG
              clear hout p0
              go_step
              exact hK _ _ rfl hG trivial
            · intro k a w' hG hout hpre K hK
              obtain ⟨p0, p1, _⟩ := hpre
              have q95 := ev_of (show a.eval (.tmp 95) = .pointer none from p0)
              have q97 := ev_of (show a.eval (.tmp 97) = .slice pa M pc from p1)
              have HS := Lib.hid (ptext_nil w' pa M pc)
              clear hout p0 p1
              go_step
              refine HS.out.mono ?_
              rintro e w3 ⟨rfl, rfl⟩
              exact hK _ _ rfl hG trivial
            · intro k a w' hG hout hpre K hK
              obtain ⟨p0, p1, _⟩ := hpre
              have q94 := ev_of (show a.eval (.tmp 94) = .bool false from p0)
              have q98 := ev_of (show a.eval (.tmp 98) = .bool false from p1)
              clear hout p0 p1
              go_step
              exact hK _ _ rfl hG trivial
          · intro vs w2 hG hlen hV
            match vs, hlen, hV with
            | [v0, v1, v2, v3, v4, v5, v6, v7, v8, v9, v10, v11, v12, v13, v14], _, hV =>
              obtain rfl : v14 = .bool false := hV 14 99 v14 rfl rfl
              clear hV
              simp only [putsL, List.tail_cons, List.headD_cons]
              simp only [Act.put, List.setIfInBounds_toArray, List.set_cons_succ, List.set_cons_zero]
              have HR := Lib.hid (And.intro (show PenAt (fun k => k < b) w2 b acc from hG.1) (HPo.out.2.trans hG.2.1))
              have c2 := hG.c2
              clear hG co0 co1 co2
              go_wp2_with (fail)
              exact ⟨⟨t + 1, acc, by have := HLEN.out; omega, by have := HLEN.out; omega, by go_num, rfl, by have := HLEN.out; omega, HR.out.1, HR.out.2⟩, by have := HLEN.out; simp [intOf]; omega⟩
        · have hl0 : (M : Int) ≤ 4096 := by omega
          have hshort : M ≤ 4096 := by omega
          have HG0 : Hid (WG b ob wo κ N (.slice pa M pc) acc (acc ++ textL m) 0 wo.drew) := ⟨HPo.out.1, PKept.refl _ _ _, HROW.out⟩
          refine wp_region_seq_frame (by kernel_rfl) [none, none, none, some 0, none, none, none, none, none, none, none, none, none, none, none] [3] (vOfC [.pointer (some ⟨b, 0, none⟩), .pointer (some ⟨ob, 2, none⟩), .slice pa M pc, .bool true, .pointer (some ⟨ob, 2, none⟩), .slice pa M pc, .int .i64 (M : Int), .bool true, .bool false, .bool false, .pointer none, .pointer (some ⟨ob, 2, none⟩), .slice pa M pc, .bool false, .bool false]) (WG b ob wo κ N (.slice pa M pc) acc (acc ++ textL m)) (fun _ _ => True) (fun _ _ _ _ _ h => h) (by kernel_rfl) (by kernel_rfl) (by kernel_rfl) HG0.out ⟨trivial, trivial, trivial, trivial, trivial, trivial, trivial, trivial, trivial, trivial, fun _ _ h => h, fun _ _ h => h, fun _ _ h => h, fun _ _ h => h, trivial, trivial⟩ ?_ ?_
          · refine ⟨?_, ?_, ?_, ?_, ?_, ?_, ?_, ?_, ?_, ?_, ?_, ?_, ?_, ?_, ?_, trivial⟩
            · intro k a w' hG hout hpre K hK
              have q3 := ev_of ((hout 3 rfl).trans (show _ = .pointer (some ⟨b, 0, none⟩) from rfl))
              clear hout hpre
              go_step
              exact hK _ _ rfl hG trivial
            · intro k a w' hG hout hpre K hK
              have q7 := ev_of ((hout 7 rfl).trans (show _ = .pointer (some ⟨ob, 0, none⟩) from rfl))
              clear hout hpre
              go_step
              exact hK _ _ rfl hG trivial
            · intro k a w' hG hout hpre K hK
              obtain ⟨p0, _⟩ := hpre
              have q86 := ev_of (show a.eval (.tmp 86) = .pointer (some ⟨ob, 2, none⟩) from p0)
              have hc := WG.c2 hG
              clear hout p0
              go_step
              exact hK _ _ rfl hG trivial
            · intro a w' hG hout hpre K hK
              obtain ⟨p0, p1, _⟩ := hpre
              have q85 := ev_of (show a.eval (.tmp 85) = .pointer (some ⟨b, 0, none⟩) from p0)
              have q87 := ev_of (show a.eval (.tmp 87) = .slice pa M pc from p1)
              have HS := Lib.hid (ptext_any w' (fun k => k < b) b M pc pa acc m HM.out.1 (HM.out.2.kept hG.2.1) hshort hG.1 (hG.lt HOb.out) (by have := HACC.out; omega))
              clear hout p0 p1
              go_step
              refine HS.out.mono ?_
              rintro e w3 ⟨rfl, hP, hK3⟩
              exact hK _ _ rfl (hG.step hP hK3 HOb.out.2) trivial
            · intro k a w' hG hout hpre K hK
              have q7 := ev_of ((hout 7 rfl).trans (show _ = .pointer (some ⟨ob, 0, none⟩) from rfl))
              clear hout hpre
              go_step
              exact hK _ _ rfl hG trivial
            · intro k a w' hG hout hpre K hK
              obtain ⟨p0, _⟩ := hpre
              have q89 := ev_of (show a.eval (.tmp 89) = .pointer (some ⟨ob, 2, none⟩) from p0)
              have hc := WG.c2 hG
              clear hout p0
              go_step
              exact hK _ _ rfl hG trivial
            · intro k a w' hG hout hpre K hK
              obtain ⟨p0, _⟩ := hpre
              have q90 := ev_of (show a.eval (.tmp 90) = .slice pa M pc from p0)
              clear hout p0
              go_step
              exact hK _ _ rfl hG trivial
            · intro k a w' hG hout hpre K hK
              obtain ⟨p0, _⟩ := hpre
              have q91 := ev_of (show a.eval (.tmp 91) = .int .i64 (M : Int) from p0)
              clear hout p0
              go_step
              exact hK _ _ rfl hG trivial
            · intro k a w' hG hout hpre K hK
              obtain ⟨p0, p1, _⟩ := hpre
              have q88 := ev_of (show a.eval (.tmp 88) = .bool true from p0)
              have q92 := ev_of (show a.eval (.tmp 92) = .bool true from p1)
              clear hout p0 p1
              go_step
              exact hK _ _ rfl hG trivial
            · intro k a w' hG hout hpre K hK
              obtain ⟨p0, _⟩ := hpre
              have q93 := ev_of (show a.eval (.tmp 93) = .bool false from p0)
              clear hout p0
              go_step
              exact hK _ _ rfl hG trivial
            · intro k a w' hG hout hpre K hK
              have q4 := ev_of ((hout 4 rfl).trans (show _ = .pointer none from rfl))
              clear hout hpre
              go_step
              exact hK _ _ rfl hG trivial
            · intro k a w' hG hout hpre K hK
              have q7 := ev_of ((hout 7 rfl).trans (show _ = .pointer (some ⟨ob, 0, none⟩) from rfl))
              clear hout hpre
              go_step
              exact hK _ _ rfl hG trivial
            · intro k a w' hG hout hpre K hK
              obtain ⟨p0, _⟩ := hpre
              have q96 := ev_of (show a.eval (.tmp 96) = .pointer (some ⟨ob, 2, none⟩) from p0)
              have hc := WG.c2 hG
              clear hout p0
              go_step
              exact hK _ _ rfl hG trivial
            · intro k a w' hG hout hpre K hK
              obtain ⟨p0, p1, _⟩ := hpre
              have q95 := ev_of (show a.eval (.tmp 95) = .pointer none from p0)
              have q97 := ev_of (show a.eval (.tmp 97) = .slice pa M pc from p1)
              have HS := Lib.hid (ptext_nil w' pa M pc)
              clear hout p0 p1
              go_step
              refine HS.out.mono ?_
              rintro e w3 ⟨rfl, rfl⟩
              exact hK _ _ rfl hG trivial
            · intro k a w' hG hout hpre K hK
              obtain ⟨p0, p1, _⟩ := hpre
              have q94 := ev_of (show a.eval (.tmp 94) = .bool false from p0)
              have q98 := ev_of (show a.eval (.tmp 98) = .bool false from p1)
              clear hout p0 p1
              go_step
              exact hK _ _ rfl hG trivial
          · intro vs w2 hG hlen hV
            match vs, hlen, hV with
            | [v0, v1, v2, v3, v4, v5, v6, v7, v8, v9, v10, v11, v12, v13, v14], _, hV =>
              obtain rfl : v14 = .bool false := hV 14 99 v14 rfl rfl
              clear hV
              simp only [putsL, List.tail_cons, List.headD_cons]
              simp only [Act.put, List.setIfInBounds_toArray, List.set_cons_succ, List.set_cons_zero]
              have HR := Lib.hid (And.intro (show PenAt (fun k => k < b) w2 b (acc ++ textL m) from hG.1) (HPo.out.2.trans hG.2.1))
              have c2 := hG.c2
              have hcs : (convert 25 9 (.slice pa M pc)).run Try.prog w2 = .ok (Sv m) w2 := by
                have := run_conv_str w2 pa pc m (HM.out.2.kept hG.2.1).srcP
                rwa [← HM.out.1] at this
              clear hG co0 co1 co2
              go_wp2_with (fail)
              obtain ⟨z, hz⟩ : ∃ z, z = textL m := ⟨_, rfl⟩
              have hzl : z.length ≤ M + 10 := by
                have := HM.out.1
                rw [hz, textL, List.length_append]
                have := wordL_length m.length
                omega
              have hadd : ∀ w, (binOp .add 9 (Sv acc) (Sv z)).run Try.prog w = .ok (Sv (acc ++ z)) w := fun w => run_add_Sv w acc z (by have := HACC.out; omega)
              have hcall := rpText_any w2 m (by have := HM.out.1; omega)
              rw [← hz] at hcall
              refine hcall.mono ?_
              rintro e w5 ⟨rfl, hB5⟩
              have HR2 : Hid (PenAt (fun k => k < b) w5 b (acc ++ z) ∧ PKept (fun k => k < b) b W0 w5 ∧ (acc ++ z).length ≤ (t + 1) * 5010) := by
                obtain ⟨k1, k2⟩ := HR.out
                rw [← hz] at k1
                have := HLEN.out
                exact ⟨k1.below hB5, k2.trans (PKept.of_below hB5), by rw [List.length_append]; omega⟩
              clear hz hzl hcall hB5
              dsimp only
              go_wp2_with (fail)
              exact ⟨⟨t + 1, acc ++ z, by have := HLEN.out; omega, by have := HLEN.out; omega, by go_num, rfl, HR2.out.2.2, HR2.out.1, HR2.out.2.1⟩, by have := HLEN.out; simp [intOf]; omega⟩
      · have e0 : ((r : Int) == 0) = false := by rw [h]; rfl
        have e1 : ((r : Int) == 1) = false := by rw [h]; rfl
        have e2 : ((r : Int) == 2) = false := by rw [h]; rfl
        clear h
        go_wp2_with (fail)
        refine (pfixed_any wo (fun k => k < b) b M pc pa acc m HM.out.1 HM.out.2.srcP HPo.out.1 (fun k hk => Nat.lt_trans hk HOb.out.1) (by have := HACC.out; have := HM.out.1; have := HLEN.out; omega)).mono ?_
        rintro e w3 ⟨rfl, hP3, hK3⟩
        have c2 : w3.cell? ⟨ob, 2, none⟩ = some (.slice pa M pc) := by rw [cell_of_row _ _ 2 _ _ _ (hK3.row HROW.out (by decide) HOb.out.2)]; rfl
        have hcs : (convert 25 9 (.slice pa M pc)).run Try.prog w3 = .ok (Sv m) w3 := by
          have := run_conv_str w3 pa pc m (HM.out.2.kept hK3).srcP
          rwa [← HM.out.1] at this
        have hadd : ∀ w, (binOp .add 9 (Sv acc) (Sv m)).run Try.prog w = .ok (Sv (acc ++ m)) w := fun w => run_add_Sv w acc m (by have := HACC.out; have := HM.out.1; have := HLEN.out; omega)
        have HR2 : Hid (PenAt (fun k => k < b) w3 b (acc ++ m) ∧ PKept (fun k => k < b) b W0 w3 ∧ (acc ++ m).length ≤ (t + 1) * 5010) := by
          have := HLEN.out
          have := HM.out.1
          exact ⟨hP3, HPo.out.2.trans hK3, by rw [List.length_append]; omega⟩
        clear hP3 hK3 co0 co1 co2
        dsimp only
        go_wp2_with (fail)
        refine (pfixed_nil w3 (.slice pa M pc)).mono ?_
        rintro e w4 ⟨rfl, rfl⟩
        dsimp only
        go_wp2_with (fail)
        exact ⟨⟨t + 1, acc ++ m, by have := HLEN.out; omega, by have := HLEN.out; omega, by go_num, rfl, HR2.out.2.2, HR2.out.1, HR2.out.2.1⟩, by have := HLEN.out; simp [intOf]; omega⟩
    · obtain rfl : t = L := by omega
      have HE : Hid (Below w.heap.size w wr) := H0.out.2.2.2.trans (HL.out.2.2.below (B := w.heap.size) (fun k hk => (by have := H0.out.2.2.1; omega)) H0.out.2.2.1 (by have := H0.out; omega))
      have hl60 : acc.length ≤ 300600 := by have := HL.out.1; omega
      have HB := Lib.hid (pbytes_any wr (fun k => k < b) b acc HL.out.2.1 (by omega))
      obtain ⟨A, hA⟩ : ∃ A, A = acc.length := ⟨_, rfl⟩
      clear hl60
      go_wp2_with (fail)
      refine HB.out.mono ?_
      rintro e w3 ⟨a3, c3, rfl, _, _, _, hs3, hB3⟩
      have hcs : (convert 25 9 (.slice a3 A c3)).run Try.prog w3 = .ok (Sv acc) w3 := by
        have := run_conv_str w3 a3 c3 acc hs3.srcP
        rwa [← hA] at this
      have heq : ∀ w, (binOp .eql 9 (Sv acc) (Sv acc)).run Try.prog w = .ok (.bool true) w := fun w => by
        have := run_eql_Sv w acc acc
        rwa [decide_eq_true rfl] at this
      rw [← hA]
      have HZ : Hid (Below w.heap.size w w3) := HE.out.trans (hB3.mono HE.out.size)
      clear hs3 hB3 hA
      dsimp only
      go_wp2_with (fail)
      refine (pbytes_nil w3).mono ?_
      rintro e w4 ⟨rfl, rfl⟩
      dsimp only
      go_wp2_with (fail)
      go_ret
      exact ⟨rfl, HZ.out⟩
end Go.Proofs.Ytgmpkkhejbnlhaa
