/-
  The contract of the statement ShaSums.
-/
import Derived.Test.YtoleebkpinhhlaaDoorRefSum
import Derived.Test.YtoleebkpinhhlaaDoorShaSumF
namespace Go.Proofs.YtoleebkpinhhlaaDoor
open Go.RowKit

def SumsRel (w1 : World) (ps : List Part) (s i : Value) (wr : World) : Prop :=
  ∃ t : Nat, t ≤ ps.length ∧ i = .int .i64 (t : Int) ∧ s = Sv (flat (ps.take t)) ∧ wr = w1

set_option maxRecDepth 100000 in
set_option maxHeartbeats 2000000 in
theorem shaSums_any (w : World) (a : Option Addr) (cap : Nat) (ps : List Part) (hP : PartsAt w a ps) (hok : ∀ p ∈ ps, p.ok w) (hT : Tables w) (hgl : 0 < w.heap.size ∧ 1 < w.heap.size)
    (hlen : (flat ps).length ≤ 1048576) (hps : ps.length ≤ 1048576) :
    Calls Tryd.prog 3 #[.slice a ps.length cap] w (Below0 w (.bool true)) := by
  obtain ⟨K, hK⟩ : ∃ K, K = ps.length := ⟨_, rfl⟩
  rw [← hK] at hps ⊢
  have HK := Lib.hid hK
  have HP := Lib.hid (And.intro hP (And.intro hok (And.intro hT (And.intro hgl hlen))))
  clear hK hP hok hT hgl hlen
  go_enter Tryd.func3, Tryd.ntmps3
  go_wp2_with (fail)
  refine (first_any w HP.out.2.2.1 HP.out.2.2.2.1).mono ?_
  rintro e w1 ⟨rfl, hB1⟩
  have HB := Lib.hid hB1
  clear hB1
  dsimp only
  go_wp2_with (fail)
  go_loopw [3, 10] (SumsRel w1 ps) (fun _ i _ => K - (intOf i).toNat)
  case atStart => exact ⟨0, by omega, rfl, rfl, rfl⟩
  case round =>
    obtain ⟨t, ht, rfl, rfl, rfl⟩ := hrel
    rw [← HK.out] at ht
    by_cases hlt : t < K
    · obtain ⟨p, hp⟩ : ∃ p, ps[t]? = some p := ⟨ps[t]'(by rw [← HK.out]; exact hlt), List.getElem?_eq_getElem (by rw [← HK.out]; exact hlt)⟩
      have hpm : p ∈ ps := List.mem_of_getElem? hp
      rcases HP.out.1 with hP | ⟨pb, po, rfl, hP⟩
      · rw [hP] at hp
        cases hp
      have i0 : (0 : Int) ≤ (t : Int) ∧ (t : Int) < (K : Int) := by omega
      have hcell : wr.cell? ⟨pb, po + t, none⟩ = some (.slice p.a p.m.length p.cap) := by
        have h1 := hP t p hp
        have h2 := block_lt_of_cell h1
        exact (HB.out.cell (p := ⟨pb, po + t, none⟩) h2).trans h1
      have hcv : (convert 24 9 (.slice p.a p.m.length p.cap)).run Tryd.prog wr = .ok (Sv p.m) wr := run_conv_str wr p.a p.cap p.m ((HP.out.2.1 p hpm).below HB.out).2.2
      have hfs := flat_step ps t p hp
      have hfl := flat_take_length ps (t + 1)
      obtain ⟨F, hF⟩ : ∃ F, F = flat (ps.take t) := ⟨_, rfl⟩
      rw [← hF] at hfs ⊢
      have hadd : ∀ w, (binOp .add 9 (Sv F) (Sv p.m)).run Tryd.prog w = .ok (Sv (F ++ p.m)) w := fun w => run_add_Sv w F p.m (by rw [hfs, List.length_append] at hfl; have := HP.out.2.2.2.2; omega)
      obtain ⟨pa, hpa⟩ : ∃ x, x = p.a := ⟨_, rfl⟩
      obtain ⟨pm, hpm2⟩ : ∃ x, x = p.m := ⟨_, rfl⟩
      obtain ⟨pl, hpl⟩ : ∃ x, x = pm.length := ⟨_, rfl⟩
      obtain ⟨pc, hpc⟩ : ∃ x, x = p.cap := ⟨_, rfl⟩
      rw [← hpm2] at hfs hadd hcv hcell
      rw [← hpa, ← hpc, ← hpl] at hcv hcell
      have HY := Lib.hid hfs
      clear hp hpm hP hfs hfl hF hpa hpm2 hpl hpc
      go_wp2_with (fail)
      exact ⟨⟨t + 1, by rw [← HK.out]; omega, by go_num, by rw [HY.out], rfl⟩, by simp [intOf]; omega⟩
    · obtain rfl : t = K := by omega
      rw [HK.out, List.take_length, ← HK.out]
      obtain ⟨F, hF⟩ : ∃ F, F = flat ps := ⟨_, rfl⟩
      rw [← hF]
      obtain ⟨L, hL⟩ : ∃ L, L = F.length := ⟨_, rfl⟩
      have hlenF : ∀ w ty, (Builtin.len_ #[9] ty #[Sv F]).run Tryd.prog w = .ok (.int .i64 (L : Int)) w := fun w ty => by rw [run_len_Sv w ty F, hL]
      have HF := Lib.hid (And.intro hF hL)
      clear hF hL ht hlt
      by_cases h1 : 1000 < L
      · have h1' : (1000 : Int) < (L : Int) := by omega
        go_wp2_with (fail)
        go_ret
        exact ⟨rfl, HB.out⟩
      · have h1' : ¬ (1000 : Int) < (L : Int) := by omega
        by_cases h2 : 50 < t
        · have h2' : (50 : Int) < (t : Int) := by omega
          go_wp2_with (fail)
          go_ret
          exact ⟨rfl, HB.out⟩
        · have h2' : ¬ (50 : Int) < (t : Int) := by omega
          go_wp2_with (fail)
          obtain ⟨hP, hok, hT, hgl, hlen⟩ := HP.out
          have hsz := HB.out.size
          have hPr : PartsAt wr a ps := by
            rcases hP with h | ⟨b, o, h, h'⟩
            · exact .inl h
            · exact .inr ⟨b, o, h, fun i p hp => (HB.out.cell (p := ⟨b, o + i, none⟩) (block_lt_of_cell (h' i p hp))).trans (h' i p hp)⟩
          have hs := sumF_any wr a cap ps hPr (fun p hp => (hok p hp).below HB.out) (hT.below HB.out) (by omega) (by omega) (by rw [← HK.out]; omega)
          rw [← HK.out, ← HF.out.1] at hs
          have HS := Lib.hid hs
          clear hP hok hT hgl hlen hsz hPr hs
          refine HS.out.mono ?_
          rintro e w2 ⟨rfl, hB2⟩
          have HB2 := Lib.hid (HB.out.trans (hB2.mono HB.out.size))
          clear hB2
          dsimp only
          go_wp2_with (fail)
          refine (refSum_any w2 F (by have := HF.out.2; omega)).mono ?_
          rintro e w3 ⟨rfl, hB3⟩
          have HB3 := Lib.hid (HB2.out.trans (hB3.mono HB2.out.size))
          obtain ⟨e1, e2, e3⟩ := eql_sum F F rfl
          clear hB3
          dsimp only
          go_wp2_with (fail)
          go_ret
          exact ⟨rfl, HB3.out⟩
end Go.Proofs.YtoleebkpinhhlaaDoor
