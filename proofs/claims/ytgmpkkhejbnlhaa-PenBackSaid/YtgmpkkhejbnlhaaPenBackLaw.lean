/-
  The contract of the statement PenBack.
-/
import Derived.Test.YtgmpkkhejbnlhaaPenBackPure
import Derived.Deep.CutBlock
namespace Go.Proofs.Ytgmpkkhejbnlhaa
open Go Go.RowKit

def PBRel1 (b : Nat) (W0 : World) (l : List OpR) (i : Value) (wr : World) : Prop :=
  ∃ t : Nat, t ≤ l.length ∧ t ≤ 60 ∧ i = .int .i64 (t : Int) ∧ PenAt (fun k => k < b) wr b (encL (l.take t)) ∧ PKept (fun k => k < b) b W0 wr ∧ (encL (l.take t)).length ≤ t * 700 ∧ ∀ i x, i < t → l[i]? = some x → x.part.m.length ≤ 300
def PBRel2 (B0 rb base : Nat) (W1 : World) (l : List OpR) (i : Value) (wr : World) : Prop :=
  ∃ t : Nat, t ≤ l.length ∧ i = .int .i64 (t : Int) ∧ RdAt base wr rb ⟨encL (l.drop t), 0⟩ ∧ Below B0 W1 wr
def PBRel3 (B0 sb qb base : Nat) (X : Nat → Prop) (W1 : World) (m : List (BitVec 8)) (_ : Value) (wr : World) : Prop :=
  ∃ (tp : TapeL) (acc : List (BitVec 8)), RdAt base wr sb tp ∧ PenAt X wr qb acc ∧ Below B0 W1 wr ∧ base ≤ wr.heap.size ∧ (tp.e = 0 → acc ++ tp.s = m) ∧ acc.length ≤ m.length ∧ (tp.e ≠ 0 → tp.s = [])
def PBT (t0 t1 t2 t3 t4 : TapeL) (k : Nat) : TapeL := if k = 0 then t0 else if k ≤ 2 then t1 else if k ≤ 4 then t2 else if k ≤ 6 then t3 else t4
def PBG (rb base ob : Nat) (wo : World) (row : Array Value) (t0 t1 t2 t3 t4 : TapeL) (k : Nat) (w' : World) : Prop :=
  RdAt base w' rb (PBT t0 t1 t2 t3 t4 k) ∧ KeptTwo rb rb wo w' ∧ w'.heap[ob]? = some (.cells row 29 (0, 0))
theorem PBG.step {rb base ob : Nat} {wo w' w3 : World} {row : Array Value} {t0 t1 t2 t3 t4 : TapeL} {k : Nat} (h : PBG rb base ob wo row t0 t1 t2 t3 t4 k w') (hR : RdAt base w3 rb (PBT t0 t1 t2 t3 t4 (k + 1))) (hg : w'.grownBy w3 (some rb)) (hne : ob ≠ rb) :
    PBG rb base ob wo row t0 t1 t2 t3 t4 (k + 1) w3 :=
  ⟨hR, h.2.1.trans (KeptTwo.one hg), (hg.block ob (Array.getElem?_eq_some_iff.1 h.2.2).1 (by simpa using hne)).trans h.2.2⟩
theorem PBG.cell {rb base ob : Nat} {wo w' : World} {row : Array Value} {t0 t1 t2 t3 t4 : TapeL} {k : Nat} (h : PBG rb base ob wo row t0 t1 t2 t3 t4 k w') (i : Nat) : w'.cell? ⟨ob, i, none⟩ = row[i]? := cell_of_row _ _ i _ _ _ h.2.2
def stB (m : List (BitVec 8)) : StT (fun w w' => Below w.heap.size w w') := ⟨fun w v => ∃ a c, v = .slice a m.length c ∧ SrcP w a m.length m, fun _ _ _ h ⟨a, c, hv, hs⟩ => ⟨a, c, hv, hs.below h⟩⟩
set_option maxRecDepth 100000 in
set_option maxHeartbeats 4000000 in
theorem penBack_any (w : World) (ba la : Option Addr) (bc lc : Nat) (m : List (BitVec 8)) (l : List OpR) (hsrc : SrcP w ba m.length m) (hbn : ba = none → bc = 0) (hbc : m.length ≤ bc ∧ bc ≤ 9223372036854775807) (hO : OpsR w la l) (hok : ∀ x ∈ l, x.ok w) (hl : l.length ≤ 9223372036854775807) :
    Calls Try.prog 5 #[.slice la l.length lc, .slice ba m.length bc] w (Below0 w (.bool true)) := by
  obtain ⟨L, hL⟩ : ∃ L, L = l.length := ⟨_, rfl⟩
  obtain ⟨Q, hQ⟩ : ∃ M, M = m.length := ⟨_, rfl⟩
  rw [← hL] at hl ⊢
  rw [← hQ] at hbc ⊢
  have HP := Lib.hid (And.intro hO (And.intro hok (And.intro hL (And.intro hQ (And.intro hsrc (And.intro hbn hbc))))))
  have hM63 : Q ≤ 9223372036854775807 := by omega
  clear hO hok hL hQ hsrc hbn hbc
  go_enter Try.func5, Try.ntmps5
  go_wp2_with (fail)
  refine (pfirst_any w).mono ?_
  rintro e w1 ⟨rfl, hB1⟩
  by_cases h2000 : 2000 < Q
  · have h2000' : (2000 : Int) < (Q : Int) := by omega
    have HB1 := Lib.hid hB1
    clear h2000 hB1
    dsimp only
    go_wp2_with (fail)
    go_ret
    exact ⟨rfl, HB1.out⟩
  have h2000' : ¬ (2000 : Int) < (Q : Int) := by omega
  have HQ2 : Hid (Q ≤ 2000) := by show _ ≤ _; omega
  clear h2000
  obtain ⟨W0, hW0⟩ : ∃ W0, W0 = w1.alloc (.cells #[.slice none 0 0] 27) := ⟨_, rfl⟩
  obtain ⟨b, hb⟩ : ∃ b, b = w1.heap.size := ⟨_, rfl⟩
  have H0 : Hid (PenAt (fun k => k < b) W0 b [] ∧ b < W0.heap.size ∧ w.heap.size ≤ b ∧ Below w.heap.size w W0) := by
    refine ⟨by rw [hW0, hb]; exact PenAt.new _ w1, by rw [hW0, hb]; simp, by rw [hb]; exact hB1.size, ?_⟩
    rw [hW0]
    exact hB1.trans ((Below.refl _ w1).alloc hB1.size _)
  clear hB1
  dsimp only
  go_upto_region 6 with (fail)
  rw [← hW0, ← hb]
  clear hW0 hb
  go_wp2_with (fail)
  go_loopw [23] (PBRel1 b W0 l) (fun i _ => L - (intOf i).toNat)
  case atStart => exact ⟨0, by omega, by omega, rfl, H0.out.1, PKept.refl _ _ _, by simp [encL], fun i x h _ => by omega⟩
  case round =>
    obtain ⟨t, ht, ht60, rfl, hP, hK, hacc, hsmall⟩ := hrel
    obtain ⟨acc, hacc2⟩ : ∃ a, a = encL (l.take t) := ⟨_, rfl⟩
    rw [← hacc2] at hP hacc
    have HL := Lib.hid (And.intro hacc (And.intro hP (And.intro hK (And.intro hsmall (And.intro ht hacc2)))))
    clear hacc hP hK hsmall ht hacc2
    by_cases hlt : t < L
    · have hi0 : (0 : Int) ≤ (t : Int) ∧ (t : Int) < (L : Int) := by omega
      obtain ⟨x, hx⟩ : ∃ x, l[t]? = some x := ⟨l[t]'(by have := HP.out.2.2.1; omega), List.getElem?_eq_getElem _⟩
      have hxm : x ∈ l := List.mem_of_getElem? hx
      have hBw : Below w.heap.size w wr := H0.out.2.2.2.trans (HL.out.2.2.1.below (B := w.heap.size) (fun k hk => (by have := H0.out.2.2.1; omega)) H0.out.2.2.1 (by have := H0.out; omega))
      have hxo := (HP.out.2.1 x hxm).below hBw
      rcases HP.out.1.below hBw with hnil | ⟨pb, po, rfl, hcells⟩
      · rw [hnil] at hx
        cases hx
      obtain ⟨d0, d1, d2⟩ := hcells t x hx
      obtain ⟨κ, hκ⟩ : ∃ κ, κ = x.kind := ⟨_, rfl⟩
      obtain ⟨N, hN⟩ : ∃ N, N = x.n := ⟨_, rfl⟩
      obtain ⟨pa, hpa⟩ : ∃ y, y = x.part.a := ⟨_, rfl⟩
      obtain ⟨z, hz⟩ : ∃ y, y = x.part.m := ⟨_, rfl⟩
      obtain ⟨pc, hpc⟩ : ∃ y, y = x.part.cap := ⟨_, rfl⟩
      obtain ⟨M, hM⟩ : ∃ M, M = z.length := ⟨_, rfl⟩
      have hpv : x.part.val = .slice pa M pc := by rw [hpa, hM, hz, hpc]; rfl
      rw [hpv] at d2
      rw [← hκ] at d0
      rw [← hN] at d1
      have hsrc : SrcK (fun k => k < b) b wr pa z := by
        have h1 := (HP.out.2.1 x hxm).1.2.2
        rw [hz, hpa]
        rcases h1 with h1 | ⟨ab, off, h1, h2⟩
        · exact .inl h1
        · by_cases h0 : x.part.m.length = 0
          · exact .inl h0
          · have hlb := block_lt_of_cell (h2 0 (by omega))
            have hlb' : ab < w.heap.size := hlb
            have := H0.out.2.2.1
            exact .inr ⟨ab, off, h1, by omega, by omega, fun i hi => (hBw.cell (p := ⟨ab, off + i, none⟩) hlb).trans (h2 i hi)⟩
      have hX : Hid (-9223372036854775808 ≤ N ∧ N < 9223372036854775808 ∧ M = z.length ∧ SrcK (fun k => k < b) b wr pa z ∧ l[t]? = some x ∧ encR x = wordL (posN N) ++ (signedL N ++ (textL z ++ z)) ∧ z = x.part.m) := by
        obtain ⟨_, _, h1, h2, _⟩ := hxo
        exact ⟨by rw [hN]; exact h1, by rw [hN]; exact h2, hM, hsrc, hx, by rw [encR, hN, hz], hz⟩
      have hM47 : M ≤ 140737488355328 := by
        obtain ⟨_, _, _, _, h5⟩ := hxo
        rw [hM, hz]
        exact h5
      clear hx hxm hBw hxo hcells hκ hN hpa hz hpc hM hpv hsrc
      go_upto_region 9 with (fail)
      obtain ⟨wo, hwo⟩ : ∃ wo, wo = wr.alloc (.cells #[.int .i64 κ, .int .i64 N, .slice pa M pc] 29) := ⟨_, rfl⟩
      rw [← hwo]
      obtain ⟨ob, hob⟩ : ∃ ob, ob = wr.heap.size := ⟨_, rfl⟩
      rw [← hob]
      have hobl : wo.heap[ob]? = some (.cells #[.int .i64 κ, .int .i64 N, .slice pa M pc] 29 (0, 0)) := by rw [hwo, hob]; exact heap_alloc_new wr _
      have co1 : wo.cell? ⟨ob, 1, none⟩ = some (.int .i64 N) := by rw [cell_of_row _ _ 1 _ _ _ hobl]; rfl
      have co2 : wo.cell? ⟨ob, 2, none⟩ = some (.slice pa M pc) := by rw [cell_of_row _ _ 2 _ _ _ hobl]; rfl
      have hBo : Below wr.heap.size wr wo := by rw [hwo]; exact (Below.refl _ wr).alloc (Nat.le_refl _) _
      have hbr : b < wr.heap.size := HL.out.2.1.lt
      have HOb : Hid (b < wo.heap.size ∧ ob ≠ b) := ⟨by have := hBo.size; omega, by omega⟩
      have HROW := Lib.hid hobl
      have HPo : Hid (PenAt (fun k => k < b) wo b acc ∧ PKept (fun k => k < b) b W0 wo) := ⟨HL.out.2.1.below hBo, HL.out.2.2.1.trans (PKept.of_below hBo)⟩
      have HM : Hid (M = z.length ∧ SrcK (fun k => k < b) b wo pa z) := ⟨hX.out.2.2.1, hX.out.2.2.2.1.kept (PKept.of_below hBo)⟩
      have HE : Hid (Below w.heap.size w wo) := H0.out.2.2.2.trans (HPo.out.2.below (B := w.heap.size) (fun k hk => (by have := H0.out.2.2.1; omega)) H0.out.2.2.1 (by have := H0.out; omega))
      clear hwo hob hobl hBo d0 d1 d2 hbr
      by_cases h60 : 60 ≤ t
      · have h60' : (60 : Int) ≤ (t : Int) := by omega
        clear h60
        go_wp2_with (fail)
        go_ret
        exact ⟨rfl, HE.out⟩
      have h60' : ¬ (60 : Int) ≤ (t : Int) := by omega
      by_cases h300 : 300 < M
      · have h300' : (300 : Int) < (M : Int) := by omega
        clear h300 h60
        go_wp2_with (fail)
        go_ret
        exact ⟨rfl, HE.out⟩
      have h300' : ¬ (300 : Int) < (M : Int) := by omega
      have HLEN : Hid (acc.length ≤ t * 700 ∧ t < 60 ∧ M ≤ 300 ∧ t < L ∧ acc.length ≤ 42000) := ⟨HL.out.1, by omega, by omega, hlt, by have := HL.out.1; omega⟩
      obtain ⟨K, hK⟩ : ∃ K, K = posN N := ⟨_, rfl⟩
      have hand := bits_mask N hX.out.1 hX.out.2.1
      rw [← hK] at hand
      have HK : Hid (K = posN N ∧ K < 9223372036854775808) := ⟨hK, by rw [hK]; exact posN_lt N⟩
      clear h60 h300 hM47 hK
      go_upto_region 11 with (fail)
      clear h60' h300'
      go_wp2_with (fail)
      refine (pnumber_any wo (fun k => k < b) b K acc HK.out.2 HPo.out.1 (fun k hk => Nat.lt_trans hk HOb.out.1) (by have := HLEN.out.2.2.2.2; omega)).mono ?_
      rintro e w3 ⟨rfl, hP3, hK3⟩
      have c1 : w3.cell? ⟨ob, 1, none⟩ = some (.int .i64 N) := by rw [cell_of_row _ _ 1 _ _ _ (hK3.row HROW.out (by decide) HOb.out.2)]; rfl
      have H3 := Lib.hid (And.intro hP3 hK3)
      clear hP3 hK3 co1 co2 hand
      dsimp only
      go_wp2_with (fail)
      refine (psigned_any w3 (fun k => k < b) b N (acc ++ wordL K) hX.out.1 hX.out.2.1 H3.out.1 (fun k hk => Nat.lt_of_lt_of_le (Nat.lt_trans hk HOb.out.1) H3.out.2.size) (by rw [List.length_append]; have := HLEN.out.2.2.2.2; have := wordL_length K; omega)).mono ?_
      rintro e w4 ⟨rfl, hP4, hK4⟩
      have H4 : Hid (PenAt (fun k => k < b) w4 b ((acc ++ wordL K) ++ signedL N) ∧ PKept (fun k => k < b) b wo w4) := ⟨hP4, H3.out.2.trans hK4⟩
      have c2 : w4.cell? ⟨ob, 2, none⟩ = some (.slice pa M pc) := by rw [cell_of_row _ _ 2 _ _ _ (H4.out.2.row HROW.out (by decide) HOb.out.2)]; rfl
      clear hP4 hK4 c1
      have hlen4 : ((acc ++ wordL K) ++ signedL N).length ≤ 42020 := by
        rw [List.length_append, List.length_append]
        have := HLEN.out.2.2.2.2
        have := wordL_length K
        have h2 : (signedL N).length ≤ 10 := wordL_length _
        omega
      have HLEN4 := Lib.hid hlen4
      clear hlen4
      dsimp only
      go_wp2_with (fail)
      refine (ptext_any w4 (fun k => k < b) b M pc pa ((acc ++ wordL K) ++ signedL N) z HM.out.1 (HM.out.2.kept H4.out.2) (by have := HLEN.out.2.2.1; omega) H4.out.1 (fun k hk => Nat.lt_of_lt_of_le (Nat.lt_trans hk HOb.out.1) H4.out.2.size) (by have := HLEN4.out; omega)).mono ?_
      rintro e w5 ⟨rfl, hP5, hK5⟩
      have H5 : Hid (PenAt (fun k => k < b) w5 b (((acc ++ wordL K) ++ signedL N) ++ textL z) ∧ PKept (fun k => k < b) b wo w5) := ⟨hP5, H4.out.2.trans hK5⟩
      have c2 : w5.cell? ⟨ob, 2, none⟩ = some (.slice pa M pc) := by rw [cell_of_row _ _ 2 _ _ _ (H5.out.2.row HROW.out (by decide) HOb.out.2)]; rfl
      clear hP5 hK5
      dsimp only
      go_wp2_with (fail)
      refine (pfixed_any w5 (fun k => k < b) b M pc pa (((acc ++ wordL K) ++ signedL N) ++ textL z) z HM.out.1 (HM.out.2.kept H5.out.2).srcP H5.out.1 (fun k hk => Nat.lt_of_lt_of_le (Nat.lt_trans hk HOb.out.1) H5.out.2.size) (by
        have h1 : (textL z).length ≤ 10 + z.length := by
          rw [textL, List.length_append]
          have := wordL_length z.length
          omega
        rw [List.length_append]
        have := HLEN4.out
        have := HM.out.1
        have := HLEN.out.2.2.1
        omega)).mono ?_
      rintro e w6 ⟨rfl, hP6, hK6⟩
      have H6 : Hid (PenAt (fun k => k < b) w6 b (encL (l.take (t + 1))) ∧ PKept (fun k => k < b) b W0 w6 ∧ (encL (l.take (t + 1))).length ≤ (t + 1) * 700 ∧ (∀ i x, i < t + 1 → l[i]? = some x → x.part.m.length ≤ 300) ∧ t + 1 ≤ l.length) := by
        have hs := encL_step l t x hX.out.2.2.2.2.1
        rw [← HL.out.2.2.2.2.2] at hs
        have he := hX.out.2.2.2.2.2.1
        rw [← HK.out.1] at he
        have hxl := encR_length x
        rw [← hX.out.2.2.2.2.2.2] at hxl
        refine ⟨?_, HPo.out.2.trans (H5.out.2.trans hK6), ?_, ?_, ?_⟩
        · rw [hs, he]
          simpa [List.append_assoc] using hP6
        · rw [hs, List.length_append]
          have := HLEN.out
          have := HM.out.1
          omega
        · intro i y hi hy
          by_cases hit : i < t
          · exact HL.out.2.2.2.1 i y hit hy
          · obtain rfl : i = t := by omega
            rw [hX.out.2.2.2.2.1] at hy
            injection hy with hy
            rw [← hy, ← hX.out.2.2.2.2.2.2, ← HM.out.1]
            exact HLEN.out.2.2.1
        · have := HLEN.out
          have := HP.out.2.2.1
          omega
      clear hP6 hK6 c2
      dsimp only
      go_wp2_with (fail)
      exact ⟨⟨t + 1, H6.out.2.2.2.2, by have := HLEN.out; omega, by go_num, H6.out.1, H6.out.2.1, H6.out.2.2.1, H6.out.2.2.2.1⟩, by have := HLEN.out; simp [intOf]; omega⟩
    · obtain rfl : t = L := by have := HL.out.2.2.2.2.1; have := HP.out.2.2.1; omega
      have HEW : Hid (Below w.heap.size w wr) := H0.out.2.2.2.trans (HL.out.2.2.1.below (B := w.heap.size) (fun k hk => (by have := H0.out.2.2.1; omega)) H0.out.2.2.1 (by have := H0.out; omega))
      have HACC : Hid (acc = encL l ∧ acc.length ≤ 42000 ∧ ∀ x ∈ l, x.part.m.length ≤ 300) := by
        obtain ⟨h1, h2, h3, h4, h5, h6⟩ := HL.out
        refine ⟨by rw [h6, HP.out.2.2.1, List.take_length], by omega, fun x hx => ?_⟩
        obtain ⟨i, hi, rfl⟩ := List.getElem_of_mem hx
        exact h4 i _ (by have := HP.out.2.2.1; omega) (List.getElem?_eq_getElem hi)
      have HBy := Lib.hid (pbytes_any wr (fun k => k < b) b acc HL.out.2.1 (by have := HACC.out.2.1; omega))
      obtain ⟨A, hA⟩ : ∃ A, A = acc.length := ⟨_, rfl⟩
      have HA := Lib.hid hA
      clear hA hlt ht60
      go_wp2_with (fail)
      refine HBy.out.mono ?_
      rintro e w3 ⟨a3, c3, rfl, _, _, hn3, hs3, hB3⟩
      rw [← HA.out]
      have H3 := Lib.hid (And.intro hn3 (And.intro hs3.srcP hB3))
      clear hn3 hs3 hB3
      dsimp only
      go_wp2_with (fail)
      refine (rread_any w3 a3 c3 A acc HA.out H3.out.2.1 H3.out.1 (by have := HACC.out.2.1; omega)).mono ?_
      rintro e w4 ⟨rb, rfl, hR, hrb, hB4⟩
      obtain ⟨base, hbase⟩ : ∃ x, x = w4.heap.size := ⟨_, rfl⟩
      have H4 : Hid (RdAt base w4 rb ⟨encL l, 0⟩ ∧ w.heap.size ≤ rb ∧ Below w.heap.size w w4 ∧ w.heap.size ≤ w4.heap.size) := by
        have h1 : Below w.heap.size w w3 := HEW.out.trans (H3.out.2.2.mono HEW.out.size)
        have h2 : Below w.heap.size w w4 := h1.trans (hB4.mono h1.size)
        refine ⟨?_, Nat.le_trans h1.size hrb, h2, h2.size⟩
        rw [hbase, ← HACC.out.1]
        exact hR
      clear hR hrb hB4 hbase
      dsimp only
      go_wp2_with (fail)
      go_loopw [59] (PBRel2 w.heap.size rb base w l) (fun i _ => t - (intOf i).toNat)
      case atStart => exact ⟨0, Nat.zero_le _, rfl, H4.out.1, H4.out.2.2.1⟩
      case round =>
        obtain ⟨L, rfl⟩ : ∃ x, x = t := ⟨_, rfl⟩
        obtain ⟨t, ht, rfl, hR, hBw⟩ := hrel
        have HL2 := Lib.hid (And.intro hR (And.intro hBw ht))
        clear hR hBw ht
        by_cases hlt : t < L
        · have hi0 : (0 : Int) ≤ (t : Int) ∧ (t : Int) < (L : Int) := by omega
          obtain ⟨x, hx⟩ : ∃ x, l[t]? = some x := ⟨l[t]'(by have := HP.out.2.2.1; omega), List.getElem?_eq_getElem _⟩
          have hxm : x ∈ l := List.mem_of_getElem? hx
          have hxo := HP.out.2.1 x hxm
          have hm300 := HACC.out.2.2 x hxm
          rcases HP.out.1.below HL2.out.2.1 with hnil | ⟨pb, po, rfl, hcells⟩
          · rw [hnil] at hx
            cases hx
          obtain ⟨d0, d1, d2⟩ := hcells t x hx
          obtain ⟨κ, hκ⟩ : ∃ κ, κ = x.kind := ⟨_, rfl⟩
          obtain ⟨N, hN⟩ : ∃ N, N = x.n := ⟨_, rfl⟩
          obtain ⟨pa, hpa⟩ : ∃ y, y = x.part.a := ⟨_, rfl⟩
          obtain ⟨z, hz⟩ : ∃ y, y = x.part.m := ⟨_, rfl⟩
          obtain ⟨pc, hpc⟩ : ∃ y, y = x.part.cap := ⟨_, rfl⟩
          obtain ⟨M, hM⟩ : ∃ M, M = z.length := ⟨_, rfl⟩
          have hpv : x.part.val = .slice pa M pc := by rw [hpa, hM, hz, hpc]; rfl
          rw [hpv] at d2
          rw [← hκ] at d0
          rw [← hN] at d1
          have hbd : -9223372036854775808 ≤ N ∧ N < 9223372036854775808 := by
            obtain ⟨_, _, h1, h2, _⟩ := hxo
            rw [hN]
            exact ⟨h1, h2⟩
          have hzs : SrcP w pa z.length z := by rw [hz, hpa]; exact hxo.1.2.2
          have hz300 : z.length ≤ 300 := by rw [hz]; exact hm300
          obtain ⟨kn, hK⟩ : ∃ K, K = posN N := ⟨_, rfl⟩
          have HAND : Hid (bits .and .i64 N 9223372036854775807 = (kn : Int)) := by
            show _ = _
            rw [hK]
            exact bits_mask N hbd.1 hbd.2
          have hK63 : kn < 9223372036854775808 := by rw [hK]; exact posN_lt N
          obtain ⟨rest, hrest⟩ : ∃ r, r = encL (l.drop (t + 1)) := ⟨_, rfl⟩
          have hT0 : encL (l.drop t) = wordL kn ++ (signedL N ++ (textL z ++ (z ++ rest))) := by
            rw [encL_drop l t x hx, encR, ← hN, ← hz, ← hK, ← hrest]
            simp [List.append_assoc]
          obtain ⟨t0, h0⟩ : ∃ y : TapeL, y = ⟨wordL kn ++ (signedL N ++ (textL z ++ (z ++ rest))), 0⟩ := ⟨_, rfl⟩
          obtain ⟨t1, h1⟩ : ∃ y : TapeL, y = ⟨signedL N ++ (textL z ++ (z ++ rest)), 0⟩ := ⟨_, rfl⟩
          obtain ⟨t2, h2⟩ : ∃ y : TapeL, y = ⟨textL z ++ (z ++ rest), 0⟩ := ⟨_, rfl⟩
          obtain ⟨t3, h3⟩ : ∃ y : TapeL, y = ⟨z ++ rest, 0⟩ := ⟨_, rfl⟩
          obtain ⟨t4, h4⟩ : ∃ y : TapeL, y = ⟨rest, 0⟩ := ⟨_, rfl⟩
          have HC : Hid ((∀ w', RdAt base w' rb t0 → Calls Try.prog 16 #[.pointer (some ⟨rb, 0, none⟩), .int .i64 9223372036854775807] w' (RdEnd base w' rb t1 (.int .i64 (kn : Int)))) ∧
              (∀ w', RdAt base w' rb t1 → Calls Try.prog 18 #[.pointer (some ⟨rb, 0, none⟩)] w' (RdEnd base w' rb t2 (.int .i64 N))) ∧
              (∀ w', RdAt base w' rb t2 → Calls Try.prog 20 #[.pointer (some ⟨rb, 0, none⟩), .int .i64 300] w' (RdBytes base w' rb (z, t3))) ∧
              (∀ w', RdAt base w' rb t3 → Calls Try.prog 22 #[.pointer (some ⟨rb, 0, none⟩), .int .i64 (M : Int)] w' (RdBytes base w' rb (z, t4)))) := by
            refine ⟨fun w' h => ?_, fun w' h => ?_, fun w' h => ?_, fun w' h => ?_⟩
            · have := rnumber_any w' base rb t0 9223372036854775807 h
              rw [h0, back_number kn 9223372036854775807 hK63 (by omega), ← h1] at this
              exact this
            · have := rsigned_any w' base rb t1 h
              rw [h1, back_signed N hbd.1 hbd.2, ← h2] at this
              exact this
            · have := rtext_any w' base rb t2 300 h
              rw [h2, back_text z (z ++ rest) hz300, ← h3] at this
              exact this
            · have := rfixed_any w' base rb t3 (M : Int) h
              rw [h3, hM, back_fixed z rest, ← h4, ← hM] at this
              exact this
          have HTT : Hid (RdAt base wr rb t0 ∧ t4 = ⟨encL (l.drop (t + 1)), 0⟩ ∧ M = z.length ∧ SrcP w pa z.length z ∧ t + 1 ≤ l.length ∧ t < L) := ⟨by rw [h0, ← hT0]; exact HL2.out.1, by rw [h4, hrest], hM, hzs, by have := HP.out.2.2.1; omega, hlt⟩
          clear hx hxm hxo hm300 hcells hκ hN hpa hz hpc hM hpv hbd hzs hz300 hK hK63 hrest hT0 h0 h1 h2 h3 h4
          go_upto_region 20 with (fail)
          obtain ⟨wo, hwo⟩ : ∃ wo, wo = wr.alloc (.cells #[.int .i64 κ, .int .i64 N, .slice pa M pc] 29) := ⟨_, rfl⟩
          rw [← hwo]
          obtain ⟨ob, hob⟩ : ∃ ob, ob = wr.heap.size := ⟨_, rfl⟩
          rw [← hob]
          have hobl : wo.heap[ob]? = some (.cells #[.int .i64 κ, .int .i64 N, .slice pa M pc] 29 (0, 0)) := by rw [hwo, hob]; exact heap_alloc_new wr _
          have hBo : Below wr.heap.size wr wo := by rw [hwo]; exact (Below.refl _ wr).alloc (Nat.le_refl _) _
          have hrl := HTT.out.1.lt
          have HO : Hid (ob ≠ rb ∧ wo.heap[ob]? = some (.cells #[.int .i64 κ, .int .i64 N, .slice pa M pc] 29 (0, 0)) ∧ RdAt base wo rb t0 ∧ Below w.heap.size w wo ∧ w.heap.size ≤ wo.heap.size) := by
            have h1 : Below w.heap.size w wo := HL2.out.2.1.trans (hBo.mono HL2.out.2.1.size)
            exact ⟨by omega, hobl, HTT.out.1.below hBo, h1, h1.size⟩
          have HCS : Hid (∀ w', KeptTwo rb rb wo w' → (convert 25 9 (.slice pa M pc)).run Try.prog w' = .ok (Sv z) w') := fun w' hk => by
            have h1 : Below w.heap.size w w' := HO.out.2.2.2.1.trans (hk.below HO.out.2.2.2.2 H4.out.2.1 H4.out.2.1)
            have := run_conv_str w' pa pc z (HTT.out.2.2.2.1.below h1)
            rwa [← HTT.out.2.2.1] at this
          have HG0 : Hid (PBG rb base ob wo #[.int .i64 κ, .int .i64 N, .slice pa M pc] t0 t1 t2 t3 t4 0 wo.drew) := ⟨HO.out.2.2.1, KeptTwo.of_below (Below.refl _ wo).drew, HO.out.2.1⟩
          clear hwo hob hobl hBo hrl d0 d1 d2
          refine wp_region_seq_frame (by kernel_rfl) [none, some 0, none, none, none, none, some 1, none, some 2, none, none, none, none, some 3, none, some 4, none, none, none, none, none, none, some 5, none, none, none, none, some 6, none, none, none, none, none, none] [1, 6, 8, 13, 15, 22, 27] (vOfT [stE (.pointer (some ⟨rb, 0, none⟩)), stE (.int .i64 (kn : Int)), stE (.pointer (some ⟨ob, 1, none⟩)), stE (.int .i64 N), stE (.int .i64 (kn : Int)), stE (.bool false), stE (.bool false), stE (.pointer (some ⟨rb, 0, none⟩)), stE (.int .i64 N), stE (.pointer (some ⟨ob, 1, none⟩)), stE (.int .i64 N), stE (.bool false), stE (.bool false), stE (.bool false), stE (.pointer (some ⟨rb, 0, none⟩)), stS rb rb z, stE (Sv z), stE (.pointer (some ⟨ob, 2, none⟩)), stE (.slice pa M pc), stE (Sv z), stE (.bool false), stE (.bool false), stE (.bool false), stE (.pointer (some ⟨rb, 0, none⟩)), stE (.pointer (some ⟨ob, 2, none⟩)), stE (.slice pa M pc), stE (.int .i64 (M : Int)), stS rb rb z, stE (Sv z), stE (.pointer (some ⟨ob, 2, none⟩)), stE (.slice pa M pc), stE (Sv z), stE (.bool false), stE (.bool false)]) (PBG rb base ob wo #[.int .i64 κ, .int .i64 N, .slice pa M pc] t0 t1 t2 t3 t4) (KeptTwo rb rb) (vOfT_st _) (by kernel_rfl) (by kernel_rfl) (by kernel_rfl) HG0.out ⟨trivial, trivial, trivial, trivial, trivial, trivial, trivial, fun _ _ h => h, fun _ _ h => h, fun _ _ h => h, fun _ _ h => h, fun _ _ h => h, trivial, trivial, fun _ _ h => h, fun _ _ h => h, fun _ _ h => h, fun _ _ h => h, fun _ _ h => h, fun _ _ h => h, fun _ _ h => h, trivial, trivial, fun _ _ h => h, fun _ _ h => h, fun _ _ h => h, fun _ _ h => h, fun _ _ h => h, fun _ _ h => h, fun _ _ h => h, fun _ _ h => h, fun _ _ h => h, fun _ _ h => h, trivial, trivial⟩ ?_ ?_
          · refine ⟨?_, ?_, ?_, ?_, ?_, ?_, ?_, ?_, ?_, ?_, ?_, ?_, ?_, ?_, ?_, ?_, ?_, ?_, ?_, ?_, ?_, ?_, ?_, ?_, ?_, ?_, ?_, ?_, ?_, ?_, ?_, ?_, ?_, ?_, trivial⟩
            · intro k a w' hG hout hpre K hK
              have q8 := ev_of ((hout 8 rfl).trans (show _ = .pointer (some ⟨rb, 0, none⟩) from rfl))
              clear hout hpre
              go_step
              exact hK _ _ rfl hG (KeptTwo.refl _ _ _)
            · intro a w' hG hout hpre K hK
              obtain ⟨p0, _⟩ := hpre
              have q63 := ev_of (show a.eval (.tmp 63) = .pointer (some ⟨rb, 0, none⟩) from p0)
              have HS := Lib.hid (HC.out.1 w' hG.1)
              clear hout p0
              go_step
              refine HS.out.mono ?_
              rintro e w3 ⟨rfl, hR, hg⟩
              exact hK _ _ rfl (hG.step hR hg HO.out.1) (KeptTwo.one hg)
            · intro k a w' hG hout hpre K hK
              have q10 := ev_of ((hout 10 rfl).trans (show _ = .pointer (some ⟨ob, 0, none⟩) from rfl))
              clear hout hpre
              go_step
              exact hK _ _ rfl hG (KeptTwo.refl _ _ _)
            · intro k a w' hG hout hpre K hK
              obtain ⟨p0, _⟩ := hpre
              have q65 := ev_of (show a.eval (.tmp 65) = .pointer (some ⟨ob, 1, none⟩) from p0)
              have hc : w'.cell? ⟨ob, 1, none⟩ = some (.int .i64 N) := hG.cell 1
              clear hout p0
              go_step
              exact hK _ _ rfl hG (KeptTwo.refl _ _ _)
            · intro k a w' hG hout hpre K hK
              obtain ⟨p0, _⟩ := hpre
              have q66 := ev_of (show a.eval (.tmp 66) = .int .i64 N from p0)
              have hand := HAND.out
              clear hout p0
              go_step
              exact hK _ _ rfl hG (KeptTwo.refl _ _ _)
            · intro k a w' hG hout hpre K hK
              obtain ⟨p0, p1, _⟩ := hpre
              have q64 := ev_of (show a.eval (.tmp 64) = .int .i64 (kn : Int) from p0)
              have q67 := ev_of (show a.eval (.tmp 67) = .int .i64 (kn : Int) from p1)
              clear hout p0 p1
              go_step
              exact hK _ _ rfl hG (KeptTwo.refl _ _ _)
            · intro a w' hG hout hpre K hK
              obtain ⟨p0, _⟩ := hpre
              have q68 := ev_of (show a.eval (.tmp 68) = .bool false from p0)
              clear hout p0
              go_step
              exact hK _ _ rfl hG (KeptTwo.refl _ _ _)
            · intro k a w' hG hout hpre K hK
              have q8 := ev_of ((hout 8 rfl).trans (show _ = .pointer (some ⟨rb, 0, none⟩) from rfl))
              clear hout hpre
              go_step
              exact hK _ _ rfl hG (KeptTwo.refl _ _ _)
            · intro a w' hG hout hpre K hK
              obtain ⟨p0, _⟩ := hpre
              have q70 := ev_of (show a.eval (.tmp 70) = .pointer (some ⟨rb, 0, none⟩) from p0)
              have HS := Lib.hid (HC.out.2.1 w' hG.1)
              clear hout p0
              go_step
              refine HS.out.mono ?_
              rintro e w3 ⟨rfl, hR, hg⟩
              exact hK _ _ rfl (hG.step hR hg HO.out.1) (KeptTwo.one hg)
            · intro k a w' hG hout hpre K hK
              have q10 := ev_of ((hout 10 rfl).trans (show _ = .pointer (some ⟨ob, 0, none⟩) from rfl))
              clear hout hpre
              go_step
              exact hK _ _ rfl hG (KeptTwo.refl _ _ _)
            · intro k a w' hG hout hpre K hK
              obtain ⟨p0, _⟩ := hpre
              have q72 := ev_of (show a.eval (.tmp 72) = .pointer (some ⟨ob, 1, none⟩) from p0)
              have hc : w'.cell? ⟨ob, 1, none⟩ = some (.int .i64 N) := hG.cell 1
              clear hout p0
              go_step
              exact hK _ _ rfl hG (KeptTwo.refl _ _ _)
            · intro k a w' hG hout hpre K hK
              obtain ⟨p0, p1, _⟩ := hpre
              have q71 := ev_of (show a.eval (.tmp 71) = .int .i64 N from p0)
              have q73 := ev_of (show a.eval (.tmp 73) = .int .i64 N from p1)
              clear hout p0 p1
              go_step
              exact hK _ _ rfl hG (KeptTwo.refl _ _ _)
            · intro k a w' hG hout hpre K hK
              obtain ⟨p0, p1, _⟩ := hpre
              have q69 := ev_of (show a.eval (.tmp 69) = .bool false from p0)
              have q74 := ev_of (show a.eval (.tmp 74) = .bool false from p1)
              clear hout p0 p1
              go_step
              exact hK _ _ rfl hG (KeptTwo.refl _ _ _)
            · intro a w' hG hout hpre K hK
              obtain ⟨p0, _⟩ := hpre
              have q75 := ev_of (show a.eval (.tmp 75) = .bool false from p0)
              clear hout p0
              go_step
              exact hK _ _ rfl hG (KeptTwo.refl _ _ _)
            · intro k a w' hG hout hpre K hK
              have q8 := ev_of ((hout 8 rfl).trans (show _ = .pointer (some ⟨rb, 0, none⟩) from rfl))
              clear hout hpre
              go_step
              exact hK _ _ rfl hG (KeptTwo.refl _ _ _)
            · intro a w' hG hout hpre K hK
              obtain ⟨p0, _⟩ := hpre
              have q77 := ev_of (show a.eval (.tmp 77) = .pointer (some ⟨rb, 0, none⟩) from p0)
              have HS := Lib.hid (HC.out.2.2.1 w' hG.1)
              clear hout p0
              go_step
              refine HS.out.mono ?_
              rintro e w3 ⟨sa, sc, rfl, hsn, hR, hg⟩
              exact hK _ _ (hsn.srcT hG.1.lt hG.1.lt) (hG.step hR hg HO.out.1) (KeptTwo.one hg)
            · intro k a w' hG hout hpre K hK
              obtain ⟨p0, _⟩ := hpre
              obtain ⟨sa, sc, hv, hs⟩ : SrcT rb rb w' (a.eval (.tmp 78)) z := p0
              have q := ev_of hv
              have hcs := SrcT.str (p := rb) (q := rb) ⟨sa, sc, rfl, hs⟩
              clear hout hs hv
              go_step
              exact hK _ _ rfl hG (KeptTwo.refl _ _ _)
            · intro k a w' hG hout hpre K hK
              have q10 := ev_of ((hout 10 rfl).trans (show _ = .pointer (some ⟨ob, 0, none⟩) from rfl))
              clear hout hpre
              go_step
              exact hK _ _ rfl hG (KeptTwo.refl _ _ _)
            · intro k a w' hG hout hpre K hK
              obtain ⟨p0, _⟩ := hpre
              have q80 := ev_of (show a.eval (.tmp 80) = .pointer (some ⟨ob, 2, none⟩) from p0)
              have hc : w'.cell? ⟨ob, 2, none⟩ = some (.slice pa M pc) := hG.cell 2
              clear hout p0
              go_step
              exact hK _ _ rfl hG (KeptTwo.refl _ _ _)
            · intro k a w' hG hout hpre K hK
              obtain ⟨p0, _⟩ := hpre
              have q81 := ev_of (show a.eval (.tmp 81) = .slice pa M pc from p0)
              have hcs : (convert 25 9 (.slice pa M pc)).run Try.prog w' = .ok (Sv z) w' := HCS.out w' hG.2.1
              clear hout p0
              go_step
              exact hK _ _ rfl hG (KeptTwo.refl _ _ _)
            · intro k a w' hG hout hpre K hK
              obtain ⟨p0, p1, _⟩ := hpre
              have q79 := ev_of (show a.eval (.tmp 79) = Sv z from p0)
              have q82 := ev_of (show a.eval (.tmp 82) = Sv z from p1)
              have hne : ∀ w, (binOp .neq 9 (Sv z) (Sv z)).run Try.prog w = .ok (.bool false) w := fun w => by have := run_neq_Sv w z z; rwa [decide_eq_true rfl] at this
              clear hout p0 p1
              go_step
              exact hK _ _ rfl hG (KeptTwo.refl _ _ _)
            · intro k a w' hG hout hpre K hK
              obtain ⟨p0, p1, _⟩ := hpre
              have q76 := ev_of (show a.eval (.tmp 76) = .bool false from p0)
              have q83 := ev_of (show a.eval (.tmp 83) = .bool false from p1)
              clear hout p0 p1
              go_step
              exact hK _ _ rfl hG (KeptTwo.refl _ _ _)
            · intro a w' hG hout hpre K hK
              obtain ⟨p0, _⟩ := hpre
              have q84 := ev_of (show a.eval (.tmp 84) = .bool false from p0)
              clear hout p0
              go_step
              exact hK _ _ rfl hG (KeptTwo.refl _ _ _)
            · intro k a w' hG hout hpre K hK
              have q8 := ev_of ((hout 8 rfl).trans (show _ = .pointer (some ⟨rb, 0, none⟩) from rfl))
              clear hout hpre
              go_step
              exact hK _ _ rfl hG (KeptTwo.refl _ _ _)
            · intro k a w' hG hout hpre K hK
              have q10 := ev_of ((hout 10 rfl).trans (show _ = .pointer (some ⟨ob, 0, none⟩) from rfl))
              clear hout hpre
              go_step
              exact hK _ _ rfl hG (KeptTwo.refl _ _ _)
            · intro k a w' hG hout hpre K hK
              obtain ⟨p0, _⟩ := hpre
              have q87 := ev_of (show a.eval (.tmp 87) = .pointer (some ⟨ob, 2, none⟩) from p0)
              have hc : w'.cell? ⟨ob, 2, none⟩ = some (.slice pa M pc) := hG.cell 2
              clear hout p0
              go_step
              exact hK _ _ rfl hG (KeptTwo.refl _ _ _)
            · intro k a w' hG hout hpre K hK
              obtain ⟨p0, _⟩ := hpre
              have q88 := ev_of (show a.eval (.tmp 88) = .slice pa M pc from p0)
              clear hout p0
              go_step
              exact hK _ _ rfl hG (KeptTwo.refl _ _ _)
            · intro a w' hG hout hpre K hK
              obtain ⟨p0, p1, _⟩ := hpre
              have q86 := ev_of (show a.eval (.tmp 86) = .pointer (some ⟨rb, 0, none⟩) from p0)
              have q89 := ev_of (show a.eval (.tmp 89) = .int .i64 (M : Int) from p1)
              have HS := Lib.hid (HC.out.2.2.2 w' hG.1)
              clear hout p0 p1
              go_step
              refine HS.out.mono ?_
              rintro e w3 ⟨sa, sc, rfl, hsn, hR, hg⟩
              exact hK _ _ (hsn.srcT hG.1.lt hG.1.lt) (hG.step hR hg HO.out.1) (KeptTwo.one hg)
            · intro k a w' hG hout hpre K hK
              obtain ⟨p0, _⟩ := hpre
              obtain ⟨sa, sc, hv, hs⟩ : SrcT rb rb w' (a.eval (.tmp 90)) z := p0
              have q := ev_of hv
              have hcs := SrcT.str (p := rb) (q := rb) ⟨sa, sc, rfl, hs⟩
              clear hout hs hv
              go_step
              exact hK _ _ rfl hG (KeptTwo.refl _ _ _)
            · intro k a w' hG hout hpre K hK
              have q10 := ev_of ((hout 10 rfl).trans (show _ = .pointer (some ⟨ob, 0, none⟩) from rfl))
              clear hout hpre
              go_step
              exact hK _ _ rfl hG (KeptTwo.refl _ _ _)
            · intro k a w' hG hout hpre K hK
              obtain ⟨p0, _⟩ := hpre
              have q92 := ev_of (show a.eval (.tmp 92) = .pointer (some ⟨ob, 2, none⟩) from p0)
              have hc : w'.cell? ⟨ob, 2, none⟩ = some (.slice pa M pc) := hG.cell 2
              clear hout p0
              go_step
              exact hK _ _ rfl hG (KeptTwo.refl _ _ _)
            · intro k a w' hG hout hpre K hK
              obtain ⟨p0, _⟩ := hpre
              have q93 := ev_of (show a.eval (.tmp 93) = .slice pa M pc from p0)
              have hcs : (convert 25 9 (.slice pa M pc)).run Try.prog w' = .ok (Sv z) w' := HCS.out w' hG.2.1
              clear hout p0
              go_step
              exact hK _ _ rfl hG (KeptTwo.refl _ _ _)
            · intro k a w' hG hout hpre K hK
              obtain ⟨p0, p1, _⟩ := hpre
              have q91 := ev_of (show a.eval (.tmp 91) = Sv z from p0)
              have q94 := ev_of (show a.eval (.tmp 94) = Sv z from p1)
              have hne : ∀ w, (binOp .neq 9 (Sv z) (Sv z)).run Try.prog w = .ok (.bool false) w := fun w => by have := run_neq_Sv w z z; rwa [decide_eq_true rfl] at this
              clear hout p0 p1
              go_step
              exact hK _ _ rfl hG (KeptTwo.refl _ _ _)
            · intro k a w' hG hout hpre K hK
              obtain ⟨p0, p1, _⟩ := hpre
              have q85 := ev_of (show a.eval (.tmp 85) = .bool false from p0)
              have q95 := ev_of (show a.eval (.tmp 95) = .bool false from p1)
              clear hout p0 p1
              go_step
              exact hK _ _ rfl hG (KeptTwo.refl _ _ _)
          · intro vs w2 hG hlen hV
            match vs, hlen, hV with
            | v0 :: v1 :: v2 :: v3 :: v4 :: v5 :: v6 :: v7 :: v8 :: v9 :: v10 :: v11 :: v12 :: v13 :: v14 :: v15 :: v16 :: v17 :: v18 :: v19 :: v20 :: v21 :: v22 :: v23 :: v24 :: v25 :: v26 :: v27 :: v28 :: v29 :: v30 :: v31 :: v32 :: v33 :: [], _, hV =>
              obtain rfl : v33 = .bool false := hV 33 96 v33 rfl rfl
              clear hV
              simp only [putsL, List.tail_cons, List.headD_cons]
              simp only [Act.put, List.setIfInBounds_toArray, List.set_cons_succ, List.set_cons_zero]
              have HR : Hid (RdAt base w2 rb t4 ∧ KeptTwo rb rb wo w2) := ⟨hG.1, hG.2.1⟩
              clear hG
              go_wp2_with (fail)
              exact ⟨⟨t + 1, HTT.out.2.2.2.2.1, by go_num, by rw [← HTT.out.2.1]; exact HR.out.1, HO.out.2.2.2.1.trans (HR.out.2.below HO.out.2.2.2.2 H4.out.2.1 H4.out.2.1)⟩, by have := HTT.out.2.2.2.2.2; simp [intOf]; omega⟩
        · obtain rfl : t = L := by have := HL2.out.2.2; have := HP.out.2.2.1; omega
          have HEND : Hid (Calls Try.prog 27 #[.pointer (some ⟨rb, 0, none⟩)] wr fun e w' => e = .returned (.int .i64 0) ∧ w' = wr) := by
            have h := rend_any wr base rb _ HL2.out.1
            have e : (TapeL.mk (encL (l.drop t)) 0).done = 0 := by
              rw [HP.out.2.2.1, List.drop_length]
              rfl
            rw [e] at h
            exact h
          go_wp2_with (fail)
          refine HEND.out.mono ?_
          rintro e w5 ⟨rfl, rfl⟩
          obtain ⟨W5, hW5⟩ : ∃ W, W = w5.alloc (.cells #[.slice none 0 0] 27) := ⟨_, rfl⟩
          obtain ⟨qb, hqb⟩ : ∃ q, q = w5.heap.size := ⟨_, rfl⟩
          have hB5 : Below w5.heap.size w5 W5 := by rw [hW5]; exact (Below.refl _ w5).alloc (Nat.le_refl _) _
          have H5 : Hid ((∀ X, PenAt X W5 qb []) ∧ w.heap.size ≤ qb ∧ Below w.heap.size w W5) := ⟨fun X => by rw [hW5, hqb]; exact PenAt.new X w5, by rw [hqb]; exact HL2.out.2.1.size, HL2.out.2.1.trans (hB5.mono HL2.out.2.1.size)⟩
          clear hB5
          dsimp only
          go_upto_region 25 with (fail)
          refine wp_region_lit ?_
          iterate 6 go_step
          rw [← hW5, ← hqb]
          clear hW5 hqb
          go_wp2_with (fail)
          refine (rread_any W5 ba bc Q m HP.out.2.2.2.1 (HP.out.2.2.2.2.1.below H5.out.2.2) HP.out.2.2.2.2.2.1 (by have := HP.out.2.2.2.1; have := HQ2.out; omega)).mono ?_
          rintro e w6 ⟨sb, rfl, hR, hsb, hB6⟩
          obtain ⟨base2, hbase2⟩ : ∃ x, x = w6.heap.size := ⟨_, rfl⟩
          have H6 : Hid (RdAt base2 w6 sb ⟨m, 0⟩ ∧ PenAt (fun k => k < base2) w6 qb [] ∧ Below w.heap.size w w6 ∧ w.heap.size ≤ sb ∧ base2 = w6.heap.size) := by
            have h1 : Below w.heap.size w w6 := H5.out.2.2.trans (hB6.mono H5.out.2.2.size)
            exact ⟨by rw [hbase2]; exact hR, (H5.out.1 _).below hB6, h1, Nat.le_trans H5.out.2.2.size hsb, hbase2⟩
          clear hR hsb hB6 hbase2
          dsimp only
          go_wp2_with (fail)
          go_loopw [13] (PBRel3 w.heap.size sb qb base2 (fun k => k < base2) w m) (fun _ w => rdLeft sb w)
          case atStart => exact ⟨⟨m, 0⟩, [], H6.out.1, H6.out.2.1, H6.out.2.2.1, Nat.le_of_eq H6.out.2.2.2.2, fun _ => rfl, by simp, fun h => absurd rfl h⟩
          case round =>
            obtain ⟨tp, acc3, hR, hPn, hBw, hbs, hinv, hlen, herr⟩ := hrel
            obtain ⟨n, hn⟩ : ∃ n, n = tp.s.length := ⟨_, rfl⟩
            have HLf : Hid (Calls Try.prog 29 #[.pointer (some ⟨sb, 0, none⟩)] wr fun e w' => e = .returned (.int .i64 (n : Int)) ∧ w' = wr) := by
              have h := rleft_any wr base2 sb tp hR
              rw [← hn] at h
              exact h
            have H7 := Lib.hid (And.intro hR (And.intro hPn (And.intro hBw (And.intro hbs (And.intro hinv (And.intro hlen (And.intro herr hn)))))))
            clear hR hPn hBw hbs hinv hlen herr hn
            by_cases hpos : 0 < n
            · have hpos' : (0 : Int) < (n : Int) := by omega
              have he0 : tp.e = 0 := by
                by_cases h : tp.e = 0
                · exact h
                · have h2 := H7.out.2.2.2.2.2.2.1 h
                  have h3 := H7.out.2.2.2.2.2.2.2
                  rw [h2] at h3
                  simp at h3
                  omega
              have HPOS := Lib.hid hpos
              rcases signed_cases tp he0 with ⟨v, r, hsg, hts, hv1, hv2, hvl⟩ | ⟨hbe, hbs⟩
              · have HSG : Hid (Calls Try.prog 18 #[.pointer (some ⟨sb, 0, none⟩)] wr (RdEnd base2 wr sb ⟨r, 0⟩ (.int .i64 v))) := by
                  have h := rsigned_any wr base2 sb tp H7.out.1
                  rw [hsg] at h
                  exact h
                have HV : Hid (tp.s = signedL v ++ r ∧ -9223372036854775808 ≤ v ∧ v < 9223372036854775808 ∧ 0 < (signedL v).length ∧ acc3 ++ tp.s = m) := ⟨hts, hv1, hv2, hvl, H7.out.2.2.2.2.1 he0⟩
                clear hpos he0 hsg hts hv1 hv2 hvl
                go_wp2_with (fail)
                refine HLf.out.mono ?_
                rintro e w7 ⟨rfl, rfl⟩
                dsimp only
                go_wp2_with (fail)
                refine HSG.out.mono ?_
                rintro e w8 ⟨rfl, hR8, hg8⟩
                have H8 : Hid (RdAt base2 w8 sb ⟨r, 0⟩ ∧ PenAt (fun k => k < base2) w8 qb acc3 ∧ Below w.heap.size w w8 ∧ base2 ≤ w8.heap.size) := by
                  refine ⟨hR8, PenAt.aside H7.out.2.1 H7.out.1 hg8, below_own H7.out.2.2.1 H6.out.2.2.2.1 H7.out.2.2.1.size hg8, Nat.le_trans H7.out.2.2.2.1 hg8.size⟩
                have HER : Hid (Calls Try.prog 26 #[.pointer (some ⟨sb, 0, none⟩)] w8 fun e w' => e = .returned (.int .i64 0) ∧ w' = w8) := Lib.hid (rerr_any w8 base2 sb ⟨r, 0⟩ hR8)
                clear hR8 hg8
                dsimp only
                go_wp2_with (fail)
                refine HER.out.mono ?_
                rintro e w9 ⟨rfl, rfl⟩
                dsimp only
                go_wp2_with (fail)
                refine (psigned_any w9 (fun k => k < base2) qb v acc3 HV.out.2.1 HV.out.2.2.1 H8.out.2.1 (fun k hk => Nat.lt_of_lt_of_le hk H8.out.2.2.2) (by have := H7.out.2.2.2.2.2.1; have := HP.out.2.2.2.1; have := HQ2.out; omega)).mono ?_
                rintro e w10 ⟨rfl, hP10, hK10⟩
                have HZ : Hid (PBRel3 w.heap.size sb qb base2 (fun k => k < base2) w m (.int .i64 v) w10 ∧ rdLeft sb w10 < rdLeft sb w7) := by
                  have hR10 := RdAt.pen H8.out.1 H8.out.2.1 hK10 (fun k hk => hk)
                  have hfull : (acc3 ++ signedL v) ++ r = m := by
                    rw [List.append_assoc, ← HV.out.1]
                    exact HV.out.2.2.2.2
                  refine ⟨⟨⟨r, 0⟩, acc3 ++ signedL v, hR10, hP10, H8.out.2.2.1.trans (hK10.below (B := w.heap.size) (fun k hk => ?_) H5.out.2.1 H8.out.2.2.1.size), Nat.le_trans H8.out.2.2.2 hK10.size, fun _ => hfull, ?_, fun h => absurd rfl h⟩, ?_⟩
                  · have := H6.out.2.2.1.size
                    have := H6.out.2.2.2.2
                    omega
                  · rw [← hfull]
                    simp
                  · rw [rdLeft_eq hR10, rdLeft_eq H7.out.1, HV.out.1, List.length_append]
                    have := HV.out.2.2.2.1
                    show r.length < _
                    omega
                clear hP10 hK10
                dsimp only
                go_wp2_with (fail)
                exact HZ.out
              · obtain ⟨v, hv⟩ : ∃ v, v = tp.signed.1 := ⟨_, rfl⟩
                obtain ⟨tq, htq⟩ : ∃ v, v = tp.signed.2 := ⟨_, rfl⟩
                obtain ⟨te, hte⟩ : ∃ v, v = tq.e := ⟨_, rfl⟩
                have HSG : Hid (Calls Try.prog 18 #[.pointer (some ⟨sb, 0, none⟩)] wr (RdEnd base2 wr sb tq (.int .i64 v))) := by
                  have h := rsigned_any wr base2 sb tp H7.out.1
                  rw [← hv, ← htq] at h
                  exact h
                rw [← htq] at hbe hbs
                have e1 : (te == 0) = false := by rw [hte]; simpa using hbe
                have HV := Lib.hid (And.intro hbe (And.intro hbs hte))
                clear hpos he0 hv htq hbe hbs hte
                go_wp2_with (fail)
                refine HLf.out.mono ?_
                rintro e w7 ⟨rfl, rfl⟩
                dsimp only
                go_wp2_with (fail)
                refine HSG.out.mono ?_
                rintro e w8 ⟨rfl, hR8, hg8⟩
                have HER : Hid (Calls Try.prog 26 #[.pointer (some ⟨sb, 0, none⟩)] w8 fun e w' => e = .returned (.int .i64 te) ∧ w' = w8) := by
                  have h := rerr_any w8 base2 sb tq hR8
                  rw [← HV.out.2.2] at h
                  exact h
                have HZ : Hid (∀ x, PBRel3 w.heap.size sb qb base2 (fun k => k < base2) w m x w8 ∧ rdLeft sb w8 < rdLeft sb w7) := by
                  intro x
                  refine ⟨⟨tq, acc3, hR8, PenAt.aside H7.out.2.1 H7.out.1 hg8, below_own H7.out.2.2.1 H6.out.2.2.2.1 H7.out.2.2.1.size hg8, Nat.le_trans H7.out.2.2.2.1 hg8.size, fun h => absurd h HV.out.1, H7.out.2.2.2.2.2.1, fun _ => HV.out.2.1⟩, ?_⟩
                  rw [rdLeft_eq hR8, rdLeft_eq H7.out.1, HV.out.2.1, ← H7.out.2.2.2.2.2.2.2]
                  exact HPOS.out
                clear hR8 hg8
                dsimp only
                go_wp2_with (fail)
                refine HER.out.mono ?_
                rintro e w9 ⟨rfl, rfl⟩
                dsimp only
                go_wp2_with (fail)
                exact HZ.out _
            · have hpos' : ¬ (0 : Int) < (n : Int) := by omega
              have hnil : tp.s = [] := List.eq_nil_of_length_eq_zero (by have := H7.out.2.2.2.2.2.2.2; omega)
              have HNIL := Lib.hid hnil
              clear hpos hnil
              go_wp2_with (fail)
              refine HLf.out.mono ?_
              rintro e W7 ⟨rfl, rfl⟩
              dsimp only
              go_upto_region 30 with (fail)
              by_cases he : tp.e = 0
              · have hacc : acc3 = m := by
                  have h := H7.out.2.2.2.2.1 he
                  rw [HNIL.out, List.append_nil] at h
                  exact h
                have HC : Hid ((∀ w', Below W7.heap.size W7 w' → Calls Try.prog 26 #[.pointer (some ⟨sb, 0, none⟩)] w' fun e w'' => e = .returned (.int .i64 0) ∧ w'' = w') ∧
                    (∀ w', Below W7.heap.size W7 w' → Calls Try.prog 14 #[.pointer (some ⟨qb, 0, none⟩)] w' (BytesEnd w' m))) := by
                  refine ⟨fun w' hB => ?_, fun w' hB => ?_⟩
                  · have h := rerr_any w' base2 sb tp (H7.out.1.below hB)
                    rw [he] at h
                    exact h
                  · have h := pbytes_any w' (fun k => k < base2) qb acc3 (H7.out.2.1.below hB) (by rw [hacc]; have := HP.out.2.2.2.1; have := HQ2.out; omega)
                    rw [hacc] at h
                    exact h
                have HCB : Hid (∀ w', Below W7.heap.size W7 w' → (convert 25 9 (.slice ba Q bc)).run Try.prog w' = .ok (Sv m) w') := fun w' hB => by
                  have := run_conv_str w' ba bc m (HP.out.2.2.2.2.1.below (H7.out.2.2.1.trans (hB.mono H7.out.2.2.1.size)))
                  rwa [← HP.out.2.2.2.1] at this
                have HG30 : Hid (Below W7.heap.size W7 W7.drew) := (Below.refl _ W7).drew
                clear he hacc
                refine wp_region_seq_frame (by kernel_rfl) [none, none, none, none, none, none, none, none, none, none, none, none] [] (vOfT [stE (.pointer (some ⟨sb, 0, none⟩)), stE (.int .i64 0), stE (.bool false), stE (.bool false), stE (.pointer (some ⟨qb, 0, none⟩)), stB m, stE (Sv m), stE (.slice ba Q bc), stE (Sv m), stE (.bool true), stE (.bool true), stE (.bool true)]) (fun _ w' => Below W7.heap.size W7 w') (fun w w' => Below w.heap.size w w') (vOfT_st _) (by kernel_rfl) (by kernel_rfl) (by kernel_rfl) HG30.out ⟨trivial, trivial, trivial, trivial, fun _ _ h => h, fun _ _ h => h, fun _ _ h => h, fun _ _ h => h, fun _ _ h => h, fun _ _ h => h, trivial, trivial, trivial⟩ ?_ ?_
                · refine ⟨?_, ?_, ?_, ?_, ?_, ?_, ?_, ?_, ?_, ?_, ?_, ?_, trivial⟩
                  · intro k a w' hG hout hpre K hK
                    have q12 := ev_of ((hout 12 rfl).trans (show _ = .pointer (some ⟨sb, 0, none⟩) from rfl))
                    clear hout hpre
                    go_step
                    exact hK _ _ rfl hG (Below.refl _ _)
                  · intro k a w' hG hout hpre K hK
                    obtain ⟨p0, _⟩ := hpre
                    have q116 := ev_of (show a.eval (.tmp 116) = .pointer (some ⟨sb, 0, none⟩) from p0)
                    have HS := Lib.hid (HC.out.1 w' hG)
                    clear hout p0
                    go_step
                    refine HS.out.mono ?_
                    rintro e w3 ⟨rfl, rfl⟩
                    exact hK _ _ rfl hG (Below.refl _ _)
                  · intro k a w' hG hout hpre K hK
                    obtain ⟨p0, _⟩ := hpre
                    have q117 := ev_of (show a.eval (.tmp 117) = .int .i64 0 from p0)
                    clear hout p0
                    go_step
                    exact hK _ _ rfl hG (Below.refl _ _)
                  · intro k a w' hG hout hpre K hK
                    obtain ⟨p0, _⟩ := hpre
                    have q118 := ev_of (show a.eval (.tmp 118) = .bool false from p0)
                    clear hout p0
                    go_step
                    exact hK _ _ rfl hG (Below.refl _ _)
                  · intro k a w' hG hout hpre K hK
                    have q11 := ev_of ((hout 11 rfl).trans (show _ = .pointer (some ⟨qb, 0, none⟩) from rfl))
                    clear hout hpre
                    go_step
                    exact hK _ _ rfl hG (Below.refl _ _)
                  · intro k a w' hG hout hpre K hK
                    obtain ⟨p0, _⟩ := hpre
                    have q120 := ev_of (show a.eval (.tmp 120) = .pointer (some ⟨qb, 0, none⟩) from p0)
                    have HS := Lib.hid (HC.out.2 w' hG)
                    clear hout p0
                    go_step
                    refine HS.out.mono ?_
                    rintro e w3 ⟨sa, sc, rfl, _, _, _, hsn, hB⟩
                    exact hK _ _ ⟨sa, sc, rfl, hsn.srcP⟩ (hG.trans (hB.mono hG.size)) hB
                  · intro k a w' hG hout hpre K hK
                    obtain ⟨p0, _⟩ := hpre
                    obtain ⟨sa, sc, hv, hs⟩ : ∃ a' c', a.eval (.tmp 121) = .slice a' m.length c' ∧ SrcP w' a' m.length m := p0
                    have q := ev_of hv
                    have hcs := run_conv_str w' sa sc m hs
                    clear hout hs hv
                    go_step
                    exact hK _ _ rfl hG (Below.refl _ _)
                  · intro k a w' hG hout hpre K hK
                    have q1 := ev_of ((hout 1 rfl).trans (show _ = .slice ba Q bc from rfl))
                    clear hout hpre
                    go_step
                    exact hK _ _ rfl hG (Below.refl _ _)
                  · intro k a w' hG hout hpre K hK
                    obtain ⟨p0, _⟩ := hpre
                    have q123 := ev_of (show a.eval (.tmp 123) = .slice ba Q bc from p0)
                    have hcs : (convert 25 9 (.slice ba Q bc)).run Try.prog w' = .ok (Sv m) w' := HCB.out w' hG
                    clear hout p0
                    go_step
                    exact hK _ _ rfl hG (Below.refl _ _)
                  · intro k a w' hG hout hpre K hK
                    obtain ⟨p0, p1, _⟩ := hpre
                    have q122 := ev_of (show a.eval (.tmp 122) = Sv m from p0)
                    have q124 := ev_of (show a.eval (.tmp 124) = Sv m from p1)
                    have heq : ∀ w, (binOp .eql 9 (Sv m) (Sv m)).run Try.prog w = .ok (.bool true) w := fun w => by have := run_eql_Sv w m m; rwa [decide_eq_true rfl] at this
                    clear hout p0 p1
                    go_step
                    exact hK _ _ rfl hG (Below.refl _ _)
                  · intro k a w' hG hout hpre K hK
                    obtain ⟨p0, p1, _⟩ := hpre
                    have q119 := ev_of (show a.eval (.tmp 119) = .bool false from p0)
                    have q125 := ev_of (show a.eval (.tmp 125) = .bool true from p1)
                    clear hout p0 p1
                    go_step
                    exact hK _ _ rfl hG (Below.refl _ _)
                  · intro k a w' hG hout hpre K hK
                    obtain ⟨p0, _⟩ := hpre
                    have q126 := ev_of (show a.eval (.tmp 126) = .bool true from p0)
                    clear hout p0
                    go_step
                    exact hK _ _ rfl hG (Below.refl _ _)
                · intro vs w2 hG hlen hV
                  match vs, hlen, hV with
                  | [v0, v1, v2, v3, v4, v5, v6, v7, v8, v9, v10, v11], _, hV =>
                    obtain rfl : v11 = .bool true := hV 11 4 v11 rfl rfl
                    clear hV
                    simp only [putsL, List.tail_cons, List.headD_cons]
                    simp only [Act.put, List.setIfInBounds_toArray, List.set_cons_succ, List.set_cons_zero]
                    have HZ : Hid (Below w.heap.size w w2) := H7.out.2.2.1.trans (hG.mono H7.out.2.2.1.size)
                    clear hG
                    go_wp2_with (fail)
                    go_ret
                    exact ⟨rfl, HZ.out⟩
              · have HEE : Hid (tp.e ≠ 0) := he
                obtain ⟨te, hte⟩ : ∃ v, v = tp.e := ⟨_, rfl⟩
                have e1 : (te != 0) = true := by rw [hte]; simpa using he
                have HER : Hid (∀ w', Below W7.heap.size W7 w' → Calls Try.prog 26 #[.pointer (some ⟨sb, 0, none⟩)] w' fun e w'' => e = .returned (.int .i64 te) ∧ w'' = w') := fun w' hB => by
                  have h := rerr_any w' base2 sb tp (H7.out.1.below hB)
                  rw [← hte] at h
                  exact h
                have HWW : Hid (Below w.heap.size w W7) := H7.out.2.2.1
                clear he hte
                go_quiet ((go_at_call 26; exact Calls.quiet_of_same (HER.out _ (below_draws (Below.refl _ _) _))))
                go_wp2_with (fail)
                go_ret
                exact ⟨rfl, HWW.out.trans ((below_draws (Below.refl _ _) _).mono HWW.out.size)⟩
end Go.Proofs.Ytgmpkkhejbnlhaa
