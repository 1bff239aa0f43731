/-
  SessGrows, whatever list and time it is called with, of bulk that is bounded.
-/
import Derived.Test.YtbfioekbahcicaaSessBegin
namespace Go.Proofs.Ytbfioekbahcicaa
open Go Go.RowKit

def hasAny (l : List WindowL) (k : List (BitVec 8)) (t : Int) : Bool := l.any fun x => decide (x.key = k) && hasW x t
theorem hasAny_take {l : List WindowL} {k : List (BitVec 8)} {t : Int} {j : Nat} {x : WindowL} (h : l[j]? = some x) : hasAny (l.take (j + 1)) k t = (hasAny (l.take j) k t || (decide (x.key = k) && hasW x t)) := by
  rw [hasAny, List.take_add_one, h, List.any_append]
  simp [hasAny]
/-- A time's being in one of a list's windows is told by what the right ones cover. -/
theorem hasAny_cov (l : List WindowL) (k : List (BitVec 8)) (t : Int) : hasAny l k t = true ↔ Cov (rightsW l) k (2 * t + 1) := by
  simp only [hasAny, List.any_eq_true, Bool.and_eq_true, decide_eq_true_eq, hasW, Cov, rightsW, List.mem_filter]
  constructor
  · rintro ⟨x, hx, hk, hr, h1, h2⟩
    exact ⟨x, ⟨hx, hr⟩, hk, by omega, by omega⟩
  · rintro ⟨x, ⟨hx, hr⟩, hk, h1, h2⟩
    exact ⟨x, hx, hk, hr, by omega, by omega⟩
theorem rightsW_of {l : List WindowL} (h : ∀ x ∈ l, x.rightB = true) : rightsW l = l := List.filter_eq_self.2 h
theorem hasAny_all (l : List WindowL) (k : List (BitVec 8)) (t : Int) : hasAny (allL l) k t = hasAny l k t := by
  have h := allL_spec l
  refine Bool.eq_iff_iff.2 ?_
  rw [hasAny_cov, hasAny_cov, rightsW_of h.1.1]
  exact h.2 k _
theorem allL_key {l : List WindowL} {B : Nat} (h : ∀ x ∈ l, x.key.length ≤ B) {x : WindowL} (hx : x ∈ allL l) : x.key.length ≤ B := by
  have hs := allL_spec l
  have rx := rightW_cases (hs.1.1 x hx)
  obtain ⟨y, hy, hk, _⟩ := (hs.2 x.key (2 * x.lo)).1 ⟨x, hx, rfl, Int.le_refl _, by omega⟩
  rw [← hk]
  exact h y (List.mem_filter.1 hy).1
theorem insW_len (out : List WindowL) (x : WindowL) : (insW out x).length = out.length + 1 := by rw [(insW_perm out x).length_eq, List.length_cons]
theorem takeL_len (l : List WindowL) (x : WindowL) : (takeL l x).1.length ≤ l.length + 1 := by
  rw [takeL]
  split
  · have h2 : (restW l x).length ≤ l.length := List.length_filter_le _ _
    simp only
    rw [takeS, ← sortTo_all, sortTo_length (Nat.le_refl _), List.length_append, List.length_singleton]
    omega
  · simp
theorem allL_len (l : List WindowL) : (allL l).length ≤ l.length := by
  have : ∀ (l acc : List WindowL), (l.foldl (fun acc w => (takeL acc w).1) acc).length ≤ acc.length + l.length := by
    intro l
    induction l with
    | nil => intro acc; simp
    | cons x l ih =>
      intro acc
      have h1 := ih (takeL acc x).1
      have h2 := takeL_len acc x
      simp only [List.foldl_cons, List.length_cons]
      omega
  have h := this l []
  simpa [allL] using h
/-- '[]string{..}' of two. -/
theorem wpList_slice2_S {ops : Array Oper} {rest : List Oper} {o : Oper} {a : Act} {w : World} {Q : Exit → Act → World → Prop} (hg : o.guard = none) (y z : Operand) (ho : o.op = .buildSlice 36 2 #[(0, y), (1, z)]) (x1 x2 : List (BitVec 8)) (hy : a.eval y = Sv x1) (hz : a.eval z = Sv x2)
    (h : wpList Try.prog ops Q rest (a.put o.dst (.slice (some ⟨w.heap.size, 0, none⟩) 2 2)) (w.alloc (.cells #[Sv x1, Sv x2] 9))) : wpList Try.prog ops Q (o :: rest) a w := by
  have hF : Instr.fill (fun i => some (i * 1, 1)) ((Array.range (2 * 1)).map ((Value.string ⟨#[]⟩).cells[· % (Value.string ⟨#[]⟩).cells.size]!)) [(0, Sv x1), (1, Sv x2)] = some #[Sv x1, Sv x2] := by kernel_rfl
  obtain ⟨i, hi, hz0, hz1, hz2⟩ := info_parts (P := Try.prog) (e := 9) (z := .string ⟨#[]⟩) (size := 1) (bytes := 16) (by kernel_rfl)
  refine wpList_buildSlice hg 36 9 2 _ ho #[Sv x1, Sv x2] i _ Try.underlying36 hi hz0 (by rw [hz1]; decide) (by rw [hz1]; decide) ?_ h
  rw [hz1]
  simp only [List.map_toArray, List.map_cons, List.map_nil, hy, hz]
  exact hF
def annL : List (BitVec 8) := [97, 110, 110]
def bobL : List (BitVec 8) := [98, 111, 98]
def keyAt (i : Nat) : List (BitVec 8) := if i = 0 then annL else bobL
def BackRel (w : World) (l : List WindowL) (v i : Value) (wr : World) : Prop := ∃ j : Nat, j ≤ l.length ∧ i = .int .i64 (j : Int) ∧ OwnW wr w.heap.size v (l.reverse.take j) ∧ Below w.heap.size w wr
def HRel (w : World) (l : List WindowL) (k : List (BitVec 8)) (t : Int) (s i : Value) (wr : World) : Prop := ∃ j : Nat, j ≤ l.length ∧ i = .int .i64 (j : Int) ∧ s = .bool (hasAny (l.take j) k t) ∧ Below w.heap.size w wr
def KRel (w : World) (n : Nat) (i : Value) (wr : World) : Prop := ∃ j : Nat, j ≤ n ∧ i = .int .i64 (j : Int) ∧ Below w.heap.size w wr
set_option maxRecDepth 100000 in
set_option maxHeartbeats 4000000 in
theorem sessGrows_any (w : World) (sa : Option Addr) (sc : Nat) (l : List WindowL) (t : Int) (hA : WinsAt w sa l) (hk : ∀ y ∈ l, y.key.length ≤ 1048576) (hn : l.length ≤ 1048576) :
    Calls Try.prog 4 #[.slice sa l.length sc, .int .i64 t] w (Below0 w (.bool true)) := by
  obtain ⟨n, hN⟩ : ∃ n, n = l.length := ⟨_, rfl⟩
  obtain ⟨P, hP⟩ : ∃ P, P = Below0 w (.bool true) := ⟨_, rfl⟩
  rw [← hP, ← hN]
  have HYes : Hid (∀ w', Below w.heap.size w w' → P (.returned (.bool true)) w') := Lib.hid (fun w' h => by rw [hP]; exact ⟨rfl, h⟩)
  have HN : Hid (n = l.length) := Lib.hid hN
  have HA := Lib.hid hA
  obtain ⟨gb, hgb⟩ : ∃ b, b = decide (1200 < weighW l) := ⟨_, rfl⟩
  have HCg : Hid (∀ w', Below w.heap.size w w' → Calls Try.prog 7 #[.slice sa n sc] w' (Below0 w' (.bool gb))) := by
    rw [hgb, hN]
    exact Lib.hid (fun w' h => sgreat_any w' sa sc l (hA.below h) hk hn)
  have Hgb := Lib.hid hgb
  have HF := Lib.hid (sfirst_any w)
  clear hN hA hk hn hP hgb
  go_enter Try.func4, Try.ntmps4
  go_wp2_with (fail)
  refine HF.out.mono ?_
  rintro e w2 ⟨rfl, hB⟩
  have H2 : Hid (Below w.heap.size w w2) := Lib.hid hB
  clear hB HF
  dsimp only
  go_wp2_with (fail)
  refine (HCg.out w2 H2.out).mono ?_
  rintro e w3 ⟨rfl, hB⟩
  have H3 : Hid (Below w.heap.size w w3) := Lib.hid (H2.out.trans (hB.mono H2.out.size))
  clear hB H2 HCg
  dsimp only
  cases gb with
  | true =>
    have HZ := Lib.hid (HYes.out w3 H3.out)
    go_wp2_with (fail)
    exact HZ.out
  | false =>
  have HL : Hid (n ≤ 60 ∧ ∀ y ∈ l, y.key.length ≤ 1200) := by
    have h := of_decide_eq_false Hgb.out.symm
    refine Lib.hid ⟨by have := weighW_len l; have := HN.out; omega, fun y hy => ?_⟩
    have := weighW_mem hy
    omega
  have hn6 : n ≤ 60 := HL.out.1
  obtain ⟨L, hL⟩ : ∃ m, m = allL l := ⟨_, rfl⟩
  have HLe : Hid (L = allL l ∧ L.length ≤ 60 ∧ ∀ y ∈ L, y.key.length ≤ 1200) := by
    rw [hL]
    exact Lib.hid ⟨rfl, by have := allL_len l; have := HN.out; omega, fun y hy => allL_key HL.out.2 hy⟩
  have HCa : Hid ((∀ w', Below w.heap.size w w' → Calls Try.prog 16 #[.slice sa n sc] w' (WinsNew w' L)) ∧ ∀ w', Below w.heap.size w w' → Calls Try.prog 17 #[.slice sa n sc] w' (WinsNew w' L)) := by
    have h0 := HN.out
    rw [hL, HN.out]
    exact Lib.hid ⟨fun w' h => sAll_any w' sa sc l (HA.out.below h) (fun y hy => Nat.le_trans (HL.out.2 y hy) (by decide)) (by omega), fun w' h => rsAll_any w' sa sc l (HA.out.below h) (fun y hy => Nat.le_trans (HL.out.2 y hy) (by decide)) (by omega)⟩
  clear hL
  go_wp2_with (fail)
  refine (HCa.out.1 w3 H3.out).mono ?_
  rintro e w4 ⟨v, rfl, k1, hB⟩
  obtain ⟨oa, oc, rfl, _, hOW⟩ := k1.form
  obtain ⟨m, hm⟩ : ∃ m, m = L.length := ⟨_, rfl⟩
  have H4 : Hid (WinsAt w4 oa L ∧ Below w.heap.size w w4 ∧ m = L.length) := Lib.hid ⟨hOW, H3.out.trans (hB.mono H3.out.size), hm⟩
  rw [← hm]
  have hm6 : m ≤ 60 := by rw [hm]; exact HLe.out.2.1
  clear k1 hB hOW hm H3
  dsimp only
  go_wp2_with (fail)
  go_loopw [6, 24] (BackRel w4 l) (fun _ i _ => n - (intOf i).toNat)
  case atStart => exact ⟨0, Nat.zero_le _, rfl, OwnW.nil _ _, Below.refl _ _⟩
  case round =>
    obtain ⟨j, hj, rfl, hO, hB⟩ := hrel
    rw [← HN.out] at hj
    have HB := Lib.hid (And.intro hO hB)
    clear hO hB
    obtain ⟨vb, hvb⟩ : ∃ v, v = u6 := ⟨_, rfl⟩
    subst hvb
    by_cases hlt : j < n
    · have hi0 : (0 : Int) ≤ (j : Int) ∧ (j : Int) < (n : Int) := by omega
      obtain ⟨q, hq⟩ : ∃ q, n = q + 1 := ⟨n - 1, by omega⟩
      obtain ⟨p, hp⟩ : ∃ p, q = p + j := ⟨q - j, by omega⟩
      have him1 : (n : Int) - 1 = (q : Int) := by omega
      have him2 : (q : Int) - (j : Int) = (p : Int) := by omega
      have hi1 : (0 : Int) ≤ (p : Int) ∧ (p : Int) < (n : Int) := by omega
      have hq6 : q ≤ 60 := by omega
      obtain ⟨x, pa, po, hx, hsa, c0, c1, c2⟩ := (HA.out.below (H4.out.2.1.trans (HB.out.2.mono H4.out.2.1.size))).get (t := p) (by rw [← HN.out]; omega)
      subst hsa
      have HO : Hid (j < n ∧ l.reverse.take (j + 1) = l.reverse.take j ++ [x]) := by
        refine Lib.hid ⟨hlt, ?_⟩
        rw [List.take_add_one, List.getElem?_reverse (by rw [← HN.out]; exact hlt), show l.length - 1 - j = p by rw [← HN.out]; omega, hx]
        rfl
      obtain ⟨xk, xl, xh⟩ := x
      simp only at c0 c1 c2
      clear hx hj hlt hq hp
      go_upto_region 10 with (fail)
      refine wp_region_lit ?_
      iterate 27 go_step
      refine wpList_slice1_W rfl (.tmp 35) rfl ⟨xk, xl, xh⟩ rfl ?_
      obtain ⟨w8, hw8⟩ : ∃ W, W = wr.alloc (.cells (WindowL.mk xk xl xh).cells 24) := ⟨_, rfl⟩
      obtain ⟨gb, hgb⟩ : ∃ b, b = wr.heap.size := ⟨_, rfl⟩
      have H8 : Hid (OwnW w8 w4.heap.size vb (l.reverse.take j) ∧ Below w4.heap.size w4 w8 ∧ (∀ j z, (WindowL.mk xk xl xh).cells[j]? = some z → w8.cell? ⟨gb, j, none⟩ = some z)) := by
        have hB : Below wr.heap.size wr w8 := by rw [hw8]; exact (Below.refl _ wr).alloc (Nat.le_refl _) _
        refine Lib.hid ⟨HB.out.1.far hB, HB.out.2.trans (hB.mono HB.out.2.size), fun j z hz => ?_⟩
        rw [hw8, hgb, cell_of_row _ _ _ _ _ _ (heap_alloc_new wr _)]
        exact hz
      rw [← hw8, ← hgb]
      clear hw8 hgb c0 c1 c2
      refine wpList_pushW rfl (.tmp 27) (.tmp 36) rfl w4.heap.size vb (l.reverse.take j) rfl H8.out.1 ⟨xk, xl, xh⟩ gb rfl H8.out.2.2 (by have := HO.out.1; rw [List.length_take]; omega) H8.out.2.1.size ?_
      intro v' w9 g1 g2 g3
      have H9 : Hid (BackRel w4 l v' (.int .i64 ((j : Int) + 1)) w9) := by
        refine Lib.hid ⟨j + 1, by have := HO.out.1; have := HN.out; omega, by go_num, by rw [HO.out.2]; exact g1, H8.out.2.1.trans (OwnW.below H8.out.1 g2 H8.out.2.1.size)⟩
      clear g1 g2 g3
      have HJn := Lib.hid HO.out.1
      go_wp2_with (fail)
      go_roundw
      case rel => exact H9.out
      case measure => have := HJn.out; simp [intOf]; omega
    · obtain rfl : j = n := by omega
      obtain ⟨ba, bc, rfl, _, hBW⟩ := HB.out.1.form
      have e : l.reverse.take j = l.reverse := List.take_of_length_le (by rw [List.length_reverse, HN.out]; exact Nat.le_refl _)
      rw [e] at hBW
      have e2 : (l.reverse.take j).length = j := by rw [e, List.length_reverse, HN.out]
      rw [e2]
      have H5 : Hid (WinsAt wr ba l.reverse ∧ Below w4.heap.size w4 wr ∧ Below w.heap.size w wr) := Lib.hid ⟨hBW, HB.out.2, H4.out.2.1.trans (HB.out.2.mono H4.out.2.1.size)⟩
      clear hlt hj HB hBW e e2
      obtain ⟨w5, hw5⟩ : ∃ W, W = wr := ⟨_, rfl⟩
      rw [← hw5] at H5 ⊢
      clear hw5
      have HCs : Hid (Calls Try.prog 12 #[.slice oa m oc] w5 (Below0 w5 (.bool true))) := by
        have h := sSettled_any w5 oa oc L (H4.out.1.below H5.out.2.1) (fun y hy => Nat.le_trans (HLe.out.2.2 y hy) (by decide)) (by have := HLe.out.2.1; omega)
        rw [decide_eq_true (by rw [HLe.out.1]; exact (allL_spec l).1), ← H4.out.2.2] at h
        exact Lib.hid h
      have HCb : Hid (∀ w', Below w5.heap.size w5 w' → Calls Try.prog 16 #[.slice ba j bc] w' (WinsNew w' L)) := by
        have h0 := HN.out
        refine Lib.hid (fun w' h => ?_)
        have h := sAll_any w' ba bc l.reverse (H5.out.1.below h) (fun y hy => Nat.le_trans (HL.out.2 y (List.mem_reverse.1 hy)) (by decide)) (by rw [List.length_reverse]; omega)
        rw [allL_reverse, List.length_reverse, ← h0, ← HLe.out.1] at h
        exact h
      have HSm : Hid (∀ w' a c, Below w4.heap.size w4 w' → WinsAt w' a L → Calls Try.prog 14 #[.slice oa m oc, .slice a m c] w' (Below0 w' (.bool true))) := by
        refine Lib.hid (fun w' a c h1 h2 => ?_)
        have h := rwSame_any w' oa a oc c L L (H4.out.1.below h1) h2 (by have := HLe.out.2.1; omega)
        rw [decide_eq_true rfl, ← H4.out.2.2] at h
        exact h
      go_wp2_with (fail)
      refine HCs.out.mono ?_
      rintro e w6 ⟨rfl, hB⟩
      have H6 : Hid (Below w5.heap.size w5 w6 ∧ Below w4.heap.size w4 w6 ∧ Below w.heap.size w w6) := Lib.hid ⟨hB, H5.out.2.1.trans (hB.mono H5.out.2.1.size), H5.out.2.2.trans (hB.mono H5.out.2.2.size)⟩
      clear hB HCs
      dsimp only
      go_wp2_with (fail)
      refine (HCa.out.2 w6 H6.out.2.2).mono ?_
      rintro e w7 ⟨v, rfl, k1, hB⟩
      obtain ⟨ra, rc, rfl, _, hRW⟩ := k1.form
      rw [← H4.out.2.2]
      have H7 : Hid (Below w5.heap.size w5 w7 ∧ Below w4.heap.size w4 w7 ∧ Below w.heap.size w w7 ∧ WinsAt w7 ra L) := Lib.hid ⟨H6.out.1.trans (hB.mono H6.out.1.size), H6.out.2.1.trans (hB.mono H6.out.2.1.size), H6.out.2.2.trans (hB.mono H6.out.2.2.size), hRW⟩
      clear hB k1 hRW H6
      dsimp only
      go_wp2_with (fail)
      refine (HSm.out w7 ra rc H7.out.2.1 H7.out.2.2.2).mono ?_
      rintro e w8 ⟨rfl, hB⟩
      have H8 : Hid (Below w5.heap.size w5 w8 ∧ Below w4.heap.size w4 w8 ∧ Below w.heap.size w w8) := Lib.hid ⟨H7.out.1.trans (hB.mono H7.out.1.size), H7.out.2.1.trans (hB.mono H7.out.2.1.size), H7.out.2.2.1.trans (hB.mono H7.out.2.2.1.size)⟩
      clear hB H7
      dsimp only
      go_wp2_with (fail)
      refine (HCb.out w8 H8.out.1).mono ?_
      rintro e w9 ⟨v, rfl, k1, hB⟩
      obtain ⟨ra, rc, rfl, _, hRW⟩ := k1.form
      rw [← H4.out.2.2]
      have H9 : Hid (Below w4.heap.size w4 w9 ∧ Below w.heap.size w w9 ∧ WinsAt w9 ra L) := Lib.hid ⟨H8.out.2.1.trans (hB.mono H8.out.2.1.size), H8.out.2.2.trans (hB.mono H8.out.2.2.size), hRW⟩
      clear hB k1 hRW H8
      dsimp only
      go_wp2_with (fail)
      refine (HSm.out w9 ra rc H9.out.1 H9.out.2.2).mono ?_
      rintro e w10 ⟨rfl, hB⟩
      have H10 : Hid (Below w4.heap.size w4 w10 ∧ Below w.heap.size w w10) := Lib.hid ⟨H9.out.1.trans (hB.mono H9.out.1.size), H9.out.2.1.trans (hB.mono H9.out.2.1.size)⟩
      clear hB H9 HSm HCb H5
      dsimp only
      go_upto_region 14 with (fail)
      refine wp_region_lit ?_
      refine wpList_slice2_S rfl (.const (.string ⟨#[97, 110, 110]⟩)) (.const (.string ⟨#[98, 111, 98]⟩)) rfl annL bobL rfl rfl ?_
      obtain ⟨w11, hw11⟩ : ∃ W, W = w10.alloc (.cells #[Sv annL, Sv bobL] 9) := ⟨_, rfl⟩
      obtain ⟨kb, hkb⟩ : ∃ b, b = w10.heap.size := ⟨_, rfl⟩
      have H11 : Hid (Below w4.heap.size w4 w11 ∧ Below w.heap.size w w11 ∧ ∀ i, i < 2 → ∀ w', Below w11.heap.size w11 w' → w'.cell? ⟨kb, i, none⟩ = some (Sv (keyAt i))) := by
        have hB : Below w10.heap.size w10 w11 := by rw [hw11]; exact (Below.refl _ w10).alloc (Nat.le_refl _) _
        refine Lib.hid ⟨H10.out.1.trans (hB.mono H10.out.1.size), H10.out.2.trans (hB.mono H10.out.2.size), fun i hi w' h => ?_⟩
        have hc : w11.cell? ⟨kb, i, none⟩ = some (Sv (keyAt i)) := by
          rw [hw11, hkb, cell_of_row _ _ _ _ _ _ (heap_alloc_new w10 _)]
          obtain rfl | rfl : i = 0 ∨ i = 1 := by omega
          · rfl
          · rfl
        exact (h.cell (block_lt_of_cell hc)).trans hc
      rw [← hw11, ← hkb]
      clear hw11 hkb H10
      go_wp2_with (fail)
      go_loopw [58] (KRel w11 2) (fun i _ => 2 - (intOf i).toNat)
      case atStart => exact ⟨0, Nat.zero_le _, rfl, Below.refl _ _⟩
      case round =>
        obtain ⟨i, hi, rfl, hB⟩ := hrel
        have H12 := Lib.hid hB
        clear hB
        by_cases hit : i < 2
        · have hi2 : (0 : Int) ≤ (i : Int) ∧ (i : Int) < 2 := by omega
          have hkc := H11.out.2.2 i hit wr H12.out
          obtain ⟨kk, hkk⟩ : ∃ k, k = keyAt i := ⟨_, rfl⟩
          rw [← hkk] at hkc
          have HIt := Lib.hid hit
          clear hkk hi hit
          obtain ⟨w12, hw12⟩ : ∃ W, W = wr := ⟨_, rfl⟩
          rw [← hw12] at hkc H12 ⊢
          clear hw12
          have HW12 : Hid (Below w.heap.size w w12 ∧ Below w4.heap.size w4 w12) := Lib.hid ⟨H11.out.2.1.trans (H12.out.mono H11.out.2.1.size), H11.out.1.trans (H12.out.mono H11.out.1.size)⟩
          go_upto_region 18 with (fail)
          clear hkc
          go_wp2_with (fail)
          go_loopw [10, 64] (HRel w12 l kk t) (fun _ i _ => j - (intOf i).toNat)
          case atStart => exact ⟨0, Nat.zero_le _, rfl, rfl, Below.refl _ _⟩
          case round =>
            obtain ⟨j_, hj, rfl, hs, hB⟩ := hrel
            obtain ⟨b, hb⟩ : ∃ b, b = hasAny (l.take j_) kk t := ⟨_, rfl⟩
            rw [← hb] at hs
            subst hs
            rw [← HN.out] at hj
            have HB := Lib.hid (And.intro hB hb)
            clear hB hb
            by_cases hlt : j_ < j
            · have hi0 : (0 : Int) ≤ (j_ : Int) ∧ (j_ : Int) < (j : Int) := by omega
              obtain ⟨x, pa, po, hx, hsa, c0, c1, c2⟩ := (HA.out.below (HW12.out.1.trans (HB.out.1.mono HW12.out.1.size))).get (t := j_) (by rw [← HN.out]; exact hlt)
              subst hsa
              have HO := Lib.hid (And.intro hx (And.intro hlt (HL.out.2 x (List.mem_of_getElem? hx))))
              obtain ⟨xk, xl, xh⟩ := x
              simp only at c0 c1 c2
              clear hx hj hlt
              go_upto_region 20 with (fail)
              refine wp_region_lit ?_
              iterate 9 go_step
              refine wpList_store_row rfl _ _ _ rfl wr.heap.size (WindowL.mk xk xl xh).cells rfl rfl 24 zeroW.cells (heap_alloc_new wr _) window_size rfl (window_one _) ?_
              obtain ⟨W1, hwx⟩ : ∃ W, W = (wr.alloc (Obj.cells #[.string ⟨#[]⟩, .int .i64 0, .int .i64 0] 24)).setRow wr.heap.size (WindowL.mk xk xl xh).cells := ⟨_, rfl⟩
              obtain ⟨xb, hxb⟩ : ∃ b, b = wr.heap.size := ⟨_, rfl⟩
              have Hwx : Hid (RowW W1 xb (WindowL.mk xk xl xh) ∧ Below wr.heap.size wr W1) := by
                obtain ⟨k1, k2⟩ := stored_window wr (WindowL.mk xk xl xh)
                rw [hwx, hxb]
                exact Lib.hid ⟨k1, k2⟩
              rw [← hwx, ← hxb]
              clear hwx hxb
              clear c0 c1 c2
              have HW : Hid (Below w12.heap.size w12 W1) := Lib.hid (HB.out.1.trans (Hwx.out.2.mono HB.out.1.size))
              have HNx : Hid (∀ w' r, Below W1.heap.size W1 w' → r = (b || (decide (xk = kk) && hasW ⟨xk, xl, xh⟩ t)) → HRel w12 l kk t (.bool r) (.int .i64 ((j_ : Int) + 1)) w') := by
                refine Lib.hid (fun w' r h hr => ⟨j_ + 1, by have := HO.out.2.1; have := HN.out; omega, by go_num, ?_, HW.out.trans (h.mono HW.out.size)⟩)
                rw [hr, hasAny_take HO.out.1, ← HB.out.2]
              have HJn := Lib.hid HO.out.2.1
              have HB1 := Lib.hid (Below.refl W1.heap.size W1)
              obtain ⟨e0, e1, e2⟩ := Hwx.out.1.d3
              simp only at e0 e1 e2
              cases b with
              | true =>
                have HZ := Lib.hid (HNx.out W1 true HB1.out rfl)
                go_wp2_with (fail)
                go_roundw
                case rel => exact HZ.out
                case measure => have := HJn.out; simp [intOf]; omega
              | false =>
                obtain ⟨ke, hke⟩ : ∃ b, b = decide (xk = kk) := ⟨_, rfl⟩
                have hkeq : ∀ w, (binOp .eql 9 (Sv xk) (Sv kk)).run Try.prog w = .ok (.bool ke) w := fun w => by rw [hke]; exact run_eql_Sv w xk kk
                have Hke := Lib.hid hke
                clear hke
                cases ke with
                | false =>
                  have HZ := Lib.hid (HNx.out W1 false HB1.out (by rw [← Hke.out]; rfl))
                  go_wp2_with (fail)
                  go_roundw
                  case rel => exact HZ.out
                  case measure => have := HJn.out; simp [intOf]; omega
                | true =>
                  obtain ⟨hb, hhb⟩ : ∃ b, b = hasW ⟨xk, xl, xh⟩ t := ⟨_, rfl⟩
                  have HCh : Hid (∀ w', Calls Try.prog 18 #[.agg #[Sv xk, .int .i64 xl, .int .i64 xh], .int .i64 t] w' (Below0 w' (.bool hb))) := by
                    have hl := HO.out.2.2
                    rw [hhb]
                    exact Lib.hid (fun w' => whas_any w' ⟨xk, xl, xh⟩ t (Nat.le_trans hl (by decide)))
                  have HZ : Hid (∀ w', Below W1.heap.size W1 w' → HRel w12 l kk t (.bool hb) (.int .i64 ((j_ : Int) + 1)) w') := Lib.hid (fun w' h => HNx.out w' hb h (by rw [← Hke.out, ← hhb]; simp))
                  clear hhb HNx
                  go_wp2_with (fail)
                  refine (HCh.out W1).mono ?_
                  rintro e w4_ ⟨rfl, hB⟩
                  have HZ' := Lib.hid (HZ.out w4_ hB)
                  clear hB e0 e1 e2
                  dsimp only
                  go_wp2_with (fail)
                  go_roundw
                  case rel => exact HZ'.out
                  case measure => have := HJn.out; simp [intOf]; omega
            · obtain rfl : j_ = j := by omega
              obtain rfl : b = hasAny l kk t := by rw [HB.out.2, HN.out, List.take_length]
              have H13 : Hid (Below w12.heap.size w12 wr) := Lib.hid HB.out.1
              clear hlt hj HB
              obtain ⟨w13, hw13⟩ : ∃ W, W = wr := ⟨_, rfl⟩
              rw [← hw13] at H13 ⊢
              clear hw13
              have HW13 : Hid (Below w4.heap.size w4 w13) := Lib.hid (HW12.out.2.trans (H13.out.mono HW12.out.2.size))
              obtain ⟨r, hr⟩ : ∃ r, r = hasAny l kk t := ⟨_, rfl⟩
              have Hr := Lib.hid hr
              rw [← hr]
              clear hr
              go_wp2_with (fail)
              go_loopw [11, 83] (HRel w13 L kk t) (fun _ i _ => m - (intOf i).toNat)
              case atStart => exact ⟨0, Nat.zero_le _, rfl, rfl, Below.refl _ _⟩
              case round =>
                obtain ⟨j_, hj, rfl, hs, hB⟩ := hrel
                obtain ⟨b, hb⟩ : ∃ b, b = hasAny (L.take j_) kk t := ⟨_, rfl⟩
                rw [← hb] at hs
                subst hs
                rw [← H4.out.2.2] at hj
                have HB := Lib.hid (And.intro hB hb)
                clear hB hb
                by_cases hlt : j_ < m
                · have hi0 : (0 : Int) ≤ (j_ : Int) ∧ (j_ : Int) < (m : Int) := by omega
                  obtain ⟨x, pa, po, hx, hsa, c0, c1, c2⟩ := (H4.out.1.below (HW13.out.trans (HB.out.1.mono HW13.out.size))).get (t := j_) (by rw [← H4.out.2.2]; exact hlt)
                  subst hsa
                  have HO := Lib.hid (And.intro hx (And.intro hlt (HLe.out.2.2 x (List.mem_of_getElem? hx))))
                  obtain ⟨xk, xl, xh⟩ := x
                  simp only at c0 c1 c2
                  clear hx hj hlt
                  go_upto_region 25 with (fail)
                  refine wp_region_lit ?_
                  iterate 9 go_step
                  refine wpList_store_row rfl _ _ _ rfl wr.heap.size (WindowL.mk xk xl xh).cells rfl rfl 24 zeroW.cells (heap_alloc_new wr _) window_size rfl (window_one _) ?_
                  obtain ⟨W1, hwx⟩ : ∃ W, W = (wr.alloc (Obj.cells #[.string ⟨#[]⟩, .int .i64 0, .int .i64 0] 24)).setRow wr.heap.size (WindowL.mk xk xl xh).cells := ⟨_, rfl⟩
                  obtain ⟨xb, hxb⟩ : ∃ b, b = wr.heap.size := ⟨_, rfl⟩
                  have Hwx : Hid (RowW W1 xb (WindowL.mk xk xl xh) ∧ Below wr.heap.size wr W1) := by
                    obtain ⟨k1, k2⟩ := stored_window wr (WindowL.mk xk xl xh)
                    rw [hwx, hxb]
                    exact Lib.hid ⟨k1, k2⟩
                  rw [← hwx, ← hxb]
                  clear hwx hxb
                  clear c0 c1 c2
                  have HW : Hid (Below w13.heap.size w13 W1) := Lib.hid (HB.out.1.trans (Hwx.out.2.mono HB.out.1.size))
                  have HNx : Hid (∀ w' r, Below W1.heap.size W1 w' → r = (b || (decide (xk = kk) && hasW ⟨xk, xl, xh⟩ t)) → HRel w13 L kk t (.bool r) (.int .i64 ((j_ : Int) + 1)) w') := by
                    refine Lib.hid (fun w' r h hr => ⟨j_ + 1, by have := HO.out.2.1; have := H4.out.2.2; omega, by go_num, ?_, HW.out.trans (h.mono HW.out.size)⟩)
                    rw [hr, hasAny_take HO.out.1, ← HB.out.2]
                  have HJn := Lib.hid HO.out.2.1
                  have HB1 := Lib.hid (Below.refl W1.heap.size W1)
                  obtain ⟨e0, e1, e2⟩ := Hwx.out.1.d3
                  simp only at e0 e1 e2
                  cases b with
                  | true =>
                    have HZ := Lib.hid (HNx.out W1 true HB1.out rfl)
                    go_wp2_with (fail)
                    go_roundw
                    case rel => exact HZ.out
                    case measure => have := HJn.out; simp [intOf]; omega
                  | false =>
                    obtain ⟨ke, hke⟩ : ∃ b, b = decide (xk = kk) := ⟨_, rfl⟩
                    have hkeq : ∀ w, (binOp .eql 9 (Sv xk) (Sv kk)).run Try.prog w = .ok (.bool ke) w := fun w => by rw [hke]; exact run_eql_Sv w xk kk
                    have Hke := Lib.hid hke
                    clear hke
                    cases ke with
                    | false =>
                      have HZ := Lib.hid (HNx.out W1 false HB1.out (by rw [← Hke.out]; rfl))
                      go_wp2_with (fail)
                      go_roundw
                      case rel => exact HZ.out
                      case measure => have := HJn.out; simp [intOf]; omega
                    | true =>
                      obtain ⟨hb, hhb⟩ : ∃ b, b = hasW ⟨xk, xl, xh⟩ t := ⟨_, rfl⟩
                      have HCh : Hid (∀ w', Calls Try.prog 18 #[.agg #[Sv xk, .int .i64 xl, .int .i64 xh], .int .i64 t] w' (Below0 w' (.bool hb))) := by
                        have hl := HO.out.2.2
                        rw [hhb]
                        exact Lib.hid (fun w' => whas_any w' ⟨xk, xl, xh⟩ t (Nat.le_trans hl (by decide)))
                      have HZ : Hid (∀ w', Below W1.heap.size W1 w' → HRel w13 L kk t (.bool hb) (.int .i64 ((j_ : Int) + 1)) w') := Lib.hid (fun w' h => HNx.out w' hb h (by rw [← Hke.out, ← hhb]; simp))
                      clear hhb HNx
                      go_wp2_with (fail)
                      refine (HCh.out W1).mono ?_
                      rintro e w4_ ⟨rfl, hB⟩
                      have HZ' := Lib.hid (HZ.out w4_ hB)
                      clear hB e0 e1 e2
                      dsimp only
                      go_wp2_with (fail)
                      go_roundw
                      case rel => exact HZ'.out
                      case measure => have := HJn.out; simp [intOf]; omega
                · obtain rfl : j_ = m := by omega
                  obtain rfl : b = r := by rw [HB.out.2, H4.out.2.2, List.take_length, HLe.out.1, hasAny_all, Hr.out]
                  have HZ : Hid (KRel w11 2 (.int .i64 ((i : Int) + 1)) wr) := by
                    have h1 := H12.out.trans (H13.out.mono H12.out.size)
                    exact Lib.hid ⟨i + 1, HIt.out, by go_num, h1.trans (HB.out.1.mono h1.size)⟩
                  have HJn := Lib.hid HIt.out
                  clear hlt hj HB
                  cases b with
                  | true =>
                    go_wp2_with (fail)
                    go_roundw
                    case rel => exact HZ.out
                    case measure => have := HJn.out; simp [intOf]; omega
                  | false =>
                    go_wp2_with (fail)
                    go_roundw
                    case rel => exact HZ.out
                    case measure => have := HJn.out; simp [intOf]; omega
        · obtain rfl : i = 2 := by omega
          have HZ : Hid (P (.returned (.bool true)) wr) := Lib.hid (HYes.out wr (H11.out.2.1.trans (H12.out.mono H11.out.2.1.size)))
          clear hit hi
          rw [show ((2 : Nat) : Int) = 2 from rfl]
          go_wp2_with (fail)
          exact HZ.out
end Go.Proofs.Ytbfioekbahcicaa
