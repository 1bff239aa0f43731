/-
  The contract of package event's Bytes.
-/
import Derived.Test.YtmjanplhgpcbeaaDoorEventPut
import Derived.Test.YtmjanplhgpcbeaaDoorItems
namespace Go.Proofs.YtmjanplhgpcbeaaDoor
open Go Go.RowKit

def bytesL (l : List ItemL) : List (BitVec 8) := (l.filter (·.rightB)).flatMap (·.bytes)
def countL (l : List ItemL) : Nat := (l.filter (·.rightB)).length
theorem listL_eq (l : List ItemL) : listL l = wordL (countL l) ++ bytesL l := rfl
theorem take_next {α : Type} {l : List α} {t : Nat} {x : α} (h : l[t]? = some x) : l.take (t + 1) = l.take t ++ [x] := by
  have ht : t < l.length := (List.getElem?_eq_some_iff.1 h).1
  rw [List.take_succ_eq_append_getElem ht]
  rw [List.getElem?_eq_getElem ht] at h
  simp only [Option.some.injEq] at h
  rw [h]
theorem countL_next {l : List ItemL} {t : Nat} {x : ItemL} (h : l[t]? = some x) : countL (l.take (t + 1)) = countL (l.take t) + if x.rightB then 1 else 0 := by
  rw [take_next h, countL, countL, List.filter_append]
  cases hx : x.rightB <;> simp [hx]
theorem bytesL_next {l : List ItemL} {t : Nat} {x : ItemL} (h : l[t]? = some x) : bytesL (l.take (t + 1)) = bytesL (l.take t) ++ if x.rightB then x.bytes else [] := by
  rw [take_next h, bytesL, bytesL, List.filter_append]
  cases hx : x.rightB <;> simp [hx]
theorem countL_le (l : List ItemL) : countL l ≤ l.length := List.length_filter_le _ _
theorem right_bytes {x : ItemL} (h : x.rightB = true) : x.bytes.length ≤ 1050 := by
  obtain ⟨kind, key, time, value⟩ := x
  obtain ⟨_, h | h⟩ := right_cases h
  · exact ItemL.bytes_length (by rw [show (ItemL.mk kind key time value).key = key from rfl, h.2.1]; decide)
  · exact ItemL.bytes_length (Nat.le_trans h.2.2.2.1 (by decide))
set_option maxRecDepth 100000 in
theorem bytesL_len : ∀ l : List ItemL, (bytesL l).length ≤ l.length * 1050
  | [] => by simp [bytesL]
  | x :: l => by
    have ih := bytesL_len l
    unfold bytesL at ih ⊢
    cases hx : x.rightB with
    | true =>
      have := right_bytes hx
      simp only [List.filter_cons, hx, if_true, List.flatMap_cons, List.length_append, List.length_cons]
      omega
    | false =>
      simp only [List.filter_cons, hx, List.length_cons]
      simp only [Bool.false_eq_true, if_false]
      omega
/-- One of a list, with its cells. -/
theorem ItemsAt.get {w : World} {a : Option Addr} {l : List ItemL} (h : ItemsAt w a l) {t : Nat} (ht : t < l.length) : ∃ x b o, l[t]? = some x ∧ a = some ⟨b, o, none⟩ ∧ w.cell? ⟨b, o + t * 4, none⟩ = some (.int .i64 x.kind) ∧ w.cell? ⟨b, o + t * 4 + 1, none⟩ = some (Sv x.key) ∧
    w.cell? ⟨b, o + t * 4 + 2, none⟩ = some (.int .i64 x.time) ∧ w.cell? ⟨b, o + t * 4 + 3, none⟩ = some (.int .i64 x.value) := by
  rcases h with h | ⟨b, o, h, h'⟩
  · rw [h] at ht
    simp at ht
  · exact ⟨l[t], b, o, List.getElem?_eq_getElem ht, h, h' t _ (List.getElem?_eq_getElem ht) 0 _ rfl, h' t _ (List.getElem?_eq_getElem ht) 1 _ rfl, h' t _ (List.getElem?_eq_getElem ht) 2 _ rfl, h' t _ (List.getElem?_eq_getElem ht) 3 _ rfl⟩
def EB1 (w : World) (l : List ItemL) (n i : Value) (wr : World) : Prop := ∃ t : Nat, t ≤ l.length ∧ i = .int .i64 (t : Int) ∧ n = .int .i64 ((countL (l.take t) : Nat) : Int) ∧ Below w.heap.size w wr
def EB2 (b : Nat) (W0 : World) (l : List ItemL) (i : Value) (wr : World) : Prop := ∃ t : Nat, t ≤ l.length ∧ i = .int .i64 (t : Int) ∧ PenAt (fun k => k < b) wr b (wordL (countL l) ++ bytesL (l.take t)) ∧ PKept (fun k => k < b) b W0 wr
set_option maxRecDepth 100000 in
set_option maxHeartbeats 2000000 in
theorem ebytes_any (w : World) (la : Option Addr) (lc : Nat) (l : List ItemL) (hI : ItemsAt w la l) (hk : ∀ x ∈ l, x.key.length ≤ 1000000) (hl : l.length ≤ 1000000) :
    Calls Tryd.prog 26 #[.slice la l.length lc] w (BytesEnd w (listL l)) := by
  obtain ⟨L, hL⟩ : ∃ L, L = l.length := ⟨_, rfl⟩
  have HP := Lib.hid (And.intro hI (And.intro hk (And.intro hL hl)))
  obtain ⟨P, hP⟩ : ∃ P, P = BytesEnd w (listL l) := ⟨_, rfl⟩
  rw [← hL, ← hP]
  have HPP := Lib.hid hP
  have hL6 : L ≤ 1000000 := by omega
  clear hI hk hL hl hP
  go_enter Tryd.func26, Tryd.ntmps26
  go_wp2_with (fail)
  go_loopw [3, 11] (EB1 w l) (fun _ i _ => L - (intOf i).toNat)
  case atStart => exact ⟨0, Nat.zero_le _, rfl, rfl, Below.refl _ _⟩
  case round =>
    obtain ⟨t, ht, rfl, rfl, hB⟩ := hrel
    rw [← HP.out.2.2.1] at ht
    by_cases hlt : t < L
    · have hi0 : (0 : Int) ≤ (t : Int) ∧ (t : Int) < (L : Int) := by omega
      obtain ⟨x, pb, po, hx, rfl, d0, d1, d2, d3⟩ := (HP.out.1.below hB).get (t := t) (by rw [← HP.out.2.2.1]; exact hlt)
      have hxk := HP.out.2.1 x (List.mem_of_getElem? hx)
      obtain ⟨c, hc⟩ : ∃ c, c = countL (l.take t) := ⟨_, rfl⟩
      have hcl : c ≤ 1000000 := by
        rw [hc]
        have h1 := countL_le (l.take t)
        have h2 := List.length_take_le t l
        have h3 := HP.out.2.2.2
        omega
      rw [← hc]
      obtain ⟨r, hr⟩ : ∃ r, r = x.rightB := ⟨_, rfl⟩
      obtain ⟨wo, hwo⟩ : ∃ wo, wo = wr.alloc (.cells x.cells 23) := ⟨_, rfl⟩
      have hBo : Below wr.heap.size wr wo := by rw [hwo]; exact (Below.refl _ wr).alloc (Nat.le_refl _) _
      have hrow : wo.heap[wr.heap.size]? = some (.cells x.cells 23 (0, 0)) := by rw [hwo]; exact heap_alloc_new wr _
      have HR : Hid (Calls Tryd.prog 14 #[.agg x.cells] wo (Below0 wo (.bool r))) := by
        rw [hr]
        exact eright_any wo x hxk
      have HZ : Hid (∀ w3, Below wo.heap.size wo w3 → EB1 w l (.int .i64 ((c : Int) + if r then 1 else 0)) (.int .i64 ((t : Int) + 1)) w3) := by
        refine Lib.hid (fun w3 h3 => ⟨t + 1, by rw [← HP.out.2.2.1]; omega, by go_num, ?_, hB.trans ((hBo.trans (h3.mono hBo.size)).mono hB.size)⟩)
        rw [countL_next hx, ← hr, ← hc]
        cases r <;> simp
      have HL := Lib.hid hlt
      have co0 : wo.cell? ⟨wr.heap.size, 0, none⟩ = some (.int .i64 x.kind) := by rw [cell_of_row _ _ 0 _ _ _ hrow]; rfl
      have co1 : wo.cell? ⟨wr.heap.size, 1, none⟩ = some (Sv x.key) := by rw [cell_of_row _ _ 1 _ _ _ hrow]; rfl
      have co2 : wo.cell? ⟨wr.heap.size, 2, none⟩ = some (.int .i64 x.time) := by rw [cell_of_row _ _ 2 _ _ _ hrow]; rfl
      have co3 : wo.cell? ⟨wr.heap.size, 3, none⟩ = some (.int .i64 x.value) := by rw [cell_of_row _ _ 3 _ _ _ hrow]; rfl
      unfold ItemL.cells at hwo HR
      obtain ⟨kind, key, time, value⟩ := x
      simp only at d0 d1 d2 d3 co0 co1 co2 co3 hwo HR
      clear hB hx hxk hc hr hBo hrow
      go_upto_region 5 with (fail)
      rw [← hwo]
      clear hwo d0 d1 d2 d3
      cases r with
      | true =>
        go_wp2_with (fail)
        refine HR.out.mono ?_
        rintro e w3 ⟨rfl, hB3⟩
        have H3 := Lib.hid (HZ.out w3 hB3)
        clear hB3 co0 co1 co2 co3
        dsimp only
        go_wp2_with (fail)
        have := HL.out
        exact ⟨H3.out, by simp [intOf]; omega⟩
      | false =>
        go_wp2_with (fail)
        refine HR.out.mono ?_
        rintro e w3 ⟨rfl, hB3⟩
        have H3 : Hid (EB1 w l (.int .i64 (c : Int)) (.int .i64 ((t : Int) + 1)) w3) := by
          have := HZ.out w3 hB3
          exact Lib.hid (by simpa using this)
        clear hB3 co0 co1 co2 co3
        dsimp only
        go_wp2_with (fail)
        have := HL.out
        exact ⟨H3.out, by simp [intOf]; omega⟩
    · obtain rfl : t = L := by omega
      rw [HP.out.2.2.1, List.take_length]
      have HB := Lib.hid hB
      obtain ⟨n, hn⟩ : ∃ n, n = countL l := ⟨_, rfl⟩
      rw [← hn, ← HP.out.2.2.1]
      have HN := Lib.hid hn
      have hn6 : Hid (n ≤ 1000000) := by
        have h1 := countL_le l
        have h3 := HP.out.2.2.2
        show n ≤ _
        omega
      clear hB hn ht
      obtain ⟨W0, hW0⟩ : ∃ W0, W0 = wr.alloc (.cells #[.slice none 0 0] 31) := ⟨_, rfl⟩
      obtain ⟨b, hb⟩ : ∃ b, b = wr.heap.size := ⟨_, rfl⟩
      have H0 : Hid (PenAt (fun k => k < b) W0 b [] ∧ b < W0.heap.size ∧ w.heap.size ≤ b ∧ Below w.heap.size w W0) := by
        refine ⟨by rw [hW0, hb]; exact PenAt.new _ wr, by rw [hW0, hb]; simp, by rw [hb]; exact HB.out.size, ?_⟩
        rw [hW0]
        exact HB.out.trans ((Below.refl _ wr).alloc HB.out.size _)
      go_upto_region 9 with (fail)
      rw [← hW0, ← hb]
      clear hW0 hb
      go_wp2_with (fail)
      refine (pnumber_any W0 (fun k => k < b) b n [] (by have := hn6.out; omega) H0.out.1 (fun k hk => Nat.lt_trans hk H0.out.2.1) (by simp)).mono ?_
      rintro e W1 ⟨rfl, hp1, hk1⟩
      have H1 := Lib.hid (And.intro hp1 hk1)
      clear hp1 hk1
      dsimp only
      go_wp2_with (fail)
      obtain ⟨wf, rfl⟩ : ∃ x, x = wr := ⟨wr, rfl⟩
      go_loopw [24] (EB2 b W0 l) (fun i _ => t - (intOf i).toNat)
      case atStart =>
        refine ⟨0, Nat.zero_le _, rfl, ?_, H1.out.2⟩
        have := H1.out.1
        rw [HN.out] at this
        simpa [bytesL] using this
      case round =>
        obtain ⟨i, hi, rfl, hp, hk⟩ := hrel
        rw [← HP.out.2.2.1] at hi
        have HS := Lib.hid (And.intro hp hk)
        clear hp hk
        by_cases hlt2 : i < t
        · have hi0 : (0 : Int) ≤ (i : Int) ∧ (i : Int) < (t : Int) := by omega
          have hBw : Below w.heap.size w wr := H0.out.2.2.2.trans (HS.out.2.below (B := w.heap.size) (fun k hk => (by have := H0.out.2.2.1; omega)) H0.out.2.2.1 (by have := H0.out; omega))
          obtain ⟨x, pb, po, hx, hla, d0, d1, d2, d3⟩ := (HP.out.1.below hBw).get (t := i) (by rw [← HP.out.2.2.1]; exact hlt2)
          subst hla
          have hxk := HP.out.2.1 x (List.mem_of_getElem? hx)
          obtain ⟨wo, hwo⟩ : ∃ wo, wo = wr.alloc (.cells x.cells 23) := ⟨_, rfl⟩
          have hBo : Below wr.heap.size wr wo := by rw [hwo]; exact (Below.refl _ wr).alloc (Nat.le_refl _) _
          have hrow : wo.heap[wr.heap.size]? = some (.cells x.cells 23 (0, 0)) := by rw [hwo]; exact heap_alloc_new wr _
          have hbq := HS.out.1.lt
          have HPut : Hid (Calls Tryd.prog 11 #[.pointer (some ⟨b, 0, none⟩), .agg x.cells] wo fun e w3 => ∃ r, e = .returned (.bool r) ∧ EB2 b W0 l (.int .i64 ((i : Int) + 1)) w3) := by
            have hlen : (wordL (countL l) ++ bytesL (l.take i)).length ≤ 1073700000 := by
              have h1 := wordL_length (countL l)
              have h2 := bytesL_len (l.take i)
              have h3 := List.length_take_le i l
              have h4 := HP.out.2.2.2
              rw [List.length_append]
              have h5 : (l.take i).length ≤ 1000000 := by simp only [List.length_take]; omega
              have h6 : (l.take i).length * 1050 ≤ 1000000 * 1050 := Nat.mul_le_mul_right _ h5
              omega
            cases hr : x.rightB with
            | true =>
              refine Lib.hid ((eput_yes wo (fun k => k < b) b _ x hr (HS.out.1.below hBo) (fun k hk => by have := hBo.size; omega) hlen).mono ?_)
              rintro e w3 ⟨rfl, k1, k2⟩
              refine ⟨true, rfl, i + 1, by rw [← HP.out.2.2.1]; omega, by go_num, ?_, HS.out.2.trans ((PKept.of_below hBo).trans k2)⟩
              rw [bytesL_next hx, hr, if_pos rfl, ← List.append_assoc]
              exact k1
            | false =>
              refine Lib.hid ((eput_no wo b x hxk hr).mono ?_)
              rintro e w3 ⟨rfl, k1⟩
              refine ⟨false, rfl, i + 1, by rw [← HP.out.2.2.1]; omega, by go_num, ?_, HS.out.2.trans ((PKept.of_below hBo).trans (PKept.of_below k1))⟩
              rw [bytesL_next hx, hr, if_neg (by decide), List.append_nil]
              exact (HS.out.1.below hBo).below k1
          have HL := Lib.hid hlt2
          have co0 : wo.cell? ⟨wr.heap.size, 0, none⟩ = some (.int .i64 x.kind) := by rw [cell_of_row _ _ 0 _ _ _ hrow]; rfl
          have co1 : wo.cell? ⟨wr.heap.size, 1, none⟩ = some (Sv x.key) := by rw [cell_of_row _ _ 1 _ _ _ hrow]; rfl
          have co2 : wo.cell? ⟨wr.heap.size, 2, none⟩ = some (.int .i64 x.time) := by rw [cell_of_row _ _ 2 _ _ _ hrow]; rfl
          have co3 : wo.cell? ⟨wr.heap.size, 3, none⟩ = some (.int .i64 x.value) := by rw [cell_of_row _ _ 3 _ _ _ hrow]; rfl
          unfold ItemL.cells at hwo HPut
          obtain ⟨kind, key, time, value⟩ := x
          simp only at d0 d1 d2 d3 co0 co1 co2 co3 hwo HPut
          clear hBw hx hxk hBo hrow hbq
          go_upto_region 13 with (fail)
          rw [← hwo]
          clear hwo d0 d1 d2 d3
          go_wp2_with (fail)
          refine HPut.out.mono ?_
          rintro e w3 ⟨r, rfl, hz⟩
          have H3 := Lib.hid hz
          clear hz co0 co1 co2 co3
          dsimp only
          go_wp2_with (fail)
          have := HL.out
          exact ⟨H3.out, by simp [intOf]; omega⟩
        · obtain rfl : i = t := by omega
          have HPb : Hid (PenAt (fun k => k < b) wr b (listL l)) := by
            have := HS.out.1
            rw [HP.out.2.2.1, List.take_length] at this
            exact this
          have hll : (listL l).length ≤ 1073741824 := by
            have h1 := wordL_length (countL l)
            have h2 := bytesL_len l
            have h4 := HP.out.2.2.2
            have h6 : l.length * 1050 ≤ 1000000 * 1050 := Nat.mul_le_mul_right _ h4
            rw [listL_eq, List.length_append]
            omega
          have HBy := Lib.hid (pbytes_any wr (fun k => k < b) b (listL l) HPb.out hll)
          have hBw : Below w.heap.size w wr := H0.out.2.2.2.trans (HS.out.2.below (B := w.heap.size) (fun k hk => (by have := H0.out.2.2.1; omega)) H0.out.2.2.1 (by have := H0.out; omega))
          have HBw := Lib.hid hBw
          clear hBw hll hi hlt2
          go_wp2_with (fail)
          refine HBy.out.mono ?_
          rintro e w3 ⟨ba, bc, rfl, k1, k2, k3, k4, k5⟩
          have HF : Hid (P (.returned (.slice ba (listL l).length bc)) w3) := by
            rw [HPP.out]
            exact Lib.hid ⟨ba, bc, rfl, k1, k2, k3, k4.mono HBw.out.size, HBw.out.trans (k5.mono HBw.out.size)⟩
          obtain ⟨N, hN⟩ : ∃ N, N = (listL l).length := ⟨_, rfl⟩
          rw [← hN] at HF ⊢
          clear k1 k2 k3 k4 k5 hN
          dsimp only
          go_wp2_with (fail)
          exact HF.out
end Go.Proofs.YtmjanplhgpcbeaaDoor
