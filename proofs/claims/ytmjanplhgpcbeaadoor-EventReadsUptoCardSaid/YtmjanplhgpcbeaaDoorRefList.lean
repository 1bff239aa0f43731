/-
  The contract of the reference's List: the bytes of the right ones.
-/
import Derived.Test.YtmjanplhgpcbeaaDoorRefItem
import Derived.Test.YtmjanplhgpcbeaaDoorEventBytes
namespace Go.Proofs.YtmjanplhgpcbeaaDoor
open Go Go.RowKit

theorem cells4' {w : World} {g : Nat} {x : ItemL} (h : ∀ (i : Nat) (v : Value), x.cells[i]? = some v → w.cell? ⟨g, i, none⟩ = some v) : w.cell? ⟨g, 0, none⟩ = some (.int .i64 x.kind) ∧ w.cell? ⟨g, 1, none⟩ = some (Sv x.key) ∧ w.cell? ⟨g, 2, none⟩ = some (.int .i64 x.time) ∧ w.cell? ⟨g, 3, none⟩ = some (.int .i64 x.value) :=
  ⟨h 0 _ rfl, h 1 _ rfl, h 2 _ rfl, h 3 _ rfl⟩
def RL (w : World) (l : List ItemL) (n s i : Value) (wr : World) : Prop := ∃ t : Nat, t ≤ l.length ∧ i = .int .i64 (t : Int) ∧ n = .int .i64 ((countL (l.take t) : Nat) : Int) ∧ s = Sv (bytesL (l.take t)) ∧ Below w.heap.size w wr
set_option maxRecDepth 100000 in
set_option maxHeartbeats 2000000 in
theorem erList_any (w : World) (la : Option Addr) (lc : Nat) (l : List ItemL) (hI : ItemsAt w la l) (hk : ∀ x ∈ l, x.key.length ≤ 1000000) (hl : l.length ≤ 900) :
    Calls Tryd.prog 27 #[.slice la l.length lc] w (Below0 w (Sv (listL l))) := by
  obtain ⟨L, hL⟩ : ∃ L, L = l.length := ⟨_, rfl⟩
  have HP := Lib.hid (And.intro hI (And.intro hk (And.intro hL hl)))
  rw [← hL]
  have hL6 : L ≤ 900 := by omega
  clear hI hk hL hl
  go_enter Tryd.func27, Tryd.ntmps27
  go_wp2_with (fail)
  rw [Sv_nil]
  go_loopw [3, 4, 9] (RL w l) (fun _ _ i _ => L - (intOf i).toNat)
  case atStart => exact ⟨0, Nat.zero_le _, rfl, rfl, rfl, Below.refl _ _⟩
  case round =>
    obtain ⟨t, ht, rfl, rfl, rfl, hB⟩ := hrel
    rw [← HP.out.2.2.1] at ht
    have HBw := Lib.hid hB
    by_cases hlt : t < L
    · have hi0 : (0 : Int) ≤ (t : Int) ∧ (t : Int) < (L : Int) := by omega
      obtain ⟨x, pb, po, hx, rfl, d0, d1, d2, d3⟩ := (HP.out.1.below hB).get (t := t) (by rw [← HP.out.2.2.1]; exact hlt)
      have hxk := HP.out.2.1 x (List.mem_of_getElem? hx)
      obtain ⟨c, hc⟩ : ∃ c, c = countL (l.take t) := ⟨_, rfl⟩
      have htk : (l.take t).length ≤ 900 := by
        have := HP.out.2.2.2
        simp only [List.length_take]
        omega
      have hcl : c ≤ 900 := by
        rw [hc]
        have h1 := countL_le (l.take t)
        omega
      obtain ⟨acc, hacc⟩ : ∃ a, a = bytesL (l.take t) := ⟨_, rfl⟩
      have hal : acc.length ≤ 945000 := by
        rw [hacc]
        have h1 := bytesL_len (l.take t)
        have h2 : (l.take t).length * 1050 ≤ 900 * 1050 := Nat.mul_le_mul_right _ htk
        omega
      rw [← hc, ← hacc]
      obtain ⟨r, hr⟩ : ∃ r, r = x.rightB := ⟨_, rfl⟩
      obtain ⟨wo, hwo⟩ : ∃ wo, wo = wr.alloc (.cells x.cells 23) := ⟨_, rfl⟩
      have hBo : Below wr.heap.size wr wo := by rw [hwo]; exact (Below.refl _ wr).alloc (Nat.le_refl _) _
      have hrow : wo.heap[wr.heap.size]? = some (.cells x.cells 23 (0, 0)) := by rw [hwo]; exact heap_alloc_new wr _
      have HR : Hid (Calls Tryd.prog 8 #[.agg x.cells] wo (Below0 wo (.bool r))) := by
        rw [hr]
        exact Lib.hid (erRight_any wo x hxk)
      have HW : Hid (Below w.heap.size w wo ∧ ∀ w3, Below wo.heap.size wo w3 → (∀ i v, x.cells[i]? = some v → w3.cell? ⟨wr.heap.size, i, none⟩ = some v)) := by
        refine Lib.hid ⟨hB.trans (hBo.mono hB.size), fun w3 h3 i v hi => ?_⟩
        rw [cell_of_row _ _ i _ _ _ ((h3.block _ (Array.getElem?_eq_some_iff.1 hrow).1).trans hrow)]
        exact hi
      have HN : Hid (countL (l.take (t + 1)) = c + (if r then 1 else 0) ∧ bytesL (l.take (t + 1)) = acc ++ (if r then x.bytes else [])) := by
        rw [hr, hc, hacc]
        exact Lib.hid ⟨countL_next hx, bytesL_next hx⟩
      obtain ⟨xb, hxb⟩ : ∃ b, b = x.bytes := ⟨_, rfl⟩
      have HBy : Hid (r = true → (∀ w', Calls Tryd.prog 10 #[.agg x.cells] w' (Below0 w' (Sv xb))) ∧ xb.length ≤ 1050) := by
        refine Lib.hid (fun h => ?_)
        have hxr : x.rightB = true := by rw [← hr, h]
        rw [hxb]
        refine ⟨fun w' => ?_, right_bytes hxr⟩
        obtain ⟨kind, key, time, value⟩ := x
        obtain ⟨ht', hc'⟩ := right_cases hxr
        have hkl : key.length ≤ 1000 := by
          rcases hc' with ⟨_, h, _⟩ | h
          · rw [h]; exact Nat.zero_le _
          · omega
        exact erBytes_any w' _ hkl ⟨ht'.1, by show time < _; omega⟩ ⟨by show _ ≤ value; omega, by show value < _; omega⟩
      rw [← hxb] at HN
      have HL := Lib.hid hlt
      obtain ⟨co0, co1, co2, co3⟩ := cells4' (HW.out.2 wo (Below.refl _ _))
      unfold ItemL.cells at hwo HR HBy
      obtain ⟨kind, key, time, value⟩ := x
      simp only at d0 d1 d2 d3 co0 co1 co2 co3 hwo HR HBy
      clear hB hx hxk hc hacc hr hBo hrow hxb htk
      go_upto_region 5 with (fail)
      rw [← hwo]
      clear hwo d0 d1 d2 d3
      cases r with
      | true =>
        obtain ⟨hby, hbl⟩ := HBy.out (by trivial)
        have HB2 := Lib.hid hby
        have hadd : ∀ w, (binOp .add 9 (Sv acc) (Sv xb)).run Tryd.prog w = .ok (Sv (acc ++ xb)) w := fun w => run_add_Sv w _ _ (by omega)
        obtain ⟨acc2, hacc2⟩ : ∃ a, a = acc ++ xb := ⟨_, rfl⟩
        rw [← hacc2] at hadd
        have HN2 : Hid (countL (l.take (t + 1)) = c + 1 ∧ bytesL (l.take (t + 1)) = acc2) := by
          rw [hacc2]
          have h := HN.out
          exact Lib.hid (by simpa using h)
        clear hby hbl hal hacc2
        go_wp2_with (fail)
        refine HR.out.mono ?_
        rintro e w3 ⟨rfl, hB3⟩
        obtain ⟨e0, e1, e2, e3⟩ := cells4' (HW.out.2 w3 hB3)
        have H3 := Lib.hid (HW.out.1.trans (hB3.mono HW.out.1.size))
        clear hB3 co0 co1 co2 co3
        simp only at e0 e1 e2 e3
        dsimp only
        go_wp2_with (fail)
        refine (HB2.out w3).mono ?_
        rintro e w4 ⟨rfl, hB4⟩
        have HZ : Hid (RL w l (.int .i64 ((c : Int) + 1)) (Sv acc2) (.int .i64 ((t : Int) + 1)) w4) := by
          refine Lib.hid ⟨t + 1, by rw [← HP.out.2.2.1]; have := HL.out; omega, by go_num, ?_, by rw [HN2.out.2], H3.out.trans (hB4.mono H3.out.size)⟩
          rw [HN2.out.1]
          go_num
        clear hB4 e0 e1 e2 e3
        dsimp only
        go_wp2_with (fail)
        have := HL.out
        exact ⟨HZ.out, by simp [intOf]; omega⟩
      | false =>
        have HN2 : Hid (countL (l.take (t + 1)) = c ∧ bytesL (l.take (t + 1)) = acc) := by
          have h := HN.out
          exact Lib.hid (by simpa using h)
        go_wp2_with (fail)
        refine HR.out.mono ?_
        rintro e w3 ⟨rfl, hB3⟩
        have HZ : Hid (RL w l (.int .i64 (c : Int)) (Sv acc) (.int .i64 ((t : Int) + 1)) w3) :=
          Lib.hid ⟨t + 1, by rw [← HP.out.2.2.1]; have := HL.out; omega, by go_num, by rw [HN2.out.1], by rw [HN2.out.2], HW.out.1.trans (hB3.mono HW.out.1.size)⟩
        clear hB3 co0 co1 co2 co3
        dsimp only
        go_wp2_with (fail)
        have := HL.out
        exact ⟨HZ.out, by simp [intOf]; omega⟩
    · obtain rfl : t = L := by omega
      rw [HP.out.2.2.1, List.take_length]
      obtain ⟨n, hn⟩ : ∃ n, n = countL l := ⟨_, rfl⟩
      obtain ⟨acc, hacc⟩ : ∃ a, a = bytesL l := ⟨_, rfl⟩
      have hn6 : n ≤ 900 := by
        have h1 := countL_le l
        have h3 := HP.out.2.2.2
        omega
      have hal : acc.length ≤ 945000 := by
        rw [hacc]
        have h1 := bytesL_len l
        have h2 : l.length * 1050 ≤ 900 * 1050 := Nat.mul_le_mul_right _ HP.out.2.2.2
        omega
      have hle : listL l = wordL n ++ acc := by rw [hn, hacc]; rfl
      have hnl := wordL_length n
      have HN := Lib.hid (rpNumber_any wr n (by omega))
      rw [← hn, ← hacc]
      obtain ⟨m, hm⟩ : ∃ m, m = wordL n := ⟨_, rfl⟩
      rw [← hm] at HN hle hnl
      have hadd : ∀ w, (binOp .add 9 (Sv m) (Sv acc)).run Tryd.prog w = .ok (Sv (m ++ acc)) w := fun w => run_add_Sv w _ _ (by omega)
      rw [← hle] at hadd
      obtain ⟨R, hR⟩ : ∃ R, R = listL l := ⟨_, rfl⟩
      rw [← hR] at hadd
      have HRe := Lib.hid hR
      clear hB hn hacc hal hle hnl hm hR hlt ht
      go_wp2_with (fail)
      refine HN.out.mono ?_
      rintro e w3 ⟨rfl, hB3⟩
      have H3 := Lib.hid (HBw.out.trans (hB3.mono HBw.out.size))
      clear hB3
      dsimp only
      go_wp2_with (fail)
      go_ret
      exact ⟨by rw [← HRe.out]; rfl, H3.out⟩
end Go.Proofs.YtmjanplhgpcbeaaDoor
