/-
  The contract of a pen's word.
-/
import Derived.Test.YtmjanplhgpcbeaaDoorPenMem
import Derived.Test.YtmjanplhgpcbeaaDoorRefPen
namespace Go.Proofs.YtmjanplhgpcbeaaDoor
open Go Go.RowKit

theorem run_conv_u64_B8 (w : World) (x : Nat) : (convert 77 5 (.int .u64 (x : Int))).run Tryd.prog w = .ok (B (BitVec.ofNat 8 x)) w := by
  simp [convert, Conv.intToInt, run_underlying Tryd.underlying77, run_underlying Tryd.underlying5, B, IntKind.wrap, IntKind.bits, IntKind.signed]
theorem or128 : ∀ y : Fin 256, (BitVec.ofNat 8 y.val ||| 128#8) = BitVec.ofNat 8 (128 + y.val % 128) := by decide +kernel
theorem ofNat_or (x : Nat) : (BitVec.ofNat 8 x ||| 128#8) = BitVec.ofNat 8 (128 + x % 128) := by
  have h := or128 ⟨x % 256, by omega⟩
  have e1 : BitVec.ofNat 8 (x % 256) = BitVec.ofNat 8 x := by
    apply BitVec.eq_of_toNat_eq
    simp
  have e2 : x % 256 % 128 = x % 128 := by omega
  simp only at h
  rw [e1, e2] at h
  exact h
def PWordRel (X : Nat → Prop) (b : Nat) (w0 : World) (l : List (BitVec 8)) (W0 : Nat) (v : Value) (wr : World) : Prop :=
  ∃ (n x : Nat) (p : List (BitVec 8)), n + 1 ≤ 10 ∧ x < 128 ^ (n + 1) ∧ x < 18446744073709551616 ∧ v = .int .u64 (x : Int) ∧ p ++ wordF (n + 1) x = wordL W0 ∧ p.length + n ≤ 10 ∧ PenAt X wr b (l ++ p) ∧ PKept X b w0 wr

set_option maxRecDepth 100000 in
set_option maxHeartbeats 2000000 in
theorem pword_any (w : World) (X : Nat → Prop) (b : Nat) (l : List (BitVec 8)) (W0 : Nat) (hW : W0 < 18446744073709551616) (hP : PenAt X w b l) (hX : ∀ k, X k → k < w.heap.size) (hl : l.length ≤ 1073741000) :
    Calls Tryd.prog 55 #[.pointer (some ⟨b, 0, none⟩), .int .u64 (W0 : Int)] w (PenEnd X b w (l ++ wordL W0) (.tuple #[])) := by
  have HP := Lib.hid hP
  have HB := Lib.hid (And.intro hX hl)
  clear hP hX hl
  go_enter Tryd.func55, Tryd.ntmps55
  go_wp2_with (fail)
  go_loopw [1] (PWordRel X b w l W0) (fun v _ => (intOf v).toNat)
  case atStart => exact ⟨9, W0, [], by omega, by have : (128 : Nat) ^ (9 + 1) = 1180591620717411303424 := by decide
                                                 omega, hW, rfl, rfl, by simp, by rw [List.append_nil]; exact HP.out, PKept.refl _ _ _⟩
  case round =>
    obtain ⟨n, x, p, hn, hx, hx2, rfl, hp, hpl, ⟨v, hb, ho, hx0⟩, hK⟩ := hrel
    have d0 : wr.cell? ⟨b, 0, none⟩ = some v := by rw [cell_of_row _ _ _ _ _ _ hb]; rfl
    have hcv := fun w => run_conv_u64_B8 w x
    have hbl := (Array.getElem?_eq_some_iff.1 hb).1
    have hbs : (∀ k, X k → k < wr.heap.size) ∧ ∀ g, v.ownBlock = some g → ¬ X g := ⟨fun k hk => Nat.lt_of_lt_of_le (HB.out.1 k hk) hK.size, hx0⟩
    clear hx0
    obtain ⟨sa, sc, hv⟩ := ho.form
    by_cases hlt : x < 128
    · have h1 : ¬ (128 : Int) ≤ (x : Int) := by omega
      obtain ⟨y, hy⟩ : ∃ y, y = BitVec.ofNat 8 x := ⟨_, rfl⟩
      rw [← hy] at hcv
      have hfin : p ++ [y] = wordL W0 := by rw [← hp, wordF, if_pos hlt, hy]
      have HF := Lib.hid (And.intro hfin (And.intro hK (And.intro hb (And.intro ho (And.intro hbl (And.intro hbs (And.intro hpl hv)))))))
      clear hfin hK hp hx hx2 hn hpl hy hlt hb ho hbl hbs hv
      go_upto_region 3 with (fail)
      refine wp_region_lit ?_
      iterate 21 go_step
      refine run_slice1_B rfl (.tmp 26) rfl y rfl ?_
      obtain ⟨hfin, hK, hb, ho, hbl, hbs, hpl, hv⟩ := HF.out
      refine wpList_append_own2 rfl (.tmp 24) (.tmp 27) rfl 0 v ((l ++ p).map B) rfl (ho.far ((Below.refl _ _).alloc (Nat.le_refl _) _)) (some ⟨wr.heap.size, 0, none⟩) 1 [y] 1 rfl rfl (.inr ⟨wr.heap.size, 0, rfl, fun j hj => by
        obtain rfl : j = 0 := by simpa using hj
        exact World.cell?_alloc_mark _ _ _ _ _⟩) (by simp only [List.length_map, List.length_append, List.length_singleton]; have := HB.out.2; omega) (Nat.zero_le _) ?_
      intro v' w1 ho1 hg hv'
      obtain ⟨hG, hG2⟩ := PenAt.grown (m := [y]) (((Below.refl _ wr).alloc (Nat.le_refl _) _ : Below wr.heap.size wr (wr.alloc (.cells #[B y] 5))).block b hbl |>.trans hb) (ho.far ((Below.refl _ _).alloc (Nat.le_refl _) _)) hbs.2 ho1 hg hv' (fun k hk => by have := hbs.1 k hk; simp; omega)
      have hb1 : w1.heap[b]? = some (.cells #[v] 31 (0, 0)) := (hg.block b (by simp; omega) (fun e => own_ne ho hb (by decide) e.symm)).trans ((((Below.refl _ wr).alloc (Nat.le_refl _) _ : Below wr.heap.size wr (wr.alloc (.cells #[B y] 5))).block b hbl).trans hb)
      have d1 : w1.cell? ⟨b, 0, none⟩ = some v := by rw [cell_of_row _ _ _ _ _ _ hb1]; rfl
      have f1 : w1.frozen? ⟨b, 0, none⟩ = false := frozen_of_row w1 b 0 _ _ hb1
      obtain ⟨ra, rc, hv1⟩ := ho1.form
      obtain ⟨rn, hrn⟩ : ∃ rn, rn = (((l ++ p).map B) ++ [y].map B).length := ⟨_, rfl⟩
      rw [← hrn] at hv1
      subst hv1
      have HG : Hid (PenAt X (w1.setCell ⟨b, 0, none⟩ (.slice ra rn rc)) b (l ++ wordL W0) ∧ PKept X b w (w1.setCell ⟨b, 0, none⟩ (.slice ra rn rc))) := by
        refine ⟨?_, (hK.trans (PKept.of_below ((Below.refl _ wr).alloc (Nat.le_refl _) _))).trans hG2⟩
        rw [← hfin, ← List.append_assoc]
        exact hG
      clear hrn hG hG2 ho1 hg hv' hb1 hfin hK hb ho hbl hbs hpl hv d0
      dsimp only
      go_wp2_with (fail)
      go_end0
      exact ⟨rfl, HG.out.1, HG.out.2⟩
    · have h1 : (128 : Int) ≤ (x : Int) := by omega
      obtain ⟨z, hz⟩ : ∃ z, z = BitVec.ofNat 8 x := ⟨_, rfl⟩
      rw [← hz] at hcv
      have hor : ∀ w, (binOp .or 5 (B z) (.int .u8 128)).run Tryd.prog w = .ok (B (z ||| 128#8)) w := fun w => run_or_B _ _ z 128#8 w
      obtain ⟨y, hy⟩ : ∃ y, y = z ||| 128#8 := ⟨_, rfl⟩
      rw [← hy] at hor
      obtain ⟨m, hm⟩ : ∃ m, m = x / 128 := ⟨_, rfl⟩
      have HM := Lib.hid hm
      have hn1 : ∃ n', n = n' + 1 := by
        cases n with
        | zero => simp at hx; omega
        | succ n' => exact ⟨n', rfl⟩
      obtain ⟨n', rfl⟩ := hn1
      have hfin : (p ++ [y]) ++ wordF (n' + 1) m = wordL W0 := by rw [← hp, show wordF (n' + 1 + 1) x = BitVec.ofNat 8 (128 + x % 128) :: wordF (n' + 1) (x / 128) from if_neg hlt, hy, hz, hm, ofNat_or]; simp
      have hmx : m < 128 ^ (n' + 1) := by
        have : (128 : Nat) ^ (n' + 1 + 1) = 128 ^ (n' + 1) * 128 := Nat.pow_succ _ _
        omega
      have hms : m < x := by omega
      have HF := Lib.hid (And.intro hfin (And.intro hK (And.intro hb (And.intro ho (And.intro hbl (And.intro hbs (And.intro hpl (And.intro hv (And.intro hmx (And.intro hn (And.intro hms hx2)))))))))))
      clear hfin hK hp hx hx2 hn hpl hy hz hm hmx hms hlt hb ho hbl hbs hv
      go_upto_region 1 with (fail)
      refine wp_region_lit ?_
      iterate 24 go_step
      refine run_slice1_B rfl (.tmp 13) rfl y rfl ?_
      obtain ⟨hfin, hK, hb, ho, hbl, hbs, hpl, hv, hmx, hn, hms, hx2⟩ := HF.out
      refine wpList_append_own2 rfl (.tmp 10) (.tmp 14) rfl 0 v ((l ++ p).map B) rfl (ho.far ((Below.refl _ _).alloc (Nat.le_refl _) _)) (some ⟨wr.heap.size, 0, none⟩) 1 [y] 1 rfl rfl (.inr ⟨wr.heap.size, 0, rfl, fun j hj => by
        obtain rfl : j = 0 := by simpa using hj
        exact World.cell?_alloc_mark _ _ _ _ _⟩) (by simp only [List.length_map, List.length_append, List.length_singleton]; have := HB.out.2; omega) (Nat.zero_le _) ?_
      intro v' w1 ho1 hg hv'
      obtain ⟨hG, hG2⟩ := PenAt.grown (m := [y]) (((Below.refl _ wr).alloc (Nat.le_refl _) _ : Below wr.heap.size wr (wr.alloc (.cells #[B y] 5))).block b hbl |>.trans hb) (ho.far ((Below.refl _ _).alloc (Nat.le_refl _) _)) hbs.2 ho1 hg hv' (fun k hk => by have := hbs.1 k hk; simp; omega)
      have hb1 : w1.heap[b]? = some (.cells #[v] 31 (0, 0)) := (hg.block b (by simp; omega) (fun e => own_ne ho hb (by decide) e.symm)).trans ((((Below.refl _ wr).alloc (Nat.le_refl _) _ : Below wr.heap.size wr (wr.alloc (.cells #[B y] 5))).block b hbl).trans hb)
      have d1 : w1.cell? ⟨b, 0, none⟩ = some v := by rw [cell_of_row _ _ _ _ _ _ hb1]; rfl
      have f1 : w1.frozen? ⟨b, 0, none⟩ = false := frozen_of_row w1 b 0 _ _ hb1
      obtain ⟨ra, rc, hv1⟩ := ho1.form
      obtain ⟨rn, hrn⟩ : ∃ rn, rn = (((l ++ p).map B) ++ [y].map B).length := ⟨_, rfl⟩
      rw [← hrn] at hv1
      subst hv1
      have HG : Hid (PenAt X (w1.setCell ⟨b, 0, none⟩ (.slice ra rn rc)) b (l ++ (p ++ [y])) ∧ PKept X b w (w1.setCell ⟨b, 0, none⟩ (.slice ra rn rc))) := by
        refine ⟨?_, (hK.trans (PKept.of_below ((Below.refl _ wr).alloc (Nat.le_refl _) _))).trans hG2⟩
        rw [← List.append_assoc]
        exact hG
      clear hrn hG hG2 ho1 hg hv' hb1 hfin hK hb ho hbl hbs hpl hv hmx hn hms hx2 d0
      dsimp only
      go_wp2_with (fail)
      obtain ⟨hfin, hK, hb, ho, hbl, hbs, hpl, hv, hmx, hn, hms, hx2⟩ := HF.out
      exact ⟨⟨n', m, p ++ [y], by omega, hmx, by omega, by rw [HM.out]; rfl, hfin, by simp only [List.length_append, List.length_singleton]; omega, HG.out.1, HG.out.2⟩, by simp [intOf]; omega⟩
end Go.Proofs.YtmjanplhgpcbeaaDoor
