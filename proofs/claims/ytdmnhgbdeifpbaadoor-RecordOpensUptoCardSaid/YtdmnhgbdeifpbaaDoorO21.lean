/-
  Part 21 of 42 of what the proof leans on.
-/
import Derived.Test.YtdmnhgbdeifpbaaDoorO12
import Derived.Test.YtdmnhgbdeifpbaaDoorO1
namespace Go.Proofs.YtdmnhgbdeifpbaaDoor
open Go Go.RowKit
instance itemDec : DecidableEq ItemL := fun x y => decidable_of_iff (sameI x y = true) (sameI_iff x y)
def greatL (l : List ItemL) : Nat := (l.map fun x => 10 + x.key.length).sum
theorem greatL_next {l : List ItemL} {t : Nat} {x : ItemL} (h : l[t]? = some x) : greatL (l.take (t + 1)) = greatL (l.take t) + (10 + x.key.length) := by
  rw [take_next h, greatL, greatL, List.map_append, List.sum_append]; simp
theorem greatL_le (c : Nat) : ∀ l : List ItemL, (∀ x ∈ l, x.key.length ≤ c) → greatL l ≤ l.length * (10 + c)
  | [], _ => by simp [greatL]
  | x :: l, h => by
    have h1 := h x (by simp)
    have h2 := greatL_le c l (fun y hy => h y (by simp [hy]))
    unfold greatL at h2 ⊢; simp only [List.map_cons, List.sum_cons, List.length_cons, Nat.succ_mul]; omega
theorem greatL_mem : ∀ {l : List ItemL} {x : ItemL}, x ∈ l → 10 + x.key.length ≤ greatL l
  | y :: l, x, h => by
    unfold greatL; simp only [List.map_cons, List.sum_cons]
    rcases List.mem_cons.1 h with rfl | h
    · omega
    · have := greatL_mem h; unfold greatL at this; omega
theorem greatL_length : ∀ l : List ItemL, l.length * 10 ≤ greatL l
  | [] => by simp [greatL]
  | x :: l => by
    have := greatL_length l; unfold greatL at this ⊢; simp only [List.map_cons, List.sum_cons, List.length_cons]; omega
theorem greatL_take : ∀ (t : Nat) (l : List ItemL), greatL (l.take t) ≤ greatL l
  | 0, l => by simp [greatL]
  | t + 1, [] => by simp [greatL]
  | t + 1, x :: l => by
    have := greatL_take t l; unfold greatL at this ⊢; simp only [List.take_succ_cons, List.map_cons, List.sum_cons]; omega
def EG (w : World) (l : List ItemL) (n i : Value) (wr : World) : Prop := ∃ t : Nat, t ≤ l.length ∧ i = .int .i64 (t : Int) ∧ n = .int .i64 ((greatL (l.take t) : Nat) : Int) ∧ Below w.heap.size w wr
set_option maxRecDepth 100000 in
set_option maxHeartbeats 2000000 in
theorem great_wide (w : World) (la : Option Addr) (lc : Nat) (l : List ItemL) (hI : ItemsAt w la l) (hq : greatL l ≤ 1152921504606846976) :
    Calls Tryd.prog 23 #[.slice la l.length lc] w (Below0 w (.int .i64 ((greatL l : Nat) : Int))) := by
  obtain ⟨L, hL⟩ : ∃ L, L = l.length := ⟨_, rfl⟩; have HP := Lib.hid (And.intro hI (And.intro hq (And.intro hL trivial))); rw [← hL]
  have hL6 : L ≤ 1152921504606846976 := by have := greatL_length l; omega
  clear hI hq hL
  go_enter Tryd.func23, Tryd.ntmps23
  go_wp2_with (fail)
  go_loopw [3, 8] (EG w l) (fun _ i _ => L - (intOf i).toNat)
  case atStart => exact ⟨0, Nat.zero_le _, rfl, rfl, Below.refl _ _⟩
  case round =>
    obtain ⟨t, ht, rfl, rfl, hB⟩ := hrel; rw [← HP.out.2.2.1] at ht
    by_cases hlt : t < L
    · have hi0 : (0 : Int) ≤ (t : Int) ∧ (t : Int) < (L : Int) := by omega
      obtain ⟨x, pb, po, hx, rfl, d0, d1, d2, d3⟩ := (HP.out.1.below hB).get (t := t) (by rw [← HP.out.2.2.1]; exact hlt)
      have hxk := Nat.le_trans (greatL_mem (List.mem_of_getElem? hx)) HP.out.2.1; obtain ⟨c, hc⟩ : ∃ c, c = greatL (l.take t) := ⟨_, rfl⟩
      have hcl : c ≤ 1152921504606846976 := by
        rw [hc]; exact Nat.le_trans (greatL_take t l) HP.out.2.1
      rw [← hc]; obtain ⟨K, hK⟩ : ∃ K, K = x.key.length := ⟨_, rfl⟩
      have hKl : K ≤ 1152921504606846976 := by omega
      have lk : ∀ w ty, (Builtin.len_ #[9] ty #[Sv x.key]).run Tryd.prog w = .ok (.int .i64 (K : Int)) w := fun w ty => by rw [run_len_Sv w ty x.key, hK]
      obtain ⟨wo, hwo⟩ : ∃ wo, wo = wr.alloc (.cells x.cells 53) := ⟨_, rfl⟩
      have hBo : Below wr.heap.size wr wo := by rw [hwo]; exact (Below.refl _ wr).alloc (Nat.le_refl _) _
      have hrow : wo.heap[wr.heap.size]? = some (.cells x.cells 53 (0, 0)) := by rw [hwo]; exact heap_alloc_new wr _
      have HZ : Hid (EG w l (.int .i64 ((c : Int) + (10 + (K : Int)))) (.int .i64 ((t : Int) + 1)) wo) := by
        refine Lib.hid ⟨t + 1, by rw [← HP.out.2.2.1]; omega, by go_num, ?_, hB.trans (hBo.mono hB.size)⟩
        rw [greatL_next hx, ← hc, ← hK]
        go_num
      have HL := Lib.hid hlt
      have co1 : wo.cell? ⟨wr.heap.size, 1, none⟩ = some (Sv x.key) := by rw [cell_of_row _ _ 1 _ _ _ hrow]; rfl
      unfold ItemL.cells at hwo; obtain ⟨kind, key, time, value⟩ := x; simp only at d0 d1 d2 d3 co1 hwo lk; clear hB hx hxk hc hBo hrow hK
      go_upto_region 5 with (fail)
      rw [← hwo]; clear hwo d0 d1 d2 d3; go_wp2_with (fail); have := HL.out
      exact ⟨HZ.out, by simp [intOf]; omega⟩
    · obtain rfl : t = L := by omega
      rw [HP.out.2.2.1, List.take_length]; have HB := Lib.hid hB; clear hB hlt; go_wp2_with (fail); go_ret; exact ⟨rfl, HB.out⟩
def ES (w : World) (a b : List ItemL) (_j i : Value) (wr : World) : Prop := ∃ t : Nat, t ≤ a.length ∧ i = .int .i64 (t : Int) ∧ a.take t = b.take t ∧ Below w.heap.size w wr
end Go.Proofs.YtdmnhgbdeifpbaaDoor
