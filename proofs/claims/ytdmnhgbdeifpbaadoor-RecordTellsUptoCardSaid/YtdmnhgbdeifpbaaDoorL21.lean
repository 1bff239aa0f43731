/-
  Part 21 of 39 of what the proof leans on.
-/
import Derived.Test.YtdmnhgbdeifpbaaDoorL12
import Derived.Test.YtdmnhgbdeifpbaaDoorL1
namespace Go.Proofs.YtdmnhgbdeifpbaaDoor
open Go Go.RowKit
instance itemDec : DecidableEq ItemL := fun x y => decidable_of_iff (sameI x y = true) (sameI_iff x y)
def greatL (l : List ItemL) : Nat := (l.map fun x => 10 + x.key.length).sum
theorem greatL_next {l : List ItemL} {t : Nat} {x : ItemL} (h : l[t]? = some x) : greatL (l.take (t + 1)) = greatL (l.take t) + (10 + x.key.length) := by
  rw [take_next h, greatL, greatL, List.map_append, List.sum_append]; simp
theorem greatL_le (c : Nat) : ∀ l : List ItemL, (∀ x ∈ l, x.key.length ≤ c) → greatL l ≤ l.length * (10 + c)
  | [], _ => by simp [greatL]
  | x :: l, h => by
    have h1 := h x (by simp)
    have h2 := greatL_le c l (fun y hy => h y (by simp [hy]))
    unfold greatL at h2 ⊢; simp only [List.map_cons, List.sum_cons, List.length_cons, Nat.succ_mul]; omega
theorem greatL_mem : ∀ {l : List ItemL} {x : ItemL}, x ∈ l → 10 + x.key.length ≤ greatL l
  | y :: l, x, h => by
    unfold greatL; simp only [List.map_cons, List.sum_cons]
    rcases List.mem_cons.1 h with rfl | h
    · omega
    · have := greatL_mem h; unfold greatL at this; omega
theorem greatL_length : ∀ l : List ItemL, l.length * 10 ≤ greatL l
  | [] => by simp [greatL]
  | x :: l => by
    have := greatL_length l; unfold greatL at this ⊢; simp only [List.map_cons, List.sum_cons, List.length_cons]; omega
theorem greatL_take : ∀ (t : Nat) (l : List ItemL), greatL (l.take t) ≤ greatL l
  | 0, l => by simp [greatL]
  | t + 1, [] => by simp [greatL]
  | t + 1, x :: l => by
    have := greatL_take t l; unfold greatL at this ⊢; simp only [List.take_succ_cons, List.map_cons, List.sum_cons]; omega
def EG (w : World) (l : List ItemL) (n i : Value) (wr : World) : Prop := ∃ t : Nat, t ≤ l.length ∧ i = .int .i64 (t : Int) ∧ n = .int .i64 ((greatL (l.take t) : Nat) : Int) ∧ Below w.heap.size w wr
set_option maxRecDepth 100000 in
set_option maxHeartbeats 2000000 in
theorem great_wide (w : World) (la : Option Addr) (lc : Nat) (l : List ItemL) (hI : ItemsAt w la l) (hq : greatL l ≤ 1152921504606846976) :
    Calls Tryd.prog 23 #[.slice la l.length lc] w (Below0 w (.int .i64 ((greatL l : Nat) : Int))) := by
  obtain ⟨L, hL⟩ : ∃ L, L = l.length := ⟨_, rfl⟩; have HP := Lib.hid (And.intro hI (And.intro hq (And.intro hL trivial))); rw [← hL]
  have hL6 : L ≤ 1152921504606846976 := by have := greatL_length l; omega
  clear hI hq hL
  go_enter Tryd.func23, Tryd.ntmps23
  go_wp2_with (fail)
  go_loopw [3, 8] (EG w l) (fun _ i _ => L - (intOf i).toNat)
  case atStart => exact ⟨0, Nat.zero_le _, rfl, rfl, Below.refl _ _⟩
  case round =>
    obtain ⟨t, ht, rfl, rfl, hB⟩ := hrel; rw [← HP.out.2.2.1] at ht
    by_cases hlt : t < L
    · have hi0 : (0 : Int) ≤ (t : Int) ∧ (t : Int) < (L : Int) := by omega
      obtain ⟨x, pb, po, hx, rfl, d0, d1, d2, d3⟩ := (HP.out.1.below hB).get (t := t) (by rw [← HP.out.2.2.1]; exact hlt)
      have hxk := Nat.le_trans (greatL_mem (List.mem_of_getElem? hx)) HP.out.2.1; obtain ⟨c, hc⟩ : ∃ c, c = greatL (l.take t) := ⟨_, rfl⟩
      have hcl : c ≤ 1152921504606846976 := by
        rw [hc]; exact Nat.le_trans (greatL_take t l) HP.out.2.1
      rw [← hc]; obtain ⟨K, hK⟩ : ∃ K, K = x.key.length := ⟨_, rfl⟩
      have hKl : K ≤ 1152921504606846976 := by omega
      have lk : ∀ w ty, (Builtin.len_ #[9] ty #[Sv x.key]).run Tryd.prog w = .ok (.int .i64 (K : Int)) w := fun w ty => by rw [run_len_Sv w ty x.key, hK]
      obtain ⟨wo, hwo⟩ : ∃ wo, wo = wr.alloc (.cells x.cells 53) := ⟨_, rfl⟩
      have hBo : Below wr.heap.size wr wo := by rw [hwo]; exact (Below.refl _ wr).alloc (Nat.le_refl _) _
      have hrow : wo.heap[wr.heap.size]? = some (.cells x.cells 53 (0, 0)) := by rw [hwo]; exact heap_alloc_new wr _
      have HZ : Hid (EG w l (.int .i64 ((c : Int) + (10 + (K : Int)))) (.int .i64 ((t : Int) + 1)) wo) := by
        refine Lib.hid ⟨t + 1, by rw [← HP.out.2.2.1]; omega, by go_num, ?_, hB.trans (hBo.mono hB.size)⟩
        rw [greatL_next hx, ← hc, ← hK]
        go_num
      have HL := Lib.hid hlt
      have co1 : wo.cell? ⟨wr.heap.size, 1, none⟩ = some (Sv x.key) := by rw [cell_of_row _ _ 1 _ _ _ hrow]; rfl
      unfold ItemL.cells at hwo; obtain ⟨kind, key, time, value⟩ := x; simp only at d0 d1 d2 d3 co1 hwo lk; clear hB hx hxk hc hBo hrow hK
      go_upto_region 5 with (fail)
      rw [← hwo]; clear hwo d0 d1 d2 d3; go_wp2_with (fail); have := HL.out
      exact ⟨HZ.out, by simp [intOf]; omega⟩
    · obtain rfl : t = L := by omega
      rw [HP.out.2.2.1, List.take_length]; have HB := Lib.hid hB; clear hB hlt; go_wp2_with (fail); go_ret; exact ⟨rfl, HB.out⟩
def ES (w : World) (a b : List ItemL) (_j i : Value) (wr : World) : Prop := ∃ t : Nat, t ≤ a.length ∧ i = .int .i64 (t : Int) ∧ a.take t = b.take t ∧ Below w.heap.size w wr
set_option maxRecDepth 100000 in
set_option maxHeartbeats 2000000 in
theorem esame_any (w : World) (aa ba : Option Addr) (ca cb : Nat) (a b : List ItemL) (hA : ItemsAt w aa a) (hB : ItemsAt w ba b) (hl : a.length ≤ 9223372036854775806) :
    Calls Tryd.prog 49 #[.slice aa a.length ca, .slice ba b.length cb] w (Below0 w (.bool (decide (a = b)))) := by
  by_cases hne : a.length = b.length
  · obtain ⟨L, hL⟩ : ∃ L, L = a.length := ⟨_, rfl⟩; rw [← hne, ← hL]; have HP := Lib.hid (And.intro hA (And.intro hB (And.intro hL (hL.trans hne)))); obtain ⟨r0, hr0⟩ : ∃ r, r = decide (a = b) := ⟨_, rfl⟩; rw [← hr0]; have HR0 := Lib.hid hr0
    have hL6 : L ≤ 9223372036854775806 := by omega
    clear hA hB hL hne hl hr0
    have e0 : ((L : Int) != (L : Int)) = false := by simp
    go_enter Tryd.func49, Tryd.ntmps49
    go_wp2_with (fail)
    go_loopw [5, 13] (ES w a b) (fun _ i _ => L - (intOf i).toNat)
    case atStart => exact ⟨0, Nat.zero_le _, rfl, rfl, Below.refl _ _⟩
    case round =>
      obtain ⟨ii, hk, rfl, heq, hBw⟩ := hrel; rw [← HP.out.2.2.1] at hk; have HBw := Lib.hid hBw; clear hBw
      by_cases hlt : ii < L
      · have hi0 : (0 : Int) ≤ (ii : Int) ∧ (ii : Int) < (L : Int) := by omega
        have HI0 := Lib.hid hi0
        obtain ⟨x, pa, oa, hx, rfl, _⟩ := (HP.out.1.below HBw.out).get (t := ii) (by rw [← HP.out.2.2.1]; exact hlt)
        obtain ⟨y, pb, ob, hy, rfl, _⟩ := (HP.out.2.1.below HBw.out).get (t := ii) (by rw [← HP.out.2.2.2]; exact hlt)
        obtain ⟨VA, hVA⟩ : ∃ V, V = Value.agg x.cells := ⟨_, rfl⟩; obtain ⟨VB, hVB⟩ : ∃ V, V = Value.agg y.cells := ⟨_, rfl⟩; have HV := Lib.hid (And.intro hVA hVB); obtain ⟨r, hr⟩ : ∃ r, r = sameI x y := ⟨_, rfl⟩
        have HN : Hid ((∀ w, (binOp .neq 53 VA VB).run Tryd.prog w = .ok (.bool (!r)) w) ∧ ∀ w op o1 o2, (eqGuard op 53 o1 o2 VA VB).run Tryd.prog w = .ok () w) := by
          rw [hVA, hVB, hr]; exact Lib.hid ⟨fun w => run_neq_item w x y, fun w op o1 o2 => run_guard_item w op o1 o2 x y⟩
        have HA : Hid (∀ w', Below wr.heap.size wr w' → w'.cell? ⟨pa, oa + ii * 4, none⟩ = some (.int .i64 x.kind) ∧ w'.cell? ⟨pa, oa + ii * 4 + 1, none⟩ = some (Sv x.key) ∧ w'.cell? ⟨pa, oa + ii * 4 + 2, none⟩ = some (.int .i64 x.time) ∧ w'.cell? ⟨pa, oa + ii * 4 + 3, none⟩ = some (.int .i64 x.value)) := by
          refine Lib.hid (fun w' h => ?_)
          obtain ⟨x', b', o', hx', ha', d⟩ := (HP.out.1.below (HBw.out.trans (h.mono HBw.out.size))).get (t := ii) (by rw [← HP.out.2.2.1]; exact hlt)
          cases ha'
          rw [hx] at hx'
          cases hx'
          exact d
        have HB : Hid (∀ w', Below wr.heap.size wr w' → w'.cell? ⟨pb, ob + ii * 4, none⟩ = some (.int .i64 y.kind) ∧ w'.cell? ⟨pb, ob + ii * 4 + 1, none⟩ = some (Sv y.key) ∧ w'.cell? ⟨pb, ob + ii * 4 + 2, none⟩ = some (.int .i64 y.time) ∧ w'.cell? ⟨pb, ob + ii * 4 + 3, none⟩ = some (.int .i64 y.value)) := by
          refine Lib.hid (fun w' h => ?_)
          obtain ⟨x', b', o', hx', ha', d⟩ := (HP.out.2.1.below (HBw.out.trans (h.mono HBw.out.size))).get (t := ii) (by rw [← HP.out.2.2.2]; exact hlt)
          cases ha'
          rw [hy] at hx'
          cases hx'
          exact d
        have HG0 : Hid (Below wr.heap.size wr wr.drew) := (Below.refl _ wr).drew
        have HS : Hid (r = true → (a.take (ii + 1) = b.take (ii + 1))) := Lib.hid (fun h => by
          rw [hr, sameI_iff] at h
          rw [take_next hx, take_next hy, heq, h])
        have HF : Hid (r = false → r0 = false) := Lib.hid (fun h => by
          rw [HR0.out]; refine decide_eq_false fun e => ?_; rw [e, hy] at hx; simp only [Option.some.injEq] at hx; rw [hr, hx] at h; have : sameI x x = true := (sameI_iff x x).2 rfl; rw [this] at h
          cases h)
        have HL := Lib.hid hlt; clear heq hx hy hVA hVB hr hlt
        go_upto_region 6 with (fail)
        refine wp_region_seq_frame (by kernel_rfl) [none, none, none, none, none, none, none, none, none] [] (vOfC [.slice (some ⟨pa, oa, none⟩) L ca, .int .i64 (ii : Int), .pointer (some ⟨pa, oa + ii * 4, none⟩), VA, .slice (some ⟨pb, ob, none⟩) L cb, .int .i64 (ii : Int), .pointer (some ⟨pb, ob + ii * 4, none⟩), VB, .bool (!r)]) (fun _ w' => Below wr.heap.size wr w') (fun _ _ => True) (fun _ _ _ _ _ h => h) (by kernel_rfl) (by kernel_rfl) (by kernel_rfl) HG0.out ⟨trivial, trivial, trivial, trivial, trivial, trivial, trivial, trivial, trivial, trivial⟩ ?_ ?_
        · refine ⟨?_, ?_, ?_, ?_, ?_, ?_, ?_, ?_, ?_, trivial⟩
          · intro k a w' hG hout hpre K hK; have q0 := ev_of ((hout 0 rfl).trans (show _ = .slice (some ⟨pa, oa, none⟩) L ca from rfl)); clear hout hpre; go_step; exact hK _ _ rfl hG trivial
          · intro k a w' hG hout hpre K hK; have q5 := ev_of ((hout 5 rfl).trans (show _ = .int .i64 (ii : Int) from rfl)); clear hout hpre; go_step; exact hK _ _ rfl hG trivial
          · intro k a w' hG hout hpre K hK; obtain ⟨p0, p1, _⟩ := hpre; have q16 := ev_of (show a.eval (.tmp 16) = .slice (some ⟨pa, oa, none⟩) L ca from p0); have q17 := ev_of (show a.eval (.tmp 17) = .int .i64 (ii : Int) from p1); have hi0 := HI0.out; clear hout p0 p1; go_step; exact hK _ _ rfl hG trivial
          · intro k a w' hG hout hpre K hK; obtain ⟨p0, _⟩ := hpre; have q18 := ev_of (show a.eval (.tmp 18) = .pointer (some ⟨pa, oa + ii * 4, none⟩) from p0); obtain ⟨d0, d1, d2, d3⟩ := HA.out w' hG; clear hout p0; go_step; exact hK _ _ HV.out.1.symm hG trivial
          · intro k a w' hG hout hpre K hK; have q1 := ev_of ((hout 1 rfl).trans (show _ = .slice (some ⟨pb, ob, none⟩) L cb from rfl)); clear hout hpre; go_step; exact hK _ _ rfl hG trivial
          · intro k a w' hG hout hpre K hK; have q5 := ev_of ((hout 5 rfl).trans (show _ = .int .i64 (ii : Int) from rfl)); clear hout hpre; go_step; exact hK _ _ rfl hG trivial
          · intro k a w' hG hout hpre K hK; obtain ⟨p0, p1, _⟩ := hpre; have q20 := ev_of (show a.eval (.tmp 20) = .slice (some ⟨pb, ob, none⟩) L cb from p0); have q21 := ev_of (show a.eval (.tmp 21) = .int .i64 (ii : Int) from p1); have hi0 := HI0.out; clear hout p0 p1; go_step; exact hK _ _ rfl hG trivial
          · intro k a w' hG hout hpre K hK; obtain ⟨p0, _⟩ := hpre; have q22 := ev_of (show a.eval (.tmp 22) = .pointer (some ⟨pb, ob + ii * 4, none⟩) from p0); obtain ⟨d0, d1, d2, d3⟩ := HB.out w' hG; clear hout p0; go_step; exact hK _ _ HV.out.2.symm hG trivial
          · intro k a w' hG hout hpre K hK; obtain ⟨p0, p1, _⟩ := hpre; have q19 := ev_of (show a.eval (.tmp 19) = VA from p0); have q23 := ev_of (show a.eval (.tmp 23) = VB from p1); have hne := HN.out.1; have hgd := HN.out.2; clear hout p0 p1; go_step; exact hK _ _ rfl hG trivial
        · intro vs w2 hG hlen hV
          match vs, hlen, hV with
          | [v0, v1, v2, v3, v4, v5, v6, v7, v8], _, hV =>
            obtain rfl : v8 = .bool (!r) := hV 8 24 v8 rfl rfl; clear hV; simp only [putsL, List.tail_cons, List.headD_cons]; simp only [Act.put, List.setIfInBounds_toArray, List.set_cons_succ, List.set_cons_zero]; have HZ : Hid (Below w.heap.size w w2) := HBw.out.trans (hG.mono HBw.out.size); clear hG
            cases r with
            | true =>
              have HZ2 : Hid (ES w a b (.int .i64 (ii : Int)) (.int .i64 ((ii : Int) + 1)) w2) := Lib.hid ⟨ii + 1, by rw [← HP.out.2.2.1]; have := HL.out; omega, by go_num, HS.out rfl, HZ.out⟩
              go_wp2_with (fail); have := HL.out
              exact ⟨HZ2.out, by simp [intOf]; omega⟩
            | false =>
              obtain rfl : r0 = false := HF.out rfl; go_wp2_with (fail); go_ret; exact ⟨rfl, HZ.out⟩
      · obtain rfl : ii = L := by omega
        obtain rfl : r0 = true := by
          rw [HR0.out]; refine decide_eq_true ?_; have h1 := heq; rw [HP.out.2.2.1, List.take_length, ← HP.out.2.2.1, HP.out.2.2.2, List.take_length] at h1; exact h1
        clear heq hlt; go_wp2_with (fail); go_ret; exact ⟨rfl, HBw.out⟩
  · have hd : decide (a = b) = false := decide_eq_false fun e => hne (by rw [e])
    rw [hd]; obtain ⟨n, hn⟩ : ∃ n, n = a.length := ⟨_, rfl⟩; obtain ⟨m, hm⟩ : ∃ m, m = b.length := ⟨_, rfl⟩; rw [← hn, ← hm]
    have e0 : ((n : Int) != (m : Int)) = true := by simp; omega
    clear hA hB hl hne hd hn hm
    go_enter Tryd.func49, Tryd.ntmps49
    go_wp2_with (fail); go_ret; exact ⟨rfl, Below.refl _ _⟩
end Go.Proofs.YtdmnhgbdeifpbaaDoor
