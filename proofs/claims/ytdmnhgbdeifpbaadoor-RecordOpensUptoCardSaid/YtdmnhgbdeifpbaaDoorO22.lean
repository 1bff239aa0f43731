/-
  Part 22 of 42 of what the proof leans on.
-/
import Derived.Test.YtdmnhgbdeifpbaaDoorO20
import Derived.Test.YtdmnhgbdeifpbaaDoorO21
import Derived.KernelRfl
namespace Go.Proofs.YtdmnhgbdeifpbaaDoor
open Go Go.RowKit
set_option maxRecDepth 100000 in
set_option maxHeartbeats 2000000 in
theorem sequal_any (w : World) (aa ba : Option Addr) (ca cb : Nat) (a b : List ItemL) (hA : ItemsAt w aa a) (hB : ItemsAt w ba b) (hl : a.length ≤ 9223372036854775806) :
    Calls Tryd.prog 48 #[.slice aa a.length ca, .slice ba b.length cb] w (Below0 w (.bool (decide (a = b)))) := by
  by_cases hne : a.length = b.length
  · obtain ⟨L, hL⟩ : ∃ L, L = a.length := ⟨_, rfl⟩; rw [← hne, ← hL]; have HP := Lib.hid (And.intro hA (And.intro hB (And.intro hL (hL.trans hne)))); obtain ⟨r0, hr0⟩ : ∃ r, r = decide (a = b) := ⟨_, rfl⟩; rw [← hr0]; have HR0 := Lib.hid hr0
    have hL6 : L ≤ 9223372036854775806 := by omega
    clear hA hB hL hne hl hr0
    have e0 : ((L : Int) != (L : Int)) = false := by simp
    go_enter Tryd.func48, Tryd.ntmps48
    go_wp2_with (fail)
    go_loopw [5, 13] (ES w a b) (fun _ i _ => L - (intOf i).toNat)
    case atStart => exact ⟨0, Nat.zero_le _, rfl, rfl, Below.refl _ _⟩
    case round =>
      obtain ⟨ii, hk, rfl, heq, hBw⟩ := hrel; rw [← HP.out.2.2.1] at hk; have HBw := Lib.hid hBw; clear hBw
      by_cases hlt : ii < L
      · have hi0 : (0 : Int) ≤ (ii : Int) ∧ (ii : Int) < (L : Int) := by omega
        have HI0 := Lib.hid hi0
        obtain ⟨x, pa, oa, hx, rfl, _⟩ := (HP.out.1.below HBw.out).get (t := ii) (by rw [← HP.out.2.2.1]; exact hlt)
        obtain ⟨y, pb, ob, hy, rfl, _⟩ := (HP.out.2.1.below HBw.out).get (t := ii) (by rw [← HP.out.2.2.2]; exact hlt)
        obtain ⟨VA, hVA⟩ : ∃ V, V = Value.agg x.cells := ⟨_, rfl⟩; obtain ⟨VB, hVB⟩ : ∃ V, V = Value.agg y.cells := ⟨_, rfl⟩; have HV := Lib.hid (And.intro hVA hVB); obtain ⟨r, hr⟩ : ∃ r, r = sameI x y := ⟨_, rfl⟩
        have HN : Hid ((∀ w, (binOp .neq 53 VA VB).run Tryd.prog w = .ok (.bool (!r)) w) ∧ ∀ w op o1 o2, (eqGuard op 53 o1 o2 VA VB).run Tryd.prog w = .ok () w) := by
          rw [hVA, hVB, hr]; exact Lib.hid ⟨fun w => run_neq_item w x y, fun w op o1 o2 => run_guard_item w op o1 o2 x y⟩
        have HA : Hid (∀ w', Below wr.heap.size wr w' → w'.cell? ⟨pa, oa + ii * 4, none⟩ = some (.int .i64 x.kind) ∧ w'.cell? ⟨pa, oa + ii * 4 + 1, none⟩ = some (Sv x.key) ∧ w'.cell? ⟨pa, oa + ii * 4 + 2, none⟩ = some (.int .i64 x.time) ∧ w'.cell? ⟨pa, oa + ii * 4 + 3, none⟩ = some (.int .i64 x.value)) := by
          refine Lib.hid (fun w' h => ?_)
          obtain ⟨x', b', o', hx', ha', d⟩ := (HP.out.1.below (HBw.out.trans (h.mono HBw.out.size))).get (t := ii) (by rw [← HP.out.2.2.1]; exact hlt)
          cases ha'
          rw [hx] at hx'
          cases hx'
          exact d
        have HB : Hid (∀ w', Below wr.heap.size wr w' → w'.cell? ⟨pb, ob + ii * 4, none⟩ = some (.int .i64 y.kind) ∧ w'.cell? ⟨pb, ob + ii * 4 + 1, none⟩ = some (Sv y.key) ∧ w'.cell? ⟨pb, ob + ii * 4 + 2, none⟩ = some (.int .i64 y.time) ∧ w'.cell? ⟨pb, ob + ii * 4 + 3, none⟩ = some (.int .i64 y.value)) := by
          refine Lib.hid (fun w' h => ?_)
          obtain ⟨x', b', o', hx', ha', d⟩ := (HP.out.2.1.below (HBw.out.trans (h.mono HBw.out.size))).get (t := ii) (by rw [← HP.out.2.2.2]; exact hlt)
          cases ha'
          rw [hy] at hx'
          cases hx'
          exact d
        have HG0 : Hid (Below wr.heap.size wr wr.drew) := (Below.refl _ wr).drew
        have HS : Hid (r = true → (a.take (ii + 1) = b.take (ii + 1))) := Lib.hid (fun h => by
          rw [hr, sameI_iff] at h
          rw [take_next hx, take_next hy, heq, h])
        have HF : Hid (r = false → r0 = false) := Lib.hid (fun h => by
          rw [HR0.out]; refine decide_eq_false fun e => ?_; rw [e, hy] at hx; simp only [Option.some.injEq] at hx; rw [hr, hx] at h; have : sameI x x = true := (sameI_iff x x).2 rfl; rw [this] at h
          cases h)
        have HL := Lib.hid hlt; clear heq hx hy hVA hVB hr hlt
        go_upto_region 6 with (fail)
        refine wp_region_seq_frame (by kernel_rfl) [none, none, none, none, none, none, none, none, none] [] (vOfC [.slice (some ⟨pa, oa, none⟩) L ca, .int .i64 (ii : Int), .pointer (some ⟨pa, oa + ii * 4, none⟩), VA, .slice (some ⟨pb, ob, none⟩) L cb, .int .i64 (ii : Int), .pointer (some ⟨pb, ob + ii * 4, none⟩), VB, .bool (!r)]) (fun _ w' => Below wr.heap.size wr w') (fun _ _ => True) (fun _ _ _ _ _ h => h) (by kernel_rfl) (by kernel_rfl) (by kernel_rfl) HG0.out ⟨trivial, trivial, trivial, trivial, trivial, trivial, trivial, trivial, trivial, trivial⟩ ?_ ?_
        · refine ⟨?_, ?_, ?_, ?_, ?_, ?_, ?_, ?_, ?_, trivial⟩
          · intro k a w' hG hout hpre K hK; have q0 := ev_of ((hout 0 rfl).trans (show _ = .slice (some ⟨pa, oa, none⟩) L ca from rfl)); clear hout hpre; go_step; exact hK _ _ rfl hG trivial
          · intro k a w' hG hout hpre K hK; have q5 := ev_of ((hout 5 rfl).trans (show _ = .int .i64 (ii : Int) from rfl)); clear hout hpre; go_step; exact hK _ _ rfl hG trivial
          · intro k a w' hG hout hpre K hK; obtain ⟨p0, p1, _⟩ := hpre; have q16 := ev_of (show a.eval (.tmp 16) = .slice (some ⟨pa, oa, none⟩) L ca from p0); have q17 := ev_of (show a.eval (.tmp 17) = .int .i64 (ii : Int) from p1); have hi0 := HI0.out; clear hout p0 p1; go_step; exact hK _ _ rfl hG trivial
          · intro k a w' hG hout hpre K hK; obtain ⟨p0, _⟩ := hpre; have q18 := ev_of (show a.eval (.tmp 18) = .pointer (some ⟨pa, oa + ii * 4, none⟩) from p0); obtain ⟨d0, d1, d2, d3⟩ := HA.out w' hG; clear hout p0; go_step; exact hK _ _ HV.out.1.symm hG trivial
          · intro k a w' hG hout hpre K hK; have q1 := ev_of ((hout 1 rfl).trans (show _ = .slice (some ⟨pb, ob, none⟩) L cb from rfl)); clear hout hpre; go_step; exact hK _ _ rfl hG trivial
          · intro k a w' hG hout hpre K hK; have q5 := ev_of ((hout 5 rfl).trans (show _ = .int .i64 (ii : Int) from rfl)); clear hout hpre; go_step; exact hK _ _ rfl hG trivial
          · intro k a w' hG hout hpre K hK; obtain ⟨p0, p1, _⟩ := hpre; have q20 := ev_of (show a.eval (.tmp 20) = .slice (some ⟨pb, ob, none⟩) L cb from p0); have q21 := ev_of (show a.eval (.tmp 21) = .int .i64 (ii : Int) from p1); have hi0 := HI0.out; clear hout p0 p1; go_step; exact hK _ _ rfl hG trivial
          · intro k a w' hG hout hpre K hK; obtain ⟨p0, _⟩ := hpre; have q22 := ev_of (show a.eval (.tmp 22) = .pointer (some ⟨pb, ob + ii * 4, none⟩) from p0); obtain ⟨d0, d1, d2, d3⟩ := HB.out w' hG; clear hout p0; go_step; exact hK _ _ HV.out.2.symm hG trivial
          · intro k a w' hG hout hpre K hK; obtain ⟨p0, p1, _⟩ := hpre; have q19 := ev_of (show a.eval (.tmp 19) = VA from p0); have q23 := ev_of (show a.eval (.tmp 23) = VB from p1); have hne := HN.out.1; have hgd := HN.out.2; clear hout p0 p1; go_step; exact hK _ _ rfl hG trivial
        · intro vs w2 hG hlen hV
          match vs, hlen, hV with
          | [v0, v1, v2, v3, v4, v5, v6, v7, v8], _, hV =>
            obtain rfl : v8 = .bool (!r) := hV 8 24 v8 rfl rfl; clear hV; simp only [putsL, List.tail_cons, List.headD_cons]; simp only [Act.put, List.setIfInBounds_toArray, List.set_cons_succ, List.set_cons_zero]; have HZ : Hid (Below w.heap.size w w2) := HBw.out.trans (hG.mono HBw.out.size); clear hG
            cases r with
            | true =>
              have HZ2 : Hid (ES w a b (.int .i64 (ii : Int)) (.int .i64 ((ii : Int) + 1)) w2) := Lib.hid ⟨ii + 1, by rw [← HP.out.2.2.1]; have := HL.out; omega, by go_num, HS.out rfl, HZ.out⟩
              go_wp2_with (fail); have := HL.out
              exact ⟨HZ2.out, by simp [intOf]; omega⟩
            | false =>
              obtain rfl : r0 = false := HF.out rfl; go_wp2_with (fail); go_ret; exact ⟨rfl, HZ.out⟩
      · obtain rfl : ii = L := by omega
        obtain rfl : r0 = true := by
          rw [HR0.out]; refine decide_eq_true ?_; have h1 := heq; rw [HP.out.2.2.1, List.take_length, ← HP.out.2.2.1, HP.out.2.2.2, List.take_length] at h1; exact h1
        clear heq hlt; go_wp2_with (fail); go_ret; exact ⟨rfl, HBw.out⟩
  · have hd : decide (a = b) = false := decide_eq_false fun e => hne (by rw [e])
    rw [hd]; obtain ⟨n, hn⟩ : ∃ n, n = a.length := ⟨_, rfl⟩; obtain ⟨m, hm⟩ : ∃ m, m = b.length := ⟨_, rfl⟩; rw [← hn, ← hm]
    have e0 : ((n : Int) != (m : Int)) = true := by simp; omega
    clear hA hB hl hne hd hn hm
    go_enter Tryd.func48, Tryd.ntmps48
    go_wp2_with (fail); go_ret; exact ⟨rfl, Below.refl _ _⟩
def sameR (x y : RecL) : Bool := x.kind == y.kind && (x.seq == y.seq && (x.area == y.area && (decide (x.root = y.root) && decide (x.items = y.items))))
theorem sameR_iff {x y : RecL} : sameR x y = true ↔ x = y := by
  obtain ⟨a, b, c, d, e⟩ := x; obtain ⟨a', b', c', d', e'⟩ := y; simp only [sameR, Bool.and_eq_true, beq_iff_eq, decide_eq_true_eq, RecL.mk.injEq]
  constructor
  · rintro ⟨h1, h2, h3, h4, h5⟩; exact ⟨h1, h2, h5, h3, h4⟩
  · rintro ⟨h1, h2, h5, h3, h4⟩; exact ⟨h1, h2, h3, h4, h5⟩
set_option maxRecDepth 100000 in
set_option maxHeartbeats 4000000 in
theorem rsame_any (w : World) (x y : RecL) (xa ya : Option Addr) (xc yc : Nat) (hx : ItemsAt w xa x.items) (hy : ItemsAt w ya y.items) (hrx : x.root.length = 32) (hry : y.root.length = 32) (hl : x.items.length ≤ 9223372036854775806) :
    Calls Tryd.prog 16 #[.agg (recC x.kind x.seq (.slice xa x.items.length xc) x.area x.root), .agg (recC y.kind y.seq (.slice ya y.items.length yc) y.area y.root)] w (Below0 w (.bool (sameR x y))) := by
  obtain ⟨R, hR⟩ : ∃ R, R = sameR x y := ⟨_, rfl⟩; obtain ⟨XL, hXL⟩ : ∃ L, L = x.items.length := ⟨_, rfl⟩; obtain ⟨YL, hYL⟩ : ∃ L, L = y.items.length := ⟨_, rfl⟩; obtain ⟨XT, hXT⟩ : ∃ z, z = byA x.root := ⟨_, rfl⟩; obtain ⟨YT, hYT⟩ : ∃ z, z = byA y.root := ⟨_, rfl⟩; obtain ⟨C, hC⟩ : ∃ z, z = recC x.kind x.seq (.slice xa x.items.length xc) x.area x.root := ⟨_, rfl⟩; obtain ⟨D, hD⟩ : ∃ z, z = recC y.kind y.seq (.slice ya y.items.length yc) y.area y.root := ⟨_, rfl⟩; obtain ⟨w1, hw1⟩ : ∃ W, W = (w.alloc (.cells C 25)).alloc (.cells D 25) := ⟨_, rfl⟩; obtain ⟨xb, hxb⟩ : ∃ b, b = w.heap.size := ⟨_, rfl⟩; obtain ⟨yb, hyb⟩ : ∃ b, b = w.heap.size + 1 := ⟨_, rfl⟩
  have hs1 : (w.alloc (.cells C 25)).heap.size = w.heap.size + 1 := by simp
  have hB1 : Below w.heap.size w w1 := by rw [hw1]; exact ((Below.refl _ w).alloc (Nat.le_refl _) _).alloc (by rw [hs1]; omega) _
  have hr1 : RowR w1 xb x.kind x.seq (.slice xa x.items.length xc) x.area x.root := ⟨hrx, by
    rw [hw1, hxb, heap_alloc_old _ _ (by rw [hs1]; omega), ← hC]
    exact heap_alloc_new _ _⟩
  have hr2 : RowR w1 yb y.kind y.seq (.slice ya y.items.length yc) y.area y.root := ⟨hry, by
    rw [hw1, hyb, ← hs1, ← hD]
    exact heap_alloc_new _ _⟩
  obtain ⟨c0, c1, c2, c3, c4, -⟩ := hr1.d5; obtain ⟨d0, d1, d2, d3, d4, -⟩ := hr2.d5; obtain ⟨rr, hrr⟩ : ∃ r, r = decide (x.root = y.root) := ⟨_, rfl⟩; obtain ⟨ri, hri⟩ : ∃ r, r = decide (x.items = y.items) := ⟨_, rfl⟩
  have hq : ∀ w, (binOp .eql 23 (.agg XT) (.agg YT)).run Tryd.prog w = .ok (.bool rr) w := fun w => by rw [hXT, hYT, hrr]; exact run_eql_root w _ _ hrx hry
  have hg : ∀ (op : BinOp) (o1 o2 : Operand) (w : World), (eqGuard op 23 o1 o2 (.agg XT) (.agg YT)).run Tryd.prog w = .ok () w := fun op o1 o2 w => by rw [hXT, hYT]; exact run_guard_root w op o1 o2 _ _
  have HS : Hid (Calls Tryd.prog 48 #[.slice xa XL xc, .slice ya YL yc] w1 (Below0 w1 (.bool ri))) := by
    rw [hXL, hYL, hri]; exact Lib.hid (sequal_any w1 xa ya xc yc x.items y.items (hx.below hB1) (hy.below hB1) hl)
  have HB := Lib.hid hB1
  have HF : Hid (R = (x.kind == y.kind && (x.seq == y.seq && (x.area == y.area && (rr && ri))))) := by rw [hR, hrr, hri]; exact Lib.hid rfl
  rw [← hR, ← hC, ← hD]; rw [← hXL] at c2; rw [← hYL] at d2; rw [← hXT] at c4; rw [← hYT] at d4; obtain ⟨xk, hxk⟩ : ∃ k, k = x.kind := ⟨_, rfl⟩; obtain ⟨xs, hxs⟩ : ∃ k, k = x.seq := ⟨_, rfl⟩; obtain ⟨xr, hxr⟩ : ∃ k, k = x.area := ⟨_, rfl⟩; obtain ⟨yk, hyk⟩ : ∃ k, k = y.kind := ⟨_, rfl⟩; obtain ⟨ys, hys⟩ : ∃ k, k = y.seq := ⟨_, rfl⟩; obtain ⟨yr, hyr⟩ : ∃ k, k = y.area := ⟨_, rfl⟩; rw [← hxk, ← hxs, ← hxr, ← hyk, ← hys, ← hyr] at HF; rw [← hxk] at c0; rw [← hxs] at c1; rw [← hxr] at c3; rw [← hyk] at d0; rw [← hys] at d1; rw [← hyr] at d3; clear hx hy hrx hry hl hr1 hr2 hR hXL hYL hXT hYT hC hD hB1 hrr hri hxk hxs hxr hyk hys hyr
  go_enter Tryd.func16, Tryd.ntmps16
  go_upto_region 1 with (fail)
  rw [← hw1]
  try rw [hs1]
  rw [← hyb, ← hxb]; clear hw1 hs1 hxb hyb
  by_cases q1 : xk = yk
  · subst q1
    by_cases q2 : xs = ys
    · subst q2
      by_cases q3 : xr = yr
      · subst q3
        have e1 : (xk == xk) = true := by simp
        have e2 : (xs == xs) = true := by simp
        have e3 : (xr == xr) = true := by simp
        refine wp_region_lit ?_
        iterate 52 go_step
        refine wpList_load_at rfl 23 _ rfl ⟨xb, 4, none⟩ rfl (.agg XT) c4 ?_
        iterate 2 go_step
        refine wpList_load_at rfl 23 _ rfl ⟨yb, 4, none⟩ rfl (.agg YT) d4 ?_
        by_cases q4 : rr = true
        · subst q4
          obtain rfl : R = ri := by rw [HF.out]; simp
          go_wp2_with (fail); refine HS.out.mono ?_; rintro e w2 ⟨rfl, hB⟩; have HZ := Lib.hid (HB.out.trans (hB.mono HB.out.size)); clear hB; dsimp only; go_wp2_with (fail); go_ret
          exact ⟨by simp, HZ.out⟩
        · rw [Bool.not_eq_true] at q4; subst q4
          obtain rfl : R = false := by rw [HF.out]; simp
          go_wp2_with (fail); go_ret; exact ⟨rfl, HB.out⟩
      · have e3 : (xr == yr) = false := by simpa using q3
        obtain rfl : R = false := by rw [HF.out, e3]; simp
        go_wp2_with (fail); go_ret; exact ⟨rfl, HB.out⟩
    · have e2 : (xs == ys) = false := by simpa using q2
      obtain rfl : R = false := by rw [HF.out, e2]; simp
      go_wp2_with (fail); go_ret; exact ⟨rfl, HB.out⟩
  · have e1 : (xk == yk) = false := by simpa using q1
    obtain rfl : R = false := by rw [HF.out, e1]; simp
    go_wp2_with (fail); go_ret; exact ⟨rfl, HB.out⟩
end Go.Proofs.YtdmnhgbdeifpbaaDoor
namespace Go.Proofs.YtdmnhgbdeifpbaaDoor
open Go Go.RowKit
set_option maxRecDepth 100000 in
set_option maxHeartbeats 4000000 in
theorem rsize_any (w : World) (x : RecL) (ia : Option Addr) (ic : Nat) (hI : ItemsAt w ia x.items) (hk : ∀ y ∈ x.items, y.key.length ≤ 1000000) (hl : x.items.length ≤ 1000000) (hr : x.root.length = 32) :
    Calls Tryd.prog 15 #[.agg (recC x.kind x.seq (.slice ia x.items.length ic) x.area x.root)] w (Below0 w (.int .i64 ((x.blocks : Nat) : Int))) := by
  obtain ⟨R, hR⟩ : ∃ R, R = x.blocks := ⟨_, rfl⟩; rw [← hR]; obtain ⟨C, hC⟩ : ∃ z, z = recC x.kind x.seq (.slice ia x.items.length ic) x.area x.root := ⟨_, rfl⟩; obtain ⟨w1, hw1⟩ : ∃ W, W = w.alloc (.cells C 25) := ⟨_, rfl⟩; obtain ⟨rb, hb⟩ : ∃ b, b = w.heap.size := ⟨_, rfl⟩
  have hB1 : Below w.heap.size w w1 := by rw [hw1]; exact (Below.refl _ w).alloc (Nat.le_refl _) _
  have hrow : RowR w1 rb x.kind x.seq (.slice ia x.items.length ic) x.area x.root := ⟨hr, by rw [hw1, hb, hC]; exact heap_alloc_new w _⟩
  have HR := Lib.hid (rright_any w1 x ia ic (hI.below hB1) hk hl hr)
  have HBd : Hid (∀ w', Below w1.heap.size w1 w' → Calls Tryd.prog 14 #[.agg C] w' (BytesEnd w' x.told)) := by
    rw [hC]; exact Lib.hid (fun w' h => rbody_any w' x ia ic ((hI.below hB1).below h) hk hl hr)
  rw [← hC] at HR ⊢; have H1 := Lib.hid (And.intro hB1 (And.intro hrow (And.intro hC (And.intro hr hR)))); clear hB1 hrow hI hk hl hr hC hR
  go_enter Tryd.func15, Tryd.ntmps15
  go_upto_region 1 with (fail)
  rw [← hw1, ← hb]; clear hw1 hb; refine wp_region_lit ?_
  refine wpList_load_at rfl 25 _ rfl ⟨rb, 0, none⟩ rfl (.agg C) (by rw [H1.out.2.2.1]; exact rec_load H1.out.2.1) ?_
  iterate 2 go_step
  refine HR.out.mono ?_; rintro e w2 ⟨rfl, hB2⟩; have H2 : Hid (Below w1.heap.size w1 w2 ∧ Below w.heap.size w w2) := Lib.hid ⟨hB2, H1.out.1.trans (hB2.mono H1.out.1.size)⟩; clear hB2 HR; dsimp only
  by_cases hrt : x.rightB = true
  · rw [hrt]; have HX := Lib.hid hrt; have HL := Lib.hid (rectext_short hrt H1.out.2.2.2.1); have HS := Lib.hid (body_short hrt H1.out.2.2.2.1)
    have HT : Hid (x.told = x.body) := by unfold RecL.told; rw [if_pos hrt]; exact Lib.hid rfl
    clear hrt; obtain ⟨pb, hpb⟩ : ∃ b, b = w2.heap.size := ⟨_, rfl⟩; obtain ⟨W0, hW0⟩ : ∃ W, W = w2.alloc (.cells #[.slice none 0 0] 76) := ⟨_, rfl⟩
    have hP0 : PenAt (fun k => k < pb) W0 pb [] := by rw [hW0, hpb]; exact PenAt.new _ w2
    have hB20 : Below pb w2 W0 := by rw [hW0, hpb]; exact (Below.refl _ w2).alloc (Nat.le_refl _) _
    have H0 : Hid (PenAt (fun k => k < pb) W0 pb [] ∧ Below w1.heap.size w1 W0 ∧ Below w.heap.size w W0 ∧ W0.heap.size = pb + 1 ∧ w.heap.size ≤ pb) := by
      have h1 := H2.out.1.trans (show Below w1.heap.size w2 W0 from ⟨hB20.os, hB20.tape, hB20.output, hB20.size, fun k hk => hB20.block k (by have := H2.out.1.size; omega)⟩)
      exact Lib.hid ⟨hP0, h1, H1.out.1.trans (h1.mono H1.out.1.size), by rw [hW0, hpb]; simp, by rw [hpb]; exact H2.out.2.size⟩
    clear hP0 hB20
    go_upto_region 4 with (fail)
    rw [← hW0, ← hpb]; clear hW0 hpb; refine wp_region_lit ?_
    refine wpList_load_at rfl 25 _ rfl ⟨rb, 0, none⟩ rfl (.agg C) (by rw [H1.out.2.2.1]; exact rec_load (H1.out.2.1.below H0.out.2.1)) ?_
    iterate 2 go_step
    refine (HBd.out W0 H0.out.2.1).mono ?_; rintro e W1 ⟨ba, bc, rfl, h1, h2, h3, h4, h5⟩; rw [HT.out] at h1 h4 ⊢; obtain ⟨X, hX⟩ : ∃ X : Nat → Prop, X = fun k => k < pb ∨ (W0.heap.size ≤ k ∧ k < W1.heap.size) := ⟨_, rfl⟩
    have hpp : PenAt X W1 pb [] := by
      refine (H0.out.1.more X (fun k h => ?_)).below h5; rw [hX] at h
      rcases h with h | h
      · exact .inl h
      · exact .inr h.1
    have hXl : ∀ k, X k → k < W1.heap.size := fun k h => by
      rw [hX] at h; have := h5.size; have := H0.out.2.2.2.1
      rcases h with h | h <;> omega
    have HW1 : Hid (Below w.heap.size w W1 ∧ pb ≤ W1.heap.size ∧ ∀ k < pb, X k) := by
      have := h5.size; have := H0.out.2.2.2.1
      exact Lib.hid ⟨H0.out.2.2.1.trans (h5.mono H0.out.2.2.1.size), by omega, fun k h => by rw [hX]; exact .inl h⟩
    have HX1 : Hid (Calls Tryd.prog 46 #[.pointer (some ⟨pb, 0, none⟩), .slice ba x.body.length bc] W1 (PenEnd X pb W1 ([] ++ textL x.body) (.bool true))) := by
      have hk : SrcK X pb W1 ba x.body := by
        rcases h4 with h4 | ⟨ab, off, e, k1, k2⟩
        · exact .inl h4
        · by_cases h0 : x.body.length = 0
          · exact .inl h0
          · have hlt := block_lt_of_cell (k2 0 (by omega))
            exact .inr ⟨ab, off, e, by rw [hX]; exact .inr ⟨k1, hlt⟩, by have := H0.out.2.2.2.1; omega, k2⟩
      exact Lib.hid (ptext_any W1 X pb _ bc ba [] x.body rfl hk (by have := HS.out; omega) hpp hXl (by decide))
    clear h1 h2 h3 h4 h5 hpp hXl hX; obtain ⟨BN, hBN⟩ : ∃ n, n = x.body.length := ⟨_, rfl⟩; rw [← hBN] at HX1 ⊢; clear hBN; dsimp only; go_wp2_with (fail); refine HX1.out.mono ?_; rintro e W2 ⟨rfl, hP2, hK2⟩
    have HW2 : Hid (PenAt X W2 pb ([] ++ textL x.body) ∧ Below w.heap.size w W2) := by
      have hk := hK2.below (B := pb) HW1.out.2.2 (Nat.le_refl _) HW1.out.2.1; exact Lib.hid ⟨hP2, HW1.out.1.trans (hk.mono H0.out.2.2.2.2)⟩
    clear hP2 hK2 HX1; dsimp only; obtain ⟨TL, hTL⟩ : ∃ n, n = ([] ++ textL x.body).length := ⟨_, rfl⟩
    have HTL : Hid (TL = (textL x.body).length ∧ TL ≤ 2010) := by
      have e : TL = (textL x.body).length := by rw [hTL]; rfl
      exact Lib.hid ⟨e, by rw [e]; exact HL.out⟩
    have HX3 : Hid (Calls Tryd.prog 45 #[.pointer (some ⟨pb, 0, none⟩)] W2 (fun e W3 => ∃ a c, e = .returned (.slice a TL c) ∧ Below W2.heap.size W2 W3)) := by
      have h := pbytes_any W2 X pb ([] ++ textL x.body) HW2.out.1 (by have := HTL.out; omega)
      refine Lib.hid (h.mono ?_); rintro e W3 ⟨a, c, rfl, -, -, -, -, hB⟩; rw [← hTL]; exact ⟨a, c, rfl, hB⟩
    clear hTL; have htl : TL ≤ 2010 := HTL.out.2; go_wp2_with (fail); refine HX3.out.mono ?_; rintro e W3 ⟨ca, cc, rfl, hB3⟩; have HW3 : Hid (Below w.heap.size w W3) := Lib.hid (HW2.out.2.trans (hB3.mono HW2.out.2.size)); clear hB3 HX3; dsimp only
    have HX4 : Hid (Calls Tryd.prog 47 #[.int .i64 ((TL : Int) + 32)] W3 (fun e w' => e = .returned (.int .i64 ((noughtN (TL + 32) : Nat) : Int)) ∧ w' = W3)) := by
      have h := noughts_any W3 (TL + 32) (by omega)
      rw [show ((TL + 32 : Nat) : Int) = (TL : Int) + 32 by omega] at h
      exact Lib.hid h
    go_wp2_with (fail); refine HX4.out.mono ?_; rintro e W4 ⟨rfl, rfl⟩; obtain ⟨nn, hnn⟩ : ∃ n, n = noughtN (TL + 32) := ⟨_, rfl⟩
    have hnb : nn < 128 := by rw [hnn]; exact noughtN_lt _
    have HRR : Hid (R = (TL + 32 + nn) / 128) := by
      rw [H1.out.2.2.2.2, hnn, HTL.out.1]; unfold RecL.blocks; rw [if_pos HX.out]; exact Lib.hid rfl
    rw [← hnn]; clear hnn HX4
    have hdv : Int.tdiv ((TL : Int) + 32 + (nn : Int)) 128 = (R : Int) := by
      rw [Int.tdiv_eq_ediv_of_nonneg (by omega), HRR.out]
      omega
    have hRb : R ≤ 20 := by
      rw [HRR.out]; omega
    have hw : wrap64 (R : Int) = (R : Int) := by unfold wrap64; omega
    dsimp only; go_wp2_with (fail); go_ret; exact ⟨rfl, HW3.out⟩
  · rw [Bool.not_eq_true] at hrt; rw [hrt]
    obtain rfl : R = 0 := by
      rw [H1.out.2.2.2.2]; unfold RecL.blocks; rw [hrt]; rfl
    clear hrt; go_wp2_with (fail); go_ret; exact ⟨rfl, H2.out.2⟩
end Go.Proofs.YtdmnhgbdeifpbaaDoor
namespace Go.Proofs.YtdmnhgbdeifpbaaDoor
open Go Go.RowKit
theorem fixed_le (t : TapeL) (n : Int) : (t.fixed n).1.length ≤ n.toNat := by
  unfold TapeL.fixed
  split
  · simp
  · split
    · simp
    · split
      · simp
      · simp only [List.length_take]; omega
theorem fixed_32 (t : TapeL) : (t.fixed 32).1.length = 0 ∨ (t.fixed 32).1.length = 32 := by
  unfold TapeL.fixed
  split
  · exact .inl rfl
  · split
    · exact .inl rfl
    · split
      · exact .inl rfl
      · rename_i h
        right
        simp only [List.length_take]; omega
theorem text_le (t : TapeL) (most : Int) (hm : 0 ≤ most) : (t.text most).1.length ≤ most.toNat := by
  unfold TapeL.text
  split
  · rename_i h
    unfold TapeL.fixed
    rw [if_pos (by unfold TapeL.fail; rw [if_pos ⟨h.1, by decide⟩]; simp)]
    simp
  · rename_i h
    have h0 := number_range t 9223372036854775807 (by decide)
    by_cases he : (t.number 9223372036854775807).2.e = 0
    · have := fixed_le (t.number 9223372036854775807).2 (t.number 9223372036854775807).1
      have hm2 : (t.number 9223372036854775807).1 ≤ most := by
        rcases Int.lt_or_le most (t.number 9223372036854775807).1 with h' | h'
        · exact absurd ⟨he, h'⟩ h
        · exact h'
      omega
    · unfold TapeL.fixed; rw [if_pos he]; simp
theorem item_key (t : TapeL) : t.item.1.key.length ≤ 16 := by
  unfold TapeL.item; simp only
  split
  · unfold TapeL.item0
    split
    · exact text_le _ 16 (by decide)
    · split
      · simp
      · simp
  · simp [zeroI]
theorem itemsN_key (t : TapeL) : ∀ k, ∀ y ∈ (itemsN k t).1, y.key.length ≤ 16
  | 0, y, h => by simp [itemsN] at h
  | k + 1, y, h => by
    rcases List.mem_append.1 h with h | h
    · exact itemsN_key t k y h
    · rw [List.mem_singleton.1 h]; exact item_key _
theorem recC_items {k s a : Int} {iv iv' : Value} {r : List (BitVec 8)} : (recC k s iv a r).setIfInBounds 2 iv' = recC k s iv' a r := by
  apply Array.ext_getElem?
  intro j; rw [Array.getElem?_setIfInBounds]
  by_cases hj : j < 4
  · rw [recC_low hj, recC_low hj]
    match j, hj with
    | 0, _ => rfl
    | 1, _ => rfl
    | 2, _ => simp [recC]; omega
    | 3, _ => rfl
  · rw [if_neg (by omega)]
    obtain ⟨i, rfl⟩ : ∃ i, j = 4 + i := ⟨j - 4, by omega⟩
    rw [recC_root, recC_root]
theorem recC_area {k s a a' : Int} {iv : Value} {r : List (BitVec 8)} : (recC k s iv a r).setIfInBounds 3 (.int .i64 a') = recC k s iv a' r := by
  apply Array.ext_getElem?
  intro j; rw [Array.getElem?_setIfInBounds]
  by_cases hj : j < 4
  · rw [recC_low hj, recC_low hj]
    match j, hj with
    | 0, _ => rfl
    | 1, _ => rfl
    | 2, _ => rfl
    | 3, _ => simp [recC]; omega
  · rw [if_neg (by omega)]
    obtain ⟨i, rfl⟩ : ∃ i, j = 4 + i := ⟨j - 4, by omega⟩
    rw [recC_root, recC_root]
theorem RowR.items {w : World} {b : Nat} {k s a : Int} {iv : Value} {r : List (BitVec 8)} (h : RowR w b k s iv a r) (iv' : Value) : RowR (w.setCell ⟨b, 2, none⟩ iv') b k s iv' a r := by
  refine ⟨h.1, ?_⟩; rw [heap_setCell_same w b 2 _ _ iv' h.2, recC_items]
theorem RowR.area {w : World} {b : Nat} {k s a : Int} {iv : Value} {r : List (BitVec 8)} (h : RowR w b k s iv a r) (a' : Int) : RowR (w.setCell ⟨b, 3, none⟩ (.int .i64 a')) b k s iv a' r := by
  refine ⟨h.1, ?_⟩; rw [heap_setCell_same w b 3 _ _ (.int .i64 a') h.2, recC_area]
theorem RowR.grown {w w' : World} {b c : Nat} {k s a : Int} {iv : Value} {r : List (BitVec 8)} (h : RowR w b k s iv a r) (hg : w.grownBy w' (some c)) (hne : b ≠ c) : RowR w' b k s iv a r :=
  ⟨h.1, (hg.block b h.lt (by simpa using hne)).trans h.2⟩
theorem RowR.own {w w' : World} {b : Nat} {v : Value} {k s a : Int} {iv : Value} {r : List (BitVec 8)} (h : RowR w b k s iv a r) (hg : w.grownBy w' v.ownBlock) (hne : v.ownBlock ≠ some b) : RowR w' b k s iv a r :=
  ⟨h.1, (hg.block b h.lt fun e => hne e.symm).trans h.2⟩
theorem wp_pushI {o : Oper} {a : Act} {Q : Exit → Act → World → Prop} {w : World} {K : Act → World → Prop} (s x : Operand)
    (ho : o.op = .call { callee := .builtin .append, args := #[s, x], argTypes := #[22, 22] })
    (base : Nat) (v : Value) (l : List ItemL) (hs : a.eval s = v) (hown : OwnI w base v l) (u : ItemL) (g : Nat) (hx : a.eval x = .slice (some ⟨g, 0, none⟩) 1 1) (hu : ∀ j z, u.cells[j]? = some z → w.cell? ⟨g, j, none⟩ = some z)
    (hlen : l.length + 1 ≤ 1000000) (hbase : base ≤ w.heap.size)
    (h : ∀ v' w', OwnI w' base v' (l ++ [u]) → w.grownBy w' v.ownBlock → K (a.put o.dst v') w') : o.wp Tryd.prog a w K Q := by
  obtain ⟨i, hi, hz0, hz1, hz2⟩ := info_parts (P := Tryd.prog) (e := 53) (z := .agg #[.int .i64 0, .string ⟨#[]⟩, .int .i64 0, .int .i64 0]) (size := 4) (bytes := 40) (by kernel_rfl)
  refine wp_append_own _ s x 22 ho base 53 i _ 4 40 Tryd.underlying22 hi hz0 hz1 hz2 rfl (by decide) v l.length (cellsL l) hs hown ⟨g, 0, none⟩ 1 1 u.cells.toList hx rfl ?_ ?_ (by unfold maxLen; omega) (by omega) hbase ?_
  · intro j z hj; rw [addr_add, Nat.zero_add]
    exact hu j z (by simpa using hj)
  · intro z hz
    exact Array.all_eq_true'.1 (item_one1 u) z (by simpa using hz)
  · intro v' w' k1 k2 _; refine h v' w' ?_ k2; unfold OwnI; rw [cellsL_snoc, List.length_append]; exact k1
theorem wp_slice1_I {o : Oper} {a : Act} {w : World} {K : Act → World → Prop} {Q : Exit → Act → World → Prop} (y1 : Operand) (ho : o.op = .buildSlice 22 1 #[(0, y1)]) (x1 : ItemL) (h1 : a.eval y1 = .agg x1.cells)
    (h : K (a.put o.dst (.slice (some ⟨w.heap.size, 0, none⟩) 1 1)) (w.alloc (.cells x1.cells 53))) : o.wp Tryd.prog a w K Q := by
  have hF : Instr.fill (fun i => some (i * 4, 4)) ((Array.range (1 * 4)).map ((Value.agg #[.int .i64 0, .string ⟨#[]⟩, .int .i64 0, .int .i64 0]).cells[· % (Value.agg #[.int .i64 0, .string ⟨#[]⟩, .int .i64 0, .int .i64 0]).cells.size]!)) [(0, .agg x1.cells)] = some x1.cells := by kernel_rfl
  obtain ⟨i, hi, hz0, hz1, hz2⟩ := info_parts (P := Tryd.prog) (e := 53) (z := .agg #[.int .i64 0, .string ⟨#[]⟩, .int .i64 0, .int .i64 0]) (size := 4) (bytes := 40) (by kernel_rfl)
  refine wp_buildSlice 22 53 1 _ ho x1.cells i _ Tryd.underlying22 hi hz0 (by rw [hz1]; decide) (by rw [hz1]; decide) ?_ h
  rw [hz1]; simp only [List.map_toArray, List.map_cons, List.map_nil, h1]; exact hF
theorem copy_root {w : World} {b : Nat} {k s a : Int} {iv : Value} {r m : List (BitVec 8)} (h : RowR w b k s iv a r) {ma : Option Addr} {mc : Nat} (hm : SrcP w ma m.length m) (hl : m.length = 0 ∨ m.length = 32) (ty : TypeId) :
    ∃ w', (Builtin.copy_ #[26, 26] ty #[.slice (some ⟨b, 4, none⟩) 32 32, .slice ma m.length mc]).run Tryd.prog w = .ok (goInt m.length) w' ∧ RowR w' b k s iv a (m ++ r.drop m.length) ∧ w.grownBy w' (some b) := by
  rcases hl with hl | hl
  · refine ⟨w, ?_, ?_, ⟨rfl, rfl, rfl, Nat.le_refl _, fun _ _ _ => rfl⟩⟩
    · have := run_copy_none (P := Tryd.prog) w 26 26 ty 5 (some ⟨b, 4, none⟩) ma 32 32 m.length mc Tryd.underlying26 (by kernel_rfl) (by rw [hl]; rfl)
      rw [hl] at this ⊢; exact this
    · rw [List.length_eq_zero_iff.1 hl]; exact h
  · rcases hm with hm | ⟨ab, off, rfl, hm⟩
    · omega
    · have hrun := run_copy_row (P := Tryd.prog) w 26 26 ty 5 b 4 32 32 ⟨ab, off, none⟩ m.length mc (recC k s iv a r) 25 (m.map B) Tryd.underlying26 (by kernel_rfl) h.2
        (by rw [List.length_map, hl]; rfl) (fun j v hv => by
          have hj := (List.getElem?_eq_some_iff.1 hv).1; rw [List.length_map] at hj; rw [addr_add, hm j hj, ← hv, List.getElem?_map, List.getElem?_eq_getElem hj]
          simp [gl, hj]) (by simp [recC, byA, h.1, hl]) (fun v hv => by
          obtain ⟨y, _, rfl⟩ := List.mem_map.1 hv
          rfl)
      rw [List.length_map] at hrun
      have hrow : ((recC k s iv a r).toList.take 4 ++ m.map B ++ (recC k s iv a r).toList.drop (4 + m.length)).toArray = recC k s iv a (m ++ r.drop m.length) := by
        rw [hl, show r.drop 32 = [] from List.drop_of_length_le (by rw [h.1]; exact Nat.le_refl _)]
        have e1 : (recC k s iv a r).toList = [Value.int .i64 k, .int .i64 s, iv, .int .i64 a] ++ r.map B := by simp [recC, byA]
        rw [e1]; simp [recC, byA, h.1]
      rw [hrow] at hrun
      refine ⟨_, hrun, ⟨by rw [List.length_append, List.length_drop, h.1, hl], setRow_heap _ _ _ _ _ _ h.2⟩, grown_row _ _ _⟩
end Go.Proofs.YtdmnhgbdeifpbaaDoor
namespace Go.Proofs.YtdmnhgbdeifpbaaDoor
open Go Go.RowKit
theorem back_big (k : Int) (h0 : 0 ≤ k) (h1 : k ≤ 1099511627776) (most : Int) (hm : k ≤ most) (r : List (BitVec 8)) : (TapeL.mk (wordL k.toNat ++ r) 0).number most = (k, ⟨r, 0⟩) := by
  have := back_number k.toNat most (by omega) (by omega) r
  rw [this, Int.toNat_of_nonneg h0]
theorem filter_all (l : List ItemL) (h : l.all (·.rightB) = true) : l.filter (·.rightB) = l := by
  rw [List.filter_eq_self]; exact List.all_eq_true.mp h
theorem readR_body (x : RecL) (h : x.rightB = true) (hr : x.root.length = 32) : readR x.body = (x, 0) := by
  have h0 := h; obtain ⟨k, s, its, a, r⟩ := x; simp only at hr; simp only [RecL.rightB, Bool.and_eq_true, decide_eq_true_eq] at h; obtain ⟨⟨hs1, hs2⟩, h⟩ := h
  have hk : rec0 ⟨RecL.body ⟨k, s, its, a, r⟩, 0⟩ = (⟨k, s, its, a, r⟩, ⟨[], 0⟩) := by
    by_cases hk : k = 1
    · rw [if_pos hk] at h; simp only [Bool.and_eq_true, decide_eq_true_eq] at h; obtain ⟨ha, hro, hn, hi⟩ := h; subst hk ha hro
      have e0 : RecL.body ⟨1, s, its, 0, zeroH⟩ = wordL (1 : Int).toNat ++ (wordL s.toNat ++ (wordL (its.length : Int).toNat ++ (its.flatMap (·.bytes) ++ []))) := by
        simp only [RecL.body, ↓reduceIte, listL, filter_all its hi, List.append_assoc, Int.toNat_natCast, List.append_nil]
      have e1 := back_big 1 (by omega) (by omega) 9223372036854775807 (by omega) (wordL s.toNat ++ (wordL (its.length : Int).toNat ++ (its.flatMap (·.bytes) ++ [])))
      have e2 := back_big s (by omega) (by omega) 9223372036854775807 (by omega) (wordL (its.length : Int).toNat ++ (its.flatMap (·.bytes) ++ []))
      have e3 := back_big (its.length : Int) (by omega) (by omega) 64 (by omega) (its.flatMap (·.bytes) ++ [])
      have e4 := itemsN_back its [] (List.all_eq_true.mp hi); rw [e0]
      generalize wordL (1 : Int).toNat = w1 at *
      generalize wordL s.toNat = w2 at *
      generalize wordL (its.length : Int).toNat = w3 at *
      have e5 : itemsN (its.length : Int).toNat ⟨its.flatMap (·.bytes) ++ [], 0⟩ = (its, ⟨[], 0⟩) := e4
      unfold rec0; rw [e1]; dsimp only; rw [if_pos rfl, e2]; dsimp only; rw [e3]; dsimp only; rw [e5]
    · rw [if_neg hk] at h; simp only [Bool.and_eq_true, decide_eq_true_eq, List.length_eq_zero_iff] at h; obtain ⟨hk2, ⟨ha1, ha2⟩, hn⟩ := h; subst hk2 hn
      have e0 : RecL.body ⟨2, s, [], a, r⟩ = wordL (2 : Int).toNat ++ (wordL s.toNat ++ (wordL a.toNat ++ (r ++ []))) := by
        simp [RecL.body, List.append_assoc]
      have e1 := back_big 2 (by omega) (by omega) 9223372036854775807 (by omega) (wordL s.toNat ++ (wordL a.toNat ++ (r ++ [])))
      have e2 := back_big s (by omega) (by omega) 9223372036854775807 (by omega) (wordL a.toNat ++ (r ++ []))
      have e3 := back_big a (by omega) (by omega) 1 (by omega) (r ++ [])
      have e4 := back_fixed r []; rw [hr] at e4
      have e5 : zeroH.drop r.length = [] := by rw [hr]; rfl
      rw [e0]
      generalize wordL (2 : Int).toNat = w1 at *
      generalize wordL s.toNat = w2 at *
      generalize wordL a.toNat = w3 at *
      have e4' : (TapeL.mk (r ++ []) 0).fixed 32 = (r, ⟨[], 0⟩) := e4; unfold rec0; rw [e1]; dsimp only
      rw [if_neg (by decide), if_pos rfl, e2]
      dsimp only; rw [e3]; dsimp only; rw [e4']; dsimp only; rw [e5, List.append_nil]
  have hl : recLast (rec0 ⟨RecL.body ⟨k, s, its, a, r⟩, 0⟩) = ⟨[], 0⟩ := by rw [hk]; simp only [recLast, h0, ↓reduceIte]
  have hd : TapeL.done ⟨[], 0⟩ = 0 := by simp [TapeL.done]
  unfold readR; rw [hl, hd, if_pos rfl, hk]
theorem takeB_seal (body tag other : List (BitVec 8)) (hb : body.length ≤ 4096) (ht : tag.length = 32) :
    takeB (textL body ++ tag ++ List.replicate (noughtN ((textL body).length + 32)) 0 ++ other) = ⟨body, tag, List.replicate (noughtN ((textL body).length + 32)) 0, ((textL body).length + 32 + noughtN ((textL body).length + 32)) / 128, 0⟩ := by
  obtain ⟨z, hz⟩ : ∃ z, z = List.replicate (noughtN ((textL body).length + 32)) (0 : BitVec 8) := ⟨_, rfl⟩
  have hzl : z.length = noughtN ((textL body).length + 32) := by rw [hz]; simp
  rw [← hz]; obtain ⟨s, hs⟩ : ∃ s, s = textL body ++ tag ++ z ++ other := ⟨_, rfl⟩; rw [← hs]
  have e0 : s = wordL (body.length : Int).toNat ++ (body ++ (tag ++ (z ++ other))) := by rw [hs]; simp [textL, List.append_assoc]
  have hsl : s.length = (textL body).length + 32 + (z.length + other.length) := by rw [hs]; simp only [List.length_append, ht]; omega
  have e1 : take1 s = ((body.length : Int), ⟨body ++ (tag ++ (z ++ other)), 0⟩) := by
    unfold take1; rw [e0]; exact back_big (body.length : Int) (by omega) (by omega) 9223372036854775807 (by omega) _
  have e2 : take2 s = ⟨body ++ (tag ++ (z ++ other)), 0⟩ := by unfold take2; rw [e1, if_neg (by dsimp only; omega)]
  have e3 : take3 s = (body, ⟨tag ++ (z ++ other), 0⟩) := by unfold take3; rw [e2, e1]; exact back_fixed body _
  have e4 : take4 s = (tag, ⟨z ++ other, 0⟩) := by unfold take4; rw [e3]; have := back_fixed tag (z ++ other); rw [ht] at this; exact this
  have en : noughtN (s.length - (take4 s).2.s.length) = z.length := by
    rw [e4, hsl]; dsimp only; rw [List.length_append, Nat.add_sub_cancel, ← hzl]
  have e5 : take5 s = (z, ⟨other, 0⟩) := by unfold take5; rw [en, e4]; exact back_fixed z _
  unfold takeB; rw [e3, e5]; simp only [e4, TakenL.mk.injEq, and_true, true_and]; rw [hsl, ← hzl, List.length_append, Nat.add_sub_cancel]
theorem macL_tag_len (key head : List (BitVec 8)) : (tagL key head).length = 32 := shaL_length _
theorem headL_len (ahead body : List (BitVec 8)) : (headL ahead body).length = 32 := shaL_length _
theorem zeros_any (n : Nat) : ((List.replicate n (0 : BitVec 8)).any fun x => x != 0) = false := by
  simp
theorem openB_seal (key ahead other : List (BitVec 8)) (x : RecL) (h : x.rightB = true) (hr : x.root.length = 32) (hb : x.body.length ≤ 4096) :
    openB key ahead x.seq (sealB key ahead x.body ++ other) = (x, headL ahead x.body, x.blocks, 0) := by
  have e1 := takeB_seal x.body (tagL key (headL ahead x.body)) other hb (macL_tag_len _ _); unfold openB; rw [show sealB key ahead x.body ++ other = textL x.body ++ tagL key (headL ahead x.body) ++ List.replicate (noughtN ((textL x.body).length + 32)) 0 ++ other from rfl, e1]; dsimp only
  rw [if_neg (by decide), zeros_any, if_neg (by simp), readR_body x h hr]
  dsimp only
  rw [if_neg (by decide), if_neg (by simp)]
  simp only [RecL.blocks, h, ↓reduceIte]
end Go.Proofs.YtdmnhgbdeifpbaaDoor
namespace Go.Proofs.YtdmnhgbdeifpbaaDoor
open Go Go.RowKit
def i14 : ItemL := ⟨2, [], 5, 0⟩
def x14 : RecL := ⟨1, 3, [i14], 0, zeroH⟩
theorem x14_right : x14.rightB = true := by kernel_rfl
theorem x14_body : x14.body = [1, 3, 1, 2, 5] := by decide +kernel
theorem x14_told : x14.told = x14.body := by rw [RecL.told, if_pos x14_right]
theorem x14_root : x14.root.length = 32 := by kernel_rfl
theorem x14_blocks : x14.blocks = 1 := by
  rw [RecL.blocks, if_pos x14_right, x14_body]
  decide +kernel
theorem x14_len (key ahead : List (BitVec 8)) : (sealB key ahead x14.body).length = 128 := by
  rw [sealB, List.length_append, List.length_append, macL_tag_len, List.length_replicate, x14_body]
  decide +kernel
theorem x14_same : sameR x14 x14 = true := sameR_iff.mpr rfl
def h14L : List (BitVec 8) := [0xed, 0x20, 0xcf, 0xa1, 0x87, 0x18, 0xbd, 0xd2, 0x31, 0x87, 0xbb, 0x67, 0xd2, 0xbe, 0x11, 0x6a, 0x46, 0x95, 0x5b, 0x2a, 0x4b, 0x7d, 0xe8, 0x4b, 0xb4, 0xde, 0x52, 0xe8, 0x1c, 0xe1, 0x81, 0x0a]
theorem h14_st : shaSt (2 :: zeroH ++ [1, 3, 1, 2, 5]) = ⟨0xed20cfa1, 0x8718bdd2, 0x3187bb67, 0xd2be116a, 0x46955b2a, 0x4b7de84b, 0xb4de52e8, 0x1ce1810a⟩ := by kernel_rfl
theorem h14 : headL zeroH x14.body = h14L := by
  rw [x14_body, headL, shaL, h14_st]
  decide +kernel
def in14k : List (BitVec 8) := [0xd7, 0x40, 0x6e, 0xd2, 0xd9, 0x89, 0x4b, 0xa8, 0x20, 0x56, 0xe1, 0x52, 0xd6, 0x1b, 0x0b, 0x4a, 0x52, 0x20, 0x1c, 0x49, 0x76, 0x66, 0x25, 0xce, 0x4f, 0x9c, 0x10, 0x0f, 0x04, 0x74, 0xee, 0xe1]
theorem in14k_st : shaSt (ipad [107] ++ 76 :: h14L) = ⟨0xd7406ed2, 0xd9894ba8, 0x2056e152, 0xd61b0b4a, 0x52201c49, 0x766625ce, 0x4f9c100f, 0x0474eee1⟩ := by kernel_rfl
theorem in14k_is : shaL (ipad [107] ++ 76 :: h14L) = in14k := by
  rw [shaL, in14k_st]
  decide +kernel
theorem out14k_st : shaSt (opad [107] ++ in14k) = ⟨0x45b6ade9, 0x7baffdae, 0x58e19d8b, 0xdb194b0a, 0xb38c60d1, 0x1be9ab46, 0x48b12c87, 0xdc189043⟩ := by kernel_rfl
theorem tag14k_0 : gl (tagL [107] h14L) 0 = 0x45 := by
  rw [tagL, macL, outerL, in14k_is, shaL, out14k_st]
  decide +kernel
def in14l : List (BitVec 8) := [0x52, 0x65, 0x0d, 0x35, 0xb8, 0xcb, 0x31, 0xb8, 0x9e, 0xf3, 0xd6, 0x8b, 0x7c, 0x87, 0x5c, 0x4e, 0xe6, 0xe8, 0x33, 0xc4, 0xdc, 0x69, 0xdc, 0x44, 0xd6, 0xc2, 0xcf, 0x5d, 0xc7, 0x6b, 0xdb, 0xe3]
theorem in14l_st : shaSt (ipad [108] ++ 76 :: h14L) = ⟨0x52650d35, 0xb8cb31b8, 0x9ef3d68b, 0x7c875c4e, 0xe6e833c4, 0xdc69dc44, 0xd6c2cf5d, 0xc76bdbe3⟩ := by kernel_rfl
theorem in14l_is : shaL (ipad [108] ++ 76 :: h14L) = in14l := by
  rw [shaL, in14l_st]
  decide +kernel
theorem out14l_st : shaSt (opad [108] ++ in14l) = ⟨0x02ed64a3, 0xf2fcc4d5, 0x123bfd9f, 0x1d3d8179, 0x6e6200d1, 0x52c3789c, 0xdfbaf1e3, 0xa45a48a7⟩ := by kernel_rfl
theorem tag14l_0 : gl (tagL [108] h14L) 0 = 0x02 := by
  rw [tagL, macL, outerL, in14l_is, shaL, out14l_st]
  decide +kernel
theorem tag14_ne : tagL [108] (headL zeroH x14.body) ≠ tagL [107] (headL zeroH x14.body) := by
  rw [h14]; intro h; have h1 := tag14l_0; rw [h, tag14k_0] at h1
  exact absurd h1 (by decide)
theorem open14_other : openB [108] zeroH 3 (sealB [107] zeroH x14.body) = (zeroR, zeroH, 0, 40) := by
  have e1 := takeB_seal x14.body (tagL [107] (headL zeroH x14.body)) [] (by rw [x14_body]; decide) (macL_tag_len _ _)
  rw [List.append_nil] at e1; unfold openB; rw [show sealB [107] zeroH x14.body = textL x14.body ++ tagL [107] (headL zeroH x14.body) ++ List.replicate (noughtN ((textL x14.body).length + 32)) 0 from rfl, e1]; dsimp only
  rw [if_neg (by decide), if_pos (Or.inl tag14_ne)]
theorem open14_own : openB [107] zeroH 3 (sealB [107] zeroH x14.body) = (x14, headL zeroH x14.body, 1, 0) := by
  have h := openB_seal [107] zeroH [] x14 x14_right x14_root (by rw [x14_body]; decide)
  rw [List.append_nil, x14_blocks] at h; exact h
theorem read14_own : readR x14.body = (x14, 0) := readR_body x14 x14_right x14_root
theorem sealed14 : x14.sealed [107] zeroH = (sealB [107] zeroH x14.body, headL zeroH x14.body) := by rw [RecL.sealed, if_pos x14_right]
end Go.Proofs.YtdmnhgbdeifpbaaDoor
