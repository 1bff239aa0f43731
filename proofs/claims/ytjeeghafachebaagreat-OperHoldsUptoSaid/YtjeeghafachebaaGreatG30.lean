/-
  Part 30 of 53 of what the proof leans on.
-/
import Derived.Test.YtjeeghafachebaaGreatG28
import Derived.Test.YtjeeghafachebaaGreatG29
import Derived.Test.YtjeeghafachebaaGreatG5
import Derived.Deep.CutBlock
namespace Go.Proofs.YtjeeghafachebaaGreat
open Go Go.RowKit
def sameP (x y : PaneL) : Bool := sameW x.w y.w && (sameA x.a y.a && (x.r == y.r))
theorem sameP_iff (x y : PaneL) : sameP x y = true ↔ x = y := by
  obtain ⟨a, b, c⟩ := x; obtain ⟨a', b', c'⟩ := y; simp only [sameP, Bool.and_eq_true, sameW_iff, sameA_iff, beq_iff_eq, PaneL.mk.injEq]
theorem sameI_ext (x y : ItemL) : sameI x y = true ↔ x = y := by
  obtain ⟨a, b, c, d⟩ := x; obtain ⟨a', b', c', d'⟩ := y; simp [sameI]
def sameO (x y : OutE) : Bool := (x.late == y.late) && (sameI x.item y.item && (sameW x.w y.w && ((x.r == y.r) && decide (x.v = y.v))))
theorem sameO_iff (x y : OutE) : sameO x y = true ↔ x = y := by
  obtain ⟨a, b, c, d, e⟩ := x; obtain ⟨a', b', c', d', e'⟩ := y; simp only [sameO, Bool.and_eq_true, sameI_ext, sameW_iff, beq_iff_eq, decide_eq_true_eq, OutE.mk.injEq]
instance : DecidableEq OutE := fun x y => decidable_of_iff _ (sameO_iff x y)
theorem intOf_i (k : IntKind) (z : Int) : intOf (.int k z) = z := rfl
theorem box_pp (w : World) (x y : PaneV) :
    RowP ((w.alloc (.cells x.cells 55)).alloc (.cells y.cells 55)) w.heap.size x ∧ RowP ((w.alloc (.cells x.cells 55)).alloc (.cells y.cells 55)) (w.heap.size + 1) y ∧ Below w.heap.size w ((w.alloc (.cells x.cells 55)).alloc (.cells y.cells 55)) := by
  have k1 := (Below.refl _ w).alloc (Nat.le_refl _) (.cells x.cells 55); have k2 := (Below.refl _ (w.alloc (.cells x.cells 55))).alloc (Nat.le_refl _) (.cells y.cells 55); have hs : (w.alloc (.cells x.cells 55)).heap.size = w.heap.size + 1 := heap_alloc_size w _; refine ⟨RowP.below (heap_alloc_new w _) k2, ?_, k1.trans (k2.mono k1.size)⟩; rw [← hs]; exact heap_alloc_new _ _
theorem box_oo (w : World) (x y : OutV) :
    RowO ((w.alloc (.cells x.cells 50)).alloc (.cells y.cells 50)) w.heap.size x ∧ RowO ((w.alloc (.cells x.cells 50)).alloc (.cells y.cells 50)) (w.heap.size + 1) y ∧ Below w.heap.size w ((w.alloc (.cells x.cells 50)).alloc (.cells y.cells 50)) := by
  have k1 := (Below.refl _ w).alloc (Nat.le_refl _) (.cells x.cells 50); have k2 := (Below.refl _ (w.alloc (.cells x.cells 50))).alloc (Nat.le_refl _) (.cells y.cells 50); have hs : (w.alloc (.cells x.cells 50)).heap.size = w.heap.size + 1 := heap_alloc_size w _; refine ⟨RowO.below (heap_alloc_new w _) k2, ?_, k1.trans (k2.mono k1.size)⟩; rw [← hs]; exact heap_alloc_new _ _
set_option maxRecDepth 100000 in
set_option maxHeartbeats 1000000 in
theorem osamePane_any (w : World) (x y : PaneV) (hx : GoodP w x) (hy : GoodP w y) (nx : x.p.a.top.length ≤ 1000000) (ny : y.p.a.top.length ≤ 1000000) :
    Calls Tryz.prog 27 #[.agg x.cells, .agg y.cells] w (Below0 w (.bool (sameP x.p y.p))) := by
  obtain ⟨r, hr⟩ : ∃ r, r = sameP x.p y.p := ⟨_, rfl⟩; rw [← hr]; obtain ⟨w1, hw1⟩ : ∃ W, W = (w.alloc (.cells x.cells 55)).alloc (.cells y.cells 55) := ⟨_, rfl⟩; obtain ⟨xb, hxb⟩ : ∃ b, b = w.heap.size := ⟨_, rfl⟩; obtain ⟨yb, hyb⟩ : ∃ b, b = w.heap.size + 1 := ⟨_, rfl⟩
  have H1 : Hid (RowP w1 xb x ∧ RowP w1 yb y ∧ Below w.heap.size w w1) := by rw [hw1, hxb, hyb]; exact Lib.hid (box_pp w x y)
  have HB1 := Lib.hid H1.out.2.2; obtain ⟨ra, hra⟩ : ∃ r, r = sameW x.p.w y.p.w := ⟨_, rfl⟩; obtain ⟨rb, hrb⟩ : ∃ r, r = sameA x.p.a y.p.a := ⟨_, rfl⟩; obtain ⟨rc, hrc⟩ : ∃ r, r = (x.p.r == y.p.r) := ⟨_, rfl⟩
  have heq : ∀ w', (binOp .eql 47 (.agg x.p.w.cells) (.agg y.p.w.cells)).run Tryz.prog w' = .ok (.bool ra) w' := fun w' => by rw [hra]; exact run_eql_window w' _ _
  have hgd : ∀ w' op o1 o2, (eqGuard op 47 o1 o2 (.agg x.p.w.cells) (.agg y.p.w.cells)).run Tryz.prog w' = .ok () w' := fun w' op o1 o2 => run_guard_window w' op o1 o2 _ _
  have HC : Hid (∀ w', Below w1.heap.size w1 w' → Calls Tryz.prog 45 #[.agg (aggC x.p.a.n x.p.a.a x.tv x.z), .agg (aggC y.p.a.n y.p.a.a y.tv y.z)] w' (Below0 w' (.bool rb))) := by
    rw [hrb]; exact Lib.hid (fun w' hB => asame_any w' x.p.a y.p.a x.tv x.z y.tv y.z ((hx.1.below HB1.out).below hB) ((hy.1.below HB1.out).below hB) hx.2 hy.2 nx ny)
  have HR : Hid (r = (ra && (rb && rc))) := by rw [hr, hra, hrb, hrc]; exact Lib.hid rfl
  clear hr hra hrb hx hy nx ny; have hs1 : (w.alloc (.cells x.cells 55)).heap.size = w.heap.size + 1 := heap_alloc_size w _; obtain ⟨⟨⟨xk, xl, xh⟩, ⟨n, a, top, u, v⟩, rd⟩, tv, z, ht, hz⟩ := x; obtain ⟨⟨⟨yk, yl, yh⟩, ⟨n', a', top', u', v'⟩, rd'⟩, tv', z', ht', hz'⟩ := y; unfold PaneV.cells at hw1 hs1 ⊢; unfold WindowL.cells at heq hgd; unfold aggC at HC; simp only at hw1 hs1 heq hgd HC hrc; obtain ⟨e0, e1, e2, e3, e4, e5, e6, e7⟩ := H1.out.1.d8; obtain ⟨f0, f1, f2, f3, f4, f5, f6, f7⟩ := H1.out.2.1.d8; have HFX : Hid (∀ w', Below w1.heap.size w1 w' → w'.cell? ⟨xb, 7, none⟩ = some (.int .i64 rd)) := Lib.hid (fun w' h => ((H1.out.1.below h).d8).2.2.2.2.2.2.2); have HFY : Hid (∀ w', Below w1.heap.size w1 w' → w'.cell? ⟨yb, 7, none⟩ = some (.int .i64 rd')) := Lib.hid (fun w' h => ((H1.out.2.1.below h).d8).2.2.2.2.2.2.2); clear H1
  cases ra with
  | false =>
    obtain rfl : r = false := HR.out; clear HR HC hrc
    go_enter Tryz.func27, Tryz.ntmps27
    go_upto_region 1 with (fail)
    rw [← hw1, ← hyb, ← hxb]; clear hw1 hxb hyb hs1; go_wp2_with (fail); go_ret; exact ⟨rfl, HB1.out⟩
  | true =>
  cases rb with
  | false =>
    obtain rfl : r = false := HR.out; clear HR hrc
    go_enter Tryz.func27, Tryz.ntmps27
    go_upto_region 1 with (fail)
    rw [← hw1, ← hyb, ← hxb]; clear hw1 hxb hyb hs1; go_wp2_with (fail); refine (HC.out w1 (Below.refl _ _)).mono ?_; rintro e w2 ⟨rfl, hB⟩; have HZ := Lib.hid (HB1.out.trans (hB.mono HB1.out.size)); clear hB e0 e1 e2 e3 e4 e5 e6 e7 f0 f1 f2 f3 f4 f5 f6 f7; dsimp only; go_wp2_with (fail); go_ret; exact ⟨rfl, HZ.out⟩
  | true =>
    obtain rfl : r = rc := HR.out; clear HR
    go_enter Tryz.func27, Tryz.ntmps27
    go_upto_region 1 with (fail)
    rw [← hw1, ← hyb, ← hxb]; clear hw1 hxb hyb hs1; go_wp2_with (fail); refine (HC.out w1 (Below.refl _ _)).mono ?_; rintro e w2 ⟨rfl, hB⟩; have HZ := Lib.hid (HB1.out.trans (hB.mono HB1.out.size)); have e7 := HFX.out w2 hB; have f7 := HFY.out w2 hB; clear hB e0 e1 e2 e3 e4 e5 e6 f0 f1 f2 f3 f4 f5 f6; dsimp only; go_wp2_with (fail); go_ret
    exact ⟨by rw [hrc]; rfl, HZ.out⟩
set_option maxRecDepth 100000 in
set_option maxHeartbeats 1000000 in
theorem osameOut_any (w : World) (x y : OutV) (hx : GoodO w x) (hy : GoodO w y) (nx : x.o.v.length ≤ 1000000) (ny : y.o.v.length ≤ 1000000) :
    Calls Tryz.prog 25 #[.agg x.cells, .agg y.cells] w (Below0 w (.bool (sameO x.o y.o))) := by
  obtain ⟨r, hr⟩ : ∃ r, r = sameO x.o y.o := ⟨_, rfl⟩; rw [← hr]; obtain ⟨w1, hw1⟩ : ∃ W, W = (w.alloc (.cells x.cells 50)).alloc (.cells y.cells 50) := ⟨_, rfl⟩; obtain ⟨xb, hxb⟩ : ∃ b, b = w.heap.size := ⟨_, rfl⟩; obtain ⟨yb, hyb⟩ : ∃ b, b = w.heap.size + 1 := ⟨_, rfl⟩
  have H1 : Hid (RowO w1 xb x ∧ RowO w1 yb y ∧ Below w.heap.size w w1) := by rw [hw1, hxb, hyb]; exact Lib.hid (box_oo w x y)
  have HB1 := Lib.hid H1.out.2.2; obtain ⟨ra, hra⟩ : ∃ r, r = sameI x.o.item y.o.item := ⟨_, rfl⟩; obtain ⟨rb, hrb⟩ : ∃ r, r = sameW x.o.w y.o.w := ⟨_, rfl⟩; obtain ⟨rc, hrc⟩ : ∃ r, r = decide (x.o.v = y.o.v) := ⟨_, rfl⟩; obtain ⟨rl, hrl⟩ : ∃ r, r = (x.o.late == y.o.late) := ⟨_, rfl⟩
  have heq : ∀ w', (binOp .eql 47 (.agg x.o.w.cells) (.agg y.o.w.cells)).run Tryz.prog w' = .ok (.bool rb) w' := fun w' => by rw [hrb]; exact run_eql_window w' _ _
  have hgd : ∀ w' op o1 o2, (eqGuard op 47 o1 o2 (.agg x.o.w.cells) (.agg y.o.w.cells)).run Tryz.prog w' = .ok () w' := fun w' op o1 o2 => run_guard_window w' op o1 o2 _ _
  have heqI : ∀ w', (binOp .eql 42 (.agg x.o.item.cells) (.agg y.o.item.cells)).run Tryz.prog w' = .ok (.bool ra) w' := fun w' => by rw [hra]; exact run_eql_item w' _ _
  have hgdI : ∀ w' op o1 o2, (eqGuard op 42 o1 o2 (.agg x.o.item.cells) (.agg y.o.item.cells)).run Tryz.prog w' = .ok () w' := fun w' op o1 o2 => run_guard_item w' op o1 o2 _ _
  have hbr : ∀ w', Sem.run Tryz.prog (binOp .eql 4 (.bool x.o.late) (.bool y.o.late)) w' = .ok (.bool rl) w' := fun w' => by rw [hrl]; cases x.o.late <;> cases y.o.late <;> simp [go_sem]
  have HC : Hid (∀ w', Below w1.heap.size w1 w' → Calls Tryz.prog 44 #[x.tv, y.tv] w' (Below0 w' (.bool rc))) := by
    rw [hrc]; exact Lib.hid (fun w' hB => equalI_any w' x.tv y.tv x.o.v y.o.v ((IntsAt.below hx HB1.out).below hB) ((IntsAt.below hy HB1.out).below hB) nx ny)
  have HR : Hid (r = (rl && (ra && (rb && ((x.o.r == y.o.r) && rc))))) := by rw [hr, hra, hrb, hrc, hrl]; exact Lib.hid rfl
  clear hr hra hrb hrc hrl hx hy nx ny; have hs1 : (w.alloc (.cells x.cells 50)).heap.size = w.heap.size + 1 := heap_alloc_size w _; obtain ⟨⟨late, ⟨ik, ikey, it, iv⟩, ⟨xk, xl, xh⟩, rd, lv⟩, tv, ht⟩ := x; obtain ⟨⟨late', ⟨ik', ikey', it', iv'⟩, ⟨xk', xl', xh'⟩, rd', lv'⟩, tv', ht'⟩ := y; unfold OutV.cells at hw1 hs1 ⊢; unfold WindowL.cells at heq hgd; unfold ItemL.cells at heqI hgdI; simp only at hw1 hs1 heq hgd heqI hgdI HC HR hbr; obtain ⟨e0, e1, e2, e3, e4, e5, e6, e7, e8, e9⟩ := H1.out.1.d10; obtain ⟨f0, f1, f2, f3, f4, f5, f6, f7, f8, f9⟩ := H1.out.2.1.d10; clear H1
  cases rl with
  | false =>
    obtain rfl : r = false := HR.out; clear HR HC
    go_enter Tryz.func25, Tryz.ntmps25
    go_upto_region 1 with (fail)
    rw [← hw1, ← hyb, ← hxb]; clear hw1 hxb hyb hs1; go_wp2_with (fail); go_ret; exact ⟨rfl, HB1.out⟩
  | true =>
  cases ra with
  | false =>
    obtain rfl : r = false := HR.out; clear HR HC
    go_enter Tryz.func25, Tryz.ntmps25
    go_upto_region 1 with (fail)
    rw [← hw1, ← hyb, ← hxb]; clear hw1 hxb hyb hs1; go_wp2_with (fail); go_ret; exact ⟨rfl, HB1.out⟩
  | true =>
  cases rb with
  | false =>
    obtain rfl : r = false := HR.out; clear HR HC
    go_enter Tryz.func25, Tryz.ntmps25
    go_upto_region 1 with (fail)
    rw [← hw1, ← hyb, ← hxb]; clear hw1 hxb hyb hs1; go_wp2_with (fail); go_ret; exact ⟨rfl, HB1.out⟩
  | true =>
  by_cases h : rd = rd'
  · subst h
    obtain rfl : r = rc := by rw [HR.out]; simp
    clear HR
    go_enter Tryz.func25, Tryz.ntmps25
    go_upto_region 1 with (fail)
    rw [← hw1, ← hyb, ← hxb]; clear hw1 hxb hyb hs1; go_wp2_with (fail); refine (HC.out w1 (Below.refl _ _)).mono ?_; rintro e w2 ⟨rfl, hB⟩; have HZ := Lib.hid (HB1.out.trans (hB.mono HB1.out.size)); clear hB e0 e1 e2 e3 e4 e5 e6 e7 e8 e9 f0 f1 f2 f3 f4 f5 f6 f7 f8 f9; dsimp only; go_wp2_with (fail); go_ret; exact ⟨rfl, HZ.out⟩
  · have h' : (rd == rd') = false := by simpa using h
    obtain rfl : r = false := by rw [HR.out, h']; rfl
    clear HR HC h
    go_enter Tryz.func25, Tryz.ntmps25
    go_upto_region 1 with (fail)
    rw [← hw1, ← hyb, ← hxb]; clear hw1 hxb hyb hs1; go_wp2_with (fail); go_ret; exact ⟨rfl, HB1.out⟩
theorem PanesAt.get {w : World} {a : Option Addr} {l : List PaneV} (h : PanesAt w a l) {t : Nat} (ht : t < l.length) : ∃ x b o, l[t]? = some x ∧ a = some ⟨b, o, none⟩ ∧ w.cell? ⟨b, o + t * 8, none⟩ = some (Sv x.p.w.key) ∧ w.cell? ⟨b, o + t * 8 + 1, none⟩ = some (.int .i64 x.p.w.lo) ∧ w.cell? ⟨b, o + t * 8 + 2, none⟩ = some (.int .i64 x.p.w.hi) ∧ w.cell? ⟨b, o + t * 8 + 3, none⟩ = some (.int .i64 x.p.a.n) ∧ w.cell? ⟨b, o + t * 8 + 4, none⟩ = some (.int .i64 x.p.a.a) ∧ w.cell? ⟨b, o + t * 8 + 5, none⟩ = some (x.tv) ∧ w.cell? ⟨b, o + t * 8 + 6, none⟩ = some (x.z) ∧ w.cell? ⟨b, o + t * 8 + 7, none⟩ = some (.int .i64 x.p.r) := by
  rcases h with h | ⟨b, o, h, h'⟩
  · rw [h] at ht; simp at ht
  · exact ⟨l[t], b, o, List.getElem?_eq_getElem ht, h, h' t _ (List.getElem?_eq_getElem ht) 0 _ rfl, h' t _ (List.getElem?_eq_getElem ht) 1 _ rfl, h' t _ (List.getElem?_eq_getElem ht) 2 _ rfl, h' t _ (List.getElem?_eq_getElem ht) 3 _ rfl, h' t _ (List.getElem?_eq_getElem ht) 4 _ rfl, h' t _ (List.getElem?_eq_getElem ht) 5 _ rfl, h' t _ (List.getElem?_eq_getElem ht) 6 _ rfl, h' t _ (List.getElem?_eq_getElem ht) 7 _ rfl⟩
def EFP (w : World) (l m : List PaneV) (v : Value) (wr : World) : Prop := ∃ i : Nat, i ≤ l.length ∧ v = .int .i64 (i : Int) ∧ (∀ j < i, ∀ x y, l[j]? = some x → m[j]? = some y → x.p = y.p) ∧ Below w.heap.size w wr
theorem mapsP {l m : List PaneV} (hn : l.length = m.length) (h : ∀ j < l.length, ∀ x y, l[j]? = some x → m[j]? = some y → x.p = y.p) : l.map PaneV.p = m.map PaneV.p := by
  apply List.ext_getElem?
  intro j; rw [List.getElem?_map, List.getElem?_map]
  by_cases hj : j < l.length
  · have h1 := List.getElem?_eq_getElem hj
    have h2 := List.getElem?_eq_getElem (show j < m.length by omega)
    rw [h1, h2]; exact congrArg some (h j hj _ _ h1 h2)
  · rw [List.getElem?_eq_none (by omega), List.getElem?_eq_none (by omega)]
set_option maxRecDepth 100000 in
set_option maxHeartbeats 2000000 in
theorem eqfP_any (w : World) (aa ba : Option Addr) (ca cb : Nat) (l m : List PaneV) (hA : PanesAt w aa l) (hB : PanesAt w ba m) (gA : ∀ x ∈ l, GoodP w x ∧ x.p.a.top.length ≤ 1000000) (gB : ∀ x ∈ m, GoodP w x ∧ x.p.a.top.length ≤ 1000000) (hl : l.length ≤ 1000000) (hm : m.length ≤ 1000000) :
    Calls Tryz.prog 26 #[.slice aa l.length ca, .slice ba m.length cb, .func (.func 27) #[] #[]] w (Below0 w (.bool (decide (l.map PaneV.p = m.map PaneV.p)))) := by
  obtain ⟨n, hN⟩ : ∃ n, n = l.length := ⟨_, rfl⟩; obtain ⟨k, hK⟩ : ∃ n, n = m.length := ⟨_, rfl⟩; obtain ⟨P, hP⟩ : ∃ P, P = Below0 w (.bool (decide (l.map PaneV.p = m.map PaneV.p))) := ⟨_, rfl⟩; rw [← hP, ← hN, ← hK]
  have HNo : Hid (∀ wz, ¬ l.map PaneV.p = m.map PaneV.p → Below w.heap.size w wz → P (.returned (.bool false)) wz) := Lib.hid (fun wz h hB => by rw [hP, decide_eq_false h]; exact ⟨rfl, hB⟩)
  have HYes : Hid (∀ wz, l.map PaneV.p = m.map PaneV.p → Below w.heap.size w wz → P (.returned (.bool true)) wz) := Lib.hid (fun wz h hB => by rw [hP, decide_eq_true h]; exact ⟨rfl, hB⟩)
  have HA := Lib.hid hA; have HBB := Lib.hid hB; have HGA := Lib.hid gA; have HGB := Lib.hid gB
  have hn6 : n ≤ 1000000 := by omega
  have hk6 : k ≤ 1000000 := by omega
  have HN : Hid (n = l.length ∧ k = m.length) := Lib.hid ⟨hN, hK⟩; clear hN hK hA hB gA gB hl hm hP
  by_cases hnk : n = k
  · subst hnk
    go_enter Tryz.func26, Tryz.ntmps26
    go_wp2_with (fail)
    go_loopw [17] (EFP w l m) (fun v _ => n - (intOf v).toNat)
    case atStart => exact ⟨0, Nat.zero_le _, rfl, fun j h => absurd h (Nat.not_lt_zero _), Below.refl _ _⟩
    case round =>
      obtain ⟨i, hi, rfl, hok, hB⟩ := hrel; rw [← HN.out.1] at hi; have HO := Lib.hid (And.intro hok hB); clear hok hB
      by_cases hlt : i < n
      · have hi0 : (0 : Int) ≤ (i : Int) ∧ (i : Int) < (n : Int) := by omega
        obtain ⟨x, pa, oa, hx, hsa, c0, c1, c2, c3, c4, c5, c6, c7⟩ := (HA.out.below HO.out.2).get (t := i) (by rw [← HN.out.1]; exact hlt)
        subst hsa; have HX := Lib.hid (And.intro (HGA.out x (List.mem_of_getElem? hx)) hx); have HI := Lib.hid (And.intro hlt hi); clear hx hi hlt; obtain ⟨⟨⟨xk, xl, xh⟩, ⟨xn, xa, xt, xu, xv⟩, xr⟩, xtv, xz, xht, xhz⟩ := x; simp only at c0 c1 c2 c3 c4 c5 c6 c7
        go_upto_region 5 with (fail)
        refine wp_region_lit ?_
        iterate 15 go_step
        refine wpList_store_row rfl _ _ _ rfl wr.heap.size (PaneV.mk ⟨⟨xk, xl, xh⟩, ⟨xn, xa, xt, xu, xv⟩, xr⟩ xtv xz xht xhz).cells rfl rfl 55 zeroPV.cells (heap_alloc_new wr _) pane_size rfl (pane_one _) ?_; obtain ⟨wx, hwx⟩ : ∃ W, W = (wr.alloc (Obj.cells #[.string ⟨#[]⟩, .int .i64 0, .int .i64 0, .int .i64 0, .int .i64 0, .slice none 0 0, .complex .f64 0 0, .int .i64 0] 55)).setRow wr.heap.size (PaneV.mk ⟨⟨xk, xl, xh⟩, ⟨xn, xa, xt, xu, xv⟩, xr⟩ xtv xz xht xhz).cells := ⟨_, rfl⟩; obtain ⟨xb, hxb⟩ : ∃ b, b = wr.heap.size := ⟨_, rfl⟩
        have Hwx : Hid (RowP wx xb (PaneV.mk ⟨⟨xk, xl, xh⟩, ⟨xn, xa, xt, xu, xv⟩, xr⟩ xtv xz xht xhz) ∧ Below wr.heap.size wr wx) := by
          obtain ⟨k1, k2⟩ := stored_pane wr (PaneV.mk ⟨⟨xk, xl, xh⟩, ⟨xn, xa, xt, xu, xv⟩, xr⟩ xtv xz xht xhz); rw [hwx, hxb]; exact Lib.hid ⟨k1, k2⟩
        rw [← hwx, ← hxb]; clear hwx hxb; clear c0 c1 c2 c3 c4 c5 c6 c7
        obtain ⟨y, pc, oc, hy, hsb, c0, c1, c2, c3, c4, c5, c6, c7⟩ := (HBB.out.below (HO.out.2.trans (Hwx.out.2.mono HO.out.2.size))).get (t := i) (by rw [← HN.out.2]; exact HI.out.1)
        subst hsb; have HY := Lib.hid (And.intro (HGB.out y (List.mem_of_getElem? hy)) hy); clear hy; obtain ⟨⟨⟨yk, yl, yh⟩, ⟨yn, ya, yt, yu, yv⟩, yr⟩, ytv, yz, yht, yhz⟩ := y; simp only at c0 c1 c2 c3 c4 c5 c6 c7
        go_upto_region 6 with (fail)
        refine wp_region_lit ?_
        iterate 15 go_step
        refine wpList_store_row rfl _ _ _ rfl wx.heap.size (PaneV.mk ⟨⟨yk, yl, yh⟩, ⟨yn, ya, yt, yu, yv⟩, yr⟩ ytv yz yht yhz).cells rfl rfl 55 zeroPV.cells (heap_alloc_new wx _) pane_size rfl (pane_one _) ?_; obtain ⟨wy, hwy⟩ : ∃ W, W = (wx.alloc (Obj.cells #[.string ⟨#[]⟩, .int .i64 0, .int .i64 0, .int .i64 0, .int .i64 0, .slice none 0 0, .complex .f64 0 0, .int .i64 0] 55)).setRow wx.heap.size (PaneV.mk ⟨⟨yk, yl, yh⟩, ⟨yn, ya, yt, yu, yv⟩, yr⟩ ytv yz yht yhz).cells := ⟨_, rfl⟩; obtain ⟨yb, hyb⟩ : ∃ b, b = wx.heap.size := ⟨_, rfl⟩
        have Hwy : Hid (RowP wy yb (PaneV.mk ⟨⟨yk, yl, yh⟩, ⟨yn, ya, yt, yu, yv⟩, yr⟩ ytv yz yht yhz) ∧ Below wx.heap.size wx wy) := by
          obtain ⟨k1, k2⟩ := stored_pane wx (PaneV.mk ⟨⟨yk, yl, yh⟩, ⟨yn, ya, yt, yu, yv⟩, yr⟩ ytv yz yht yhz); rw [hwy, hyb]; exact Lib.hid ⟨k1, k2⟩
        rw [← hwy, ← hyb]; clear hwy hyb; clear c0 c1 c2 c3 c4 c5 c6 c7; have HBy : Hid (Below w.heap.size w wy) := Lib.hid ((HO.out.2.trans (Hwx.out.2.mono HO.out.2.size)).trans (Hwy.out.2.mono (HO.out.2.trans (Hwx.out.2.mono HO.out.2.size)).size)); obtain ⟨r, hr⟩ : ∃ r, r = sameP (PaneV.mk ⟨⟨xk, xl, xh⟩, ⟨xn, xa, xt, xu, xv⟩, xr⟩ xtv xz xht xhz).p (PaneV.mk ⟨⟨yk, yl, yh⟩, ⟨yn, ya, yt, yu, yv⟩, yr⟩ ytv yz yht yhz).p := ⟨_, rfl⟩
        have HC : Hid (Calls Tryz.prog 27 #[.agg (PaneV.mk ⟨⟨xk, xl, xh⟩, ⟨xn, xa, xt, xu, xv⟩, xr⟩ xtv xz xht xhz).cells, .agg (PaneV.mk ⟨⟨yk, yl, yh⟩, ⟨yn, ya, yt, yu, yv⟩, yr⟩ ytv yz yht yhz).cells] wy (Below0 wy (.bool r))) := by
          rw [hr]; exact Lib.hid (osamePane_any wy _ _ (HX.out.1.1.below HBy.out) (HY.out.1.1.below HBy.out) HX.out.1.2 HY.out.1.2)
        have HRr : Hid (r = true ↔ (PaneV.mk ⟨⟨xk, xl, xh⟩, ⟨xn, xa, xt, xu, xv⟩, xr⟩ xtv xz xht xhz).p = (PaneV.mk ⟨⟨yk, yl, yh⟩, ⟨yn, ya, yt, yu, yv⟩, yr⟩ ytv yz yht yhz).p) := by rw [hr]; exact Lib.hid (sameP_iff _ _)
        clear hr; unfold PaneV.cells at HC; obtain ⟨e0, e1, e2, e3, e4, e5, e6, e7⟩ := (Hwx.out.1.below Hwy.out.2).d8; obtain ⟨f0, f1, f2, f3, f4, f5, f6, f7⟩ := Hwy.out.1.d8
        cases r with
        | false =>
          go_wp2_with (fail); refine HC.out.mono ?_; rintro e w3 ⟨rfl, hB⟩; have HZ := Lib.hid (HBy.out.trans (hB.mono HBy.out.size)); clear hB e0 e1 e2 e3 e4 e5 e6 e7 f0 f1 f2 f3 f4 f5 f6 f7; dsimp only; go_wp2_with (fail); refine HNo.out _ (fun h => ?_) HZ.out; have h3 := congrArg (fun z => z[i]?) h; simp only [List.getElem?_map, HX.out.2, HY.out.2, Option.map_some, Option.some.injEq] at h3
          exact absurd (HRr.out.2 h3) (by simp)
        | true =>
          go_wp2_with (fail); refine HC.out.mono ?_; rintro e w3 ⟨rfl, hB⟩; have HZ := Lib.hid (HBy.out.trans (hB.mono HBy.out.size)); clear hB e0 e1 e2 e3 e4 e5 e6 e7 f0 f1 f2 f3 f4 f5 f6 f7; dsimp only; go_wp2_with (fail)
          refine ⟨⟨i + 1, by rw [← HN.out.1]; exact HI.out.1, rfl, fun j hj x' y' h1 h2 => ?_, HZ.out⟩, by rw [intOf_i, intOf_i]; have := HI.out.1; omega⟩
          rcases Nat.lt_or_ge j i with hji | hji
          · exact HO.out.1 j hji x' y' h1 h2
          · obtain rfl : j = i := by omega
            have e1 := h1.symm.trans HX.out.2; have e2 := h2.symm.trans HY.out.2
            cases e1
            cases e2
            exact HRr.out.1 trivial
      · obtain rfl : i = n := by omega
        clear hlt; go_wp2_with (fail)
        exact HYes.out _ (mapsP (HN.out.1.symm.trans HN.out.2) (fun j hj => HO.out.1 j (by rw [HN.out.1]; exact hj))) HO.out.2
  · have hne : ¬ (n : Int) = (k : Int) := by omega
    have hne' : ((n : Int) != (k : Int)) = true := bne_iff_ne.2 hne
    go_enter Tryz.func26, Tryz.ntmps26
    go_wp2_with (fail); refine HNo.out _ (fun h => hnk ?_) (Below.refl _ _); have h3 := congrArg List.length h; rw [List.length_map, List.length_map, ← HN.out.1, ← HN.out.2] at h3; exact h3
theorem OutsAt.get {w : World} {a : Option Addr} {l : List OutV} (h : OutsAt w a l) {t : Nat} (ht : t < l.length) : ∃ x b o, l[t]? = some x ∧ a = some ⟨b, o, none⟩ ∧ w.cell? ⟨b, o + t * 10, none⟩ = some (.bool x.o.late) ∧ w.cell? ⟨b, o + t * 10 + 1, none⟩ = some (.int .i64 x.o.item.kind) ∧ w.cell? ⟨b, o + t * 10 + 2, none⟩ = some (Sv x.o.item.key) ∧ w.cell? ⟨b, o + t * 10 + 3, none⟩ = some (.int .i64 x.o.item.time) ∧ w.cell? ⟨b, o + t * 10 + 4, none⟩ = some (.int .i64 x.o.item.value) ∧ w.cell? ⟨b, o + t * 10 + 5, none⟩ = some (Sv x.o.w.key) ∧ w.cell? ⟨b, o + t * 10 + 6, none⟩ = some (.int .i64 x.o.w.lo) ∧ w.cell? ⟨b, o + t * 10 + 7, none⟩ = some (.int .i64 x.o.w.hi) ∧ w.cell? ⟨b, o + t * 10 + 8, none⟩ = some (.int .i64 x.o.r) ∧ w.cell? ⟨b, o + t * 10 + 9, none⟩ = some (x.tv) := by
  rcases h with h | ⟨b, o, h, h'⟩
  · rw [h] at ht; simp at ht
  · exact ⟨l[t], b, o, List.getElem?_eq_getElem ht, h, h' t _ (List.getElem?_eq_getElem ht) 0 _ rfl, h' t _ (List.getElem?_eq_getElem ht) 1 _ rfl, h' t _ (List.getElem?_eq_getElem ht) 2 _ rfl, h' t _ (List.getElem?_eq_getElem ht) 3 _ rfl, h' t _ (List.getElem?_eq_getElem ht) 4 _ rfl, h' t _ (List.getElem?_eq_getElem ht) 5 _ rfl, h' t _ (List.getElem?_eq_getElem ht) 6 _ rfl, h' t _ (List.getElem?_eq_getElem ht) 7 _ rfl, h' t _ (List.getElem?_eq_getElem ht) 8 _ rfl, h' t _ (List.getElem?_eq_getElem ht) 9 _ rfl⟩
def EFO (w : World) (l m : List OutV) (v : Value) (wr : World) : Prop := ∃ i : Nat, i ≤ l.length ∧ v = .int .i64 (i : Int) ∧ (∀ j < i, ∀ x y, l[j]? = some x → m[j]? = some y → x.o = y.o) ∧ Below w.heap.size w wr
theorem mapsO {l m : List OutV} (hn : l.length = m.length) (h : ∀ j < l.length, ∀ x y, l[j]? = some x → m[j]? = some y → x.o = y.o) : l.map OutV.o = m.map OutV.o := by
  apply List.ext_getElem?
  intro j; rw [List.getElem?_map, List.getElem?_map]
  by_cases hj : j < l.length
  · have h1 := List.getElem?_eq_getElem hj
    have h2 := List.getElem?_eq_getElem (show j < m.length by omega)
    rw [h1, h2]; exact congrArg some (h j hj _ _ h1 h2)
  · rw [List.getElem?_eq_none (by omega), List.getElem?_eq_none (by omega)]
set_option maxRecDepth 100000 in
set_option maxHeartbeats 2000000 in
theorem eqfO_any (w : World) (aa ba : Option Addr) (ca cb : Nat) (l m : List OutV) (hA : OutsAt w aa l) (hB : OutsAt w ba m) (gA : ∀ x ∈ l, GoodO w x ∧ x.o.v.length ≤ 1000000) (gB : ∀ x ∈ m, GoodO w x ∧ x.o.v.length ≤ 1000000) (hl : l.length ≤ 1000000) (hm : m.length ≤ 1000000) :
    Calls Tryz.prog 24 #[.slice aa l.length ca, .slice ba m.length cb, .func (.func 25) #[] #[]] w (Below0 w (.bool (decide (l.map OutV.o = m.map OutV.o)))) := by
  obtain ⟨n, hN⟩ : ∃ n, n = l.length := ⟨_, rfl⟩; obtain ⟨k, hK⟩ : ∃ n, n = m.length := ⟨_, rfl⟩; obtain ⟨P, hP⟩ : ∃ P, P = Below0 w (.bool (decide (l.map OutV.o = m.map OutV.o))) := ⟨_, rfl⟩; rw [← hP, ← hN, ← hK]
  have HNo : Hid (∀ wz, ¬ l.map OutV.o = m.map OutV.o → Below w.heap.size w wz → P (.returned (.bool false)) wz) := Lib.hid (fun wz h hB => by rw [hP, decide_eq_false h]; exact ⟨rfl, hB⟩)
  have HYes : Hid (∀ wz, l.map OutV.o = m.map OutV.o → Below w.heap.size w wz → P (.returned (.bool true)) wz) := Lib.hid (fun wz h hB => by rw [hP, decide_eq_true h]; exact ⟨rfl, hB⟩)
  have HA := Lib.hid hA; have HBB := Lib.hid hB; have HGA := Lib.hid gA; have HGB := Lib.hid gB
  have hn6 : n ≤ 1000000 := by omega
  have hk6 : k ≤ 1000000 := by omega
  have HN : Hid (n = l.length ∧ k = m.length) := Lib.hid ⟨hN, hK⟩; clear hN hK hA hB gA gB hl hm hP
  by_cases hnk : n = k
  · subst hnk
    go_enter Tryz.func24, Tryz.ntmps24
    go_wp2_with (fail)
    go_loopw [17] (EFO w l m) (fun v _ => n - (intOf v).toNat)
    case atStart => exact ⟨0, Nat.zero_le _, rfl, fun j h => absurd h (Nat.not_lt_zero _), Below.refl _ _⟩
    case round =>
      obtain ⟨i, hi, rfl, hok, hB⟩ := hrel; rw [← HN.out.1] at hi; have HO := Lib.hid (And.intro hok hB); clear hok hB
      by_cases hlt : i < n
      · have hi0 : (0 : Int) ≤ (i : Int) ∧ (i : Int) < (n : Int) := by omega
        obtain ⟨x, pa, oa, hx, hsa, c0, c1, c2, c3, c4, c5, c6, c7, c8, c9⟩ := (HA.out.below HO.out.2).get (t := i) (by rw [← HN.out.1]; exact hlt)
        subst hsa; have HX := Lib.hid (And.intro (HGA.out x (List.mem_of_getElem? hx)) hx); have HI := Lib.hid (And.intro hlt hi); clear hx hi hlt; obtain ⟨⟨xla, ⟨xik, xiy, xit, xiv⟩, ⟨xk, xl, xh⟩, xr, xlv⟩, xtv, xht⟩ := x; simp only at c0 c1 c2 c3 c4 c5 c6 c7 c8 c9
        go_upto_region 5 with (fail)
        refine wp_region_lit ?_
        iterate 15 go_step
        refine wpList_store_row rfl _ _ _ rfl wr.heap.size (OutV.mk ⟨xla, ⟨xik, xiy, xit, xiv⟩, ⟨xk, xl, xh⟩, xr, xlv⟩ xtv xht).cells rfl rfl 50 zeroOV.cells (heap_alloc_new wr _) out_size rfl (out_one _) ?_; obtain ⟨wx, hwx⟩ : ∃ W, W = (wr.alloc (Obj.cells #[.bool false, .int .i64 0, .string ⟨#[]⟩, .int .i64 0, .int .i64 0, .string ⟨#[]⟩, .int .i64 0, .int .i64 0, .int .i64 0, .slice none 0 0] 50)).setRow wr.heap.size (OutV.mk ⟨xla, ⟨xik, xiy, xit, xiv⟩, ⟨xk, xl, xh⟩, xr, xlv⟩ xtv xht).cells := ⟨_, rfl⟩; obtain ⟨xb, hxb⟩ : ∃ b, b = wr.heap.size := ⟨_, rfl⟩
        have Hwx : Hid (RowO wx xb (OutV.mk ⟨xla, ⟨xik, xiy, xit, xiv⟩, ⟨xk, xl, xh⟩, xr, xlv⟩ xtv xht) ∧ Below wr.heap.size wr wx) := by
          obtain ⟨k1, k2⟩ := stored_out wr (OutV.mk ⟨xla, ⟨xik, xiy, xit, xiv⟩, ⟨xk, xl, xh⟩, xr, xlv⟩ xtv xht); rw [hwx, hxb]; exact Lib.hid ⟨k1, k2⟩
        rw [← hwx, ← hxb]; clear hwx hxb; clear c0 c1 c2 c3 c4 c5 c6 c7 c8 c9
        obtain ⟨y, pc, oc, hy, hsb, c0, c1, c2, c3, c4, c5, c6, c7, c8, c9⟩ := (HBB.out.below (HO.out.2.trans (Hwx.out.2.mono HO.out.2.size))).get (t := i) (by rw [← HN.out.2]; exact HI.out.1)
        subst hsb; have HY := Lib.hid (And.intro (HGB.out y (List.mem_of_getElem? hy)) hy); clear hy; obtain ⟨⟨yla, ⟨yik, yiy, yit, yiv⟩, ⟨yk, yl, yh⟩, yr, ylv⟩, ytv, yht⟩ := y; simp only at c0 c1 c2 c3 c4 c5 c6 c7 c8 c9
        go_upto_region 6 with (fail)
        refine wp_region_lit ?_
        iterate 15 go_step
        refine wpList_store_row rfl _ _ _ rfl wx.heap.size (OutV.mk ⟨yla, ⟨yik, yiy, yit, yiv⟩, ⟨yk, yl, yh⟩, yr, ylv⟩ ytv yht).cells rfl rfl 50 zeroOV.cells (heap_alloc_new wx _) out_size rfl (out_one _) ?_; obtain ⟨wy, hwy⟩ : ∃ W, W = (wx.alloc (Obj.cells #[.bool false, .int .i64 0, .string ⟨#[]⟩, .int .i64 0, .int .i64 0, .string ⟨#[]⟩, .int .i64 0, .int .i64 0, .int .i64 0, .slice none 0 0] 50)).setRow wx.heap.size (OutV.mk ⟨yla, ⟨yik, yiy, yit, yiv⟩, ⟨yk, yl, yh⟩, yr, ylv⟩ ytv yht).cells := ⟨_, rfl⟩; obtain ⟨yb, hyb⟩ : ∃ b, b = wx.heap.size := ⟨_, rfl⟩
        have Hwy : Hid (RowO wy yb (OutV.mk ⟨yla, ⟨yik, yiy, yit, yiv⟩, ⟨yk, yl, yh⟩, yr, ylv⟩ ytv yht) ∧ Below wx.heap.size wx wy) := by
          obtain ⟨k1, k2⟩ := stored_out wx (OutV.mk ⟨yla, ⟨yik, yiy, yit, yiv⟩, ⟨yk, yl, yh⟩, yr, ylv⟩ ytv yht); rw [hwy, hyb]; exact Lib.hid ⟨k1, k2⟩
        rw [← hwy, ← hyb]; clear hwy hyb; clear c0 c1 c2 c3 c4 c5 c6 c7 c8 c9; have HBy : Hid (Below w.heap.size w wy) := Lib.hid ((HO.out.2.trans (Hwx.out.2.mono HO.out.2.size)).trans (Hwy.out.2.mono (HO.out.2.trans (Hwx.out.2.mono HO.out.2.size)).size)); obtain ⟨r, hr⟩ : ∃ r, r = sameO (OutV.mk ⟨xla, ⟨xik, xiy, xit, xiv⟩, ⟨xk, xl, xh⟩, xr, xlv⟩ xtv xht).o (OutV.mk ⟨yla, ⟨yik, yiy, yit, yiv⟩, ⟨yk, yl, yh⟩, yr, ylv⟩ ytv yht).o := ⟨_, rfl⟩
        have HC : Hid (Calls Tryz.prog 25 #[.agg (OutV.mk ⟨xla, ⟨xik, xiy, xit, xiv⟩, ⟨xk, xl, xh⟩, xr, xlv⟩ xtv xht).cells, .agg (OutV.mk ⟨yla, ⟨yik, yiy, yit, yiv⟩, ⟨yk, yl, yh⟩, yr, ylv⟩ ytv yht).cells] wy (Below0 wy (.bool r))) := by
          rw [hr]; exact Lib.hid (osameOut_any wy _ _ (HX.out.1.1.below HBy.out) (HY.out.1.1.below HBy.out) HX.out.1.2 HY.out.1.2)
        have HRr : Hid (r = true ↔ (OutV.mk ⟨xla, ⟨xik, xiy, xit, xiv⟩, ⟨xk, xl, xh⟩, xr, xlv⟩ xtv xht).o = (OutV.mk ⟨yla, ⟨yik, yiy, yit, yiv⟩, ⟨yk, yl, yh⟩, yr, ylv⟩ ytv yht).o) := by rw [hr]; exact Lib.hid (sameO_iff _ _)
        clear hr; unfold OutV.cells at HC; obtain ⟨e0, e1, e2, e3, e4, e5, e6, e7, e8, e9⟩ := (Hwx.out.1.below Hwy.out.2).d10; obtain ⟨f0, f1, f2, f3, f4, f5, f6, f7, f8, f9⟩ := Hwy.out.1.d10
        cases r with
        | false =>
          go_wp2_with (fail); refine HC.out.mono ?_; rintro e w3 ⟨rfl, hB⟩; have HZ := Lib.hid (HBy.out.trans (hB.mono HBy.out.size)); clear hB e0 e1 e2 e3 e4 e5 e6 e7 e8 e9 f0 f1 f2 f3 f4 f5 f6 f7 f8 f9; dsimp only; go_wp2_with (fail); refine HNo.out _ (fun h => ?_) HZ.out; have h3 := congrArg (fun z => z[i]?) h; simp only [List.getElem?_map, HX.out.2, HY.out.2, Option.map_some, Option.some.injEq] at h3
          exact absurd (HRr.out.2 h3) (by simp)
        | true =>
          go_wp2_with (fail); refine HC.out.mono ?_; rintro e w3 ⟨rfl, hB⟩; have HZ := Lib.hid (HBy.out.trans (hB.mono HBy.out.size)); clear hB e0 e1 e2 e3 e4 e5 e6 e7 e8 e9 f0 f1 f2 f3 f4 f5 f6 f7 f8 f9; dsimp only; go_wp2_with (fail)
          refine ⟨⟨i + 1, by rw [← HN.out.1]; exact HI.out.1, rfl, fun j hj x' y' h1 h2 => ?_, HZ.out⟩, by rw [intOf_i, intOf_i]; have := HI.out.1; omega⟩
          rcases Nat.lt_or_ge j i with hji | hji
          · exact HO.out.1 j hji x' y' h1 h2
          · obtain rfl : j = i := by omega
            have e1 := h1.symm.trans HX.out.2; have e2 := h2.symm.trans HY.out.2
            cases e1
            cases e2
            exact HRr.out.1 trivial
      · obtain rfl : i = n := by omega
        clear hlt; go_wp2_with (fail)
        exact HYes.out _ (mapsO (HN.out.1.symm.trans HN.out.2) (fun j hj => HO.out.1 j (by rw [HN.out.1]; exact hj))) HO.out.2
  · have hne : ¬ (n : Int) = (k : Int) := by omega
    have hne' : ((n : Int) != (k : Int)) = true := bne_iff_ne.2 hne
    go_enter Tryz.func24, Tryz.ntmps24
    go_wp2_with (fail); refine HNo.out _ (fun h => hnk ?_) (Below.refl _ _); have h3 := congrArg List.length h; rw [List.length_map, List.length_map, ← HN.out.1, ← HN.out.2] at h3; exact h3
end Go.Proofs.YtjeeghafachebaaGreat
