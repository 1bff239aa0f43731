/-
  Part 27 of 53 of what the proof leans on.
-/
import Derived.Test.YtjeeghafachebaaGreatG25
import Derived.Test.YtjeeghafachebaaGreatG26
import Derived.OwnWalk
namespace Go.Proofs.YtjeeghafachebaaGreat
open Go Go.RowKit
theorem takeS_insert {l : List WindowL} {w : WindowL} {p : Nat} (hl : Settled l) (hw : w.rightB = true) (hp : placeAt (restW l w) (became l w) p) :
    (restW l w).take p ++ [became l w] ++ (restW l w).drop p = takeS l w := by
  obtain ⟨h0, h1, h2⟩ := hp; have hb := (became_spec (l := l) hw).1
  have hself : joinsB (became l w) (became l w) = true := by
    have r := rightW_cases hb
    exact (joinsB_iff _ _).2 ⟨hb, hb, rfl, by omega, by omega⟩
  have hrest : ∀ x ∈ restW l w, joinsB x (became l w) = false := fun x hx => rest_apart hl hw hx; have hs : (restW l w).Pairwise (fun a b => aheadP a b ∧ joinsB a b = false) := hl.2.sublist List.filter_sublist; obtain ⟨y, hy⟩ : ∃ y, y = became l w := ⟨_, rfl⟩; obtain ⟨r, hr⟩ : ∃ r, r = restW l w := ⟨_, rfl⟩; have hcov := cov_take (l := l) hw; have hts := takeS_spec hl hw
  have hrr : ∀ x ∈ r, x.rightB = true := fun x hx => by rw [hr] at hx; exact hl.1 x (restW_mem.1 hx).1
  rw [← hy, ← hr] at h1 h2 hcov; rw [← hr] at h0 hs; rw [← hy] at hb hself hrest; rw [← hr] at hrest; rw [← hy, ← hr]; have hat : ∀ i (h : i < r.length), atW r i = r[i] := fun i h => atW_some (List.getElem?_eq_getElem h)
  have ha : ∀ x ∈ r.take p, aheadP x y := by
    intro x hx; obtain ⟨i, hi, e⟩ := List.getElem_of_mem hx; rw [List.length_take] at hi
    have h := h1 i (by omega)
    rw [hat i (by omega)] at h
    rw [← e, List.getElem_take]; exact h
  have hd : ∀ x ∈ r.drop p, aheadP y x := by
    intro x hx; obtain ⟨i, hi, e⟩ := List.getElem_of_mem hx; rw [List.length_drop] at hi
    have h := h2 (p + i) (by omega) (by omega)
    rw [hat _ (by omega)] at h
    rw [List.getElem_drop] at e; rw [e] at h; refine (aheadP_total (fun e' => ?_)).resolve_right h; have := hrest x (List.mem_of_mem_drop hx); rw [← e', hself] at this
    cases this
  have hM : Settled (r.take p ++ [y] ++ r.drop p) := by
    refine ⟨fun x hx => ?_, ?_⟩
    · simp only [List.mem_append, List.mem_singleton] at hx
      rcases hx with (hx | rfl) | hx
      · exact hrr x (List.mem_of_mem_take hx)
      · exact hb
      · exact hrr x (List.mem_of_mem_drop hx)
    · rw [List.pairwise_append, List.pairwise_append]
      refine ⟨⟨hs.sublist (List.take_sublist _ _), by simp, fun x hx z hz => ?_⟩, hs.sublist (List.drop_sublist _ _), fun x hx z hz => ?_⟩
      · rw [List.mem_singleton.1 hz]; exact ⟨ha x hx, hrest x (List.mem_of_mem_take hx)⟩
      · rcases List.mem_append.1 hx with hx | hx
        · have e := List.take_append_drop p r; rw [← e, List.pairwise_append] at hs; exact hs.2.2 x hx z hz
        · rw [List.mem_singleton.1 hx]
          exact ⟨hd z hz, by rw [joinsB_symm]; exact hrest z (List.mem_of_mem_drop hz)⟩
  refine hM.ext hts.1 fun q c => ?_; rw [hts.2, ← hcov]; refine Cov_mem (fun x => ?_) q c
  have : x ∈ r ↔ x ∈ r.take p ∨ x ∈ r.drop p := by
    rw [← List.mem_append, List.take_append_drop]
  simp only [List.mem_append, List.mem_singleton, this]
  constructor
  · rintro ((h | h) | h)
    · exact .inl (.inl h)
    · exact .inr h
    · exact .inl (.inr h)
  · rintro ((h | h) | h)
    · exact .inl (.inl h)
    · exact .inr h
    · exact .inl (.inr h)
theorem hullW_whole {x y o : WindowL} (h : joinsB o x = true) : hullW x y o = wholeW y o := by
  rw [hullW, if_pos h]; rfl
def PInv (w : World) (B b1 b2 g b3 c : Nat) (x y : WindowL) (out : List WindowL) (v9 : Value) (gv : List Nat) (wr : World) : Prop :=
  (w.heap.size ≤ b1 ∧ b1 < b2 ∧ b2 < g ∧ g < b3 ∧ b3 < B ∧ B ≤ wr.heap.size) ∧ Below w.heap.size w wr ∧ RowW wr b1 x ∧ RowW wr b2 zeroW ∧ RowW wr b3 y ∧ OwnW wr (b2 + 1) (.slice (some ⟨g, 0, none⟩) out.length c) out ∧ OwnN wr B v9 gv
theorem PInv.below {w : World} {B b1 b2 g b3 c : Nat} {x y : WindowL} {out : List WindowL} {v9 : Value} {gv : List Nat} {wr wz : World} (h : PInv w B b1 b2 g b3 c x y out v9 gv wr) (hB : Below wr.heap.size wr wz) : PInv w B b1 b2 g b3 c x y out v9 gv wz := by
  obtain ⟨⟨a1, a2, a3, a4, a5, a6⟩, h1, h2, h3, h4, h5, h6⟩ := h; exact ⟨⟨a1, a2, a3, a4, a5, Nat.le_trans a6 hB.size⟩, h1.trans (hB.mono h1.size), h2.below hB, h3.below hB, h4.below hB, h5.far hB, h6.far hB⟩
theorem PInv.pushW {w : World} {B b1 b2 g b3 c : Nat} {x y : WindowL} {out out' : List WindowL} {v9 : Value} {gv : List Nat} {wr wz : World} (h : PInv w B b1 b2 g b3 c x y out v9 gv wr) (ho : OwnW wz (b2 + 1) (.slice (some ⟨g, 0, none⟩) out'.length c) out') (hg : wr.grownBy wz (some g)) : PInv w B b1 b2 g b3 c x y out' v9 gv wz := by
  obtain ⟨⟨a1, a2, a3, a4, a5, a6⟩, h1, h2, h3, h4, h5, h6⟩ := h
  have hBl : Below w.heap.size wr wz := ⟨hg.os, hg.tape, hg.output, hg.size, fun k hk => hg.block k (by omega) (by simp; omega)⟩
  exact ⟨⟨a1, a2, a3, a4, a5, Nat.le_trans a6 hg.size⟩, h1.trans hBl, h2.grown hg (by simp; omega), h3.grown hg (by simp; omega), h4.grown hg (by simp; omega), ho, h6.kept hg (rows_apart h5 h6)⟩
theorem PInv.pushN {w : World} {B b1 b2 g b3 c : Nat} {x y : WindowL} {out : List WindowL} {v9 v9' : Value} {gv gv' : List Nat} {wr wz : World} (h : PInv w B b1 b2 g b3 c x y out v9 gv wr) (ho : OwnN wz B v9' gv') (hg : wr.grownBy wz v9.ownBlock) : PInv w B b1 b2 g b3 c x y out v9' gv' wz := by
  obtain ⟨⟨a1, a2, a3, a4, a5, a6⟩, h1, h2, h3, h4, h5, h6⟩ := h; have hl : ∀ k, v9.ownBlock = some k → B ≤ k ∧ k < wr.heap.size := fun k hk => Own.lt h6 hk
  have hBl : Below B wr wz := ⟨hg.os, hg.tape, hg.output, hg.size, fun k hk => hg.block k (by omega) (owns_ne hl hk)⟩
  exact ⟨⟨a1, a2, a3, a4, a5, Nat.le_trans a6 hg.size⟩, h1.trans (hBl.mono (by omega)), h2.grown hg (owns_ne hl (by omega)), h3.grown hg (owns_ne hl (by omega)), h4.grown hg (owns_ne hl (by omega)), h5.kept hg (rows_apart' h5 h6), ho⟩
theorem PInv.set {w : World} {B b1 b2 g b3 c : Nat} {x y y' : WindowL} {out : List WindowL} {v9 : Value} {gv : List Nat} {wr wz : World} (h : PInv w B b1 b2 g b3 c x y out v9 gv wr) (ho : RowW wz b3 y') (hg : wr.grownBy wz (some b3)) : PInv w B b1 b2 g b3 c x y' out v9 gv wz := by
  obtain ⟨⟨a1, a2, a3, a4, a5, a6⟩, h1, h2, h3, h4, h5, h6⟩ := h
  have n6 : v9.ownBlock ≠ some b3 := fun e => by have := Own.lt h6 e; omega
  have hBl : Below w.heap.size wr wz := ⟨hg.os, hg.tape, hg.output, hg.size, fun k hk => hg.block k (by omega) (by simp; omega)⟩
  exact ⟨⟨a1, a2, a3, a4, a5, Nat.le_trans a6 hg.size⟩, h1.trans hBl, h2.grown hg (by simp; omega), h3.grown hg (by simp; omega), ho, h5.kept hg (.inr (by simp [Value.ownBlock]; omega)), h6.kept hg (.inr n6)⟩
def PRel2 (w : World) (B b1 b2 g b3 c : Nat) (l : List WindowL) (x : WindowL) (v7 v9 i : Value) (wr : World) : Prop :=
  ∃ j : Nat, j ≤ l.length ∧ i = .int .i64 (j : Int) ∧ v7 = .slice (some ⟨g, 0, none⟩) (restTo l x j).length c ∧ PInv w B b1 b2 g b3 c x (hullTo l x j) (restTo l x j) v9 (gaveTo l x j) wr
def PG (w : World) (B b1 b2 g b3 c : Nat) (X y : WindowL) (out M : List WindowL) (v9 : Value) (gv : List Nat) (k : Nat) (w' : World) : Prop :=
  cond (Nat.ble k 1) (PInv w B b1 b2 g b3 c X y out v9 gv w') (cond (Nat.ble k 2) (PInv w B b1 b2 g b3 c X y M v9 gv w') (RowW w' b3 y ∧ RowW w' b2 y ∧ OwnW w' (b2 + 1) (.slice (some ⟨g, 0, none⟩) M.length c) M ∧ OwnN w' B v9 gv ∧ Below w.heap.size w w'))
theorem PG.row {w : World} {B b1 b2 g b3 c : Nat} {X y : WindowL} {out M : List WindowL} {v9 : Value} {gv : List Nat} {k : Nat} {w' : World} (h : PG w B b1 b2 g b3 c X y out M v9 gv k w') : RowW w' b3 y := by
  unfold PG at h
  cases h1 : Nat.ble k 1 <;> rw [h1] at h
  · cases h2 : Nat.ble k 2 <;> rw [h2] at h
    · exact h.1
    · exact h.2.2.2.2.1
  · exact h.2.2.2.2.1
theorem takeL_yes {l : List WindowL} {w : WindowL} (hl : Settled l) (hw : w.rightB = true) : takeL l w = (takeS l w, became l w, gaveW l w) := by rw [takeL, if_pos ⟨hl, hw⟩]
theorem takeL_no {l : List WindowL} {w : WindowL} (h : ¬ (Settled l ∧ w.rightB = true)) : takeL l w = (l, zeroW, []) := by rw [takeL, if_neg h]
end Go.Proofs.YtjeeghafachebaaGreat
namespace Go.Proofs.YtjeeghafachebaaGreat
open Go Go.RowKit
theorem wpList_makeW (w : World) {ops : Array Oper} {rest : List Oper} {o : Oper} {a : Act} {Q : Exit → Act → World → Prop} (hg : o.guard = none) (l c : Operand) (hop : o.op = Op.makeSlice 84 l c)
    (base : Nat) (C : Int) (n : Nat) (hl : a.eval l = .int .i64 0) (hc : a.eval c = .int .i64 C) (hC : C = (n : Int)) (hn : n ≤ 1000000) (hb : base ≤ w.heap.size)
    (hK : ∀ w', OwnW w' base (.slice (some ⟨w.heap.size, 0, none⟩) 0 n) [] → Below w.heap.size w w' → wpList Tryz.prog ops Q rest (a.put o.dst (.slice (some ⟨w.heap.size, 0, none⟩) 0 n)) w') : wpList Tryz.prog ops Q (o :: rest) a w := by
  obtain ⟨i, hi, hz0, hz1, hz2⟩ := info_parts (P := Tryz.prog) (e := 47) (z := .agg #[.string ⟨#[]⟩, .int .i64 0, .int .i64 0]) (size := 3) (bytes := 32) (by kernel_rfl)
  refine wpList_make_own w hg l c 84 hop base 47 i _ 3 Tryz.underlying84 hi hz0 hz1 .i64 .i64 C n hl hc hC (by rw [hz2]; omega) (by unfold maxLen; omega) hb ?_
  intro w' h1 h2
  exact hK w' h1 ⟨h2.os, h2.tape, h2.output, h2.size, fun k hk => h2.block k hk (by simp)⟩
theorem OwnW.row_ne {w : World} {B b : Nat} {v : Value} {l : List WindowL} (h : OwnW w B v l) (hb : b < B) : v.ownBlock = none ∨ v.ownBlock ≠ some b := by
  cases e : v.ownBlock with
  | none => exact .inl rfl
  | some k =>
    right
    intro he
    cases he
    have := h.lt e; omega
set_option maxRecDepth 100000 in
set_option maxHeartbeats 4000000 in
theorem stake_any (w : World) (sa : Option Addr) (sc : Nat) (l : List WindowL) (x : WindowL) (hA : WinsAt w sa l) (hk : ∀ y ∈ l, y.key.length ≤ 1000000) (hx : x.key.length ≤ 1000000) (hn : l.length ≤ 900) :
    Calls Tryz.prog 95 #[.slice sa l.length sc, .agg x.cells] w (TakeEnd w (takeL l x).1 (takeL l x).2.1 (takeL l x).2.2) := by
  obtain ⟨n, hN⟩ : ∃ n, n = l.length := ⟨_, rfl⟩; obtain ⟨P, hP⟩ : ∃ P, P = TakeEnd w (takeL l x).1 (takeL l x).2.1 (takeL l x).2.2 := ⟨_, rfl⟩; rw [← hP, ← hN]
  have HN : Hid (n = l.length ∧ n ≤ 900) := Lib.hid ⟨hN, by omega⟩
  have hn6 : n ≤ 900 := by omega
  have HA := Lib.hid hA; have HP := Lib.hid hP; obtain ⟨sb, hsb⟩ : ∃ b, b = decide (Settled l) := ⟨_, rfl⟩; obtain ⟨rb, hrb⟩ : ∃ b, b = x.rightB := ⟨_, rfl⟩
  have HCs : Hid (∀ w', Below w.heap.size w w' → Calls Tryz.prog 52 #[.slice sa n sc] w' (Below0 w' (.bool sb))) := by
    rw [hsb, hN]
    exact Lib.hid (fun w' h => sSettled_any w' sa sc l (hA.below h) hk (by omega))
  obtain ⟨X, hX⟩ : ∃ X, X = x := ⟨_, rfl⟩
  have HCr : Hid (∀ w', Calls Tryz.prog 48 #[.agg X.cells] w' (Below0 w' (.bool rb))) := by
    rw [hrb, hX]; exact Lib.hid (fun w' => wright_any w' x hx)
  have Hsb := Lib.hid hsb; have Hrb := Lib.hid hrb; obtain ⟨w2, hw2⟩ : ∃ W, W = (w.alloc (.cells x.cells 47)).alloc (.cells #[.string ⟨#[]⟩, .int .i64 0, .int .i64 0] 47) := ⟨_, rfl⟩; obtain ⟨b1, hb1⟩ : ∃ b, b = w.heap.size := ⟨_, rfl⟩; obtain ⟨b2, hb2⟩ : ∃ b, b = w.heap.size + 1 := ⟨_, rfl⟩; have hs1 : (w.alloc (.cells x.cells 47)).heap.size = w.heap.size + 1 := heap_alloc_size w _
  have H2 : Hid (RowW w2 b1 x ∧ RowW w2 b2 zeroW ∧ Below w.heap.size w w2 ∧ w.heap.size = b1 ∧ b2 = b1 + 1 ∧ w2.heap.size = b1 + 2) := by
    have k1 := (Below.refl _ w).alloc (Nat.le_refl _) (.cells x.cells 47); have k2 := (Below.refl _ (w.alloc (.cells x.cells 47))).alloc (Nat.le_refl _) (.cells #[.string ⟨#[]⟩, .int .i64 0, .int .i64 0] 47)
    refine Lib.hid ⟨?_, ?_, ?_, hb1.symm, by omega, by rw [hw2, heap_alloc_size, hs1, hb1]⟩
    · rw [hw2, hb1]; exact RowW.below (heap_alloc_new w _) k2
    · rw [hw2, hb2, ← hs1]; exact heap_alloc_new _ _
    · rw [hw2]; exact k1.trans (k2.mono k1.size)
  have HB2 : Hid (w.heap.size ≤ b2) := Lib.hid (by omega)
  clear hN hA hn hP hk hx hsb hrb; obtain ⟨xk, xl, xh⟩ := x; have HXe : Hid (X = ⟨xk, xl, xh⟩) := Lib.hid hX
  have HCr' : Hid (∀ w', Calls Tryz.prog 48 #[.agg #[Sv xk, .int .i64 xl, .int .i64 xh]] w' (Below0 w' (.bool rb))) := by
    have h := HCr.out; rw [HXe.out] at h; exact Lib.hid h
  rw [← hX] at H2 HP Hrb; unfold WindowL.cells at hw2 hs1 ⊢; simp only at hw2 hs1; obtain ⟨d0, d1, d2⟩ := H2.out.1.d3; rw [HXe.out] at d0 d1 d2; simp only at d0 d1 d2; clear hX HCr
  go_enter Tryz.func95, Tryz.ntmps95
  go_upto_region 1 with (fail)
  rw [← hw2, ← hb2, ← hb1]; clear hw2 hb1 hb2 hs1; go_wp2_with (fail); refine (HCs.out w2 H2.out.2.2.1).mono ?_; rintro e w3 ⟨rfl, hB⟩
  have H3 : Hid (RowW w3 b1 X ∧ RowW w3 b2 zeroW ∧ Below w.heap.size w w3 ∧ w.heap.size = b1 ∧ b2 = b1 + 1 ∧ b1 + 2 ≤ w3.heap.size) := by
    obtain ⟨k1, k2, k3, k4, k5, k6⟩ := H2.out
    exact Lib.hid ⟨k1.below hB, k2.below hB, k3.trans (hB.mono k3.size), k4, k5, by have := hB.size; omega⟩
  clear hB d0 d1 d2 HCs H2; obtain ⟨d0, d1, d2⟩ := H3.out.1.d3; rw [HXe.out] at d0 d1 d2; simp only at d0 d1 d2; dsimp only
  cases sb with
  | false =>
    have HT : Hid (takeL l X = (l, zeroW, [])) := Lib.hid (takeL_no (fun h => absurd h.1 (of_decide_eq_false Hsb.out.symm)))
    have H3' : Hid (RowW w3 b2 zeroW ∧ Below w.heap.size w w3 ∧ WinsAt w3 sa l ∧ b2 + 1 ≤ w3.heap.size) := Lib.hid ⟨H3.out.2.1, H3.out.2.2.1, HA.out.below H3.out.2.2.1, by have := H3.out.2.2.2; omega⟩
    clear d0 d1 d2
    go_upto_region 2 with (fail)
    refine wp_region_lit ?_
    iterate 3 go_step
    refine wpList_appendW rfl (.const (Value.slice none 0 0)) (.tmp 22) rfl (b2 + 1) (.slice none 0 0) [] l rfl (OwnW.nil _ _) sa sc n HN.out.1 rfl H3'.out.2.2.1 (by have := HN.out; simp; omega) H3'.out.2.2.2 ?_
    intro vq wq k1 k2 _; rw [List.nil_append] at k1
    have H4 : Hid (RowW wq b2 zeroW ∧ Below w.heap.size w wq ∧ OwnW wq (b2 + 1) vq l) := by
      have hB : Below w3.heap.size w3 wq := ⟨k2.os, k2.tape, k2.output, k2.size, fun k hk => k2.block k hk (by simp [Value.ownBlock])⟩
      exact Lib.hid ⟨H3'.out.1.below hB, H3'.out.2.1.trans (hB.mono H3'.out.2.1.size), k1⟩
    clear k1 k2
    iterate 6 go_step
    refine wpList_store_row rfl _ _ _ rfl b2 zeroW.cells rfl rfl 47 zeroW.cells H4.out.1 window_size rfl (window_one _) ?_; obtain ⟨wz, hwz⟩ : ∃ W, W = wq.setRow b2 zeroW.cells := ⟨_, rfl⟩
    have HZ : Hid (RowW wz b2 zeroW ∧ P (.returned (.tuple #[vq, .agg zeroW.cells, .slice none 0 0])) wz) := by
      have hg := grown_setRow wq b2 zeroW.cells
      have hBl : Below w.heap.size wq (wq.setRow b2 zeroW.cells) := ⟨hg.os, hg.tape, hg.output, hg.size, fun k hk => hg.block k (by have := H4.out.2.1.size; omega) (by have := HB2.out; simp; omega)⟩
      rw [hwz, HP.out, HT.out]; refine Lib.hid ⟨H4.out.1.reset zeroW, vq, .slice none 0 0, rfl, ?_, Own.nil _ _ _, H4.out.2.1.trans hBl⟩
      exact (H4.out.2.2.kept hg (H4.out.2.2.row_ne (Nat.lt_succ_self _))).mono (by have := HB2.out; omega)
    rw [← hwz]; clear hwz; go_wp2_with (fail); exact bodyPost_ret (v := .tuple #[vq, .agg zeroW.cells, .slice none 0 0]) ((results_tmp_cell_tmp (s := 4) (p := 5) (u := 6) (ty := 47) rfl _ _ b2 47 zeroW.cells (0, 0) _ rfl HZ.out.1 Tryz.underlying47 rfl window_size).trans rfl) rfl HZ.out.2
  | true =>
    go_wp2_with (fail); refine (HCr'.out w3).mono ?_; rintro e w4 ⟨rfl, hB⟩
    have H4' : Hid (RowW w4 b1 X ∧ RowW w4 b2 zeroW ∧ Below w.heap.size w w4 ∧ w.heap.size = b1 ∧ b2 = b1 + 1 ∧ b1 + 2 ≤ w4.heap.size) := by
      obtain ⟨k1, k2, k3, k4, k5, k6⟩ := H3.out
      exact Lib.hid ⟨k1.below hB, k2.below hB, k3.trans (hB.mono k3.size), k4, k5, by have := hB.size; omega⟩
    clear hB d0 d1 d2 HCr' H3; dsimp only
    cases rb with
    | false =>
      have HT : Hid (takeL l X = (l, zeroW, [])) := Lib.hid (takeL_no (fun h => by rw [← Hrb.out] at h; cases h.2))
      have H3' : Hid (RowW w4 b2 zeroW ∧ Below w.heap.size w w4 ∧ WinsAt w4 sa l ∧ b2 + 1 ≤ w4.heap.size) := Lib.hid ⟨H4'.out.2.1, H4'.out.2.2.1, HA.out.below H4'.out.2.2.1, by have := H4'.out.2.2.2; omega⟩
      go_upto_region 2 with (fail)
      refine wp_region_lit ?_
      iterate 3 go_step
      refine wpList_appendW rfl (.const (Value.slice none 0 0)) (.tmp 22) rfl (b2 + 1) (.slice none 0 0) [] l rfl (OwnW.nil _ _) sa sc n HN.out.1 rfl H3'.out.2.2.1 (by have := HN.out; simp; omega) H3'.out.2.2.2 ?_
      intro vq wq k1 k2 _; rw [List.nil_append] at k1
      have H4 : Hid (RowW wq b2 zeroW ∧ Below w.heap.size w wq ∧ OwnW wq (b2 + 1) vq l) := by
        have hB : Below w4.heap.size w4 wq := ⟨k2.os, k2.tape, k2.output, k2.size, fun k hk => k2.block k hk (by simp [Value.ownBlock])⟩
        exact Lib.hid ⟨H3'.out.1.below hB, H3'.out.2.1.trans (hB.mono H3'.out.2.1.size), k1⟩
      clear k1 k2
      iterate 6 go_step
      refine wpList_store_row rfl _ _ _ rfl b2 zeroW.cells rfl rfl 47 zeroW.cells H4.out.1 window_size rfl (window_one _) ?_; obtain ⟨wz, hwz⟩ : ∃ W, W = wq.setRow b2 zeroW.cells := ⟨_, rfl⟩
      have HZ : Hid (RowW wz b2 zeroW ∧ P (.returned (.tuple #[vq, .agg zeroW.cells, .slice none 0 0])) wz) := by
        have hg := grown_setRow wq b2 zeroW.cells
        have hBl : Below w.heap.size wq (wq.setRow b2 zeroW.cells) := ⟨hg.os, hg.tape, hg.output, hg.size, fun k hk => hg.block k (by have := H4.out.2.1.size; omega) (by have := HB2.out; simp; omega)⟩
        rw [hwz, HP.out, HT.out]; refine Lib.hid ⟨H4.out.1.reset zeroW, vq, .slice none 0 0, rfl, ?_, Own.nil _ _ _, H4.out.2.1.trans hBl⟩
        exact (H4.out.2.2.kept hg (H4.out.2.2.row_ne (Nat.lt_succ_self _))).mono (by have := HB2.out; omega)
      rw [← hwz]; clear hwz; go_wp2_with (fail); exact bodyPost_ret (v := .tuple #[vq, .agg zeroW.cells, .slice none 0 0]) ((results_tmp_cell_tmp (s := 4) (p := 5) (u := 6) (ty := 47) rfl _ _ b2 47 zeroW.cells (0, 0) _ rfl HZ.out.1 Tryz.underlying47 rfl window_size).trans rfl) rfl HZ.out.2
    | true =>
      have HS : Hid (Settled l ∧ X.rightB = true ∧ takeL l X = (takeS l X, became l X, gaveW l X)) := Lib.hid ⟨of_decide_eq_true Hsb.out.symm, Hrb.out.symm, takeL_yes (of_decide_eq_true Hsb.out.symm) Hrb.out.symm⟩
      go_upto_region 3 with (fail)
      refine wp_region_lit ?_
      iterate 9 go_step
      refine wpList_makeW w4 rfl (.const (.int .i64 0)) (.tmp 27) rfl (b2 + 1) ((n : Int) + 1) (n + 1) rfl rfl (by omega) (by omega) (by have := H4'.out.2.2.2.2; omega) ?_
      intro w5 k1 k2; obtain ⟨g, hg⟩ : ∃ g, g = w4.heap.size := ⟨_, rfl⟩; rw [← hg] at k1 ⊢
      have H5 : Hid (RowW w5 b1 X ∧ RowW w5 b2 zeroW ∧ Below w.heap.size w w5 ∧ w.heap.size = b1 ∧ b2 = b1 + 1 ∧ b2 < g ∧ g < w5.heap.size ∧ OwnW w5 (b2 + 1) (.slice (some ⟨g, 0, none⟩) 0 (n + 1)) []) := by
        obtain ⟨j1, j2, j3, j4, j5, j6⟩ := H4'.out; have := k1.lt rfl
        exact Lib.hid ⟨j1.below k2, j2.below k2, j3.trans (k2.mono j3.size), j4, j5, by omega, this.2, k1⟩
      clear k1 k2 hg H4'; obtain ⟨d0, d1, d2⟩ := H5.out.1.d3; rw [HXe.out] at d0 d1 d2; simp only at d0 d1 d2
      go_upto_region 4 with (fail)
      refine wp_region_lit ?_
      iterate 6 go_step
      refine wpList_store_row rfl _ _ _ rfl w5.heap.size (WindowL.mk xk xl xh).cells rfl rfl 47 zeroW.cells (heap_alloc_new w5 _) window_size rfl (window_one _) ?_; obtain ⟨w6, hw6⟩ : ∃ W, W = (w5.alloc (Obj.cells #[.string ⟨#[]⟩, .int .i64 0, .int .i64 0] 47)).setRow w5.heap.size (WindowL.mk xk xl xh).cells := ⟨_, rfl⟩; obtain ⟨b3, hb3⟩ : ∃ b, b = w5.heap.size := ⟨_, rfl⟩
      have Hw6 : Hid (RowW w6 b3 (WindowL.mk xk xl xh) ∧ Below w5.heap.size w5 w6) := by
        obtain ⟨k1, k2⟩ := stored_window w5 (WindowL.mk xk xl xh); rw [hw6, hb3]; exact Lib.hid ⟨k1, k2⟩
      have Hb3 : Hid (b3 = w5.heap.size) := Lib.hid hb3; rw [← hw6, ← hb3]; clear hw6 hb3
      have H6 : Hid (PInv w (b3 + 1) b1 b2 g b3 (n + 1) X X [] (.slice none 0 0) [] w6) := by
        obtain ⟨h1, h2, h3, h4, h5, h6, h7, h8⟩ := H5.out; obtain ⟨k1, k2⟩ := Hw6.out; have e := Hb3.out; have hlt := k1.lt; rw [← HXe.out] at k1
        exact Lib.hid ⟨⟨by omega, by omega, by omega, by omega, by omega, by omega⟩, h3.trans (k2.mono h3.size), h1.below k2, h2.below k2, k1, h8.far k2, Own.nil _ _ _⟩
      clear d0 d1 d2 H5 Hw6 Hb3; go_wp2_with (fail)
      go_loopw [7, 9, 32] (PRel2 w (b3 + 1) b1 b2 g b3 (n + 1) l X) (fun _ _ i _ => n - (intOf i).toNat)
      case atStart => exact ⟨0, Nat.zero_le _, rfl, rfl, H6.out⟩
      case round =>
        obtain ⟨j, hj, rfl, hv, hT⟩ := hrel; obtain ⟨m, hm⟩ : ∃ m, m = (restTo l X j).length := ⟨_, rfl⟩; rw [← hm] at hv; subst hv; rw [← HN.out.1] at hj; have HT := Lib.hid hT; have Hm := Lib.hid hm
        have hmj : m ≤ j := by rw [hm]; exact restTo_le _ _ _
        clear hT hm; obtain ⟨v9, hv9⟩ : ∃ v, v = u9 := ⟨_, rfl⟩; subst hv9
        by_cases hlt : j < n
        · have hi0 : (0 : Int) ≤ (j : Int) ∧ (j : Int) < (n : Int) := by omega
          obtain ⟨o, pa, po, ho, hsa, c0, c1, c2⟩ := (HA.out.below HT.out.2.1).get (t := j) (by rw [← HN.out.1]; exact hlt)
          subst hsa; have HO := Lib.hid (And.intro ho (And.intro hlt hmj)); have HOr : Hid (o.rightB = true) := Lib.hid (HS.out.1.1 o (List.mem_of_getElem? ho)); obtain ⟨ok, ol, oh⟩ := o; simp only at c0 c1 c2; clear ho hj hlt hmj
          go_upto_region 8 with (fail)
          refine wp_region_lit ?_
          iterate 15 go_step
          refine wpList_store_row rfl _ _ _ rfl wr.heap.size (WindowL.mk ok ol oh).cells rfl rfl 47 zeroW.cells (heap_alloc_new wr _) window_size rfl (window_one _) ?_; obtain ⟨W1, hwx⟩ : ∃ W, W = (wr.alloc (Obj.cells #[.string ⟨#[]⟩, .int .i64 0, .int .i64 0] 47)).setRow wr.heap.size (WindowL.mk ok ol oh).cells := ⟨_, rfl⟩; obtain ⟨ob, hob⟩ : ∃ b, b = wr.heap.size := ⟨_, rfl⟩
          have Hwx : Hid (RowW W1 ob (WindowL.mk ok ol oh) ∧ Below wr.heap.size wr W1) := by
            obtain ⟨k1, k2⟩ := stored_window wr (WindowL.mk ok ol oh); rw [hwx, hob]; exact Lib.hid ⟨k1, k2⟩
          have Hob : Hid (b3 + 1 ≤ ob) := Lib.hid (by rw [hob]; exact HT.out.1.2.2.2.2.2)
          rw [← hwx, ← hob]; clear hwx hob; clear c0 c1 c2; have H1 : Hid (PInv w (b3 + 1) b1 b2 g b3 (n + 1) X (hullTo l X j) (restTo l X j) v9 (gaveTo l X j) W1) := Lib.hid (HT.out.below Hwx.out.2); clear HT; obtain ⟨jb, hjb⟩ : ∃ b, b = joinsB ⟨ok, ol, oh⟩ X := ⟨_, rfl⟩
          have HJ : Hid (∀ w', Calls Tryz.prog 114 #[.agg #[Sv ok, .int .i64 ol, .int .i64 oh], .agg #[Sv xk, .int .i64 xl, .int .i64 xh]] w' (Below0 w' (.bool jb))) := by
            rw [hjb, ← meetB_join HOr.out HS.out.2.1, HXe.out]; exact Lib.hid (fun w' => smeet_any w' ⟨ok, ol, oh⟩ ⟨xk, xl, xh⟩)
          have Hjb := Lib.hid hjb; clear hjb; obtain ⟨d0, d1, d2⟩ := H1.out.2.2.1.d3; rw [HXe.out] at d0 d1 d2; obtain ⟨e0, e1, e2⟩ := Hwx.out.1.d3; simp only at d0 d1 d2 e0 e1 e2; go_wp2_with (fail); refine (HJ.out W1).mono ?_; rintro e w4_ ⟨rfl, hB⟩; have H4 : Hid (PInv w (b3 + 1) b1 b2 g b3 (n + 1) X (hullTo l X j) (restTo l X j) v9 (gaveTo l X j) w4_ ∧ RowW w4_ ob ⟨ok, ol, oh⟩ ∧ b3 + 1 ≤ ob) := Lib.hid ⟨H1.out.below hB, Hwx.out.1.below hB, Hob.out⟩; clear hB d0 d1 d2 e0 e1 e2; dsimp only
          cases jb with
          | true =>
            have HG : Hid (gaveTo l X (j + 1) = gaveTo l X j ++ [j] ∧ restTo l X (j + 1) = restTo l X j ∧ hullTo l X (j + 1) = wholeW (hullTo l X j) ⟨ok, ol, oh⟩) := by
              rw [gaveTo_succ HO.out.1, restTo_succ HO.out.1, hullTo_succ HO.out.1, ← Hjb.out]
              exact Lib.hid ⟨rfl, by simp, hullW_whole Hjb.out.symm⟩
            obtain ⟨y, hy⟩ : ∃ y, y = hullTo l X j := ⟨_, rfl⟩; rw [← hy] at H4 HG; clear hy; obtain ⟨yk, yl, yh⟩ := y; obtain ⟨u, hu⟩ : ∃ u, u = wholeW ⟨yk, yl, yh⟩ ⟨ok, ol, oh⟩ := ⟨_, rfl⟩
            have HWc : Hid (∀ w', Calls Tryz.prog 119 #[.agg #[Sv yk, .int .i64 yl, .int .i64 yh], .agg #[Sv ok, .int .i64 ol, .int .i64 oh]] w' (Below0 w' (.agg u.cells))) := by
              rw [hu]; exact Lib.hid (fun w' => swhole_any w' ⟨yk, yl, yh⟩ ⟨ok, ol, oh⟩)
            rw [← hu] at HG; clear hu; obtain ⟨d0, d1, d2⟩ := H4.out.1.2.2.2.2.1.d3; obtain ⟨e0, e1, e2⟩ := H4.out.2.1.d3; simp only at d0 d1 d2 e0 e1 e2
            go_upto_region 11 with (fail)
            refine wp_region_lit ?_
            iterate 6 go_step
            refine wpList_plain rfl fun K hK => ?_; go_step; refine (HWc.out w4_).mono ?_; rintro e w5 ⟨rfl, hB⟩; refine hK _ _ ?_; clear hK; have H5 : Hid (PInv w (b3 + 1) b1 b2 g b3 (n + 1) X ⟨yk, yl, yh⟩ (restTo l X j) v9 (gaveTo l X j) w5) := Lib.hid (H4.out.1.below hB); clear hB d0 d1 d2 e0 e1 e2 H4; refine wpList_store_row rfl _ _ _ rfl b3 u.cells rfl rfl 47 (WindowL.mk yk yl yh).cells H5.out.2.2.2.2.1 window_size rfl (window_one _) ?_; obtain ⟨w6_, hw6⟩ : ∃ W, W = w5.setRow b3 u.cells := ⟨_, rfl⟩
            have H6_ : Hid (PInv w (b3 + 1) b1 b2 g b3 (n + 1) X u (restTo l X j) v9 (gaveTo l X j) w6_) := by
              rw [hw6]; exact Lib.hid (H5.out.set (H5.out.2.2.2.2.1.reset u) (grown_setRow w5 b3 u.cells))
            rw [← hw6]; clear hw6 H5
            go_upto_region 12 with (fail)
            refine wp_region_lit ?_
            iterate 9 go_step
            have HgL : Hid ((natsV (gaveTo l X j)).length + 1 ≤ 1000) := Lib.hid (by have h := gaveTo_le l X j; have := HO.out.2.1; simp only [natsV, List.length_map]; omega)
            have H7 : Hid (PInv w (b3 + 1) b1 b2 g b3 (n + 1) X u (restTo l X j) v9 (gaveTo l X j) (w6_.alloc (.cells #[.int .i64 (j : Int)] 3))) := by
              have hB := (Below.refl _ w6_).alloc (Nat.le_refl _) (.cells #[.int .i64 (j : Int)] 3); exact Lib.hid (H6_.out.below hB)
            refine wpList_push Tryz.underlying48 infoI rfl rfl (.tmp 48) (.tmp 50) rfl (b3 + 1) v9 (natsV (gaveTo l X j)) rfl H7.out.2.2.2.2.2.2 (.int .i64 (j : Int)) w6_.heap.size rfl (by rw [cell_of_row _ _ _ _ _ _ (heap_alloc_new w6_ _)]; rfl) rfl HgL.out H7.out.1.2.2.2.2.2 (by decide) ?_
            intro g' w7 k1 k2 k3
            have H8 : Hid (PRel2 w (b3 + 1) b1 b2 g b3 (n + 1) l X (.slice (some ⟨g, 0, none⟩) m (n + 1)) g' (.int .i64 ((j : Int) + 1)) w7) := by
              have k1' : OwnN w7 (b3 + 1) g' (gaveTo l X (j + 1)) := by
                rw [HG.out.1]; unfold OwnN natsV; rw [List.map_append]; exact k1
              have h := H7.out.pushN k1' k2
              refine Lib.hid ⟨j + 1, by have := HO.out.2.1; have := HN.out.1; omega, by go_num, by rw [HG.out.2.1, Hm.out], ?_⟩
              rw [HG.out.2.1, HG.out.2.2]; exact h
            clear k1 k2 k3; have HJn := Lib.hid HO.out.2.1; go_wp2_with (fail); go_roundw
            case rel => exact H8.out
            case measure => have := HJn.out; simp [intOf]; omega
          | false =>
            have HG : Hid (gaveTo l X (j + 1) = gaveTo l X j ∧ restTo l X (j + 1) = restTo l X j ++ [⟨ok, ol, oh⟩] ∧ hullTo l X (j + 1) = hullTo l X j) := by
              rw [gaveTo_succ HO.out.1, restTo_succ HO.out.1, hullTo_succ HO.out.1, hullW, ← Hjb.out]
              exact Lib.hid ⟨by simp, rfl, rfl⟩
            obtain ⟨e0, e1, e2⟩ := H4.out.2.1.d3; simp only at e0 e1 e2
            go_upto_region 10 with (fail)
            refine wp_region_lit ?_
            iterate 6 go_step
            refine wpList_slice1_W rfl (.tmp 42) rfl ⟨ok, ol, oh⟩ rfl ?_; obtain ⟨w8, hw8⟩ : ∃ W, W = w4_.alloc (.cells (WindowL.mk ok ol oh).cells 47) := ⟨_, rfl⟩; obtain ⟨gb, hgb⟩ : ∃ b, b = w4_.heap.size := ⟨_, rfl⟩
            have H8 : Hid (PInv w (b3 + 1) b1 b2 g b3 (n + 1) X (hullTo l X j) (restTo l X j) v9 (gaveTo l X j) w8 ∧ (∀ j z, (WindowL.mk ok ol oh).cells[j]? = some z → w8.cell? ⟨gb, j, none⟩ = some z)) := by
              have hB : Below w4_.heap.size w4_ w8 := by rw [hw8]; exact (Below.refl _ w4_).alloc (Nat.le_refl _) _
              refine Lib.hid ⟨H4.out.1.below hB, fun j z hz => ?_⟩; rw [hw8, hgb, cell_of_row _ _ _ _ _ _ (heap_alloc_new w4_ _)]; exact hz
            rw [← hw8, ← hgb]; clear hw8 hgb e0 e1 e2
            have Hown : Hid (OwnW w8 (b2 + 1) (.slice (some ⟨g, 0, none⟩) m (n + 1)) (restTo l X j)) := by
              have h := H8.out.1.2.2.2.2.2.1; rw [← Hm.out] at h; exact Lib.hid h
            refine wpList_fitsW rfl (.tmp 41) (.tmp 43) rfl rfl Hown.out Hm.out ⟨ok, ol, oh⟩ gb rfl H8.out.2 (by have := HO.out.2; omega) ?_
            intro w9 g1 g2
            have H9 : Hid (PRel2 w (b3 + 1) b1 b2 g b3 (n + 1) l X (.slice (some ⟨g, 0, none⟩) (m + 1) (n + 1)) v9 (.int .i64 ((j : Int) + 1)) w9) := by
              have e : (restTo l X j ++ [WindowL.mk ok ol oh]).length = m + 1 := by rw [List.length_append, Hm.out]; rfl
              refine Lib.hid ⟨j + 1, by have := HO.out.2; have := HN.out.1; omega, by go_num, by rw [HG.out.2.1, e], ?_⟩
              rw [HG.out.1, HG.out.2.1, HG.out.2.2]
              exact H8.out.1.pushW (by rw [e]; exact g1) g2
            clear g1 g2; have HJn := Lib.hid HO.out.2.1; go_wp2_with (fail); go_roundw
            case rel => exact H9.out
            case measure => have := HJn.out; simp [intOf]; omega
        · obtain rfl : j = n := by omega
          have HT' : Hid (PInv w (b3 + 1) b1 b2 g b3 (j + 1) X (became l X) (restW l X) v9 (gaveW l X) wr ∧ m = (restW l X).length) := by
            have h := HT.out; have h2 := Hm.out; rw [HN.out.1] at h2; rw [restTo_all] at h2
            have e : PInv w (b3 + 1) b1 b2 g b3 (j + 1) X (hullTo l X l.length) (restTo l X l.length) v9 (gaveTo l X l.length) wr := by
              have := h; rw [← HN.out.1]; exact this
            rw [hullTo_all, restTo_all, gaveTo_all] at e; exact Lib.hid ⟨e, h2⟩
          obtain ⟨out, hout⟩ : ∃ o, o = restW l X := ⟨_, rfl⟩; obtain ⟨y, hy⟩ : ∃ o, o = became l X := ⟨_, rfl⟩; obtain ⟨gv, hgv⟩ : ∃ o, o = gaveW l X := ⟨_, rfl⟩
          have HIns : Hid (∀ p, placeAt out y p → out.take p ++ [y] ++ out.drop p = takeS l X) := by
            rw [hout, hy]; exact Lib.hid (fun p hp => takeS_insert HS.out.1 HS.out.2.1 hp)
          have HSo : Hid (out.Pairwise aheadP) := by
            rw [hout]; exact Lib.hid ((HS.out.1.2.imp (fun h => h.1)).sublist List.filter_sublist)
          have HPz : Hid (∀ wz v4 B, OwnW wz B v4 (takeS l X) → OwnN wz (b3 + 1) v9 gv → Below w.heap.size w wz → w.heap.size ≤ B → w.heap.size ≤ b3 → P (.returned (.tuple #[v4, .agg y.cells, v9])) wz) := by
            refine Lib.hid (fun wz v4 B h1 h2 h3 h4 h5 => ?_); rw [HP.out, HS.out.2.2]
            refine ⟨v4, v9, by rw [hy], h1.mono h4, ?_, h3⟩
            rw [← hgv]
            exact Own.mono h2 (by omega)
          rw [← hout, ← hy, ← hgv] at HT'; have HmN : Hid (m ≤ j ∧ j ≤ 900) := Lib.hid ⟨hmj, hn6⟩; clear hout hy hgv HT Hm hlt hj hmj HS; obtain ⟨VY, hVY⟩ : ∃ V, V = Value.agg y.cells := ⟨_, rfl⟩; have HV := Lib.hid hVY
          have HBs : Hid (∀ w', WinsAt w' (some ⟨g, 0, none⟩) out → Calls Tryz.prog 120 #[.slice (some ⟨g, 0, none⟩) m (j + 1), VY, .func (.func 54) #[] #[]] w' (SeekEnd w' out y)) := by
            rw [hVY, HT'.out.2]
            exact Lib.hid (fun w' h => bsearch_any w' _ _ out y h HSo.out (by rw [← HT'.out.2]; have := HmN.out; omega))
          have HPv : Hid (∀ wz v4 B, OwnW wz B v4 (takeS l X) → OwnN wz (b3 + 1) v9 gv → Below w.heap.size w wz → w.heap.size ≤ B → w.heap.size ≤ b3 → P (.returned (.tuple #[v4, VY, v9])) wz) := by rw [hVY]; exact HPz
          clear hVY; obtain ⟨yk, yl, yh⟩ := y; have HVe : Hid (VY = .agg #[Sv yk, .int .i64 yl, .int .i64 yh]) := Lib.hid HV.out; obtain ⟨d0, d1, d2⟩ := HT'.out.1.2.2.2.2.1.d3; simp only at d0 d1 d2; go_wp2_with (fail); rw [← HVe.out]
          refine (HBs.out wr (by obtain ⟨a, c, e, _, hW⟩ := HT'.out.1.2.2.2.2.2.1.form; cases e; exact hW)).mono ?_
          rintro e w4_ ⟨p, fb, rfl, hp, hB⟩
          have hpm : p ≤ m := by rw [HT'.out.2]; exact hp.1
          obtain ⟨M, hM⟩ : ∃ M, M = out.take p ++ [⟨yk, yl, yh⟩] ++ out.drop p := ⟨_, rfl⟩
          have HM : Hid (M = takeS l X ∧ M = out.take p ++ [⟨yk, yl, yh⟩] ++ out.drop p ∧ M.length = m + 1 ∧ p ≤ out.length ∧ m = out.length) := by
            refine Lib.hid ⟨hM.trans (HIns.out p hp), hM, ?_, hp.1, HT'.out.2⟩; rw [hM]; simp; have := HT'.out.2; omega
          have H4 : Hid (PInv w (b3 + 1) b1 b2 g b3 (j + 1) X ⟨yk, yl, yh⟩ out v9 gv w4_) := Lib.hid (HT'.out.1.below hB); clear hB hp hM d0 d1 d2 HBs HIns HT' HSo; obtain ⟨Y, hY⟩ : ∃ Y, Y = WindowL.mk yk yl yh := ⟨_, rfl⟩; rw [← hY] at H4 HM HV; have HVY : Hid (VY = Value.agg Y.cells) := Lib.hid HV.out
          have HYc : Hid (Value.agg Y.cells = Value.agg (WindowL.mk yk yl yh).cells) := by rw [hY]; exact Lib.hid rfl
          clear hY HV HVe HPz
          have HBd : Hid (w.heap.size ≤ b2 + 1 ∧ w.heap.size ≤ b3) := Lib.hid (by have := H4.out.1; omega)
          have HG0 : Hid (PG w (b3 + 1) b1 b2 g b3 (j + 1) X Y out M v9 gv 0 w4_.drew) := Lib.hid (H4.out.below (Below.refl _ w4_).drew); have HGy : Hid (∀ k w', PG w (b3 + 1) b1 b2 g b3 (j + 1) X Y out M v9 gv k w' → RowW w' b3 Y) := Lib.hid (fun k w' h => PG.row h); clear H4; dsimp only
          go_upto_region 15 with (fail)
          refine wp_region_skip_frame (fun i => ([] : List Nat).contains i) (by kernel_rfl) [none, none, none, some 0, some 1, none, none, none, some 2, none] [3, 4, 8] (V4 ((Value.slice (some ⟨g, 0, none⟩) m (j + 1)) :: (Value.int .i64 (p : Int)) :: VY :: undef :: (Value.slice (some ⟨g, 0, none⟩) (m + 1) (j + 1)) :: VY :: v9 :: (Value.slice (some ⟨g, 0, none⟩) (m + 1) (j + 1)) :: undef :: v9 :: ([] : List Value)) 3 (fun k w' v => k = 1 → ∃ gb, v = .slice (some ⟨gb, 0, none⟩) 1 1 ∧ RowW w' gb Y ∧ b3 < gb) 99 (fun _ _ _ => True) 98 (fun _ _ _ => True) 97 (fun _ _ _ => True)) (PG w (b3 + 1) b1 b2 g b3 (j + 1) X Y out M v9 gv) (fun w w' => Below w.heap.size w w') (V4_le _ (fun k w w' v h ha hk => by obtain ⟨gb, h1, h2, h3⟩ := ha hk; exact ⟨gb, h1, h2.below h, h3⟩) (fun _ _ _ _ _ h => h) (fun _ _ _ _ _ h => h) (fun _ _ _ _ _ h => h)) (by kernel_rfl) (by kernel_rfl) (by kernel_rfl) HG0.out (fun _ => ⟨rfl, rfl, rfl, rfl, rfl, rfl, rfl, rfl, rfl, rfl, trivial⟩) (fun _ h => by simp at h) ?_ ?_
          · refine ⟨?_, ?_, ?_, ?_, ?_, ?_, ?_, ?_, ?_, ?_, trivial⟩
            · intro _ _ a w' hG hout hpre K hK; have q7 := ev_of ((hout 7 rfl).trans (show _ = .slice (some ⟨g, 0, none⟩) m (j + 1) from rfl)); clear hout hpre; go_step; exact hK _ _ rfl hG (Below.refl _ _)
            · intro _ _ a w' hG hout hpre K hK; have q12 := ev_of ((hout 12 rfl).trans (show _ = .int .i64 (p : Int) from rfl)); clear hout hpre; go_step; exact hK _ _ rfl hG (Below.refl _ _)
            · intro _ _ a w' hG hout hpre K hK; have q8 := ev_of ((hout 8 rfl).trans (show _ = .pointer (some ⟨b3, 0, none⟩) from rfl)); obtain ⟨d0, d1, d2⟩ := (HGy.out _ _ hG).d3; clear hout hpre; go_step; exact hK _ _ HVY.out.symm hG (Below.refl _ _)
            · intro _ a w' hG hout hpre K hK; obtain ⟨p0, _⟩ := hpre; have q61 := (show a.eval (.tmp 61) = VY from p0); clear hout p0; rw [HVY.out] at q61; refine wp_slice1_W (.tmp 61) rfl Y q61 ?_; have hB : Below w'.heap.size w' (w'.alloc (.cells Y.cells 47)) := (Below.refl _ w').alloc (Nat.le_refl _) _; have hG1 : PInv w (b3 + 1) b1 b2 g b3 (j + 1) X Y out v9 gv w' := hG; exact hK _ _ (fun _ => ⟨w'.heap.size, rfl, heap_alloc_new w' _, hG1.1.2.2.2.2.2⟩) (hG1.below hB) (V4_keep (.inl rfl) (.inr fun _ h => h) (.inr fun _ h => h) (.inr fun _ h => h))
            · intro _ a w' hG hout hpre K hK; obtain ⟨p0, p1, p2, _⟩ := hpre; have q59 := ev_of (show a.eval (.tmp 59) = .slice (some ⟨g, 0, none⟩) m (j + 1) from p0); have q60 := ev_of (show a.eval (.tmp 60) = .int .i64 (p : Int) from p1); obtain ⟨gb, hv, hr, hgb⟩ := (show (1 = 1) → (∃ gb, a.eval (.tmp 62) = .slice (some ⟨gb, 0, none⟩) 1 1 ∧ RowW w' gb Y ∧ b3 < gb) from p2) rfl; have q62 := ev_of hv; have hG1 : PInv w (b3 + 1) b1 b2 g b3 (j + 1) X Y out v9 gv w' := hG
              have HS2 : Hid (Calls Tryz.prog 121 #[.slice (some ⟨g, 0, none⟩) m (j + 1), .int .i64 (p : Int), .slice (some ⟨gb, 0, none⟩) 1 1] w' (fun e w3 => e = .returned (.slice (some ⟨g, 0, none⟩) (m + 1) (j + 1)) ∧ OwnW w3 (b2 + 1) (.slice (some ⟨g, 0, none⟩) (m + 1) (j + 1)) M ∧ w'.grownBy w3 (some g))) := by
                have h := insert_any w' (b2 + 1) g (j + 1) p gb out Y hG1.2.2.2.2.2.1 hr (by have := hG1.1; omega) HM.out.2.2.2.1 (by have := HM.out.2.2.2.2; have := HmN.out; omega) (by have := HmN.out; omega)
                rw [← HM.out.2.2.2.2, ← HM.out.2.1] at h; exact Lib.hid h
              have HG1 := Lib.hid hG1; clear hout p0 p1 p2 hv hr hgb hG hG1; go_step; refine HS2.out.mono ?_; rintro e w3 ⟨rfl, k1, k2⟩
              exact hK _ _ rfl (HG1.out.pushW (by rw [HM.out.2.2.1]; exact k1) k2) (V4_keep (.inr fun u _ hk => absurd hk (by decide)) (.inr fun _ h => h) (.inr fun _ h => h) (.inr fun _ h => h))
            · intro _ _ a w' hG hout hpre K hK; have q8 := ev_of ((hout 8 rfl).trans (show _ = .pointer (some ⟨b3, 0, none⟩) from rfl)); obtain ⟨d0, d1, d2⟩ := (HGy.out _ _ hG).d3; clear hout hpre; go_step; exact hK _ _ HVY.out.symm hG (Below.refl _ _)
            · intro _ _ a w' hG hout hpre K hK; have q9 := ev_of ((hout 9 rfl).trans (show _ = v9 from rfl)); clear hout hpre; go_step; exact hK _ _ rfl hG (Below.refl _ _)
            · intro _ _ a w' hG hout hpre K hK; obtain ⟨p0, _⟩ := hpre; have q63 := ev_of (show a.eval (.tmp 63) = .slice (some ⟨g, 0, none⟩) (m + 1) (j + 1) from p0); clear hout p0; go_step; exact hK _ _ rfl hG (Below.refl _ _)
            · intro _ a w' hG hout hpre K hK; obtain ⟨p0, _⟩ := hpre; have q64 := (show a.eval (.tmp 64) = VY from p0); have q5 := ((hout 5 rfl).trans (show _ = Value.pointer (some ⟨b2, 0, none⟩) from rfl)); have hG1 : PInv w (b3 + 1) b1 b2 g b3 (j + 1) X Y M v9 gv w' := hG; rw [HVY.out] at q64; clear hout p0 hG; refine wp_storeW (.tmp 5) (.tmp 64) rfl b2 Y zeroW q5 q64 hG1.2.2.2.1 ?_; obtain ⟨⟨a1, a2, a3, a4, a5, a6⟩, h1, h2, h3, h4, h5, h6⟩ := hG1; have hg := grown_setRow w' b2 Y.cells
              have hBl : Below w.heap.size w' (w'.setRow b2 Y.cells) := ⟨hg.os, hg.tape, hg.output, hg.size, fun k hk => hg.block k (by have := h1.size; omega) (by simp; omega)⟩
              exact hK _ _ rfl ⟨h4.grown hg (by simp; omega), h3.reset Y, h5.kept hg (.inr (by simp [Value.ownBlock]; omega)), h6.kept hg (.inr (fun e => by have := Own.lt h6 e; omega)), h1.trans hBl⟩ (V4_keep (.inr fun u _ hk => absurd hk (by decide)) (.inr fun _ h => h) (.inr fun _ h => h) (.inr fun _ h => h))
            · intro _ _ a w' hG hout hpre K hK; obtain ⟨p0, _⟩ := hpre; have q65 := ev_of (show a.eval (.tmp 65) = v9 from p0); clear hout p0; go_step; exact hK _ _ rfl hG (Below.refl _ _)
          · intro vs w2_ hG hlen hV
            match vs, hlen, hV with
            | [v0, v1, v2, v3, v4, v5, v6, v7, v8, v9_], _, hV =>
              obtain rfl : v7 = .slice (some ⟨g, 0, none⟩) (m + 1) (j + 1) := hV 7 4 v7 rfl rfl; obtain rfl : v9_ = v9 := hV 9 6 v9_ rfl rfl; have hG1 : RowW w2_ b3 Y ∧ RowW w2_ b2 Y ∧ OwnW w2_ (b2 + 1) (.slice (some ⟨g, 0, none⟩) M.length (j + 1)) M ∧ OwnN w2_ (b3 + 1) v9_ gv ∧ Below w.heap.size w w2_ := hG
              have HZ : Hid (RowW w2_ b2 Y ∧ P (.returned (.tuple #[.slice (some ⟨g, 0, none⟩) (m + 1) (j + 1), .agg Y.cells, v9_])) w2_) := by
                have h := HPv.out w2_ (.slice (some ⟨g, 0, none⟩) (m + 1) (j + 1)) (b2 + 1) (by rw [← HM.out.1, ← HM.out.2.2.1]; exact hG1.2.2.1) hG1.2.2.2.1 hG1.2.2.2.2 HBd.out.1 HBd.out.2
                rw [HVY.out] at h; exact Lib.hid ⟨hG1.2.1, h⟩
              clear hV hG hG1; simp only [putsL, List.tail_cons, List.headD_cons]; simp only [Act.put, List.setIfInBounds_toArray, List.set_cons_succ, List.set_cons_zero]; go_wp2_with (fail); exact bodyPost_ret (v := .tuple #[.slice (some ⟨g, 0, none⟩) (m + 1) (j + 1), .agg Y.cells, v9_]) ((results_tmp_cell_tmp (s := 4) (p := 5) (u := 6) (ty := 47) rfl _ _ b2 47 Y.cells (0, 0) _ rfl HZ.out.1 Tryz.underlying47 rfl window_size).trans rfl) rfl HZ.out.2
end Go.Proofs.YtjeeghafachebaaGreat
