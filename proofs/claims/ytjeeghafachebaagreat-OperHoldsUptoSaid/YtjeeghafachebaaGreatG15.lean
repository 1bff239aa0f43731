/-
  Part 15 of 53 of what the proof leans on.
-/
import Derived.Test.YtjeeghafachebaaGreatG8
import Derived.Test.YtjeeghafachebaaGreatG11
import Derived.Test.YtjeeghafachebaaGreatG14
namespace Go.Proofs.YtjeeghafachebaaGreat
open Go Go.RowKit
def TyI (w : World) (b : Nat) : Prop := ∃ cur, w.heap[b]? = some (.cells cur 3 (0, 0))
theorem TyI.lt {w : World} {b : Nat} (h : TyI w b) : b < w.heap.size := by
  obtain ⟨_, h⟩ := h; exact (Array.getElem?_eq_some_iff.1 h).1
theorem TyI.below {w w' : World} {b : Nat} (h : TyI w b) (hB : Below w.heap.size w w') : TyI w' b := by
  have hl := h.lt; obtain ⟨cur, h⟩ := h; exact ⟨cur, (hB.block b hl).trans h⟩
def IntsAt (w : World) (v : Value) (l : List Int) : Prop :=
  ∃ a c, v = .slice a l.length c ∧ l.length ≤ c ∧ ((a = none ∧ l = []) ∨ ∃ b o, a = some ⟨b, o, none⟩ ∧ (l = [] ∨ TyI w b) ∧ ∀ i x, l[i]? = some x → w.cell? ⟨b, o + i, none⟩ = some (.int .i64 x))
theorem IntsAt.below {w w' : World} {v : Value} {l : List Int} (h : IntsAt w v l) (hB : Below w.heap.size w w') : IntsAt w' v l := by
  obtain ⟨a, c, e, hc, h⟩ := h; refine ⟨a, c, e, hc, ?_⟩
  rcases h with h | ⟨b, o, h, ht, h'⟩
  · exact .inl h
  · exact .inr ⟨b, o, h, ht.imp id (fun k => k.below hB), fun i x hx => (hB.cell (block_lt_of_cell (h' i x hx))).trans (h' i x hx)⟩
theorem IntsAt.nil (w : World) : IntsAt w (.slice none 0 0) [] := ⟨none, 0, rfl, Nat.le_refl _, .inl ⟨rfl, rfl⟩⟩
theorem IntsAt.get {w : World} {v : Value} {l : List Int} (h : IntsAt w v l) {t : Nat} (ht : t < l.length) : ∃ x b o c, l[t]? = some x ∧ v = .slice (some ⟨b, o, none⟩) l.length c ∧ w.cell? ⟨b, o + t, none⟩ = some (.int .i64 x) := by
  obtain ⟨a, c, e, hc, h⟩ := h
  rcases h with ⟨_, h⟩ | ⟨b, o, h, _, h'⟩
  · rw [h] at ht; simp at ht
  · exact ⟨l[t], b, o, c, List.getElem?_eq_getElem ht, by rw [e, h], h' t _ (List.getElem?_eq_getElem ht)⟩
def intsV (l : List Int) : List Value := l.map (Value.int .i64)
def OwnZ (w : World) (base : Nat) (v : Value) (l : List Int) : Prop := Own w base 3 v (intsV l)
theorem intsV_length (l : List Int) : (intsV l).length = l.length := by simp [intsV]
theorem OwnZ.ints {w : World} {B : Nat} {v : Value} {l : List Int} (h : OwnZ w B v l) : IntsAt w v l := by
  have hh := h; unfold OwnZ Own at hh; rw [intsV_length] at hh
  rcases hh.2 with ⟨h1, h2⟩ | ⟨g, c, cur, h1, _, hrow, hc, _⟩
  · exact ⟨none, 0, by rw [h1, h2], by omega, .inl ⟨rfl, List.eq_nil_of_length_eq_zero h2⟩⟩
  · refine ⟨_, _, h1, hc, .inr ⟨g, 0, rfl, .inr ⟨cur, hrow⟩, fun i x hx => ?_⟩⟩; rw [h1] at hh; have hlt : i < l.length := (List.getElem?_eq_some_iff.1 hx).1
    rw [Nat.zero_add, World.ownsRow.cellAt hh i (by omega), intsV, List.getElem?_map, hx]
    rfl
def aggC (n a : Int) (tv z : Value) : Array Value := #[.int .i64 n, .int .i64 a, tv, z]
def RowA (w : World) (b : Nat) (n a : Int) (tv z : Value) : Prop := w.heap[b]? = some (.cells (aggC n a tv z) 53 (0, 0))
theorem RowA.lt {w : World} {b : Nat} {n a : Int} {tv z : Value} (h : RowA w b n a tv z) : b < w.heap.size := (Array.getElem?_eq_some_iff.1 h).1
theorem RowA.below {w w' : World} {b : Nat} {n a : Int} {tv z : Value} (h : RowA w b n a tv z) (hB : Below w.heap.size w w') : RowA w' b n a tv z := (hB.block b h.lt).trans h
def D4 (w : World) (b : Nat) (n a : Int) (tv z : Value) : Prop := w.cell? ⟨b, 0, none⟩ = some (.int .i64 n) ∧ w.cell? ⟨b, 1, none⟩ = some (.int .i64 a) ∧ w.cell? ⟨b, 2, none⟩ = some tv ∧ w.cell? ⟨b, 3, none⟩ = some z
theorem RowA.d4 {w : World} {b : Nat} {n a : Int} {tv z : Value} (h : RowA w b n a tv z) : D4 w b n a tv z := by
  refine ⟨?_, ?_, ?_, ?_⟩ <;> (rw [cell_of_row _ _ _ _ _ _ h]; rfl)
theorem agg_size : (Tryz.prog.info? 53).map (·.size) = some 4 := by kernel_rfl
theorem box_qa (w : World) (q : QueryL) (n a : Int) (tv z : Value) :
    RowQ ((w.alloc (.cells q.cells 23)).alloc (.cells (aggC n a tv z) 53)) w.heap.size q ∧
      RowA ((w.alloc (.cells q.cells 23)).alloc (.cells (aggC n a tv z) 53)) (w.heap.size + 1) n a tv z ∧
      Below w.heap.size w ((w.alloc (.cells q.cells 23)).alloc (.cells (aggC n a tv z) 53)) := by
  have k1 := (Below.refl _ w).alloc (Nat.le_refl _) (.cells q.cells 23); have k2 := (Below.refl _ (w.alloc (.cells q.cells 23))).alloc (Nat.le_refl _) (.cells (aggC n a tv z) 53); have hs : (w.alloc (.cells q.cells 23)).heap.size = w.heap.size + 1 := heap_alloc_size w _; refine ⟨RowQ.below (heap_alloc_new w _) k2, ?_, k1.trans (k2.mono k1.size)⟩; rw [← hs]; exact heap_alloc_new _ _
theorem box_q (w : World) (q : QueryL) : RowQ (w.alloc (.cells q.cells 23)) w.heap.size q ∧ Below w.heap.size w (w.alloc (.cells q.cells 23)) :=
  ⟨heap_alloc_new w _, (Below.refl _ w).alloc (Nat.le_refl _) _⟩
def mostN (agg n : Int) : Int := if n = 0 then 0 else mostA agg
def topsN (agg k n : Int) : Int := if agg = 6 then min n k else 0
def fallB (l : List Int) : Bool := decide (∀ x ∈ l, -1099511627776 ≤ x ∧ x ≤ 1099511627776) && decide (Falling l)
def swingB (agg n u v : Int) : Bool := decide (u = 0 ∧ v = 0) || (decide (agg = 7) && (decide (0 < n) && decide (InP u v)))
theorem mostA_bd (agg : Int) : 0 ≤ mostA agg ∧ mostA agg ≤ 4398046511104 := by
  unfold mostA
  split
  · omega
  · split <;> omega
theorem rightA_parts (q : QueryL) (x : AggL) : x.rightB q = (q.rightB && (decide (0 ≤ x.n ∧ x.n ≤ 1073741824) && (decide (-mostN q.agg x.n ≤ x.a ∧ x.a ≤ mostN q.agg x.n) && (decide ((x.top.length : Int) = topsN q.agg q.k x.n) && (fallB x.top && swingB q.agg x.n x.u x.v))))) := by
  refine Bool.eq_iff_iff.2 ?_; have hm := mostA_bd q.agg
  have hmn : mostN q.agg x.n = if x.n = 0 then 0 else mostA q.agg := rfl
  have htn : topsN q.agg q.k x.n = if q.agg = 6 then min x.n q.k else 0 := rfl
  obtain ⟨mn, emn⟩ : ∃ m, m = mostN q.agg x.n := ⟨_, rfl⟩; rw [← emn] at hmn ⊢; simp only [AggL.rightB, fallB, swingB, htn, Bool.and_eq_true, Bool.or_eq_true, decide_eq_true_eq]
  constructor
  · rintro ⟨⟨⟨⟨⟨⟨⟨⟨h1, h2⟩, h3⟩, h4⟩, h5⟩, h6⟩, h7⟩, h8⟩, h9⟩; refine ⟨h1, h2, ?_, h7, ⟨h8, h9⟩, ?_⟩
    · by_cases hn : x.n = 0
      · rw [if_pos hn] at hmn; have := h6 hn; omega
      · rw [if_neg hn] at hmn; rw [hmn]; exact h4
    · by_cases hz : x.u = 0 ∧ x.v = 0
      · exact .inl hz
      · right
        refine ⟨Decidable.byContradiction fun h => hz (h5 h), ?_, h3⟩; have : ¬ x.n = 0 := fun h => hz (h6 h).2; omega
  · rintro ⟨h1, h2, h3, h4, ⟨h5, h6⟩, h7⟩
    have hin : InP x.u x.v := by
      rcases h7 with h | h
      · unfold InP; omega
      · exact h.2.2
    refine ⟨⟨⟨⟨⟨⟨⟨⟨h1, h2⟩, hin⟩, ?_⟩, ?_⟩, ?_⟩, h4⟩, h5⟩, h6⟩
    · by_cases hn : x.n = 0
      · rw [if_pos hn] at hmn; omega
      · rw [if_neg hn] at hmn; rw [hmn] at h3; exact h3
    · intro h
      rcases h7 with h' | h'
      · exact h'
      · exact absurd h'.1 h
    · intro h; rw [if_pos h] at hmn
      rcases h7 with h' | h'
      · exact ⟨by omega, h'.1, h'.2⟩
      · omega
end Go.Proofs.YtjeeghafachebaaGreat
namespace Go.Proofs.YtjeeghafachebaaGreat
open Go Go.RowKit
def withinB (n m : Int) : Bool := decide (-m ≤ n ∧ n ≤ m)
theorem awithin_any (w : World) (n m : Int) (hm : 0 ≤ m ∧ m ≤ 4611686018427387904) : Calls Tryz.prog 55 #[.int .i64 n, .int .i64 m] w (fun e w' => e = .returned (.bool (withinB n m)) ∧ w' = w) := by
  obtain ⟨r, hr⟩ : ∃ r, r = withinB n m := ⟨_, rfl⟩; rw [← hr]; unfold withinB at hr
  by_cases h1 : -m ≤ n
  · by_cases h2 : n ≤ m
    · obtain rfl : r = true := by rw [hr]; exact decide_eq_true ⟨h1, h2⟩
      clear hr
      go_enter Tryz.func55, Tryz.ntmps55
      go_wp2_with (fail); go_ret; exact ⟨rfl, rfl⟩
    · obtain rfl : r = false := by rw [hr]; exact decide_eq_false fun h => h2 h.2
      have e2 : decide (n ≤ m) = false := decide_eq_false h2; clear hr h2
      go_enter Tryz.func55, Tryz.ntmps55
      go_wp2_with (fail); go_ret; exact ⟨rfl, rfl⟩
  · obtain rfl : r = false := by rw [hr]; exact decide_eq_false fun h => h1 h.1
    have e1 : decide (-m ≤ n) = false := decide_eq_false h1; clear hr h1
    go_enter Tryz.func55, Tryz.ntmps55
    go_wp2_with (fail); go_ret; exact ⟨rfl, rfl⟩
theorem amostA_any (w : World) (q : QueryL) (n : Int) : Calls Tryz.prog 56 #[.agg q.cells, .int .i64 n] w (Below0 w (.int .i64 (mostN q.agg n))) := by
  obtain ⟨r, hr⟩ : ∃ r, r = mostN q.agg n := ⟨_, rfl⟩; rw [← hr]; obtain ⟨w1, hw1⟩ : ∃ W, W = w.alloc (.cells q.cells 23) := ⟨_, rfl⟩; obtain ⟨b, hb⟩ : ∃ b, b = w.heap.size := ⟨_, rfl⟩
  have H1 : Hid (RowQ w1 b q ∧ Below w.heap.size w w1) := by rw [hw1, hb]; exact Lib.hid (box_q w q)
  obtain ⟨kind, size, slide, late, agg, k⟩ := q; unfold QueryL.cells at hw1 ⊢; simp only at hw1 hr; obtain ⟨d0, d1, d2, d3, d4, d5⟩ := H1.out.1.d6; simp only at d0 d1 d2 d3 d4 d5; unfold mostN mostA at hr
  by_cases hn : n = 0
  · rw [if_pos hn] at hr; subst hr; subst hn
    go_enter Tryz.func56, Tryz.ntmps56
    go_upto_region 1 with (fail)
    rw [← hw1, ← hb]; clear hw1 hb; go_wp2_with (fail); go_ret; exact ⟨rfl, H1.out.2⟩
  rw [if_neg hn] at hr
  have hn' : (n == 0) = false := by simpa using hn
  clear hn
  by_cases h2 : agg = 2
  · subst h2
    obtain rfl : r = 4398046511104 := by rw [hr]; decide
    clear hr
    go_enter Tryz.func56, Tryz.ntmps56
    go_upto_region 1 with (fail)
    rw [← hw1, ← hb]; clear hw1 hb; go_wp2_with (fail); go_ret; exact ⟨rfl, H1.out.2⟩
  have e2 : (agg == 2) = false := by simpa using h2
  by_cases h5 : agg = 5
  · subst h5
    obtain rfl : r = 4398046511104 := by rw [hr]; decide
    clear hr h2
    go_enter Tryz.func56, Tryz.ntmps56
    go_upto_region 1 with (fail)
    rw [← hw1, ← hb]; clear hw1 hb; go_wp2_with (fail); go_ret; exact ⟨rfl, H1.out.2⟩
  have e5 : (agg == 5) = false := by simpa using h5
  by_cases h3 : agg = 3
  · subst h3
    obtain rfl : r = 1099511627776 := by rw [hr]; decide
    clear hr h2 h5
    go_enter Tryz.func56, Tryz.ntmps56
    go_upto_region 1 with (fail)
    rw [← hw1, ← hb]; clear hw1 hb; go_wp2_with (fail); go_ret; exact ⟨rfl, H1.out.2⟩
  have e3 : (agg == 3) = false := by simpa using h3
  by_cases h4 : agg = 4
  · subst h4
    obtain rfl : r = 1099511627776 := by rw [hr]; decide
    clear hr h2 h5 h3
    go_enter Tryz.func56, Tryz.ntmps56
    go_upto_region 1 with (fail)
    rw [← hw1, ← hb]; clear hw1 hb; go_wp2_with (fail); go_ret; exact ⟨rfl, H1.out.2⟩
  have e4 : (agg == 4) = false := by simpa using h4
  obtain rfl : r = 0 := by rw [hr, if_neg (by omega), if_neg (by omega)]
  clear hr h2 h5 h3 h4
  go_enter Tryz.func56, Tryz.ntmps56
  go_upto_region 1 with (fail)
  rw [← hw1, ← hb]; clear hw1 hb; go_wp2_with (fail); go_ret; exact ⟨rfl, H1.out.2⟩
theorem atops_any (w : World) (q : QueryL) (n : Int) : Calls Tryz.prog 57 #[.agg q.cells, .int .i64 n] w (Below0 w (.int .i64 (topsN q.agg q.k n))) := by
  obtain ⟨r, hr⟩ : ∃ r, r = topsN q.agg q.k n := ⟨_, rfl⟩; rw [← hr]; obtain ⟨w1, hw1⟩ : ∃ W, W = w.alloc (.cells q.cells 23) := ⟨_, rfl⟩; obtain ⟨b, hb⟩ : ∃ b, b = w.heap.size := ⟨_, rfl⟩
  have H1 : Hid (RowQ w1 b q ∧ Below w.heap.size w w1) := by rw [hw1, hb]; exact Lib.hid (box_q w q)
  obtain ⟨kind, size, slide, late, agg, k⟩ := q; unfold QueryL.cells at hw1 ⊢; simp only at hw1 hr; obtain ⟨d0, d1, d2, d3, d4, d5⟩ := H1.out.1.d6; simp only at d0 d1 d2 d3 d4 d5; unfold topsN at hr
  by_cases h6 : agg = 6
  · subst h6
    have e3 : (if k < n then k else n) = r := by
      rw [hr, if_pos rfl]
      split <;> omega
    clear hr
    go_enter Tryz.func57, Tryz.ntmps57
    go_upto_region 1 with (fail)
    rw [← hw1, ← hb]; clear hw1 hb; go_wp2_with (fail); go_ret; exact ⟨rfl, H1.out.2⟩
  · obtain rfl : r = 0 := by rw [hr, if_neg h6]
    have e6 : (agg == 6) = false := by simpa using h6
    clear hr h6
    go_enter Tryz.func57, Tryz.ntmps57
    go_upto_region 1 with (fail)
    rw [← hw1, ← hb]; clear hw1 hb; go_wp2_with (fail); go_ret; exact ⟨rfl, H1.out.2⟩
def atI (l : List Int) (i : Nat) : Int := l.getD i 0
theorem atI_some {l : List Int} {i : Nat} {x : Int} (h : l[i]? = some x) : atI l i = x := by
  rw [atI, List.getD_eq_getElem?_getD, h, Option.getD_some]
def okF (l : List Int) (i : Nat) : Prop := withinB (atI l i) 1099511627776 = true ∧ (0 < i → atI l i ≤ atI l (i - 1))
theorem fall_chain (l : List Int) : fallB l = true ↔ ∀ i < l.length, okF l i := by
  have hat : ∀ i (h : i < l.length), atI l i = l[i] := fun i h => atI_some (List.getElem?_eq_getElem h); simp only [fallB, Bool.and_eq_true, decide_eq_true_eq, okF, withinB]
  constructor
  · rintro ⟨h1, h2⟩ i hi
    refine ⟨by rw [hat i hi]; exact h1 _ (List.getElem_mem _), fun h0 => ?_⟩
    rw [hat i hi, hat (i - 1) (by omega)]
    exact List.pairwise_iff_getElem.1 h2 (i - 1) i (by omega) hi (by omega)
  · intro h; refine ⟨fun x hx => ?_, List.pairwise_iff_getElem.2 fun i j hi hj hij => ?_⟩
    · obtain ⟨i, hi, rfl⟩ := List.getElem_of_mem hx; have := (h i hi).1
      rwa [hat i hi] at this
    · have far : ∀ d i (hi : i + d + 1 < l.length), l[i + d + 1] ≤ l[i]'(by omega) := by
        intro d
        induction d with
        | zero =>
          intro i hi
          have := (h (i + 1) hi).2 (by omega)
          rwa [hat _ hi, Nat.add_sub_cancel, hat i (by omega)] at this
        | succ d ih =>
          intro i hi
          have h1 := ih i (by omega)
          have h2 := (h (i + d + 1 + 1) hi).2 (by omega)
          rw [show i + d + 1 + 1 - 1 = i + d + 1 by omega, hat (i + d + 1 + 1) (by omega), hat (i + d + 1) (by omega)] at h2
          exact Int.le_trans h2 h1
      obtain ⟨d, rfl⟩ : ∃ d, j = i + d + 1 := ⟨j - i - 1, by omega⟩
      exact far d i hj
theorem fall_no {l : List Int} {i : Nat} (hi : i < l.length) (h : ¬ okF l i) : fallB l = false := by
  rw [← Bool.not_eq_true, fall_chain]; exact fun hs => h (hs i hi)
def FallRel (w : World) (l : List Int) (v : Value) (wr : World) : Prop := ∃ i : Nat, i ≤ l.length ∧ v = .int .i64 (i : Int) ∧ (∀ j < i, okF l j) ∧ wr = w
set_option maxRecDepth 100000 in
set_option maxHeartbeats 1000000 in
theorem afalling_any (w : World) (tv : Value) (l : List Int) (hT : IntsAt w tv l) (hn : l.length ≤ 1000000) :
    Calls Tryz.prog 58 #[tv] w (fun e w' => e = .returned (.bool (fallB l)) ∧ w' = w) := by
  obtain ⟨n, hN⟩ : ∃ n, n = l.length := ⟨_, rfl⟩; have HT := Lib.hid hT; obtain ⟨a, c, rfl, _, _⟩ := hT; rw [← hN]; obtain ⟨P, hP⟩ : ∃ P : Ending → World → Prop, P = fun e w' => e = .returned (.bool (fallB l)) ∧ w' = w := ⟨_, rfl⟩; rw [← hP]
  have HN : Hid (n = l.length ∧ n ≤ 1000000) := Lib.hid ⟨hN, by omega⟩
  have hn6 : n ≤ 1000000 := by omega
  have HNo : Hid (∀ i, i < n → ¬ okF l i → P (.returned (.bool false)) w) := Lib.hid (fun i hi h => by rw [hP, fall_no (by omega) h]; exact ⟨rfl, rfl⟩)
  have HYes : Hid ((∀ j < n, okF l j) → P (.returned (.bool true)) w) := Lib.hid (fun h => by
    rw [hP]
    exact ⟨by rw [(fall_chain l).2 (by rw [hN] at h; exact h)], rfl⟩)
  clear hN hn hP
  go_enter Tryz.func58, Tryz.ntmps58
  go_wp2_with (fail)
  go_loopw [7] (FallRel w l) (fun v _ => n - (intOf v).toNat)
  case atStart => exact ⟨0, Nat.zero_le _, rfl, fun j h => absurd h (Nat.not_lt_zero _), rfl⟩
  case round =>
    obtain ⟨i, hi, rfl, hok, rfl⟩ := hrel; rw [← HN.out.1] at hi; have HO := Lib.hid hok; clear hok
    by_cases hlt : i < n
    · have hi0 : (0 : Int) ≤ (i : Int) ∧ (i : Int) < (n : Int) := by omega
      obtain ⟨x, pb, po, c', hx, hsa, c0⟩ := HT.out.get (t := i) (by rw [← HN.out.1]; exact hlt)
      obtain rfl : a = some ⟨pb, po, none⟩ := by injection hsa
      have HXl := Lib.hid (And.intro (atI_some hx) hlt); obtain ⟨r, hr⟩ : ∃ r, r = withinB x 1099511627776 := ⟨_, rfl⟩
      have HCw : Hid (Calls Tryz.prog 55 #[.int .i64 x, .int .i64 1099511627776] wr (fun e w' => e = .returned (.bool r) ∧ w' = wr)) := by
        rw [hr]
        exact Lib.hid (awithin_any wr x 1099511627776 (by decide))
      have Hr := Lib.hid hr; have HJ := Lib.hid hlt; clear hx hsa hi hlt hr; go_wp2_with (fail); refine HCw.out.mono ?_; rintro e w' ⟨rfl, hw'⟩; subst w'; dsimp only
      cases r with
      | false =>
        have HZ := Lib.hid (HNo.out i HJ.out (fun hk => by have := hk.1; rw [HXl.out.1, ← Hr.out] at this; cases this))
        clear c0; go_wp2_with (fail); exact HZ.out
      | true =>
        by_cases hz : i = 0
        · subst hz
          have HZ : Hid (FallRel wr l (.int .i64 ((0 : Int) + 1)) wr) := Lib.hid ⟨1, by have := HN.out.1; have := HJ.out; omega, rfl, fun j hj => by
            obtain rfl : j = 0 := by omega
            exact ⟨by rw [HXl.out.1]; exact Hr.out.symm, fun h => absurd h (Nat.lt_irrefl _)⟩, rfl⟩
          rw [show ((0 : Nat) : Int) = 0 from rfl] at hi0 ⊢; go_wp2_with (fail); go_roundw
          case rel => exact HZ.out
          case measure => have := HJ.out; simp [intOf]; omega
        · obtain ⟨m, rfl⟩ : ∃ m, i = m + 1 := ⟨i - 1, by omega⟩
          obtain ⟨y, pb', po', c'', hy, hsa, cy⟩ := HT.out.get (t := m) (by have := HJ.out; have := HN.out.1; omega)
          obtain ⟨rfl, rfl⟩ : pb = pb' ∧ po = po' := by
            injection hsa with h1
            injection h1 with h1
            injection h1 with h1 h2
            exact ⟨h1, h2⟩
          have HY := Lib.hid (atI_some hy)
          have hgt : (0 : Int) < ((m + 1 : Nat) : Int) := by omega
          have him : ((m + 1 : Nat) : Int) - 1 = (m : Int) := by omega
          have hi1 : (0 : Int) ≤ (m : Int) ∧ (m : Int) < (n : Int) := by omega
          have HOk : Hid (okF l (m + 1) ↔ x ≤ y) := by
            refine Lib.hid ?_; unfold okF; rw [HXl.out.1, ← Hr.out, Nat.add_sub_cancel, HY.out]
            exact ⟨fun h => h.2 (by omega), fun h => ⟨rfl, fun _ => h⟩⟩
          clear hsa hy hz
          by_cases hxy : y < x
          · have HZ := Lib.hid (HNo.out (m + 1) HJ.out (fun hk => by have := HOk.out.1 hk; omega))
            go_wp2_with (fail); exact HZ.out
          · have e5 : decide (y < x) = false := decide_eq_false hxy
            have HZ : Hid (FallRel wr l (.int .i64 (((m + 1 : Nat) : Int) + 1)) wr) := Lib.hid ⟨m + 2, by have := HN.out.1; have := HJ.out; omega, by go_num, fun j hj => by
              by_cases e : j = m + 1
              · rw [e]
                exact HOk.out.2 (by omega)
              · exact HO.out j (by omega), rfl⟩
            clear hxy; go_wp2_with (fail); go_roundw
            case rel => exact HZ.out
            case measure => have := HJ.out; simp [intOf]; omega
    · obtain rfl : i = n := by omega
      have HZ := Lib.hid (HYes.out HO.out); clear hlt hi; go_wp2_with (fail); exact HZ.out
set_option maxRecDepth 100000 in
set_option maxHeartbeats 1000000 in
theorem aswing_any (w : World) (q : QueryL) (n a : Int) (tv z : Value) (u v : Int) (hz : WholeZ z u v) :
    Calls Tryz.prog 59 #[.agg q.cells, .agg (aggC n a tv z)] w (Below0 w (.bool (swingB q.agg n u v))) := by
  obtain ⟨r, hr⟩ : ∃ r, r = swingB q.agg n u v := ⟨_, rfl⟩; rw [← hr]; obtain ⟨w1, hw1⟩ : ∃ W, W = (w.alloc (.cells q.cells 23)).alloc (.cells (aggC n a tv z) 53) := ⟨_, rfl⟩; obtain ⟨b, hb⟩ : ∃ b, b = w.heap.size := ⟨_, rfl⟩; obtain ⟨b2, hb2⟩ : ∃ b, b = w.heap.size + 1 := ⟨_, rfl⟩
  have H1 : Hid (RowQ w1 b q ∧ RowA w1 b2 n a tv z ∧ Below w.heap.size w w1) := by rw [hw1, hb, hb2]; exact Lib.hid (box_qa w q n a tv z)
  have hs1 : (w.alloc (.cells q.cells 23)).heap.size = w.heap.size + 1 := heap_alloc_size w _; obtain ⟨kind, size, slide, late, agg, k⟩ := q; unfold QueryL.cells at hw1 hs1 ⊢; unfold aggC at hw1 ⊢; simp only at hw1 hr hs1; obtain ⟨d0, d1, d2, d3, d4, d5⟩ := H1.out.1.d6; obtain ⟨f0, f1, f2, f3⟩ := H1.out.2.1.d4; simp only at d0 d1 d2 d3 d4 d5; obtain ⟨zb, hzb⟩ : ∃ b, b = decide (u = 0 ∧ v = 0) := ⟨_, rfl⟩
  have he : ∀ w, (binOp .eql 51 z (.complex .f64 0 0)).run Tryz.prog w = .ok (.bool zb) w := fun w => by
    rw [hzb]; exact CRep.eql hz.1 zeroZ_rep _ w
  have hgd : ∀ w op o1 o2, (eqGuard op 51 o1 o2 z (.complex .f64 0 0)).run Tryz.prog w = .ok () w := fun w op o1 o2 => hz.1.guard zeroZ_rep op _ o1 o2 w; have HG : Hid (∀ w', Calls Tryz.prog 60 #[z] w' (fun e w'' => e = .returned (.bool true) ∧ w'' = w')) := Lib.hid (fun w' => right_yes w' z u v hz); have hin : InP u v := hz.2; unfold swingB at hr; rw [← hzb] at hr; clear hz hzb
  cases zb with
  | true =>
    obtain rfl : r = true := by rw [hr]; rfl
    clear hr hin
    go_enter Tryz.func59, Tryz.ntmps59
    go_upto_region 1 with (fail)
    rw [← hw1, ← hb2, ← hb]; clear hw1 hb hb2 hs1; go_wp2_with (fail); go_ret; exact ⟨rfl, H1.out.2.2⟩
  | false =>
    by_cases h7 : agg = 7
    · subst h7
      by_cases hn : 0 < n
      · obtain rfl : r = true := by rw [hr, decide_eq_true hn, decide_eq_true hin]; rfl
        clear hr hin
        go_enter Tryz.func59, Tryz.ntmps59
        go_upto_region 1 with (fail)
        rw [← hw1, ← hb2, ← hb]; clear hw1 hb hb2 hs1; go_wp2_with (fail); refine (HG.out w1).mono ?_; rintro e w2 ⟨rfl, hw'⟩; subst w2; dsimp only; go_wp2_with (fail); go_ret; exact ⟨rfl, H1.out.2.2⟩
      · obtain rfl : r = false := by rw [hr, decide_eq_false hn]; rfl
        have e1 : decide (0 < n) = false := decide_eq_false hn; clear hr hin hn
        go_enter Tryz.func59, Tryz.ntmps59
        go_upto_region 1 with (fail)
        rw [← hw1, ← hb2, ← hb]; clear hw1 hb hb2 hs1; go_wp2_with (fail); go_ret; exact ⟨rfl, H1.out.2.2⟩
    · obtain rfl : r = false := by rw [hr, decide_eq_false h7]; rfl
      have e1 : (agg == 7) = false := by simpa using h7
      clear hr hin h7
      go_enter Tryz.func59, Tryz.ntmps59
      go_upto_region 1 with (fail)
      rw [← hw1, ← hb2, ← hb]; clear hw1 hb hb2 hs1; go_wp2_with (fail); go_ret; exact ⟨rfl, H1.out.2.2⟩
end Go.Proofs.YtjeeghafachebaaGreat
