/-
  SessTwice, whatever list, window and cuts it is called with, of bulk that is bounded.
-/
import Derived.Test.YtbfioekbahcicaaSessBegin
import Derived.Test.YtbfioekbahcicaaQuietTail
import Derived.IntWalk
namespace Go.Proofs.Ytbfioekbahcicaa
open Go Go.RowKit

/-- What the operations of a drawn region leave: a value each, or what is said of it at a stage. -/
def VL (Vs : List Value) : List (Nat × (Nat → World → Value → Prop)) → Nat → Nat → World → Value → Prop
  | [], i, _, _, v => v = Vs.getD i undef
  | (n, A) :: r, i, k, w, v => cond (Nat.beq i n) (A k w v) (VL Vs r i k w v)
theorem VL_le {Vs : List Value} (le : World → World → Prop) : ∀ (L : List (Nat × (Nat → World → Value → Prop))), (∀ p ∈ L, ∀ k w w' v, le w w' → p.2 k w v → p.2 k w' v) → ∀ i k w w' v, le w w' → VL Vs L i k w v → VL Vs L i k w' v
  | [], _, _, _, _, _, _, _, h => h
  | (n, A) :: r, hL, i, k, w, w', v, hl, h => by
    unfold VL at h ⊢
    cases e : Nat.beq i n <;> rw [e] at h
    · exact VL_le le r (fun p hp => hL p (List.mem_cons_of_mem _ hp)) i k w w' v hl h
    · exact hL (n, A) (List.mem_cons_self ..) k w w' v hl h
theorem VL_keep {Vs : List Value} {i k k' : Nat} {w w' : World} : ∀ (L : List (Nat × (Nat → World → Value → Prop))), (∀ p ∈ L, i = p.1 ∨ ∀ u, p.2 k w u → p.2 k' w' u) → ∀ j u, j ≠ i → VL Vs L j k w u → VL Vs L j k' w' u
  | [], _, _, _, _, h => h
  | (n, A) :: r, hL, j, u, hj, h => by
    unfold VL at h ⊢
    cases e : Nat.beq j n <;> rw [e] at h
    · exact VL_keep r (fun p hp => hL p (List.mem_cons_of_mem _ hp)) j u hj h
    · rcases hL (n, A) (List.mem_cons_self ..) with h' | h'
      · exact absurd ((Nat.eq_of_beq_eq_true e).trans h'.symm) hj
      · exact h' u h
theorem foldl_insW_perm : ∀ (l out : List WindowL), (l.foldl insW out).Perm (out ++ l)
  | [], out => by rw [List.append_nil]; exact List.Perm.refl _
  | x :: l, out => by
    rw [List.foldl_cons]
    refine (foldl_insW_perm l (insW out x)).trans (((insW_perm out x).append_right l).trans ?_)
    rw [List.cons_append]
    exact List.perm_middle.symm
theorem takeS_perm (l : List WindowL) (x : WindowL) : (takeS l x).Perm (restW l x ++ [became l x]) := by
  have h := foldl_insW_perm (restW l x ++ [became l x]) []
  rwa [List.nil_append] at h
/-- What is within a window that was taken in says nothing when it is taken in. -/
theorem take_again {S : List WindowL} {X Z : WindowL} (hS : Settled S) (hX : X.rightB = true) (hZ : Z.rightB = true) (hk : Z.key = X.key) (h1 : X.lo ≤ Z.lo) (h2 : Z.hi ≤ X.hi) :
    takeS (takeS S X) Z = takeS S X ∧ became (takeS S X) Z = became S X ∧ (gaveW (takeS S X) Z).length = 1 := by
  obtain ⟨b0, b1, b2, b3, _⟩ := became_spec (l := S) hX
  refine take_within (takeS_spec hS hX).1 ((takeS_perm S X).mem_iff.2 (by simp)) hZ (hk.trans b1.symm) (by omega) (by omega)
theorem allL_more {l : List WindowL} {X Z : WindowL} (hX : X.rightB = true) (hZ : Z.rightB = true) (hk : Z.key = X.key) (h1 : X.lo ≤ Z.lo) (h2 : Z.hi ≤ X.hi) : allL (l ++ [X, Z]) = takeS (allL l) X := by
  obtain ⟨s1, s2⟩ := allL_spec l
  obtain ⟨t1, t2⟩ := takeS_spec s1 hX
  refine (allL_ext t1 fun k p => ?_).symm
  have e : rightsW (l ++ [X, Z]) = rightsW l ++ [X, Z] := by
    rw [rightsW, List.filter_append, List.filter_cons, List.filter_cons, hX, hZ]
    rfl
  rw [t2, e, Cov_append, Cov_append, s2, Cov_one]
  have hc : Cov [X, Z] k p ↔ Cov [X] k p ∨ Cov [Z] k p := Cov_append [X] [Z] k p
  rw [hc, Cov_one, Cov_one]
  constructor
  · rintro (h | h)
    · exact .inl h
    · exact .inr (.inl h)
  · rintro (h | h | ⟨h3, h4, h5⟩)
    · exact .inl h
    · exact .inr h
    · exact .inr ⟨hk.symm.trans h3, by omega, by omega⟩
theorem Settled.keys {l : List WindowL} (h : Settled l) {x : WindowL} (hx : x ∈ l) : x.key.length ≤ 1000000 := by
  have := rightW_cases (h.1 x hx)
  omega
theorem takeL_len' (l : List WindowL) (x : WindowL) : (takeL l x).1.length ≤ l.length + 1 := by
  rw [takeL]
  split
  · have h2 : (restW l x).length ≤ l.length := List.length_filter_le _ _
    simp only
    rw [takeS, ← sortTo_all, sortTo_length (Nat.le_refl _), List.length_append, List.length_singleton]
    omega
  · simp
theorem allL_len' (l : List WindowL) : (allL l).length ≤ l.length := by
  have : ∀ (l acc : List WindowL), (l.foldl (fun acc w => (takeL acc w).1) acc).length ≤ acc.length + l.length := by
    intro l
    induction l with
    | nil => intro acc; simp
    | cons x l ih =>
      intro acc
      have h1 := ih (takeL acc x).1
      have h2 := takeL_len' acc x
      simp only [List.foldl_cons, List.length_cons]
      omega
  have h := this l []
  simpa [allL] using h
theorem OwnN.len {w : World} {B : Nat} {v : Value} {l : List Nat} (h : OwnN w B v l) : ∃ a c, v = .slice a l.length c := by
  have hh := h
  unfold OwnN Own at hh
  have hl : (natsV l).length = l.length := by simp [natsV]
  rw [hl] at hh
  rcases hh.2 with ⟨h1, h2⟩ | ⟨g, c, cur, h1, _⟩
  · exact ⟨none, 0, by rw [h1, h2]⟩
  · exact ⟨_, _, h1⟩
/-- The cuts' row. -/
def RowC (w : World) (b : Nat) (c0 c1 : Int) : Prop := w.heap[b]? = some (.cells #[.int .u8 c0, .int .u8 c1] 39 (0, 0))
theorem RowC.lt {w : World} {b : Nat} {c0 c1 : Int} (h : RowC w b c0 c1) : b < w.heap.size := (Array.getElem?_eq_some_iff.1 h).1
theorem RowC.below {w w' : World} {b : Nat} {c0 c1 : Int} (h : RowC w b c0 c1) (hB : Below w.heap.size w w') : RowC w' b c0 c1 := (hB.block b h.lt).trans h
theorem RowC.cell {w : World} {b : Nat} {c0 c1 : Int} (h : RowC w b c0 c1) : w.cell? ⟨b, 0, none⟩ = some (.int .u8 c0) ∧ w.cell? ⟨b, 1, none⟩ = some (.int .u8 c1) := by
  rw [cell_of_row _ _ _ _ _ _ h, cell_of_row _ _ _ _ _ _ h]
  exact ⟨rfl, rfl⟩
/-- What is said of the last region's slices: the empty one, the list, two windows, all of them, what they come to. -/
def TwL (B : Nat) (l T : List WindowL) (X Z : WindowL) (q : Nat) : List (Nat × (Nat → World → Value → Prop)) :=
  [(20, fun k w v => k = 0 → ∃ h, v = .slice (some ⟨h, 0, none⟩) 0 0 ∧ w.heap[h]? = some (.cells #[] 24 (0, 0)) ∧ B ≤ h), (22, fun k w v => k = 1 → OwnW w B v l),
    (25, fun k w v => k ≤ 1 → ∃ g, v = .slice (some ⟨g, 0, none⟩) 2 2 ∧ w.heap[g]? = some (.cells (X.cells ++ Z.cells) 24 (0, 0))), (26, fun k w v => 2 ≤ k ∧ OwnW w B v (l ++ [X, Z])),
    (27, fun k w v => 2 ≤ k ∧ ∃ a c, v = .slice a q c ∧ WinsAt w a T)]
theorem row_lt {w : World} {b : Nat} {o : Obj} (h : w.heap[b]? = some o) : b < w.heap.size := (Array.getElem?_eq_some_iff.1 h).1
theorem TwL_le (B : Nat) (l T : List WindowL) (X Z : WindowL) (q : Nat) : ∀ p ∈ TwL B l T X Z q, ∀ (k : Nat) (w w' : World) (v : Value), Below w.heap.size w w' → p.2 k w v → p.2 k w' v := by
  intro p hp k w w' v h
  simp only [TwL, List.mem_cons, List.not_mem_nil, or_false] at hp
  rcases hp with rfl | rfl | rfl | rfl | rfl
  · intro hu hk
    obtain ⟨b, e, hh, hb⟩ := hu hk
    exact ⟨b, e, (h.block b (row_lt hh)).trans hh, hb⟩
  · exact fun hu hk => (hu hk).far h
  · intro hu hk
    obtain ⟨b, e, hh⟩ := hu hk
    exact ⟨b, e, (h.block b (row_lt hh)).trans hh⟩
  · exact fun hu => ⟨hu.1, hu.2.far h⟩
  · rintro ⟨h1, a, c, e, hw⟩
    exact ⟨h1, a, c, e, hw.below h⟩
theorem TwL_keep22 {B : Nat} {l T : List WindowL} {X Z : WindowL} {q h : Nat} {w w' : World} (hh : w.heap[h]? = some (.cells #[] 24 (0, 0))) (hg : w.grownBy w' (some h)) : ∀ p ∈ TwL B l T X Z q, 22 = p.1 ∨ ∀ u, p.2 0 w u → p.2 1 w' u := by
  intro p hp
  simp only [TwL, List.mem_cons, List.not_mem_nil, or_false] at hp
  rcases hp with rfl | rfl | rfl | rfl | rfl
  · exact .inr fun u _ hk => absurd hk (by decide)
  · exact .inl rfl
  · refine .inr fun u hu _ => ?_
    obtain ⟨b, e, hb⟩ := hu (by decide)
    refine ⟨b, e, (hg.block b (row_lt hb) ?_).trans hb⟩
    intro he
    cases he
    rw [hh] at hb
    have e2 : (X.cells ++ Z.cells).size = 6 := rfl
    simp only [Option.some.injEq, Obj.cells.injEq, and_true] at hb
    rw [← hb] at e2
    cases e2
  · exact .inr fun u hu => absurd hu.1 (by decide)
  · exact .inr fun u hu => absurd hu.1 (by decide)
theorem TwL_keep26 {B : Nat} {l T : List WindowL} {X Z : WindowL} {q : Nat} {w w' : World} : ∀ p ∈ TwL B l T X Z q, 26 = p.1 ∨ ∀ u, p.2 1 w u → p.2 2 w' u := by
  intro p hp
  simp only [TwL, List.mem_cons, List.not_mem_nil, or_false] at hp
  rcases hp with rfl | rfl | rfl | rfl | rfl
  · exact .inr fun u _ hk => absurd hk (by decide)
  · exact .inr fun u _ hk => absurd hk (by decide)
  · exact .inr fun u _ hk => absurd hk (by decide)
  · exact .inl rfl
  · exact .inr fun u hu => absurd hu.1 (by decide)
set_option maxRecDepth 100000 in
set_option maxHeartbeats 4000000 in
theorem sessTwice_any (w : World) (sa : Option Addr) (sc : Nat) (l : List WindowL) (x : WindowL) (c0 c1 : Int) (hA : WinsAt w sa l) (hk : ∀ y ∈ l, y.key.length ≤ 1048576) (hn : l.length ≤ 1048576) (hc0 : 0 ≤ c0 ∧ c0 ≤ 255) (hc1 : 0 ≤ c1 ∧ c1 ≤ 255) :
    Calls Try.prog 5 #[.slice sa l.length sc, .agg x.cells, .agg #[.int .u8 c0, .int .u8 c1]] w (Below0 w (.bool true)) := by
  obtain ⟨n, hN⟩ : ∃ n, n = l.length := ⟨_, rfl⟩
  obtain ⟨P, hP⟩ : ∃ P, P = Below0 w (.bool true) := ⟨_, rfl⟩
  rw [← hP, ← hN]
  have HYes : Hid (∀ w', Below w.heap.size w w' → P (.returned (.bool true)) w') := Lib.hid (fun w' h => by rw [hP]; exact ⟨rfl, h⟩)
  have HN : Hid (n = l.length) := Lib.hid hN
  have HA := Lib.hid hA
  have HC := Lib.hid (And.intro hc0 hc1)
  obtain ⟨gb, hgb⟩ : ∃ b, b = decide (1200 < weighW l) := ⟨_, rfl⟩
  have HCg : Hid (∀ w', Below w.heap.size w w' → Calls Try.prog 7 #[.slice sa n sc] w' (Below0 w' (.bool gb))) := by
    rw [hgb, hN]
    exact Lib.hid (fun w' h => sgreat_any w' sa sc l (hA.below h) hk hn)
  have Hgb := Lib.hid hgb
  obtain ⟨X, hX⟩ : ∃ X, X = x := ⟨_, rfl⟩
  obtain ⟨M, hM⟩ : ∃ m, m = x.key.length := ⟨_, rfl⟩
  obtain ⟨w1, hw1⟩ : ∃ W, W = (w.alloc (.cells x.cells 24)).alloc (.cells #[.int .u8 c0, .int .u8 c1] 39) := ⟨_, rfl⟩
  obtain ⟨b4, hb4⟩ : ∃ b, b = w.heap.size := ⟨_, rfl⟩
  obtain ⟨b5, hb5⟩ : ∃ b, b = w.heap.size + 1 := ⟨_, rfl⟩
  have hs1 : (w.alloc (.cells x.cells 24)).heap.size = w.heap.size + 1 := heap_alloc_size w _
  have H1 : Hid (RowW w1 b4 x ∧ RowC w1 b5 c0 c1 ∧ Below w.heap.size w w1) := by
    have k1 := (Below.refl _ w).alloc (Nat.le_refl _) (.cells x.cells 24)
    have k2 := (Below.refl _ (w.alloc (.cells x.cells 24))).alloc (Nat.le_refl _) (.cells #[.int .u8 c0, .int .u8 c1] 39)
    refine Lib.hid ⟨?_, ?_, ?_⟩
    · rw [hw1, hb4]
      exact RowW.below (heap_alloc_new w _) k2
    · rw [hw1, hb5, ← hs1]
      exact heap_alloc_new _ _
    · rw [hw1]
      exact k1.trans (k2.mono k1.size)
  have HF := Lib.hid (sfirst_any w1)
  clear hN hA hk hn hP hgb hc0 hc1
  obtain ⟨xk, xl, xh⟩ := x
  have hlen : ∀ w ty, (Builtin.len_ #[9] ty #[Sv xk]).run Try.prog w = .ok (.int .i64 (M : Int)) w := by
    rw [hM]
    exact fun w ty => run_len_Sv w ty xk
  have HXe : Hid (X = ⟨xk, xl, xh⟩) := Lib.hid hX
  have HMk : Hid (M = xk.length) := Lib.hid hM
  rw [← hX] at H1
  unfold WindowL.cells at hw1 hs1 ⊢
  simp only at hw1 hs1
  clear hX hM
  go_enter Try.func5, Try.ntmps5
  go_upto_region 1 with (fail)
  rw [← hw1, ← hb5, ← hb4]
  clear hw1 hb5 hb4 hs1
  go_wp2_with (fail)
  refine HF.out.mono ?_
  rintro e w2 ⟨rfl, hB⟩
  have H2 : Hid (RowW w2 b4 X ∧ RowC w2 b5 c0 c1 ∧ Below w.heap.size w w2) := Lib.hid ⟨H1.out.1.below hB, H1.out.2.1.below hB, H1.out.2.2.trans (hB.mono H1.out.2.2.size)⟩
  clear hB H1 HF
  dsimp only
  go_wp2_with (fail)
  refine (HCg.out w2 H2.out.2.2).mono ?_
  rintro e w3 ⟨rfl, hB⟩
  have H3 : Hid (RowW w3 b4 X ∧ RowC w3 b5 c0 c1 ∧ Below w.heap.size w w3) := Lib.hid ⟨H2.out.1.below hB, H2.out.2.1.below hB, H2.out.2.2.trans (hB.mono H2.out.2.2.size)⟩
  clear hB H2 HCg
  dsimp only
  cases gb with
  | true =>
    have HZ := Lib.hid (HYes.out w3 H3.out.2.2)
    go_wp2_with (fail)
    exact HZ.out
  | false =>
  have HL : Hid (n ≤ 60 ∧ ∀ y ∈ l, y.key.length ≤ 1200) := by
    have h := of_decide_eq_false Hgb.out.symm
    refine Lib.hid ⟨by have := weighW_len l; have := HN.out; omega, fun y hy => ?_⟩
    have := weighW_mem hy
    omega
  obtain ⟨d0, d1, d2⟩ : D3 w3 b4 xk xl xh := by
    have h := H3.out.1.d3
    rw [HXe.out] at h
    exact h
  by_cases hm : (60 : Int) < (M : Int)
  · have HZ := Lib.hid (HYes.out w3 H3.out.2.2)
    go_wp2_with (fail)
    exact HZ.out
  have HXk : Hid (X.key.length ≤ 60) := by
    rw [HXe.out]
    exact Lib.hid (by have := HMk.out; simp only; omega)
  have hn6 : n ≤ 60 := HL.out.1
  obtain ⟨S, hS⟩ : ∃ m, m = allL l := ⟨_, rfl⟩
  have HS : Hid (S = allL l ∧ Settled S ∧ S.length ≤ 60) := by
    rw [hS]
    exact Lib.hid ⟨rfl, (allL_spec l).1, by have := allL_len' l; have := HN.out; omega⟩
  have HCa : Hid (∀ w', Below w.heap.size w w' → Calls Try.prog 16 #[.slice sa n sc] w' (WinsNew w' S)) := by
    have h0 := HN.out
    rw [hS, HN.out]
    exact Lib.hid (fun w' h => sAll_any w' sa sc l (HA.out.below h) (fun y hy => Nat.le_trans (HL.out.2 y hy) (by decide)) (by omega))
  clear hS
  go_upto_region 5 with (fail)
  clear d0 d1 d2 hm hlen
  go_wp2_with (fail)
  refine (HCa.out w3 H3.out.2.2).mono ?_
  rintro e w4 ⟨v, rfl, k1, hB⟩
  obtain ⟨aa, ac, rfl, _, hOW⟩ := k1.form
  obtain ⟨m, hm⟩ : ∃ m, m = S.length := ⟨_, rfl⟩
  have H4 : Hid (RowW w4 b4 X ∧ RowC w4 b5 c0 c1 ∧ Below w.heap.size w w4 ∧ WinsAt w4 aa S ∧ m = S.length) := Lib.hid ⟨H3.out.1.below hB, H3.out.2.1.below hB, H3.out.2.2.trans (hB.mono H3.out.2.2.size), hOW, hm⟩
  rw [← hm]
  have hm6 : m ≤ 60 := by rw [hm]; exact HS.out.2.2
  have HmS : Hid (m = S.length) := Lib.hid hm
  clear k1 hB hOW hm H3 HCa
  dsimp only
  obtain ⟨T, hT⟩ : ∃ m, m = (takeL S X).1 := ⟨_, rfl⟩
  obtain ⟨Y, hY⟩ : ∃ m, m = (takeL S X).2.1 := ⟨_, rfl⟩
  obtain ⟨gv, hgv⟩ : ∃ m, m = (takeL S X).2.2 := ⟨_, rfl⟩
  have HCt : Hid (∀ w', Below w4.heap.size w4 w' → Calls Try.prog 11 #[.slice aa m ac, .agg #[Sv xk, .int .i64 xl, .int .i64 xh]] w' (TakeEnd w' T Y gv)) := by
    have hxk := HXk.out
    rw [hT, hY, hgv, H4.out.2.2.2.2, HXe.out]
    rw [HXe.out] at hxk
    exact Lib.hid (fun w' h => stake_any w' aa ac S ⟨xk, xl, xh⟩ (H4.out.2.2.2.1.below h) (fun y hy => HS.out.2.1.keys hy) (by omega) (by have := HS.out.2.2; omega))
  have HTe : Hid (T = (takeL S X).1 ∧ Y = (takeL S X).2.1 ∧ T.length ≤ 61) := Lib.hid ⟨hT, hY, by rw [hT]; have := takeL_len' S X; have := HS.out.2.2; omega⟩
  clear hT hY hgv
  obtain ⟨d0, d1, d2⟩ : D3 w4 b4 xk xl xh := by
    have h := H4.out.1.d3
    rw [HXe.out] at h
    exact h
  go_upto_region 6 with (fail)
  refine wp_region_lit ?_
  iterate 6 go_step
  refine wpList_plain rfl fun K hK => ?_
  go_step
  refine (HCt.out w4 (Below.refl _ _)).mono ?_
  rintro e w5 ⟨v, u, rfl, k1, k2, hB⟩
  refine hK _ _ ?_
  clear hK d0 d1 d2
  obtain ⟨oa, oc, rfl, _, hVW⟩ := k1.form
  obtain ⟨ua, uc, rfl⟩ := OwnN.len k2
  obtain ⟨q, hq⟩ : ∃ q, q = T.length := ⟨_, rfl⟩
  obtain ⟨gn, hgn⟩ : ∃ q, q = gv.length := ⟨_, rfl⟩
  have H5 : Hid (RowW w5 b4 X ∧ RowC w5 b5 c0 c1 ∧ Below w.heap.size w w5 ∧ WinsAt w5 aa S ∧ WinsAt w5 oa T ∧ q = T.length) := Lib.hid ⟨H4.out.1.below hB, H4.out.2.1.below hB, H4.out.2.2.1.trans (hB.mono H4.out.2.2.1.size), H4.out.2.2.2.1.below hB, hVW, hq⟩
  rw [← hq, ← hgn]
  have hq6 : q ≤ 61 := by rw [hq]; exact HTe.out.2.2
  clear k1 k2 hB hVW hq hgn
  iterate 18 go_step
  refine wpList_store_row rfl _ _ _ rfl w5.heap.size Y.cells rfl rfl 24 zeroW.cells (heap_alloc_new w5 _) window_size rfl (window_one Y) ?_
  obtain ⟨w6, hw⟩ : ∃ V, V = (w5.alloc (Obj.cells #[.string ⟨#[]⟩, .int .i64 0, .int .i64 0] 24)).setRow w5.heap.size Y.cells := ⟨_, rfl⟩
  obtain ⟨b9, hb⟩ : ∃ b, b = w5.heap.size := ⟨_, rfl⟩
  have Hw6 : Hid (RowW w6 b9 Y ∧ Below w5.heap.size w5 w6) := by
    obtain ⟨k1, k2⟩ := stored_window w5 Y
    rw [hw, hb]
    exact Lib.hid ⟨k1, k2⟩
  rw [← hw, ← hb]
  clear hw hb
  have H6 : Hid (RowW w6 b4 X ∧ RowC w6 b5 c0 c1 ∧ Below w.heap.size w w6 ∧ WinsAt w6 aa S ∧ WinsAt w6 oa T ∧ q = T.length ∧ RowW w6 b9 Y) := by
    obtain ⟨k1, k2⟩ := Hw6.out
    obtain ⟨j1, j2, j3, j4, j5, j6⟩ := H5.out
    exact Lib.hid ⟨j1.below k2, j2.below k2, j3.trans (k2.mono j3.size), j4.below k2, j5.below k2, j6, k1⟩
  clear Hw6 H5
  obtain ⟨rb, hrb⟩ : ∃ b, b = X.rightB := ⟨_, rfl⟩
  have HCr : Hid (∀ w', Calls Try.prog 13 #[.agg #[Sv xk, .int .i64 xl, .int .i64 xh]] w' (Below0 w' (.bool rb))) := by
    have hxk := HXk.out
    rw [hrb, HXe.out]
    rw [HXe.out] at hxk
    exact Lib.hid (fun w' => rwRight_any w' ⟨xk, xl, xh⟩ (by omega))
  have Hrb := Lib.hid hrb
  clear hrb
  obtain ⟨d0, d1, d2⟩ : D3 w6 b4 xk xl xh := by
    have h := H6.out.1.d3
    rw [HXe.out] at h
    exact h
  go_wp2_with (fail)
  refine (HCr.out w6).mono ?_
  rintro e w7 ⟨rfl, hB⟩
  have H7 : Hid (RowW w7 b4 X ∧ RowC w7 b5 c0 c1 ∧ Below w.heap.size w w7 ∧ WinsAt w7 aa S ∧ WinsAt w7 oa T ∧ q = T.length ∧ RowW w7 b9 Y) := by
    obtain ⟨j1, j2, j3, j4, j5, j6, j7⟩ := H6.out
    exact Lib.hid ⟨j1.below hB, j2.below hB, j3.trans (hB.mono j3.size), j4.below hB, j5.below hB, j6, j7.below hB⟩
  clear hB d0 d1 d2 H6 H4 HCr
  dsimp only
  cases rb with
  | false =>
    have HZ0 : Hid (T = S ∧ Y = zeroW) := by
      obtain ⟨h3, h4, _⟩ := HTe.out
      have hno : ¬ (Settled S ∧ X.rightB = true) := fun h => by rw [← Hrb.out] at h; cases h.2
      rw [h3, h4, takeL_no hno]
      exact Lib.hid ⟨rfl, rfl⟩
    obtain rfl : q = m := by
      have h1 := H7.out.2.2.2.2.2.1
      rw [HZ0.out.1] at h1
      have h2 := HmS.out
      omega
    have HSm : Hid (Calls Try.prog 14 #[.slice oa q oc, .slice aa q ac] w7 (Below0 w7 (.bool true))) := by
      have h := rwSame_any w7 oa aa oc ac T S H7.out.2.2.2.2.1 H7.out.2.2.2.1 (by have := HTe.out.2.2; omega)
      rw [decide_eq_true HZ0.out.1, ← H7.out.2.2.2.2.2.1, ← HZ0.out.1, ← H7.out.2.2.2.2.2.1] at h
      exact Lib.hid h
    go_wp2_with (fail)
    refine HSm.out.mono ?_
    rintro e w8 ⟨rfl, hB⟩
    have H8 : Hid (RowW w8 b9 Y ∧ P (.returned (.bool true)) w8) := Lib.hid ⟨H7.out.2.2.2.2.2.2.below hB, HYes.out w8 (H7.out.2.2.1.trans (hB.mono H7.out.2.2.1.size))⟩
    clear hB
    obtain ⟨d0, d1, d2⟩ : D3 w8 b9 [] 0 0 := by
      have h := H8.out.1.d3
      rw [HZ0.out.2] at h
      exact h
    have he : ∀ w, (binOp .eql 24 (.agg #[Sv [], .int .i64 0, .int .i64 0]) (.agg #[.string ⟨#[]⟩, .int .i64 0, .int .i64 0])).run Try.prog w = .ok (.bool true) w := fun w => by
      have h := run_eql_window w zeroW zeroW
      rw [(sameW_iff _ _).2 rfl] at h
      exact h
    have hgd : ∀ w op o1 o2, (eqGuard op 24 o1 o2 (.agg #[Sv [], .int .i64 0, .int .i64 0]) (.agg #[.string ⟨#[]⟩, .int .i64 0, .int .i64 0])).run Try.prog w = .ok () w := fun w op o1 o2 => run_guard_window w op o1 o2 zeroW zeroW
    dsimp only
    go_wp2_with (fail)
    exact H8.out.2
  | true =>
  have HTs : Hid (T = takeS S X ∧ Y = became S X) := by
    obtain ⟨h3, h4, _⟩ := HTe.out
    rw [h3, h4, takeL_yes HS.out.2.1 Hrb.out.symm]
    exact Lib.hid ⟨rfl, rfl⟩
  have hxr : 0 ≤ xl ∧ xl ≤ 1099511627776 ∧ xl < xh ∧ xh ≤ 4398046511104 := by
    have h := rightW_cases Hrb.out.symm
    rw [HXe.out] at h
    exact ⟨h.2.2.2.1, h.2.2.2.2.1, h.2.2.2.2.2.1, h.2.2.2.2.2.2⟩
  have HXr := Lib.hid hxr
  obtain ⟨d0, d1, d2⟩ : D3 w7 b4 xk xl xh := by
    have h := H7.out.1.d3
    rw [HXe.out] at h
    exact h
  go_upto_region 9 with (fail)
  refine wp_region_lit ?_
  iterate 6 go_step
  refine wpList_store_row rfl _ _ _ rfl w7.heap.size (WindowL.mk xk xl xh).cells rfl rfl 24 zeroW.cells (heap_alloc_new w7 _) window_size rfl (window_one _) ?_
  obtain ⟨w8, hw8⟩ : ∃ W, W = (w7.alloc (Obj.cells #[.string ⟨#[]⟩, .int .i64 0, .int .i64 0] 24)).setRow w7.heap.size (WindowL.mk xk xl xh).cells := ⟨_, rfl⟩
  obtain ⟨b11, hb11⟩ : ∃ b, b = w7.heap.size := ⟨_, rfl⟩
  have Hw8 : Hid (RowW w8 b11 (WindowL.mk xk xl xh) ∧ Below w7.heap.size w7 w8) := by
    obtain ⟨k1, k2⟩ := stored_window w7 (WindowL.mk xk xl xh)
    rw [hw8, hb11]
    exact Lib.hid ⟨k1, k2⟩
  have Hb11 : Hid (w7.heap.size = b11) := Lib.hid hb11.symm
  rw [← hw8, ← hb11]
  clear hw8 hb11
  have HKp : Hid (∀ w', Below w7.heap.size w7 w' → RowW w' b4 X ∧ RowC w' b5 c0 c1 ∧ Below w.heap.size w w' ∧ WinsAt w' oa T ∧ RowW w' b9 Y) := by
    obtain ⟨j1, j2, j3, j4, j5, j6, j7⟩ := H7.out
    exact Lib.hid (fun w' h => ⟨j1.below h, j2.below h, j3.trans (h.mono j3.size), j5.below h, j7.below h⟩)
  have Hq : Hid (q = T.length) := Lib.hid H7.out.2.2.2.2.2.1
  have H8 : Hid (RowW w8 b11 ⟨xk, xl, xh⟩ ∧ Below w7.heap.size w7 w8) := Lib.hid Hw8.out
  clear d0 d1 d2 Hw8 H7
  have hc0 := HC.out.1
  obtain ⟨d, hd⟩ : ∃ d, d = xh - xl := ⟨_, rfl⟩
  obtain ⟨r0, hr0⟩ : ∃ r, r = c0 % d := ⟨_, rfl⟩
  have hr0b : 0 ≤ r0 ∧ r0 < d := by
    rw [hr0]
    exact ⟨Int.emod_nonneg _ (by omega), Int.emod_lt_of_pos _ (by omega)⟩
  obtain ⟨zl, hzl⟩ : ∃ z, z = xl + r0 := ⟨_, rfl⟩
  obtain ⟨d', hd'⟩ : ∃ d, d = xh - zl := ⟨_, rfl⟩
  obtain ⟨r1, hr1⟩ : ∃ r, r = c1 % d' := ⟨_, rfl⟩
  have hr1b : 0 ≤ r1 ∧ r1 < d' := by
    rw [hr1]
    exact ⟨Int.emod_nonneg _ (by omega), Int.emod_lt_of_pos _ (by omega)⟩
  obtain ⟨zh, hzh⟩ : ∃ z, z = xh - r1 := ⟨_, rfl⟩
  have HR0 : Hid ((0 ≤ c0 ∧ c0 ≤ 255) ∧ (0 ≤ xl ∧ xl ≤ 1099511627776 ∧ xl < xh ∧ xh ≤ 4398046511104) ∧ xh - xl = d ∧ d ≠ 0 ∧ c0 % d = r0 ∧ xl + r0 = zl ∧ 0 ≤ r0 ∧ r0 < d) := Lib.hid ⟨hc0, hxr, hd.symm, by omega, hr0.symm, hzl.symm, hr0b⟩
  have HR1 : Hid ((0 ≤ c1 ∧ c1 ≤ 255) ∧ (0 ≤ zl ∧ zl < xh ∧ xh ≤ 4398046511104) ∧ xh - zl = d' ∧ d' ≠ 0 ∧ c1 % d' = r1 ∧ xh - r1 = zh ∧ 0 ≤ r1 ∧ r1 < d') := Lib.hid ⟨HC.out.2, ⟨by omega, by omega, by omega⟩, hd'.symm, by omega, hr1.symm, hzh.symm, hr1b⟩
  have HZb : Hid (xl ≤ zl ∧ zl < zh ∧ zh ≤ xh) := Lib.hid (by omega)
  clear hc0 hd hr0 hr0b hzl hd' hr1 hr1b hzh hxr
  obtain ⟨e0, e1, e2⟩ := H8.out.1.d3
  obtain ⟨d0, d1, d2⟩ : D3 w8 b4 xk xl xh := by
    have h := (HKp.out w8 H8.out.2).1.d3
    rw [HXe.out] at h
    exact h
  obtain ⟨f0, f1⟩ := (HKp.out w8 H8.out.2).2.1.cell
  simp only at e0 e1 e2 d0 d1 d2
  obtain ⟨hs1, hs2, hs3, hs4, hs5⟩ : IntKind.i64.wrap (xh - xl) = d ∧ Int.tmod c0 d = r0 ∧ IntKind.i64.wrap (xl + r0) = zl ∧ IntKind.i64.wrap c0 = c0 ∧ (d == 0) = false := by
    obtain ⟨h1, h2, h3, h4, h5, h6, h7⟩ := HR0.out
    refine ⟨?_, ?_, ?_, IntWalk.i64_in _ (by omega), by simpa using h4⟩
    · rw [IntWalk.i64_in _ (by omega)]
      exact h3
    · rw [IntWalk.rem_in _ _ h1.1]
      exact h5
    · rw [IntWalk.i64_in _ (by omega)]
      exact h6
  have hs6 : ¬ d = 0 := HR0.out.2.2.2.1
  go_upto_region 10 with (fail)
  refine wp_region_quiet_tail 13 (by kernel_rfl) (by kernel_rfl) ?_
  simp only [List.take_succ_cons, List.take_zero, List.drop_succ_cons, List.drop_zero]
  repeat (quiet_step (fail))
  refine wpQuiet_nil ?_
  intro _ hw'
  obtain ⟨nq, hw''⟩ := hw'
  subst hw''
  refine wpList_store1 rfl _ (.tmp 61) (.tmp 60) rfl ⟨b11, 1, none⟩ (.int .i64 zl) (.int .i64 xl) rfl rfl rfl rfl Try.sizeOf3 e1 (RowW.fro (w := w8.drewN nq) H8.out.1 1) ?_
  obtain ⟨w9, hWB⟩ : ∃ W, W = (w8.drewN nq).setCell ⟨b11, 1, none⟩ (.int .i64 zl) := ⟨_, rfl⟩
  have H9 : Hid (RowW w9 b11 ⟨xk, zl, xh⟩ ∧ Below w7.heap.size w7 w9) := by
    obtain ⟨k1, k2⟩ := H8.out
    have hg : (w8.drewN nq).grownBy w9 (some b11) := by rw [hWB]; exact grown_setCell _ _ _ _
    refine Lib.hid ⟨by rw [hWB]; exact RowW.setLo (w := w8.drewN nq) k1 zl, ?_⟩
    exact ⟨hg.os.trans k2.os, hg.tape.trans k2.tape, hg.output.trans k2.output, Nat.le_trans k2.size hg.size, fun k hk => (hg.block k (Nat.lt_of_lt_of_le hk k2.size) (by have := Hb11.out; simp; omega)).trans (k2.block k hk)⟩
  rw [← hWB]
  clear hWB e0 e1 e2 d0 d1 d2 f0 f1 hs1 hs2 hs3 hs4 hs5 hs6 H8
  obtain ⟨e0, e1, e2⟩ := H9.out.1.d3
  obtain ⟨d0, d1, d2⟩ : D3 w9 b4 xk xl xh := by
    have h := (HKp.out w9 H9.out.2).1.d3
    rw [HXe.out] at h
    exact h
  obtain ⟨f0, f1⟩ := (HKp.out w9 H9.out.2).2.1.cell
  simp only at e0 e1 e2 d0 d1 d2
  obtain ⟨hs1, hs2, hs3, hs4, hs5⟩ : IntKind.i64.wrap (xh - zl) = d' ∧ Int.tmod c1 d' = r1 ∧ IntKind.i64.wrap (xh - r1) = zh ∧ IntKind.i64.wrap c1 = c1 ∧ (d' == 0) = false := by
    obtain ⟨h1, h2, h3, h4, h5, h6, h7⟩ := HR1.out
    refine ⟨?_, ?_, ?_, IntWalk.i64_in _ (by omega), by simpa using h4⟩
    · rw [IntWalk.i64_in _ (by omega)]
      exact h3
    · rw [IntWalk.rem_in _ _ h1.1]
      exact h5
    · rw [IntWalk.i64_in _ (by omega)]
      exact h6
  have hs6 : ¬ d' = 0 := HR1.out.2.2.2.1
  go_upto_region 11 with (fail)
  refine wp_region_quiet_tail 13 (by kernel_rfl) (by kernel_rfl) ?_
  simp only [List.take_succ_cons, List.take_zero, List.drop_succ_cons, List.drop_zero]
  repeat (quiet_step (fail))
  refine wpQuiet_nil ?_
  intro _ hw'
  obtain ⟨nq, hw''⟩ := hw'
  subst hw''
  refine wpList_store1 rfl _ (.tmp 74) (.tmp 73) rfl ⟨b11, 2, none⟩ (.int .i64 zh) (.int .i64 xh) rfl rfl rfl rfl Try.sizeOf3 e2 (RowW.fro (w := w9.drewN nq) H9.out.1 2) ?_
  obtain ⟨w10, hWB⟩ : ∃ W, W = (w9.drewN nq).setCell ⟨b11, 2, none⟩ (.int .i64 zh) := ⟨_, rfl⟩
  have H10 : Hid (RowW w10 b11 ⟨xk, zl, zh⟩ ∧ Below w7.heap.size w7 w10) := by
    obtain ⟨k1, k2⟩ := H9.out
    have hg : (w9.drewN nq).grownBy w10 (some b11) := by rw [hWB]; exact grown_setCell _ _ _ _
    refine Lib.hid ⟨by rw [hWB]; exact RowW.setHi (w := w9.drewN nq) k1 zh, ?_⟩
    exact ⟨hg.os.trans k2.os, hg.tape.trans k2.tape, hg.output.trans k2.output, Nat.le_trans k2.size hg.size, fun k hk => (hg.block k (Nat.lt_of_lt_of_le hk k2.size) (by have := Hb11.out; simp; omega)).trans (k2.block k hk)⟩
  rw [← hWB]
  clear hWB e0 e1 e2 d0 d1 d2 f0 f1 hs1 hs2 hs3 hs4 hs5 hs6 H9
  obtain ⟨e0, e1, e2⟩ := H10.out.1.d3
  simp only at e0 e1 e2
  by_cases hbig : (1099511627776 : Int) < zl
  · have HZ := Lib.hid (HYes.out w10 (HKp.out w10 H10.out.2).2.2.1)
    go_wp2_with (fail)
    exact HZ.out
  obtain ⟨Z, hZ⟩ : ∃ Z, Z = WindowL.mk xk zl zh := ⟨_, rfl⟩
  have HZe := Lib.hid hZ
  have HZr : Hid (Z.rightB = true ∧ Z.key = X.key ∧ X.lo ≤ Z.lo ∧ Z.hi ≤ X.hi) := by
    have h := rightW_cases Hrb.out.symm
    have hb := HZb.out
    have hx := HXr.out
    have hnm := h.1
    have hn1 := h.2.1
    have hn2 := h.2.2.1
    rw [hZ]
    rw [HXe.out] at hnm hn1 hn2 ⊢
    refine Lib.hid ⟨?_, rfl, hb.1, hb.2.2⟩
    rw [WindowL.rightB, show (WindowL.mk xk zl zh).key = xk from rfl]
    simp only at hnm
    rw [hnm, Bool.true_and, decide_eq_true_eq]
    simp only
    omega
  have HTset : Hid (Settled T ∧ T.length ≤ 61) := by
    rw [HTs.out.1]
    have := HTe.out.2.2
    rw [HTs.out.1] at this
    exact Lib.hid ⟨(takeS_spec HS.out.2.1 Hrb.out.symm).1, this⟩
  obtain ⟨g2, hg2⟩ : ∃ g, g = gaveW T X := ⟨_, rfl⟩
  obtain ⟨g3, hg3⟩ : ∃ g, g = gaveW T Z := ⟨_, rfl⟩
  have Hg2 : Hid (g2.length = 1) := by
    rw [hg2, HTs.out.1]
    exact Lib.hid (take_again HS.out.2.1 Hrb.out.symm Hrb.out.symm rfl (Int.le_refl _) (Int.le_refl _)).2.2
  have HCt2 : Hid (∀ w', Below w7.heap.size w7 w' → Calls Try.prog 11 #[.slice oa q oc, .agg #[Sv xk, .int .i64 xl, .int .i64 xh]] w' (TakeEnd w' T Y g2)) := by
    refine Lib.hid (fun w' h => ?_)
    have h1 := take_again HS.out.2.1 Hrb.out.symm Hrb.out.symm rfl (Int.le_refl _) (Int.le_refl _)
    rw [← HTs.out.1, ← HTs.out.2] at h1
    have h2 := stake_any w' oa oc T X (HKp.out w' h).2.2.2.1 (fun y hy => HTset.out.1.keys hy) (by have := HXk.out; omega) (by have := HTset.out.2; omega)
    rw [takeL_yes HTset.out.1 Hrb.out.symm, h1.1, h1.2.1, ← hg2, ← Hq.out, HXe.out] at h2
    exact h2
  have HCt3 : Hid (∀ w', Below w7.heap.size w7 w' → Calls Try.prog 11 #[.slice oa q oc, .agg #[Sv xk, .int .i64 zl, .int .i64 zh]] w' (TakeEnd w' T Y g3)) := by
    refine Lib.hid (fun w' h => ?_)
    have h1 := take_again HS.out.2.1 Hrb.out.symm HZr.out.1 HZr.out.2.1 HZr.out.2.2.1 HZr.out.2.2.2
    rw [← HTs.out.1, ← HTs.out.2] at h1
    have h2 := stake_any w' oa oc T Z (HKp.out w' h).2.2.2.1 (fun y hy => HTset.out.1.keys hy) (by have := rightW_cases HZr.out.1; omega) (by have := HTset.out.2; omega)
    rw [takeL_yes HTset.out.1 HZr.out.1, h1.1, h1.2.1, ← hg3, ← Hq.out, HZe.out] at h2
    exact h2
  clear hZ hg2 hg3
  go_upto_region 14 with (fail)
  clear e0 e1 e2 hbig
  obtain ⟨d0, d1, d2⟩ : D3 w10 b4 xk xl xh := by
    have h := (HKp.out w10 H10.out.2).1.d3
    rw [HXe.out] at h
    exact h
  refine wp_region_lit ?_
  iterate 6 go_step
  refine wpList_plain rfl fun K hK => ?_
  go_step
  refine (HCt2.out w10 H10.out.2).mono ?_
  rintro e w11 ⟨v, u, rfl, k1, k2, hB⟩
  refine hK _ _ ?_
  clear hK d0 d1 d2
  obtain ⟨ta, tc, rfl, _, hVW⟩ := k1.form
  obtain ⟨u2, uc2, rfl⟩ := OwnN.len k2
  have H11 : Hid (Below w7.heap.size w7 w11 ∧ RowW w11 b11 Z ∧ WinsAt w11 ta T) := Lib.hid ⟨H10.out.2.trans (hB.mono H10.out.2.size), by rw [HZe.out]; exact H10.out.1.below hB, hVW⟩
  rw [← Hq.out, Hg2.out]
  clear k1 k2 hB hVW H10
  iterate 18 go_step
  refine wpList_store_row rfl _ _ _ rfl w11.heap.size Y.cells rfl rfl 24 zeroW.cells (heap_alloc_new w11 _) window_size rfl (window_one Y) ?_
  obtain ⟨w12, hw⟩ : ∃ V, V = (w11.alloc (Obj.cells #[.string ⟨#[]⟩, .int .i64 0, .int .i64 0] 24)).setRow w11.heap.size Y.cells := ⟨_, rfl⟩
  obtain ⟨b13, hb⟩ : ∃ b, b = w11.heap.size := ⟨_, rfl⟩
  have Hw12 : Hid (RowW w12 b13 Y ∧ Below w11.heap.size w11 w12) := by
    obtain ⟨k1, k2⟩ := stored_window w11 Y
    rw [hw, hb]
    exact Lib.hid ⟨k1, k2⟩
  rw [← hw, ← hb]
  clear hw hb
  have H12 : Hid (Below w7.heap.size w7 w12 ∧ RowW w12 b11 Z ∧ RowW w12 b13 Y ∧ WinsAt w12 ta T) := by
    obtain ⟨k1, k2⟩ := Hw12.out
    obtain ⟨j1, j2, j3⟩ := H11.out
    exact Lib.hid ⟨j1.trans (k2.mono j1.size), j2.below k2, k1, j3.below k2⟩
  clear Hw12 H11
  obtain ⟨e0, e1, e2⟩ : D3 w12 b11 xk zl zh := by
    have h := H12.out.2.1.d3
    rw [HZe.out] at h
    exact h
  go_upto_region 15 with (fail)
  refine wp_region_lit ?_
  iterate 6 go_step
  refine wpList_plain rfl fun K hK => ?_
  go_step
  refine (HCt3.out w12 H12.out.1).mono ?_
  rintro e w13 ⟨v, u, rfl, k1, k2, hB⟩
  refine hK _ _ ?_
  clear hK e0 e1 e2
  obtain ⟨ha, hc, rfl, _, hVW⟩ := k1.form
  obtain ⟨u3, uc3, rfl⟩ := OwnN.len k2
  have H13 : Hid (Below w7.heap.size w7 w13 ∧ RowW w13 b11 Z ∧ RowW w13 b13 Y ∧ WinsAt w13 ta T ∧ WinsAt w13 ha T) := by
    obtain ⟨j1, j2, j3, j4⟩ := H12.out
    exact Lib.hid ⟨j1.trans (hB.mono j1.size), j2.below hB, j3.below hB, j4.below hB, hVW⟩
  obtain ⟨gn3, hgn3⟩ : ∃ n, n = g3.length := ⟨_, rfl⟩
  rw [← Hq.out, ← hgn3]
  clear k1 k2 hB hVW H12 hgn3
  iterate 18 go_step
  refine wpList_store_row rfl _ _ _ rfl w13.heap.size Y.cells rfl rfl 24 zeroW.cells (heap_alloc_new w13 _) window_size rfl (window_one Y) ?_
  obtain ⟨W1, hw⟩ : ∃ V, V = (w13.alloc (Obj.cells #[.string ⟨#[]⟩, .int .i64 0, .int .i64 0] 24)).setRow w13.heap.size Y.cells := ⟨_, rfl⟩
  obtain ⟨b16, hb⟩ : ∃ b, b = w13.heap.size := ⟨_, rfl⟩
  have HW1 : Hid (RowW W1 b16 Y ∧ Below w13.heap.size w13 W1) := by
    obtain ⟨k1, k2⟩ := stored_window w13 Y
    rw [hw, hb]
    exact Lib.hid ⟨k1, k2⟩
  rw [← hw, ← hb]
  clear hw hb
  have H15 : Hid (Below w7.heap.size w7 W1 ∧ RowW W1 b11 ⟨xk, zl, zh⟩ ∧ RowW W1 b13 Y ∧ WinsAt W1 ta T ∧ WinsAt W1 ha T) := by
    obtain ⟨k1, k2⟩ := HW1.out
    obtain ⟨j1, j2, j3, j4, j5⟩ := H13.out
    rw [HZe.out] at j2
    exact Lib.hid ⟨j1.trans (k2.mono j1.size), j2.below k2, j3.below k2, j4.below k2, j5.below k2⟩
  clear HW1 H13
  have HR : Hid (∀ w', Below W1.heap.size W1 w' → D3 w' b4 xk xl xh ∧ D3 w' b11 xk zl zh ∧ D3 w' b13 Y.key Y.lo Y.hi ∧ D3 w' b9 Y.key Y.lo Y.hi) := by
    refine Lib.hid (fun w' h => ?_)
    obtain ⟨k1, k2, k3, k4, k5⟩ := H15.out
    have hB := k1.trans (h.mono k1.size)
    have h4 := (HKp.out w' hB).1.d3
    rw [HXe.out] at h4
    exact ⟨h4, (k2.below h).d3, (k3.below h).d3, (HKp.out w' hB).2.2.2.2.d3⟩
  have HWs : Hid (∀ w', Below W1.heap.size W1 w' → WinsAt w' oa T ∧ WinsAt w' ta T ∧ WinsAt w' ha T ∧ WinsAt w' sa l ∧ Below w.heap.size w w') := by
    refine Lib.hid (fun w' h => ?_)
    obtain ⟨k1, k2, k3, k4, k5⟩ := H15.out
    have hB := k1.trans (h.mono k1.size)
    have hW := (HKp.out w' hB).2.2.1
    exact ⟨(HKp.out w' hB).2.2.2.1, k4.below h, k5.below h, HA.out.below hW, hW⟩
  have HSm : Hid (∀ w' a c a' c', WinsAt w' a T → WinsAt w' a' T → Calls Try.prog 14 #[.slice a q c, .slice a' q c'] w' (Below0 w' (.bool true))) := by
    refine Lib.hid (fun w' a c a' c' h1 h2 => ?_)
    have h := rwSame_any w' a a' c c' T T h1 h2 (by have := HTset.out.2; omega)
    rw [decide_eq_true rfl, ← Hq.out] at h
    exact h
  obtain ⟨VY, hVY⟩ : ∃ V, V = Value.agg #[Sv Y.key, .int .i64 Y.lo, .int .i64 Y.hi] := ⟨_, rfl⟩
  obtain ⟨VX, hVX⟩ : ∃ V, V = Value.agg #[Sv xk, .int .i64 xl, .int .i64 xh] := ⟨_, rfl⟩
  obtain ⟨VZ, hVZ⟩ : ∃ V, V = Value.agg #[Sv xk, .int .i64 zl, .int .i64 zh] := ⟨_, rfl⟩
  have HV : Hid (VY = Value.agg #[Sv Y.key, .int .i64 Y.lo, .int .i64 Y.hi] ∧ VX = Value.agg #[Sv xk, .int .i64 xl, .int .i64 xh] ∧ VZ = Value.agg #[Sv xk, .int .i64 zl, .int .i64 zh] ∧ VX = Value.agg X.cells ∧ VZ = Value.agg Z.cells ∧ (∀ w, (binOp .eql 24 VY VY).run Try.prog w = .ok (.bool true) w) ∧ ∀ w op o1 o2, (eqGuard op 24 o1 o2 VY VY).run Try.prog w = .ok () w) := by
    refine Lib.hid ⟨hVY, hVX, hVZ, by rw [hVX, HXe.out]; rfl, by rw [hVZ, HZe.out]; rfl, ?_, ?_⟩
    · intro w; rw [hVY]; have h := run_eql_window w Y Y; rw [(sameW_iff _ _).2 rfl] at h; exact h
    · intro w op o1 o2; rw [hVY]; exact run_guard_window w op o1 o2 Y Y
  obtain ⟨N2, hN2⟩ : ∃ m, m = (l ++ [X, Z]).length := ⟨_, rfl⟩
  have HAl : Hid (∀ w' a c, WinsAt w' a (l ++ [X, Z]) → Calls Try.prog 16 #[.slice a N2 c] w' (WinsNew w' T)) := by
    refine Lib.hid (fun w' a c h => ?_)
    have h1 := sAll_any w' a c (l ++ [X, Z]) h (fun y hy => by
      rcases List.mem_append.1 hy with hy | hy
      · exact Nat.le_trans (HL.out.2 y hy) (by decide)
      · simp only [List.mem_cons, List.not_mem_nil, or_false] at hy
        rcases hy with rfl | rfl
        · have := HXk.out; omega
        · have := rightW_cases HZr.out.1; omega) (by rw [List.length_append]; have := HL.out.1; have := HN.out; simp; omega)
    rw [allL_more Hrb.out.symm HZr.out.1 HZr.out.2.1 HZr.out.2.2.1 HZr.out.2.2.2, ← HS.out.1, ← HTs.out.1, ← hN2] at h1
    exact h1
  have HN2 : Hid (N2 = (l ++ [X, Z]).length ∧ l.length ≤ 60) := Lib.hid ⟨hN2, by have := HL.out.1; have := HN.out; omega⟩
  have HG0 : Hid (Below W1.heap.size W1 W1.drew) := (Below.refl _ W1).drew
  clear hVY hVX hVZ hN2
  go_upto_region 16 with (fail)
  refine wp_region_skip_frame (fun i => ([] : List Nat).contains i) (by kernel_rfl) [none, none, none, none, none, none, none, none, none, none, none, none, none, none, none, none, none, none, none, none, none, none, some 0, none, none, none, some 1, none, none, none, none] [22, 26] (VL ((Value.slice oa q oc) :: (Value.slice ta q tc) :: (Value.bool true) :: (Value.bool true) :: VY :: VY :: (Value.bool true) :: (Value.bool true) :: (Value.bool true) :: (Value.slice u2 1 uc2) :: (Value.int .i64 1) :: (Value.bool true) :: (Value.bool true) :: (Value.bool true) :: (Value.slice ha q hc) :: (Value.slice oa q oc) :: (Value.bool true) :: (Value.bool true) :: (Value.bool true) :: (Value.slice oa q oc) :: undef :: (Value.slice sa n sc) :: undef :: VX :: VZ :: undef :: undef :: undef :: (Value.bool true) :: (Value.bool true) :: (Value.bool true) :: ([] : List Value)) (TwL W1.heap.size l T X Z q)) (fun _ w' => Below W1.heap.size W1 w') (fun w w' => Below w.heap.size w w') (VL_le _ _ (TwL_le W1.heap.size l T X Z q)) (by kernel_rfl) (by kernel_rfl) (by kernel_rfl) HG0.out (fun _ => ⟨rfl, rfl, rfl, rfl, fun _ _ h => .inl h, fun _ _ h => .inl h, fun _ _ h => .inl h, rfl, rfl, fun _ _ h => .inl h, fun _ _ h => .inl h, fun _ _ h => .inl h, rfl, rfl, fun _ _ h => .inl h, fun _ _ h => .inl h, fun _ _ h => .inl h, rfl, rfl, fun _ _ h => .inl h, fun _ _ h => .inl h, fun _ _ h => .inl h, fun _ _ h => .inl h, fun _ _ h => .inl h, fun _ _ h => .inl h, fun _ _ h => .inl h, fun _ _ h => .inl h, fun _ _ h => .inl h, fun _ _ h => .inl h, rfl, rfl, trivial⟩) (fun _ h => by simp at h) ?_ ?_
  · refine ⟨?_, ?_, ?_, ?_, ?_, ?_, ?_, ?_, ?_, ?_, ?_, ?_, ?_, ?_, ?_, ?_, ?_, ?_, ?_, ?_, ?_, ?_, ?_, ?_, ?_, ?_, ?_, ?_, ?_, ?_, ?_, trivial⟩
    · intro _ _ a w' hG hout hpre K hK
      have q8 := ev_of ((hout 8 rfl).trans (show _ = .slice oa q oc from rfl))
      clear hout hpre
      go_step
      exact hK _ _ rfl hG (Below.refl _ _)
    · intro _ _ a w' hG hout hpre K hK
      have q12 := ev_of ((hout 12 rfl).trans (show _ = .slice ta q tc from rfl))
      clear hout hpre
      go_step
      exact hK _ _ rfl hG (Below.refl _ _)
    · intro _ _ a w' hG hout hpre K hK
      obtain ⟨p0, p1, _⟩ := hpre
      have q92 := ev_of (show a.eval (.tmp 92) = .slice oa q oc from p0)
      have q93 := ev_of (show a.eval (.tmp 93) = .slice ta q tc from p1)
      have HS_ := Lib.hid (HSm.out w' oa oc ta tc (HWs.out w' hG).1 (HWs.out w' hG).2.1)
      clear hout p0 p1
      go_step
      refine HS_.out.mono ?_
      rintro e w3 ⟨rfl, hB⟩
      exact hK _ _ rfl (hG.trans (hB.mono hG.size)) hB
    · intro _ _ a w' hG hout hpre K hK
      obtain ⟨p0, _⟩ := hpre
      have q94 := ev_of (show a.eval (.tmp 94) = .bool true from p0)
      clear hout p0
      go_step
      exact hK _ _ rfl hG (Below.refl _ _)
    · intro _ _ a w' hG hout hpre K hK
      have q13 := ev_of ((hout 13 rfl).trans (show _ = .pointer (some ⟨b13, 0, none⟩) from rfl))
      obtain ⟨d0, d1, d2⟩ := (HR.out w' hG).2.2.1
      clear hout hpre
      go_step
      exact hK _ _ HV.out.1.symm hG (Below.refl _ _)
    · intro _ _ a w' hG hout hpre K hK
      have q9 := ev_of ((hout 9 rfl).trans (show _ = .pointer (some ⟨b9, 0, none⟩) from rfl))
      obtain ⟨d0, d1, d2⟩ := (HR.out w' hG).2.2.2
      clear hout hpre
      go_step
      exact hK _ _ HV.out.1.symm hG (Below.refl _ _)
    · intro _ _ a w' hG hout hpre K hK
      obtain ⟨p0, p1, _⟩ := hpre
      have q96 := ev_of (show a.eval (.tmp 96) = VY from p0)
      have q97 := ev_of (show a.eval (.tmp 97) = VY from p1)
      have he := HV.out.2.2.2.2.2.1
      have hgd := HV.out.2.2.2.2.2.2
      clear hout p0 p1
      go_step
      exact hK _ _ rfl hG (Below.refl _ _)
    · intro _ _ a w' hG hout hpre K hK
      obtain ⟨p0, p1, _⟩ := hpre
      have q95 := ev_of (show a.eval (.tmp 95) = .bool true from p0)
      have q98 := ev_of (show a.eval (.tmp 98) = .bool true from p1)
      clear hout p0 p1
      go_step
      exact hK _ _ rfl hG (Below.refl _ _)
    · intro _ _ a w' hG hout hpre K hK
      obtain ⟨p0, _⟩ := hpre
      have q99 := ev_of (show a.eval (.tmp 99) = .bool true from p0)
      clear hout p0
      go_step
      exact hK _ _ rfl hG (Below.refl _ _)
    · intro _ _ a w' hG hout hpre K hK
      have q14 := ev_of ((hout 14 rfl).trans (show _ = .slice u2 1 uc2 from rfl))
      clear hout hpre
      go_step
      exact hK _ _ rfl hG (Below.refl _ _)
    · intro _ _ a w' hG hout hpre K hK
      obtain ⟨p0, _⟩ := hpre
      have q101 := ev_of (show a.eval (.tmp 101) = .slice u2 1 uc2 from p0)
      clear hout p0
      go_step
      exact hK _ _ rfl hG (Below.refl _ _)
    · intro _ _ a w' hG hout hpre K hK
      obtain ⟨p0, _⟩ := hpre
      have q102 := ev_of (show a.eval (.tmp 102) = .int .i64 1 from p0)
      clear hout p0
      go_step
      exact hK _ _ rfl hG (Below.refl _ _)
    · intro _ _ a w' hG hout hpre K hK
      obtain ⟨p0, p1, _⟩ := hpre
      have q100 := ev_of (show a.eval (.tmp 100) = .bool true from p0)
      have q103 := ev_of (show a.eval (.tmp 103) = .bool true from p1)
      clear hout p0 p1
      go_step
      exact hK _ _ rfl hG (Below.refl _ _)
    · intro _ _ a w' hG hout hpre K hK
      obtain ⟨p0, _⟩ := hpre
      have q104 := ev_of (show a.eval (.tmp 104) = .bool true from p0)
      clear hout p0
      go_step
      exact hK _ _ rfl hG (Below.refl _ _)
    · intro _ _ a w' hG hout hpre K hK
      have q15 := ev_of ((hout 15 rfl).trans (show _ = .slice ha q hc from rfl))
      clear hout hpre
      go_step
      exact hK _ _ rfl hG (Below.refl _ _)
    · intro _ _ a w' hG hout hpre K hK
      have q8 := ev_of ((hout 8 rfl).trans (show _ = .slice oa q oc from rfl))
      clear hout hpre
      go_step
      exact hK _ _ rfl hG (Below.refl _ _)
    · intro _ _ a w' hG hout hpre K hK
      obtain ⟨p0, p1, _⟩ := hpre
      have q106 := ev_of (show a.eval (.tmp 106) = .slice ha q hc from p0)
      have q107 := ev_of (show a.eval (.tmp 107) = .slice oa q oc from p1)
      have HS_ := Lib.hid (HSm.out w' ha hc oa oc (HWs.out w' hG).2.2.1 (HWs.out w' hG).1)
      clear hout p0 p1
      go_step
      refine HS_.out.mono ?_
      rintro e w3 ⟨rfl, hB⟩
      exact hK _ _ rfl (hG.trans (hB.mono hG.size)) hB
    · intro _ _ a w' hG hout hpre K hK
      obtain ⟨p0, p1, _⟩ := hpre
      have q105 := ev_of (show a.eval (.tmp 105) = .bool true from p0)
      have q108 := ev_of (show a.eval (.tmp 108) = .bool true from p1)
      clear hout p0 p1
      go_step
      exact hK _ _ rfl hG (Below.refl _ _)
    · intro _ _ a w' hG hout hpre K hK
      obtain ⟨p0, _⟩ := hpre
      have q109 := ev_of (show a.eval (.tmp 109) = .bool true from p0)
      clear hout p0
      go_step
      exact hK _ _ rfl hG (Below.refl _ _)
    · intro _ _ a w' hG hout hpre K hK
      have q8 := ev_of ((hout 8 rfl).trans (show _ = .slice oa q oc from rfl))
      clear hout hpre
      go_step
      exact hK _ _ rfl hG (Below.refl _ _)
    · intro _ _ a w' hG hout hpre K hK
      clear hout hpre
      go_step
      exact hK _ _ (fun _ => ⟨w'.heap.size, rfl, heap_alloc_new w' _, hG.size⟩) (hG.alloc hG.size _) ((Below.refl _ w').alloc (Nat.le_refl _) _)
    · intro _ _ a w' hG hout hpre K hK
      have q0 := ev_of ((hout 0 rfl).trans (show _ = .slice sa n sc from rfl))
      clear hout hpre
      go_step
      exact hK _ _ rfl hG (Below.refl _ _)
    · intro _ a w' hG hout hpre K hK
      obtain ⟨p0, p1, _⟩ := hpre
      obtain ⟨h, hv, hh, hb⟩ := (show (0 = 0) → (∃ h, a.eval (.tmp 112) = .slice (some ⟨h, 0, none⟩) 0 0 ∧ w'.heap[h]? = some (.cells #[] 24 (0, 0)) ∧ W1.heap.size ≤ h) from p0) rfl
      have q113 := (show a.eval (.tmp 113) = .slice sa n sc from p1)
      clear hout p0 p1
      have own : OwnW w' W1.heap.size (.slice (some ⟨h, 0, none⟩) 0 0) [] := ⟨rfl, .inr ⟨h, 0, #[], rfl, hb, hh, Nat.le_refl _, by decide, rfl, rfl⟩⟩
      refine wp_appendW (.tmp 112) (.tmp 113) rfl W1.heap.size (.slice (some ⟨h, 0, none⟩) 0 0) [] l hv own sa sc n HN.out q113 (HWs.out w' hG).2.2.2.1 (by have := HN2.out.2; simp; omega) hG.size ?_
      intro v' w3 g1 g2 g3
      rw [List.nil_append] at g1
      exact hK _ _ (fun _ => g1) (hG.trans (OwnW.below own g2 hG.size)) (VL_keep _ (TwL_keep22 hh g2))
    · intro _ _ a w' hG hout hpre K hK
      have q4 := ev_of ((hout 4 rfl).trans (show _ = .pointer (some ⟨b4, 0, none⟩) from rfl))
      obtain ⟨d0, d1, d2⟩ := (HR.out w' hG).1
      clear hout hpre
      go_step
      exact hK _ _ HV.out.2.1.symm hG (Below.refl _ _)
    · intro _ _ a w' hG hout hpre K hK
      have q11 := ev_of ((hout 11 rfl).trans (show _ = .pointer (some ⟨b11, 0, none⟩) from rfl))
      obtain ⟨d0, d1, d2⟩ := (HR.out w' hG).2.1
      clear hout hpre
      go_step
      exact hK _ _ HV.out.2.2.1.symm hG (Below.refl _ _)
    · intro _ _ a w' hG hout hpre K hK
      obtain ⟨p0, p1, _⟩ := hpre
      have qa := (show a.eval (.tmp 115) = VX from p0)
      have qb := (show a.eval (.tmp 116) = VZ from p1)
      clear hout p0 p1
      rw [HV.out.2.2.2.1] at qa
      rw [HV.out.2.2.2.2.1] at qb
      refine wp_slice2_W (.tmp 115) (.tmp 116) rfl X Z qa qb ?_
      have hB : Below w'.heap.size w' (w'.alloc (.cells (X.cells ++ Z.cells) 24)) := (Below.refl _ w').alloc (Nat.le_refl _) _
      exact hK _ _ (fun _ => ⟨w'.heap.size, rfl, heap_alloc_new w' _⟩) (hG.trans (hB.mono hG.size)) hB
    · intro _ a w' hG hout hpre K hK
      obtain ⟨p0, p1, _⟩ := hpre
      have own := (show (1 = 1) → OwnW w' W1.heap.size (a.eval (.tmp 114)) l from p0) rfl
      obtain ⟨gq, hv, hg⟩ := (show (1 ≤ 1) → (∃ g, a.eval (.tmp 117) = .slice (some ⟨g, 0, none⟩) 2 2 ∧ w'.heap[g]? = some (.cells (X.cells ++ Z.cells) 24 (0, 0))) from p1) (Nat.le_refl _)
      clear hout p0 p1
      refine wp_appendW (.tmp 114) (.tmp 117) rfl W1.heap.size _ l [X, Z] rfl own (some ⟨gq, 0, none⟩) 2 2 rfl hv (WinsAt.two hg) (by have := HN2.out.2; simp; omega) hG.size ?_
      intro v' w3 g1 g2 g3
      exact hK _ _ ⟨Nat.le_refl 2, g1⟩ (hG.trans (OwnW.below own g2 hG.size)) (VL_keep _ TwL_keep26)
    · intro _ k a w' hG hout hpre K hK
      obtain ⟨p0, _⟩ := hpre
      obtain ⟨hk2, own⟩ := (show 2 ≤ k ∧ OwnW w' W1.heap.size (a.eval (.tmp 118)) (l ++ [X, Z]) from p0)
      obtain ⟨a', c', e, _, hW⟩ := own.form
      rw [← HN2.out.1] at e
      have q := ev_of e
      have HS_ := Lib.hid (HAl.out w' a' c' hW)
      have Hk2 := Lib.hid hk2
      clear hout own e hW hk2 p0
      go_step
      refine HS_.out.mono ?_
      rintro e w3 ⟨v, rfl, k1, hB⟩
      obtain ⟨a'', c'', rfl, _, hW⟩ := k1.form
      exact hK _ _ ⟨Hk2.out, a'', c'', by rw [Hq.out], hW⟩ (hG.trans (hB.mono hG.size)) hB
    · intro _ k a w' hG hout hpre K hK
      obtain ⟨p0, p1, _⟩ := hpre
      have q111 := ev_of (show a.eval (.tmp 111) = .slice oa q oc from p0)
      obtain ⟨_, a', c', hv, hW⟩ := (show 2 ≤ k ∧ ∃ a' c, a.eval (.tmp 119) = .slice a' q c ∧ WinsAt w' a' T from p1)
      have q119 := ev_of hv
      have HS_ := Lib.hid (HSm.out w' oa oc a' c' (HWs.out w' hG).1 hW)
      clear hout hv hW p0 p1
      go_step
      refine HS_.out.mono ?_
      rintro e w3 ⟨rfl, hB⟩
      exact hK _ _ rfl (hG.trans (hB.mono hG.size)) hB
    · intro _ _ a w' hG hout hpre K hK
      obtain ⟨p0, p1, _⟩ := hpre
      have q110 := ev_of (show a.eval (.tmp 110) = .bool true from p0)
      have q120 := ev_of (show a.eval (.tmp 120) = .bool true from p1)
      clear hout p0 p1
      go_step
      exact hK _ _ rfl hG (Below.refl _ _)
    · intro _ _ a w' hG hout hpre K hK
      obtain ⟨p0, _⟩ := hpre
      have q121 := ev_of (show a.eval (.tmp 121) = .bool true from p0)
      clear hout p0
      go_step
      exact hK _ _ rfl hG (Below.refl _ _)
  · intro vs w2_ hG hlen hV
    match vs, hlen, hV with
    | v0 :: v1 :: v2 :: v3 :: v4 :: v5 :: v6 :: v7 :: v8 :: v9 :: v10 :: v11 :: v12 :: v13 :: v14 :: v15 :: v16 :: v17 :: v18 :: v19 :: v20 :: v21 :: v22 :: v23 :: v24 :: v25 :: v26 :: v27 :: v28 :: v29 :: v30 :: [], _, hV =>
      obtain rfl : v30 = .bool true := (hV 30 6 v30 rfl rfl)
      clear hV
      simp only [putsL, List.tail_cons, List.headD_cons]
      simp only [Act.put, List.setIfInBounds_toArray, List.set_cons_succ, List.set_cons_zero]
      have HZ := Lib.hid (HYes.out w2_ (HWs.out w2_ hG).2.2.2.2)
      clear hG
      go_wp2_with (fail)
      exact HZ.out
end Go.Proofs.Ytbfioekbahcicaa
