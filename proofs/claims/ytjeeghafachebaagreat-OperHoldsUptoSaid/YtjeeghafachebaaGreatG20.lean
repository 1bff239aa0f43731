/-
  Part 20 of 53 of what the proof leans on.
-/
import Derived.Test.YtjeeghafachebaaGreatG17
import Derived.Test.YtjeeghafachebaaGreatG18
import Derived.Test.YtjeeghafachebaaGreatG19
namespace Go.Proofs.YtjeeghafachebaaGreat
open Go Go.RowKit
theorem ints_cells {w : World} {v : Value} {l : List Int} (h : IntsAt w v l) : ∃ a c, v = .slice a l.length c ∧ l.length ≤ c ∧ ((a = none ∧ l = []) ∨ ∃ b o, a = some ⟨b, o, none⟩ ∧ ∀ j u, (intsV l)[j]? = some u → w.cell? ⟨b, o + j, none⟩ = some u) := by
  obtain ⟨a, c, e, hc, h⟩ := h; refine ⟨a, c, e, hc, ?_⟩
  rcases h with h | ⟨b, o, h, _, h'⟩
  · exact .inl h
  · refine .inr ⟨b, o, h, fun j u hj => ?_⟩; rw [intsV, List.getElem?_map] at hj
    cases hx : l[j]? with
    | none => rw [hx] at hj; cases hj
    | some x =>
      rw [hx] at hj
      cases hj
      exact h' j x hx
theorem intsV_one (l : List Int) : ∀ u ∈ intsV l, u.oneCell' = true := by
  intro u hu; obtain ⟨x, _, rfl⟩ := List.mem_map.1 hu; rfl
theorem cloneI_any (w : World) (v : Value) (l : List Int) (h : IntsAt w v l) (hn : l.length ≤ 1000000) :
    Calls Tryz.prog 34 #[v] w (fun e w' => ∃ v', e = .returned v' ∧ IntsAt w' v' l ∧ Below w.heap.size w w' ∧ ∀ a n c, v' = .slice (some a) n c → w.heap.size ≤ a.block) := by
  obtain ⟨a, c, rfl, hc, h1⟩ := ints_cells h; clear h
  rcases h1 with ⟨rfl, rfl⟩ | ⟨b, o, rfl, h⟩
  · refine (AnyE.slices_Clone_nil Tryz.cloneI _ c w).mono ?_; rintro e w' ⟨rfl, hw⟩; subst w'
    exact ⟨_, rfl, IntsAt.nil w, Below.refl _ _, fun _ _ _ h => by cases h⟩
  · obtain ⟨i, hi, hz0, hz1, hz2⟩ := info_parts (P := Tryz.prog) (e := 3) (z := .int .i64 0) (size := 1) (bytes := 8) (by kernel_rfl)
    refine (AnyE.slices_Clone Tryz.cloneI i _ 1 8 hi hz0 hz1 hz2 rfl (by decide) Tryz.sizeOf3 b o l.length c (intsV l) w (by rw [intsV_length]; omega) (by unfold maxLen; omega) (by omega) h (intsV_one l)).mono ?_
    rintro e w' ⟨v', rfl, k1, _, k3⟩; refine ⟨v', rfl, ?_, k3, fun a n c e => ?_⟩
    rotate_left
    · rcases k1.2 with ⟨h1, _⟩ | ⟨g, cap, cur, h1, hb, _⟩
      · rw [h1] at e
        cases e
      · rw [h1] at e
        cases e
        exact hb
    have h1 : OwnZ w' w.heap.size v' l := by
      unfold OwnZ Own; rw [intsV_length]; exact k1
    exact h1.ints
theorem closure_any (w : World) (x y : Int) : Calls Tryz.prog 156 #[.int .i64 x, .int .i64 y] w (fun e w' => e = .returned (.int .i64 (ordI y x)) ∧ w' = w) := by
  have HC := Lib.hid (cmpI_any w y x); obtain ⟨r, hr⟩ : ∃ r, r = ordI y x := ⟨_, rfl⟩; rw [← hr] at HC ⊢; clear hr
  go_enter Tryz.func156, Tryz.ntmps156
  go_wp2_with (fail); refine HC.out.mono ?_; rintro e w' ⟨rfl, hw⟩; subst w'; dsimp only; go_wp2_with (fail); go_ret; exact ⟨rfl, rfl⟩
theorem ltOf_fall (x y : Int) : ltOf (fun x y => ordI y x) x y = decide (y < x) := by
  unfold ltOf; refine decide_eq_decide.2 ?_
  show ordI y x < 0 ↔ y < x
  rcases ordI_cases y x with ⟨h, e⟩ | ⟨h, e⟩ | ⟨h, e⟩ <;> omega
theorem swo_fall : Sort.SWO (ltOf (fun x y : Int => ordI y x)) where
  irrefl x := by rw [ltOf_fall]; exact decide_eq_false (by omega)
  trans x y z h1 h2 := by
    rw [ltOf_fall] at *; have := of_decide_eq_true h1; have := of_decide_eq_true h2
    exact decide_eq_true (by omega)
  ntrans x y z h1 h2 := by
    rw [ltOf_fall] at *; have := of_decide_eq_false h1; have := of_decide_eq_false h2
    exact decide_eq_false (by omega)
theorem flat_ints (l : List Int) (cur : Array Value) (h : l.length ≤ cur.size) : (Sort.putCells (Value.int .i64) 0 l.toArray cur).toList.take l.length = intsV l := by
  apply List.ext_getElem?
  intro k; rw [List.getElem?_take]
  by_cases hk : k < l.length
  · rw [if_pos hk, Array.getElem?_toList]
    have h1 : k < (Sort.putCells (Value.int .i64) 0 l.toArray cur).size := by
      simp [Sort.putCells]; omega
    rw [Array.getElem?_eq_getElem h1, intsV, List.getElem?_map, List.getElem?_eq_getElem hk]; simp [Sort.putCells, hk]
  · rw [if_neg hk, List.getElem?_eq_none (by rw [intsV_length]; omega)]
def SortIEnd (w : World) (base : Nat) (v : Value) (l : List Int) (e : Ending) (w' : World) : Prop :=
  e = .returned (.tuple #[]) ∧ ∃ l', l'.Perm l ∧ Falling l' ∧ OwnZ w' base v l' ∧ w.grownBy w' v.ownBlock
theorem sortI_any (w : World) (base : Nat) (v : Value) (l : List Int) (hO : OwnZ w base v l) (hn : l.length ≤ 1000000) :
    Calls Tryz.prog 155 #[v, .func (.func 156) #[] #[]] w (SortIEnd w base v l) := by
  have hO' := hO; have hO2 := hO; unfold OwnZ Own at hO2; rw [intsV_length] at hO2
  by_cases h0 : l.length = 0
  · obtain rfl : l = [] := List.eq_nil_of_length_eq_zero h0; obtain ⟨a, c, rfl, _, _⟩ := hO.ints
    refine (AnyF.slices_SortFunc_none { Tryz.sortI with } a c (.func (.func 156) #[] #[]) w).mono ?_
    rintro e w' ⟨rfl, hw⟩; subst w'; exact ⟨rfl, [], List.Perm.nil, List.Pairwise.nil, hO', ⟨rfl, rfl, rfl, Nat.le_refl _, fun _ _ _ => rfl⟩⟩
  · obtain ⟨g, c, rfl, hb, hg⟩ := World.ownsRow.form hO2 (by omega)
    obtain ⟨cur, hcur, hcs, htk, hnc, hcm⟩ : ∃ cur : Array Value, w.heap[g]? = some (.cells cur 3 (0, 0)) ∧ cur.size = c * 1 ∧ cur.toList.take (l.length * 1) = intsV l ∧ l.length ≤ c ∧ c ≤ maxLen := by
      rcases hO2.2 with ⟨h', _⟩ | ⟨g', cap', cur, h', _, hg, hnc, hcm, hcs, htake⟩
      · simp at h'
      · simp only [Value.slice.injEq, Option.some.injEq, Addr.mk.injEq, and_true] at h'; obtain ⟨rfl, _, rfl⟩ := h'; exact ⟨cur, hg, hcs, htake, hnc, hcm⟩
    have hH : Sort.Holds (Value.int .i64) w g 0 l.toArray := by
      intro j hj
      have hjl : j < l.length := by simpa using hj
      refine ⟨?_, frozen_of_row w g (0 + j) cur _ hcur⟩
      rw [Nat.zero_add, World.ownsRow.cellAt hO2 j (by omega), intsV, List.getElem?_map, List.getElem?_eq_getElem hjl, getElem!_pos l.toArray j hj]
      simp
    have hcmp : CmpLays1 Tryz.prog 156 #[] (Value.int .i64) (fun x y : Int => ordI y x) g 0 l.toArray.size w := by
      intro m os dk _ x y; refine (closure_any _ x y).mono ?_; rintro e w' ⟨rfl, hw⟩
      exact ⟨rfl, 0, #[], by rw [hw]; simp [Sort.grow, World.drewN]⟩
    have eg : ∀ args w, (callFunc 156 args).run Tryz.prog w = .ok (.enter 156 args) w := enters_of Tryz.func156 (by kernel_rfl) rfl
    have hcon := Any.slices_SortFunc Tryz.sortI (Value.int .i64) (fun _ => rfl) (fun x y : Int => ordI y x) swo_fall 156 #[] g 0 c l.toArray w eg hcmp hH hg (by simp; omega)
    refine hcon.mono ?_; rintro e w' ⟨rfl, d', n, os, hp, hs, rfl⟩; obtain ⟨p1, _, p3⟩ := hp
    have hds : d'.size = l.length := by rw [p1]; rfl
    have hperm : d'.toList.Perm l := by
      have e1 : d'.extract 0 l.toArray.size = d' := by rw [← p1]; simp
      have e2 : l.toArray.extract 0 l.toArray.size = l.toArray := by simp
      rw [e1, e2] at p3; exact p3
    have hrow : (sortWorld (Value.int .i64) w g 0 n d' os).heap[g]? = some (.cells (Sort.putCells (Value.int .i64) 0 d' cur) 3 (0, 0)) := by
      unfold sortWorld Sort.grow Sort.putRow Sort.mapBlock Sort.ahead; simp only
      rw [Array.getElem?_append, if_pos (by simpa using hg), Array.getElem?_modify, if_pos rfl, hcur]
      rfl
    refine ⟨rfl, d'.toList, hperm, ?_, ?_, ⟨rfl, rfl, rfl, ?_, fun k hk hne => ?_⟩⟩
    · unfold Falling; rw [List.pairwise_iff_getElem]; intro i j hi hj hij; rw [Array.length_toList] at hi hj
      have h := hs i j (Nat.zero_le _) hij (by rw [hds] at hj; simpa using hj)
      rw [ltOf_fall, decide_eq_false_iff_not, getElem!_pos d' i hi, getElem!_pos d' j hj] at h; simp only [Array.getElem_toList]; omega
    · have hl' : d'.toList.length = l.length := hperm.length_eq; unfold OwnZ Own; rw [intsV_length]
      refine ⟨by rw [intsV_length]; omega, .inr ⟨g, c, _, by rw [hl'], hb, hrow, by omega, hcm, by simp [Sort.putCells, hcs], ?_⟩⟩
      have := flat_ints d'.toList cur (by rw [hl', hcs]; omega)
      rw [Nat.mul_one]
      simpa using this
    · unfold sortWorld Sort.grow Sort.putRow Sort.mapBlock Sort.ahead; simp
    · have hgk : g ≠ k := fun e => hne (by rw [← e]; rfl)
      unfold sortWorld Sort.grow Sort.putRow Sort.mapBlock Sort.ahead; simp only
      rw [Array.getElem?_append, if_pos (by simpa using hk), Array.getElem?_modify, if_neg hgk]
end Go.Proofs.YtjeeghafachebaaGreat
namespace Go.Proofs.YtjeeghafachebaaGreat
open Go Go.RowKit
theorem append_ownZ (w : World) (base : Nat) (v : Value) (l1 l2 : List Int) (hown : OwnZ w base v l1) (u : Value) (h : IntsAt w u l2) (hl : l1.length + l2.length ≤ 1000000) (hb : base ≤ w.heap.size) (ty : TypeId) :
    ∃ v' w', (Builtin.append_ #[48, 48] ty #[v, u]).run Tryz.prog w = .ok v' w' ∧ OwnZ w' base v' (l1 ++ l2) ∧ w.grownBy w' v.ownBlock ∧ (v'.ownBlock = v.ownBlock ∨ v'.ownBlock = some w.heap.size) := by
  obtain ⟨i, hi, hz, hs, hby⟩ := info_parts (P := Tryz.prog) (e := 3) (z := .int .i64 0) (size := 1) (bytes := 8) (by kernel_rfl)
  have hown' := hown; unfold OwnZ Own at hown'; rw [intsV_length] at hown'; obtain ⟨a, c, rfl, hc, h1⟩ := ints_cells h; clear h
  rcases h1 with ⟨rfl, rfl⟩ | ⟨b, o, rfl, h⟩
  · refine ⟨v, w, ?_, by simpa using hown, ⟨rfl, rfl, rfl, Nat.le_refl _, fun _ _ _ => rfl⟩, .inl rfl⟩
    rcases hown'.2 with ⟨hv, hn⟩ | ⟨g, cap, cur, hv, _, hg, hle, _⟩
    · rw [hv]; simp [Builtin.append_, run_underlying Tryz.underlying48, sizeOf, typeInfo, hi, Builtin.lenOf, Builtin.firstCells]
    · rw [hv]; simp [Builtin.append_, run_underlying Tryz.underlying48, sizeOf, typeInfo, hi, Builtin.lenOf, Builtin.firstCells, storeCells, loadCells, hle]
  · obtain ⟨v', w', k1, k2, k3, _, k5⟩ := run_append_own_at (P := Tryz.prog) w base 48 ty 3 i _ 1 8 Tryz.underlying48 hi hz hs hby rfl (by decide) v l1.length (intsV l1) hown' ⟨b, o, none⟩ l2.length c (intsV l2) (by rw [intsV_length]; omega) (fun j u hj => by rw [addr_add]; exact h j u hj) (intsV_one l2)
      (by unfold maxLen; omega) (by omega) hb
    refine ⟨v', w', k1, ?_, k3, k5⟩; unfold OwnZ Own
    rw [intsV_length, List.length_append, show intsV (l1 ++ l2) = intsV l1 ++ intsV l2 by simp [intsV]]
    exact k2
theorem wpList_appendZ {ops : Array Oper} {rest : List Oper} {o : Oper} {a : Act} {Q : Exit → Act → World → Prop} {w : World} (hgd : o.guard = none) (s x : Operand)
    (ho : o.op = .call { callee := .builtin .append, args := #[s, x], argTypes := #[48, 48] }) (base : Nat) (v : Value) (l1 l2 : List Int) (hs : a.eval s = v) (hown : OwnZ w base v l1)
    (u : Value) (hx : a.eval x = u) (hm : IntsAt w u l2) (hl : l1.length + l2.length ≤ 1000000) (hb : base ≤ w.heap.size)
    (h : ∀ v' w', OwnZ w' base v' (l1 ++ l2) → w.grownBy w' v.ownBlock → wpList Tryz.prog ops Q rest (a.put o.dst v') w') : wpList Tryz.prog ops Q (o :: rest) a w := by
  refine wpList_plain hgd fun K hK => ?_; obtain ⟨v', w', hr, h2, h3, h4⟩ := append_ownZ w base v l1 l2 hown u hm hl hb o.type; unfold Oper.wp execOp; simp only [ho, resolve, invoke, builtin, Sem.run_bind, Sem.run_pure, Result.andThen_ok, List.map_toArray, List.map_cons, List.map_nil, hs, hx, hr]; exact hK _ _ (h v' w' h2 h3)
theorem OwnZ.nil (w : World) (base : Nat) : OwnZ w base (.slice none 0 0) [] := Own.nil _ _ _
theorem OwnZ.lt {w : World} {base : Nat} {v : Value} {l : List Int} (h : OwnZ w base v l) {k : Nat} (hk : v.ownBlock = some k) : base ≤ k ∧ k < w.heap.size := Own.lt h hk
theorem OwnZ.below {w w' : World} {base : Nat} {v : Value} {l : List Int} (h : OwnZ w base v l) (hg : w.grownBy w' v.ownBlock) (hb : base ≤ w.heap.size) : Below base w w' :=
  ⟨hg.os, hg.tape, hg.output, hg.size, fun k hk => hg.block k (by omega) (fun he => by have := h.lt he.symm; omega)⟩
theorem growI_any (w : World) (n : Nat) (hn : n ≤ 1000000) : Calls Tryz.prog 160 #[.slice none 0 0, .int .i64 (n : Int)] w (fun e w' => ∃ v, e = .returned v ∧ OwnZ w' w.heap.size v [] ∧ Below w.heap.size w w') := by
  by_cases h0 : n = 0
  · subst h0
    refine (Any8.slices_Grow_room Tryz.growI none 0 0 0 w (Nat.le_refl _) (by decide) (by decide) (by decide)).mono ?_
    rintro e w' ⟨rfl, hw⟩; subst w'; exact ⟨_, rfl, OwnZ.nil w _, Below.refl _ _⟩
  · obtain ⟨i, hi, hz, hs, hby⟩ := info_parts (P := Tryz.prog) (e := 3) (z := .int .i64 0) (size := 1) (bytes := 8) (by kernel_rfl)
    refine (Any8.slices_Grow_grow Tryz.growI i _ hi hz (by omega) none 0 0 n [] w (Nat.le_refl _) (by omega) (by rw [hby]; omega) (by omega) (by simp) (fun _ => rfl) (fun a h => by cases h)).mono ?_
    rintro e w' ⟨rfl, rfl⟩; have hge := grownCap_ge w (0 + n) 0 (Tryz.growI_ren.t 25)
    have hle := grownCap_le_maxLen w (0 + n) 0 (Tryz.growI_ren.t 25) (by unfold maxLen; omega)
    have hB : Below w.heap.size w (w.drew.alloc (.cells (([] : List Value).toArray ++ Builtin.zeroCells (Value.int .i64 0).cells (0 + n - 0) ++ Builtin.zeroCells (Value.int .i64 0).cells (grownCap w (0 + n) 0 3 - (0 + n))) 3)) :=
      ((Below.refl _ w).drew).alloc (Nat.le_refl _) _
    refine ⟨_, rfl, ?_, hB⟩
    refine ⟨rfl, .inr ⟨w.heap.size, _, _, rfl, Nat.le_refl _, heap_alloc_new w.drew _, Nat.zero_le _, hle, ?_, by simp [intsV]⟩⟩
    simp only [Nat.zero_add] at hge; simp [Builtin.zeroCells, Value.cells]; omega
def RowT (w : World) (b : Nat) (t1 t2 : Value) : Prop := w.heap[b]? = some (.cells #[t1, t2] 48 (0, 0))
theorem RowT.lt {w : World} {b : Nat} {t1 t2 : Value} (h : RowT w b t1 t2) : b < w.heap.size := (Array.getElem?_eq_some_iff.1 h).1
theorem RowT.below {w w' : World} {b : Nat} {t1 t2 : Value} (h : RowT w b t1 t2) (hB : Below w.heap.size w w') : RowT w' b t1 t2 := (hB.block b h.lt).trans h
def pickT {α : Type} (x y : α) (j : Nat) : α := if j = 0 then x else y
theorem RowT.cell {w : World} {b : Nat} {t1 t2 : Value} (h : RowT w b t1 t2) {j : Nat} (hj : j < 2) : w.cell? ⟨b, j, none⟩ = some (pickT t1 t2 j) := by
  rw [cell_of_row _ _ _ _ _ _ h]
  obtain rfl | rfl : j = 0 ∨ j = 1 := by omega
  · rfl
  · rfl
def catTo (l1 l2 : List Int) (j : Nat) : List Int := if j = 0 then [] else if j = 1 then l1 else l1 ++ l2
theorem catTo_succ (l1 l2 : List Int) {j : Nat} (hj : j < 2) : catTo l1 l2 (j + 1) = catTo l1 l2 j ++ pickT l1 l2 j := by
  obtain rfl | rfl : j = 0 ∨ j = 1 := by omega
  · rfl
  · rfl
def CatRel1 (w : World) (l1 l2 : List Int) (s i : Value) (wr : World) : Prop := ∃ j : Nat, j ≤ 2 ∧ i = .int .i64 (j : Int) ∧ s = .int .i64 ((catTo l1 l2 j).length : Int) ∧ wr = w
def CatRel2 (w : World) (l1 l2 : List Int) (v i : Value) (wr : World) : Prop := ∃ j : Nat, j ≤ 2 ∧ i = .int .i64 (j : Int) ∧ OwnZ wr w.heap.size v (catTo l1 l2 j) ∧ Below w.heap.size w wr
theorem catTo_le (l1 l2 : List Int) (j : Nat) : (catTo l1 l2 j).length ≤ l1.length + l2.length := by
  unfold catTo
  split
  · simp
  · split <;> simp
set_option maxRecDepth 100000 in
set_option maxHeartbeats 2000000 in
theorem concat_any (w : World) (tb : Nat) (t1 t2 : Value) (l1 l2 : List Int) (hr : RowT w tb t1 t2) (h1 : IntsAt w t1 l1) (h2 : IntsAt w t2 l2) (hn : l1.length + l2.length ≤ 1000) :
    Calls Tryz.prog 154 #[.slice (some ⟨tb, 0, none⟩) 2 2] w (fun e w' => ∃ v, e = .returned v ∧ OwnZ w' w.heap.size v (l1 ++ l2) ∧ Below w.heap.size w w') := by
  obtain ⟨P, hP⟩ : ∃ P : Ending → World → Prop, P = fun e w' => ∃ v, e = .returned v ∧ OwnZ w' w.heap.size v (l1 ++ l2) ∧ Below w.heap.size w w' := ⟨_, rfl⟩; rw [← hP]
  have HP : Hid (∀ w' v, OwnZ w' w.heap.size v (l1 ++ l2) → Below w.heap.size w w' → P (.returned v) w') := Lib.hid (fun w' v h1 h2 => by rw [hP]; exact ⟨v, rfl, h1, h2⟩)
  have HR := Lib.hid (And.intro hr (And.intro h1 h2))
  have HT : Hid (∀ w' j, j < 2 → Below w.heap.size w w' → IntsAt w' (pickT t1 t2 j) (pickT l1 l2 j) ∧ w'.cell? ⟨tb, j, none⟩ = some (pickT t1 t2 j)) := by
    refine Lib.hid (fun w' j hj hB => ⟨?_, (hr.below hB).cell hj⟩)
    obtain rfl | rfl : j = 0 ∨ j = 1 := by omega
    · exact h1.below hB
    · exact h2.below hB
  have HN := Lib.hid hn; clear hP hr h1 h2 hn
  go_enter Tryz.func154, Tryz.ntmps154
  go_wp2_with (fail)
  go_loopw [3, 11] (CatRel1 w l1 l2) (fun _ i _ => 2 - (intOf i).toNat)
  case atStart => exact ⟨0, Nat.zero_le _, rfl, rfl, rfl⟩
  case round =>
    obtain ⟨j, hj, rfl, hs, hw⟩ := hrel; obtain rfl : w = wr := hw.symm; obtain ⟨S, hS⟩ : ∃ s, s = (catTo l1 l2 j).length := ⟨_, rfl⟩; rw [← hS] at hs; subst hs
    have hSb : S ≤ 1000 := by rw [hS]; exact Nat.le_trans (catTo_le l1 l2 j) HN.out
    have HS := Lib.hid hS; clear hS
    by_cases hlt : j < 2
    · have hi0 : (0 : Int) ≤ (j : Int) ∧ (j : Int) < 2 := by omega
      obtain ⟨hI, hc⟩ := HT.out w j hlt (Below.refl _ _); obtain ⟨ta, tc, e, _, _⟩ := hI; obtain ⟨K, hK⟩ : ∃ k, k = (pickT l1 l2 j).length := ⟨_, rfl⟩
      have hKb : S + K ≤ 1000 := by
        have := catTo_le l1 l2 (j + 1); rw [catTo_succ l1 l2 hlt, List.length_append, ← hK, ← HS.out] at this; exact Nat.le_trans this HN.out
      rw [e, ← hK] at hc
      have HZ : Hid (CatRel1 w l1 l2 (.int .i64 ((S : Int) + (K : Int))) (.int .i64 ((j : Int) + 1)) w) := by
        refine Lib.hid ⟨j + 1, by omega, by go_num, ?_, rfl⟩
        rw [catTo_succ l1 l2 hlt, List.length_append, ← hK, ← HS.out]
        congr 1
      have HJ := Lib.hid hlt
      have hneg : decide ((S : Int) + (K : Int) < 0) = false := decide_eq_false (by omega)
      clear e hK hlt hj; go_wp2_with (fail); go_roundw
      case rel => exact HZ.out
      case measure => have := HJ.out; simp [intOf]; omega
    · obtain rfl : j = 2 := by omega
      have HG : Hid (Calls Tryz.prog 160 #[.slice none 0 0, .int .i64 (S : Int)] w (fun e w' => ∃ v, e = .returned v ∧ OwnZ w' w.heap.size v [] ∧ Below w.heap.size w w')) := Lib.hid (growI_any w S (by omega))
      clear hlt hj; rw [show ((2 : Nat) : Int) = 2 from rfl]; go_wp2_with (fail); refine HG.out.mono ?_; rintro e w2 ⟨v, rfl, k1, k2⟩; have H2 := Lib.hid (And.intro k1 k2); clear k1 k2; dsimp only; go_wp2_with (fail)
      go_loopw [6, 27] (CatRel2 w l1 l2) (fun _ i _ => 2 - (intOf i).toNat)
      case atStart => exact ⟨0, Nat.zero_le _, rfl, H2.out.1, H2.out.2⟩
      case round =>
        obtain ⟨j, hj, rfl, hO, hB⟩ := hrel; have HB := Lib.hid (And.intro hO hB); clear hO hB; obtain ⟨vb, hvb⟩ : ∃ v, v = u6 := ⟨_, rfl⟩; subst hvb
        by_cases hlt : j < 2
        · have hi0 : (0 : Int) ≤ (j : Int) ∧ (j : Int) < 2 := by omega
          obtain ⟨hI, hc⟩ := HT.out wr j hlt HB.out.2; obtain ⟨tv, htv⟩ : ∃ v, v = pickT t1 t2 j := ⟨_, rfl⟩; rw [← htv] at hc hI; have HI := Lib.hid hI; have HJ := Lib.hid hlt; clear hI htv hlt hj
          go_upto_region 13 with (fail)
          refine wp_region_lit ?_
          iterate 6 go_step
          refine wpList_appendZ rfl (.tmp 31) (.tmp 32) rfl w.heap.size vb (catTo l1 l2 j) (pickT l1 l2 j) rfl HB.out.1 tv rfl HI.out (by have := catTo_le l1 l2 (j + 1); rw [catTo_succ l1 l2 HJ.out, List.length_append] at this; have := HN.out; omega) HB.out.2.size ?_
          intro v' w9 g1 g2
          have H9 : Hid (CatRel2 w l1 l2 v' (.int .i64 ((j : Int) + 1)) w9) := by
            refine Lib.hid ⟨j + 1, HJ.out, by go_num, by rw [catTo_succ l1 l2 HJ.out]; exact g1, HB.out.2.trans (OwnZ.below HB.out.1 g2 HB.out.2.size)⟩
          clear g1 g2 hc; go_wp2_with (fail); go_roundw
          case rel => exact H9.out
          case measure => have := HJ.out; simp [intOf]; omega
        · obtain rfl : j = 2 := by omega
          have HZ := Lib.hid (HP.out wr vb HB.out.1 HB.out.2); clear hlt hj; rw [show ((2 : Nat) : Int) = 2 from rfl]; go_wp2_with (fail); exact HZ.out
end Go.Proofs.YtjeeghafachebaaGreat
namespace Go.Proofs.YtjeeghafachebaaGreat
open Go Go.RowKit
theorem wpList_slice2_T {ops : Array Oper} {rest : List Oper} {o : Oper} {a : Act} {w : World} {Q : Exit → Act → World → Prop} (hg : o.guard = none) (y z : Operand) (ho : o.op = .buildSlice 176 2 #[(0, y), (1, z)]) (t1 t2 : Value) (h1 : ∃ a n c, t1 = .slice a n c) (h2 : ∃ a n c, t2 = .slice a n c) (hy : a.eval y = t1) (hz : a.eval z = t2)
    (h : wpList Tryz.prog ops Q rest (a.put o.dst (.slice (some ⟨w.heap.size, 0, none⟩) 2 2)) (w.alloc (.cells #[t1, t2] 48))) : wpList Tryz.prog ops Q (o :: rest) a w := by
  have hF : Instr.fill (fun i => some (i * 1, 1)) ((Array.range (2 * 1)).map ((Value.slice none 0 0).cells[· % (Value.slice none 0 0).cells.size]!)) [(0, t1), (1, t2)] = some #[t1, t2] := by
    obtain ⟨_, _, _, rfl⟩ := h1; obtain ⟨_, _, _, rfl⟩ := h2
    kernel_rfl
  obtain ⟨i, hi, hz0, hz1, hz2⟩ := info_parts (P := Tryz.prog) (e := 48) (z := .slice none 0 0) (size := 1) (bytes := 24) (by kernel_rfl)
  refine wpList_buildSlice hg 176 48 2 _ ho #[t1, t2] i _ Tryz.underlying176 hi hz0 (by rw [hz1]; decide) (by rw [hz1]; decide) ?_ h
  rw [hz1]; simp only [List.map_toArray, List.map_cons, List.map_nil, hy, hz]; exact hF
theorem run_sliceI_h (w : World) (a : Option Addr) (n c i : Nat) (h : i ≤ c) :
    (Instr.slice 48 (.slice a n c) none (some (.int .i64 (i : Int))) none).run Tryz.prog w = .ok (.slice a i c) w := by
  have hz : ∀ w, (sizeOf 3).run Tryz.prog w = .ok 1 w := Tryz.sizeOf3; have h0 : ∀ p : Addr, p.add 0 = p := fun _ => rfl
  cases a <;> simp [Instr.slice, run_underlying Tryz.underlying48, Instr.sliceBounds, run_sliceBound, hz, h, h0]
theorem fall_top {l l' : List Int} (hp : l'.Perm l) (hf : Falling l') (k : Nat) : topL k l = l'.take k := by
  rw [topL]
  congr 1
  exact fall_ext (fold_falling l) hf fun x => by rw [cge_fold, cge_perm hp]
theorem IntsAt.take {w : World} {a : Option Addr} {n c : Nat} {l : List Int} (h : IntsAt w (.slice a n c) l) (m : Nat) (hm : m ≤ l.length) : IntsAt w (.slice a m c) (l.take m) := by
  obtain ⟨a', c', e, hc, h⟩ := h
  injection e with e1 e2 e3
  subst e1 e3
  have hl : (l.take m).length = m := by rw [List.length_take, Nat.min_eq_left hm]
  refine ⟨a, c, by rw [hl], by rw [hl]; omega, ?_⟩
  rcases h with ⟨ha, h⟩ | ⟨b, o, ha, ht, h⟩
  · exact .inl ⟨ha, by rw [h]; simp⟩
  · refine .inr ⟨b, o, ha, ht.imp (fun e => by rw [e]; simp) id, fun i x hx => h i x ?_⟩
    rw [List.getElem?_take] at hx
    split at hx
    · exact hx
    · cases hx
set_option maxRecDepth 100000 in
set_option maxHeartbeats 1000000 in
theorem atop_any (w : World) (q : QueryL) (n1 a1 : Int) (tv1 z1 : Value) (l1 : List Int) (n2 a2 : Int) (tv2 z2 : Value) (l2 : List Int) (h1 : IntsAt w tv1 l1) (h2 : IntsAt w tv2 l2) (hn : l1.length + l2.length ≤ 1000) (hk : 0 ≤ q.k ∧ q.k ≤ 1000) :
    Calls Tryz.prog 143 #[.agg q.cells, .agg (aggC n1 a1 tv1 z1), .agg (aggC n2 a2 tv2 z2)] w (fun e w' => ∃ v, e = .returned v ∧ IntsAt w' v (topL q.k.toNat (l1 ++ l2)) ∧ (∀ a n c, v = .slice (some a) n c → w.heap.size ≤ a.block) ∧ Below w.heap.size w w') := by
  obtain ⟨P, hP⟩ : ∃ P : Ending → World → Prop, P = fun e w' => ∃ v, e = .returned v ∧ IntsAt w' v (topL q.k.toNat (l1 ++ l2)) ∧ (∀ a n c, v = .slice (some a) n c → w.heap.size ≤ a.block) ∧ Below w.heap.size w w' := ⟨_, rfl⟩; rw [← hP]; obtain ⟨K, hK⟩ : ∃ K, K = q.k.toNat := ⟨_, rfl⟩
  have hkK : q.k = (K : Int) := by omega
  have HP : Hid (∀ w' v, IntsAt w' v (topL K (l1 ++ l2)) → (∀ a n c, v = .slice (some a) n c → w.heap.size ≤ a.block) → Below w.heap.size w w' → P (.returned v) w') := Lib.hid (fun w' v k1 k3 k2 => by rw [hP, ← hK]; exact ⟨v, rfl, k1, k3, k2⟩)
  obtain ⟨w1, hw1⟩ : ∃ W, W = ((w.alloc (.cells q.cells 23)).alloc (.cells (aggC n1 a1 tv1 z1) 53)).alloc (.cells (aggC n2 a2 tv2 z2) 53) := ⟨_, rfl⟩; obtain ⟨qb, hqb⟩ : ∃ b, b = w.heap.size := ⟨_, rfl⟩; obtain ⟨b1, hb1⟩ : ∃ b, b = w.heap.size + 1 := ⟨_, rfl⟩; obtain ⟨b2, hb2⟩ : ∃ b, b = w.heap.size + 2 := ⟨_, rfl⟩
  have H1 : Hid (RowQ w1 qb q ∧ RowA w1 b1 n1 a1 tv1 z1 ∧ RowA w1 b2 n2 a2 tv2 z2 ∧ Below w.heap.size w w1) := by
    have h := box_qaa w q n1 a1 tv1 z1 n2 a2 tv2 z2; rw [hw1, hqb, hb1, hb2]; exact Lib.hid ⟨h.1, h.2.1, h.2.2.1, h.2.2.2.1⟩
  have hs1 : (w.alloc (.cells q.cells 23)).heap.size = w.heap.size + 1 := heap_alloc_size w _
  have hs2 : ((w.alloc (.cells q.cells 23)).alloc (.cells (aggC n1 a1 tv1 z1) 53)).heap.size = w.heap.size + 2 := by rw [heap_alloc_size, heap_alloc_size]
  have H0 := Lib.hid (And.intro h1 (And.intro h2 hn))
  have hc1 : ∃ a n c, tv1 = .slice a n c := by obtain ⟨_, _, rfl, _⟩ := h1; exact ⟨_, _, _, rfl⟩
  have hc2 : ∃ a n c, tv2 = .slice a n c := by obtain ⟨_, _, rfl, _⟩ := h2; exact ⟨_, _, _, rfl⟩
  have HK : Hid (K ≤ 1000) := Lib.hid (by omega)
  have Hc := Lib.hid (And.intro hc1 hc2); obtain ⟨kind, size, slide, late, agg, k⟩ := q; simp only at hkK; subst hkK; unfold QueryL.cells at hw1 hs1 hs2 ⊢; unfold aggC at hw1 hs2 ⊢; simp only at hw1 hs1 hs2; obtain ⟨f0, f1, f2, f3⟩ := H1.out.2.1.d4; obtain ⟨g0, g1, g2, g3⟩ := H1.out.2.2.1.d4; clear hP hk hK h1 h2 hn hc1 hc2
  go_enter Tryz.func143, Tryz.ntmps143
  go_upto_region 1 with (fail)
  rw [← hw1, ← hb2, ← hb1, ← hqb]; clear hw1 hqb hb1 hb2 hs1 hs2; refine wp_region_lit ?_
  iterate 12 go_step
  refine wpList_slice2_T rfl (.tmp 9) (.tmp 11) rfl tv1 tv2 Hc.out.1 Hc.out.2 rfl rfl ?_; obtain ⟨w2, hw2⟩ : ∃ W, W = w1.alloc (.cells #[tv1, tv2] 48) := ⟨_, rfl⟩; obtain ⟨tb, htb⟩ : ∃ b, b = w1.heap.size := ⟨_, rfl⟩
  have H2 : Hid (RowQ w2 qb ⟨kind, size, slide, late, agg, K⟩ ∧ RowT w2 tb tv1 tv2 ∧ Below w.heap.size w w2) := by
    have hB : Below w1.heap.size w1 w2 := by rw [hw2]; exact (Below.refl _ w1).alloc (Nat.le_refl _) _
    exact Lib.hid ⟨H1.out.1.below hB, by rw [hw2, htb]; exact heap_alloc_new w1 _, H1.out.2.2.2.trans (hB.mono H1.out.2.2.2.size)⟩
  rw [← hw2, ← htb]; clear hw2 htb f0 f1 f2 f3 g0 g1 g2 g3 H1; refine wpList_plain rfl fun K_ hK => ?_; go_step; refine (concat_any w2 tb tv1 tv2 l1 l2 H2.out.2.1 (H0.out.1.below H2.out.2.2) (H0.out.2.1.below H2.out.2.2) H0.out.2.2).mono ?_; rintro e w3 ⟨v, rfl, k1, hB⟩; refine hK _ _ ?_; clear hK; obtain ⟨va, vc, e, _, _⟩ := k1.ints; obtain ⟨N, hN⟩ : ∃ N, N = (l1 ++ l2).length := ⟨_, rfl⟩; rw [← hN] at e; subst e; have H3 : Hid (RowQ w3 qb ⟨kind, size, slide, late, agg, K⟩ ∧ OwnZ w3 w2.heap.size (.slice va N vc) (l1 ++ l2) ∧ Below w.heap.size w w3 ∧ w.heap.size ≤ w2.heap.size ∧ N = (l1 ++ l2).length ∧ w2.heap.size ≤ w3.heap.size ∧ qb < w2.heap.size) := Lib.hid ⟨H2.out.1.below hB, k1, H2.out.2.2.trans (hB.mono H2.out.2.2.size), H2.out.2.2.size, hN, hB.size, H2.out.1.lt⟩; clear k1 hB hN H2
  have HS : Hid (Calls Tryz.prog 155 #[.slice va N vc, .func (.func 156) #[] #[]] w3 (SortIEnd w3 w2.heap.size (.slice va N vc) (l1 ++ l2))) := Lib.hid (sortI_any w3 w2.heap.size _ (l1 ++ l2) H3.out.2.1 (by have := H0.out.2.2; rw [List.length_append]; omega))
  go_wp2_with (fail); refine HS.out.mono ?_; rintro e w4 ⟨rfl, l', p1, p2, p3, p4⟩; have hB : Below w2.heap.size w3 w4 := OwnZ.below H3.out.2.1 p4 H3.out.2.2.2.2.2.1; obtain ⟨m, hm⟩ : ∃ m, m = min N K := ⟨_, rfl⟩
  have hl' : l'.length = N := by rw [p1.length_eq, H3.out.2.2.2.2.1]
  have H4 : Hid (RowQ w4 qb ⟨kind, size, slide, late, agg, K⟩ ∧ P (.returned (.slice va m vc)) w4) := by
    obtain ⟨j1, j2, j3, j4, j5, j6, j7⟩ := H3.out
    refine Lib.hid ⟨(hB.block _ j7).trans j1, HP.out w4 _ ?_ (fun a n c e => by injection e with e1; have := (j2.lt (k := a.block) (by rw [e1]; rfl)).1; omega) (j3.trans (hB.mono j4))⟩
    have h := p3.ints.take m (by rw [hl']; omega)
    rw [fall_top p1 p2]
    have e : l'.take K = l'.take m := by
      rw [hm, ← hl', List.take_eq_take_min]
      congr 1
      omega
    rw [e]; exact h
  have hvc : N ≤ vc := by
    obtain ⟨_, c', e, hc, _⟩ := H3.out.2.1.ints
    injection e with e1 e2 e3
    subst e3; rw [H3.out.2.2.2.2.1]; exact hc
  have hsl : ∀ w', (Instr.slice 48 (.slice va N vc) none (some (.int .i64 (m : Int))) none).run Tryz.prog w' = .ok (.slice va m vc) w' := fun w' => run_sliceI_h w' va N vc m (by omega)
  have e3 : (if (K : Int) < (N : Int) then (K : Int) else (N : Int)) = (m : Int) := by
    rw [hm]
    split <;> omega
  have e4 : min (N : Int) (K : Int) = (m : Int) := by omega
  clear p1 p2 p3 p4 hB hm hl' hvc H3 HS; obtain ⟨d0, d1, d2, d3, d4, d5⟩ := H4.out.1.d6; simp only at d0 d1 d2 d3 d4 d5; dsimp only; go_wp2_with (fail); exact H4.out.2
end Go.Proofs.YtjeeghafachebaaGreat
