/-
  Words of the reference's Mixed: calls of rotr, eight words laid as a row.
-/
import Derived.Test.YtmdacfbhfacniaaDoorRefStr
namespace Go.Proofs.YtmdacfbhfacniaaDoor
open Go.RowKit

/-- Eight words, or sixty-four, at the head of a row. -/
def Row8 (w : World) (g n : Nat) (f : Nat → BitVec 32) : Prop := ∀ i < n, w.cell? ⟨g, i, none⟩ = some (W (f i))
theorem Row8.lt {w : World} {g n : Nat} {f : Nat → BitVec 32} (h : Row8 w g n f) (hn : 0 < n) : g < w.heap.size := block_lt_of_cell (h 0 hn)
theorem Row8.below {w w' : World} {g n B : Nat} {f : Nat → BitVec 32} (h : Row8 w g n f) (hB : Below B w w') (hg : g < B) : Row8 w' g n f := fun i hi => (hB.cell (p := ⟨g, i, none⟩) hg).trans (h i hi)
def ws8 (s : St) : List Value := s.ws.map W
theorem ws8_len (s : St) : (ws8 s).length = 8 := rfl
theorem ws8_at (s : St) (i : Nat) (h : i < 8) : (ws8 s)[i]? = some (W (s.at i)) := by
  match i, h with
  | 0, _ => rfl
  | 1, _ => rfl
  | 2, _ => rfl
  | 3, _ => rfl
  | 4, _ => rfl
  | 5, _ => rfl
  | 6, _ => rfl
  | 7, _ => rfl
theorem Own.row8 {w : World} {base : Nat} {e : TypeId} {g c : Nat} {s : St} (h : Own w base e (.slice (some ⟨g, 0, none⟩) 8 c) (ws8 s)) : Row8 w g 8 s.at := fun i hi => by
  rw [Own.cellAt (xs := ws8 s) h i hi, ws8_at s i hi]
/-- A row of words appended to an empty one. -/
theorem wpList_copy8 {ops : Array Oper} {rest : List Oper} {o : Oper} {a : Act} {Q : Exit → Act → World → Prop} {w : World} (hgd : o.guard = none) (s x : Operand)
    (ho : o.op = .call { callee := .builtin .append, args := #[s, x], argTypes := #[49, 49] })
    (g0 : Nat) (hs : a.eval s = .slice (some ⟨g0, 0, none⟩) 0 0) (h0 : w.heap[g0]? = some (.cells #[] 54 (0, 0))) (g c : Nat) (hx : a.eval x = .slice (some ⟨g, 0, none⟩) 8 c) (st : St) (hg : Row8 w g 8 st.at)
    (h : ∀ g' c' w', Own w' g0 54 (.slice (some ⟨g', 0, none⟩) 8 c') (ws8 st) → Below g0 w w' → wpList Tryd.prog ops Q rest (a.put o.dst (.slice (some ⟨g', 0, none⟩) 8 c')) w') :
    wpList Tryd.prog ops Q (o :: rest) a w := by
  obtain ⟨i, hi, hz0, hz1, hz2⟩ := info_parts info34
  have hlt : g0 < w.heap.size := (Array.getElem?_eq_some_iff.mp h0).1
  have hown : w.ownsRow g0 54 1 (.slice (some ⟨g0, 0, none⟩) 0 0) 0 [] := ⟨rfl, .inr ⟨g0, 0, #[], rfl, Nat.le_refl _, h0, Nat.le_refl _, by unfold maxLen; omega, rfl, rfl⟩⟩
  refine wpList_append_own_at _ hgd s x 49 ho g0 54 i _ 1 4 Tryd.underlying49 hi hz0 hz1 hz2 rfl (by decide) _ 0 [] hs hown ⟨g, 0, none⟩ 8 c (ws8 st) hx rfl ?_ ?_ (by unfold maxLen; omega) (by omega) (by omega) ?_
  · intro j u hj
    have hj8 : j < 8 := by
      have := (List.getElem?_eq_some_iff.mp hj).1
      rwa [ws8_len] at this
    rw [ws8_at st j hj8] at hj
    have := hg j hj8
    simp only [Option.some.injEq] at hj
    rw [addr_add, Nat.zero_add, this, hj]
  · intro u hu
    simp only [ws8, List.mem_map] at hu
    obtain ⟨y, _, rfl⟩ := hu
    rfl
  · intro v' w' k1 k2 _ _
    obtain ⟨g', c', rfl, _, _⟩ := World.ownsRow.form k1 (by omega)
    exact h g' c' w' k1 ⟨k2.os, k2.tape, k2.output, k2.size, fun k hk => k2.block k (by omega) (by simp [Value.ownBlock]; omega)⟩

def szOf : Value → Nat
  | .string s => s.size
  | _ => 0
theorem szOf_Sv (m : List (BitVec 8)) : szOf (Sv m) = m.length := strOf_size m
def MixA (n : Nat) (m : List (BitVec 8)) (v : Value) (wr0 wr : World) : Prop := ∃ z : Nat, z + 1 ≤ gap n ∧ v = Sv (m ++ 0x80 :: List.replicate z 0) ∧ wr = wr0
def MixB (w : World) (Z : Array Value) (n : Nat) (x s i : Value) (wr : World) : Prop := ∃ t : Nat, t ≤ 8 ∧ i = .int .i64 (t : Int) ∧ x = .int .u64 ((8 * n / 256 ^ t : Nat) : Int) ∧ s = Sv (lenTail n t) ∧ Below w.heap.size w wr ∧ wr.heap[w.heap.size]? = some (.cells Z 25 (0, 0))

def MixC (w : World) (Z : Array Value) (g0 hg hc : Nat) (Mp : List (BitVec 8)) (cnt : Nat) (at_ : Value) (wr : World) : Prop :=
  ∃ j A : Nat, j ≤ cnt ∧ A = 64 * j ∧ at_ = .int .i64 (A : Int) ∧ Own wr g0 54 (.slice (some ⟨hg, 0, none⟩) 8 hc) (ws8 (chain (gl Mp) j)) ∧ Below w.heap.size w wr ∧ wr.heap[w.heap.size]? = some (.cells Z 25 (0, 0))
def SL (f : Nat → BitVec 8) (t : Nat) : List Value := (List.range t).map (fun i => W (sched f i))
theorem SL_len (f : Nat → BitVec 8) (t : Nat) : (SL f t).length = t := by simp [SL]
theorem SL_succ (f : Nat → BitVec 8) (t : Nat) : SL f (t + 1) = SL f t ++ [W (sched f t)] := by simp [SL, List.range_succ]
theorem SL_at (f : Nat → BitVec 8) (t i : Nat) (h : i < t) : (SL f t)[i]? = some (W (sched f i)) := by simp [SL, h]
def MixD (Wb : World) (f : Nat → BitVec 8) (wv tv : Value) (wr : World) : Prop :=
  ∃ t : Nat, t ≤ 64 ∧ tv = .int .i64 (t : Int) ∧ Own wr Wb.heap.size 54 wv (SL f t) ∧ Below Wb.heap.size Wb wr
def MixE (wx : World) (f : Nat → BitVec 8) (t : Nat) (v jv : Value) (wr : World) : Prop := ∃ j : Nat, j ≤ 4 ∧ jv = .int .i64 (j : Int) ∧ v = W (vj f t j) ∧ wr = wx


theorem rrN (n : Nat) (hn : n ≤ 32) (x : BitVec 32) (w : World) : Calls Tryd.prog 30 #[W x, .int .i64 (n : Int)] w fun e w' => e = .returned (W (rotr x n)) ∧ ∃ k, w' = w.drewN k := rotr_ref x n hn w
theorem rr2 (x : BitVec 32) (w : World) : Calls Tryd.prog 30 #[W x, .int .i64 2] w fun e w' => e = .returned (W (rotr x 2)) ∧ ∃ k, w' = w.drewN k := rotr_ref x 2 (by omega) w
theorem rr6 (x : BitVec 32) (w : World) : Calls Tryd.prog 30 #[W x, .int .i64 6] w fun e w' => e = .returned (W (rotr x 6)) ∧ ∃ k, w' = w.drewN k := rotr_ref x 6 (by omega) w
theorem rr7 (x : BitVec 32) (w : World) : Calls Tryd.prog 30 #[W x, .int .i64 7] w fun e w' => e = .returned (W (rotr x 7)) ∧ ∃ k, w' = w.drewN k := rotr_ref x 7 (by omega) w
theorem rr11 (x : BitVec 32) (w : World) : Calls Tryd.prog 30 #[W x, .int .i64 11] w fun e w' => e = .returned (W (rotr x 11)) ∧ ∃ k, w' = w.drewN k := rotr_ref x 11 (by omega) w
theorem rr13 (x : BitVec 32) (w : World) : Calls Tryd.prog 30 #[W x, .int .i64 13] w fun e w' => e = .returned (W (rotr x 13)) ∧ ∃ k, w' = w.drewN k := rotr_ref x 13 (by omega) w
theorem rr17 (x : BitVec 32) (w : World) : Calls Tryd.prog 30 #[W x, .int .i64 17] w fun e w' => e = .returned (W (rotr x 17)) ∧ ∃ k, w' = w.drewN k := rotr_ref x 17 (by omega) w
theorem rr18 (x : BitVec 32) (w : World) : Calls Tryd.prog 30 #[W x, .int .i64 18] w fun e w' => e = .returned (W (rotr x 18)) ∧ ∃ k, w' = w.drewN k := rotr_ref x 18 (by omega) w
theorem rr19 (x : BitVec 32) (w : World) : Calls Tryd.prog 30 #[W x, .int .i64 19] w fun e w' => e = .returned (W (rotr x 19)) ∧ ∃ k, w' = w.drewN k := rotr_ref x 19 (by omega) w
theorem rr22 (x : BitVec 32) (w : World) : Calls Tryd.prog 30 #[W x, .int .i64 22] w fun e w' => e = .returned (W (rotr x 22)) ∧ ∃ k, w' = w.drewN k := rotr_ref x 22 (by omega) w
theorem rr25 (x : BitVec 32) (w : World) : Calls Tryd.prog 30 #[W x, .int .i64 25] w fun e w' => e = .returned (W (rotr x 25)) ∧ ∃ k, w' = w.drewN k := rotr_ref x 25 (by omega) w

theorem fill8_W (x0 x1 x2 x3 x4 x5 x6 x7 : BitVec 32) : Instr.fill (fun i => some (i * 1, 1)) ((Array.range (8 * 1)).map ((Value.int .u32 0).cells[· % (Value.int .u32 0).cells.size]!)) [(0, W x0), (1, W x1), (2, W x2), (3, W x3), (4, W x4), (5, W x5), (6, W x6), (7, W x7)] = some #[W x0, W x1, W x2, W x3, W x4, W x5, W x6, W x7] := by kernel_rfl
theorem wpList_slice8_W {ops : Array Oper} {rest : List Oper} {o : Oper} {a : Act} {w : World} {Q : Exit → Act → World → Prop} (hg : o.guard = none) (y0 y1 y2 y3 y4 y5 y6 y7 : Operand)
    (ho : o.op = .buildSlice 49 8 #[(0, y0), (1, y1), (2, y2), (3, y3), (4, y4), (5, y5), (6, y6), (7, y7)]) (s : St)
    (h0 : a.eval y0 = W s.a) (h1 : a.eval y1 = W s.b) (h2 : a.eval y2 = W s.c) (h3 : a.eval y3 = W s.d) (h4 : a.eval y4 = W s.e) (h5 : a.eval y5 = W s.f) (h6 : a.eval y6 = W s.g) (h7 : a.eval y7 = W s.h)
    (h : wpList Tryd.prog ops Q rest (a.put o.dst (.slice (some ⟨w.heap.size, 0, none⟩) 8 8)) (w.alloc (.cells #[W s.a, W s.b, W s.c, W s.d, W s.e, W s.f, W s.g, W s.h] 54))) : wpList Tryd.prog ops Q (o :: rest) a w := by
  obtain ⟨i, hi, hz0, hz1, hz2⟩ := info_parts info34
  refine wpList_buildSlice hg 49 54 8 _ ho #[W s.a, W s.b, W s.c, W s.d, W s.e, W s.f, W s.g, W s.h] i _ Tryd.underlying49 hi hz0 (by rw [hz1]; decide) (by rw [hz1]; decide) ?_ h
  rw [hz1]
  simp only [List.map_toArray, List.map_cons, List.map_nil, h0, h1, h2, h3, h4, h5, h6, h7]
  exact fill8_W _ _ _ _ _ _ _ _
theorem row8_new (w : World) (s : St) (t : TypeId) (i : Nat) (h : i < 8) : (w.alloc (.cells #[W s.a, W s.b, W s.c, W s.d, W s.e, W s.f, W s.g, W s.h] t)).cell? ⟨w.heap.size, i, none⟩ = some (W (s.at i)) := by
  rw [cell_of_row _ _ i _ _ _ (heap_alloc_new w _)]
  exact s.cell i h

theorem SL_form {w : World} {base : Nat} {e : TypeId} {v : Value} {f : Nat → BitVec 8} {t : Nat} (h : Own w base e v (SL f t)) (h0 : 0 < t) :
    ∃ g c, v = .slice (some ⟨g, 0, none⟩) t c ∧ base ≤ g ∧ g < w.heap.size ∧ ∀ i < t, w.cell? ⟨g, i, none⟩ = some (W (sched f i)) := by
  obtain ⟨g, c, h1, h2, h3⟩ := h.form1 (by rw [SL_len]; exact h0)
  subst h1
  refine ⟨g, c, by rw [SL_len], h2, h3, fun i hi => ?_⟩
  rw [h.cellAt i (by rw [SL_len]; exact hi), SL_at f t i hi]

def MixF (wf : World) (f : Nat → BitVec 8) (st : St) (vv tv : Value) (wr : World) : Prop :=
  ∃ t gv cv : Nat, t ≤ 64 ∧ tv = .int .i64 (t : Int) ∧ vv = .slice (some ⟨gv, 0, none⟩) 8 cv ∧ wf.heap.size ≤ gv ∧ Row8 wr gv 8 (rnds f st t).at ∧ Below wf.heap.size wf wr
theorem quiet_of1 {P : Program} {f : FuncId} {args : Array Value} {w : World} {m : Nat} {v : Value}
    (h : Calls P f args (w.drewN m) fun e w' => e = .returned v ∧ ∃ k, w' = (w.drewN m).drewN k) : Calls P f args (w.drewN m) fun e w'' => e = .returned v ∧ ∃ k, w'' = w.drewN k :=
  h.mono fun _ _ ⟨he, k, hk⟩ => ⟨he, m + k, by rw [hk, World.drewN_drewN]⟩
theorem own_set8 {w : World} {base : Nat} {e : TypeId} {g c : Nat} {xs : List Value} (h : w.ownsRow base e 1 (.slice (some ⟨g, 0, none⟩) 8 c) 8 xs) (i : Nat) (v : Value) :
    (w.setCell ⟨g, i, none⟩ v).ownsRow base e 1 (.slice (some ⟨g, 0, none⟩) 8 c) 8 (xs.set i v) := by
  refine ⟨by rw [List.length_set]; exact h.1, ?_⟩
  rcases h.2 with ⟨h1, _⟩ | ⟨g', c', cur, h1, h2, h3, h4, h5, h6, h7⟩
  · simp at h1
  · simp only [Value.slice.injEq, Option.some.injEq, Addr.mk.injEq, and_true, true_and] at h1
    obtain ⟨e1, e2⟩ := h1
    subst e1
    subst e2
    refine .inr ⟨g, c, cur.setIfInBounds i v, rfl, h2, ?_, h4, h5, by simpa using h6, ?_⟩
    · rw [setCell_eq_setRow w g i cur e (0, 0) v h3]
      exact setRow_heap w g cur _ e _ h3
    · rw [← h7]
      simp [List.take_set]
/-- The state while words are added to it. -/
def GL (s r : St) (i : Nat) : List Value := (List.range 8).map fun j => W (if j < i then s.at j + r.at j else s.at j)
theorem GL_len (s r : St) (i : Nat) : (GL s r i).length = 8 := by simp [GL]
theorem GL_at (s r : St) (i j : Nat) (h : j < 8) : (GL s r i)[j]? = some (W (if j < i then s.at j + r.at j else s.at j)) := by simp [GL, h]
theorem GL_zero (s r : St) : GL s r 0 = ws8 s := by
  simp only [GL, Nat.not_lt_zero, if_false]
  rfl
theorem GL_all (s r : St) : GL s r 8 = ws8 (s.add r) := by
  apply List.ext_getElem?
  intro i
  by_cases h : i < 8
  · rw [GL_at s r 8 i h, if_pos h, ws8_at _ i h, at_add s r i h]
  · rw [List.getElem?_eq_none (by rw [GL_len]; omega), List.getElem?_eq_none (by rw [ws8_len]; omega)]
theorem GL_succ (s r : St) (i : Nat) (hi : i < 8) : (GL s r i).set i (W (s.at i + r.at i)) = GL s r (i + 1) := by
  apply List.ext_getElem?
  intro j
  rw [List.getElem?_set]
  by_cases h : j < 8
  · rw [GL_at s r (i + 1) j h, GL_at s r i j h, GL_len]
    by_cases hij : i = j
    · subst hij
      rw [if_pos rfl, if_pos h, if_pos (by omega)]
    · rw [if_neg hij]
      by_cases hlt : j < i
      · rw [if_pos hlt, if_pos (by omega)]
      · rw [if_neg hlt, if_neg (by omega)]
  · rw [if_neg (by omega), List.getElem?_eq_none (by rw [GL_len]; omega), List.getElem?_eq_none (by rw [GL_len]; omega)]
def MixG (wg : World) (w : World) (Z : Array Value) (g0 hg hc gv : Nat) (s r : St) (iv : Value) (wr : World) : Prop :=
  ∃ i : Nat, i ≤ 8 ∧ iv = .int .i64 (i : Int) ∧ Own wr g0 54 (.slice (some ⟨hg, 0, none⟩) 8 hc) (GL s r i) ∧ Row8 wr gv 8 r.at ∧ Below w.heap.size w wr ∧ wr.heap[w.heap.size]? = some (.cells Z 25 (0, 0)) ∧ wg.heap.size ≤ wr.heap.size
def MixH (wc : World) (s : St) (iv : Value) (wr : World) : Prop :=
  ∃ (i : Nat) (C : Array Value), i ≤ 8 ∧ iv = .int .i64 (i : Int) ∧ C.size = 32 ∧ (∀ k < 4 * i, C[k]? = some (B (byteAt s k))) ∧ wr.heap[wc.heap.size]? = some (.cells C 25 (0, 0)) ∧ Below wc.heap.size wc wr
def MixI (wc : World) (s : St) (i : Nat) (jv : Value) (wr : World) : Prop :=
  ∃ (j : Nat) (C : Array Value), j ≤ 4 ∧ jv = .int .i64 (j : Int) ∧ C.size = 32 ∧ (∀ k < 4 * i + j, C[k]? = some (B (byteAt s k))) ∧ wr.heap[wc.heap.size]? = some (.cells C 25 (0, 0)) ∧ Below wc.heap.size wc wr
theorem byteAt_is (s : St) (i j : Nat) (h : j < 4) : byteAt s (4 * i + j) = (s.at i >>> (24 - 8 * j)).setWidth 8 := by
  rw [byteAt, show (4 * i + j) / 4 = i by omega, show (4 * i + j) % 4 = j by omega]
end Go.Proofs.YtmdacfbhfacniaaDoor
