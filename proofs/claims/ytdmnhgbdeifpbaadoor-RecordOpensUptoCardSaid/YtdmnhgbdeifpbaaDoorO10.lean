/-
  Part 10 of 42 of what the proof leans on.
-/
import Derived.Test.YtdmnhgbdeifpbaaDoorRows
import Derived.Test.YtdmnhgbdeifpbaaDoorO5
import Derived.Test.YtdmnhgbdeifpbaaDoorO9
import Derived.Test.YtdmnhgbdeifpbaaDoorO2
import Derived.Laws.StructEq
namespace Go.Proofs.YtdmnhgbdeifpbaaDoor
open Go Go.ChangeShapes Go.WideShapes Go.ChangeAt Go.WideMaps Go.WideElems Go.RowKit
def sameI (x y : ItemL) : Bool := x.kind == y.kind && (decide (x.key = y.key) && (x.time == y.time && x.value == y.value))
theorem sameI_iff (x y : ItemL) : sameI x y = true ↔ x = y := by
  obtain ⟨a, b, c, d⟩ := x; obtain ⟨a', b', c', d'⟩ := y; simp [sameI]
theorem map4 {α β : Type} (g : α → β) : ∀ (l : List α) (a b c d : β), l.map g = [a, b, c, d] → ∃ x0 x1 x2 x3, l = [x0, x1, x2, x3] ∧ g x0 = a ∧ g x1 = b ∧ g x2 = c ∧ g x3 = d
  | [], _, _, _, _, h => by simp at h
  | [_], _, _, _, _, h => by simp at h
  | [_, _], _, _, _, _, h => by simp at h
  | [_, _, _], _, _, _, _, h => by simp at h
  | [x0, x1, x2, x3], _, _, _, _, h => by
    simp only [List.map_cons, List.map_nil, List.cons.injEq, and_true] at h; exact ⟨x0, x1, x2, x3, rfl, h⟩
  | _ :: _ :: _ :: _ :: _ :: _, _, _, _, _, h => by simp at h
theorem eqF_step {P : Program} {w : World} {d : Nat} {xs ys : Array Value} {f : Field} {fs : List Field} (a b : Value) (r : Bool) (hn : f.name ≠ "_") (ha : (part f.type xs f.offset).run P w = .ok a w) (hb : (part f.type ys f.offset).run P w = .ok b w)
    (he : (Op.equalIn d f.type a b).run P w = .ok r w) : (Op.eqFields d xs ys (f :: fs)).run P w = if r then (Op.eqFields d xs ys fs).run P w else .ok false w := by
  simp only [Op.eqFields, if_pos hn, Sem.run_bind, ha, hb, he, Result.andThen_ok]
  cases r <;> simp
theorem run_equal_item (w : World) (x y : ItemL) : (Op.equalIn 10000 53 (.agg x.cells) (.agg y.cells)).run Tryd.prog w = .ok (sameI x y) w := by
  rw [run_equalIn_agg w 9999 53 _ _ (by kernel_rfl) (by kernel_rfl)]
  have hm : (Tryd.prog.fieldsOf 53).toList.map (fun f => (f.name, f.type, f.offset)) = [("Kind", 3, 0), ("Key", 9, 1), ("Time", 3, 2), ("Value", 3, 3)] := by kernel_rfl
  generalize (Tryd.prog.fieldsOf 53).toList = l at hm
  obtain ⟨f0, f1, f2, f3, rfl, hq⟩ := map4 _ _ _ _ _ _ hm; obtain ⟨h0, h1, h2, h3⟩ := hq
  obtain ⟨n0, t0, o0⟩ : f0.name = "Kind" ∧ f0.type = 3 ∧ f0.offset = 0 := by simpa using h0
  obtain ⟨n1, t1, o1⟩ : f1.name = "Key" ∧ f1.type = 9 ∧ f1.offset = 1 := by simpa using h1
  obtain ⟨n2, t2, o2⟩ : f2.name = "Time" ∧ f2.type = 3 ∧ f2.offset = 2 := by simpa using h2
  obtain ⟨n3, t3, o3⟩ : f3.name = "Value" ∧ f3.type = 3 ∧ f3.offset = 3 := by simpa using h3
  have p0 : ∀ z : ItemL, (part 3 z.cells 0).run Tryd.prog w = .ok (.int .i64 z.kind) w := fun z => by simp [part, go_sem, ItemL.cells]
  have p1 : ∀ z : ItemL, (part 9 z.cells 1).run Tryd.prog w = .ok (Sv z.key) w := fun z => by simp [part, go_sem, ItemL.cells]
  have p2 : ∀ z : ItemL, (part 3 z.cells 2).run Tryd.prog w = .ok (.int .i64 z.time) w := fun z => by simp [part, go_sem, ItemL.cells]
  have p3 : ∀ z : ItemL, (part 3 z.cells 3).run Tryd.prog w = .ok (.int .i64 z.value) w := fun z => by simp [part, go_sem, ItemL.cells]
  have e1 : ∀ (d : Nat) (a b : Int), (Op.equalIn (d + 1) 3 (.int .i64 a) (.int .i64 b)).run Tryd.prog w = .ok (a == b) w := fun d a b => run_equalIn_int w d 3 .i64 .i64 a b Tryd.underlying3
  have e2 : ∀ (d : Nat) (a b : List (BitVec 8)), (Op.equalIn (d + 1) 9 (Sv a) (Sv b)).run Tryd.prog w = .ok (decide (a = b)) w := fun d a b => by
    rw [Sv, Sv, run_equalIn_string w d 9 _ _ Tryd.underlying9, str_eq]
  obtain ⟨a, b, c, d⟩ := x; obtain ⟨a', b', c', d'⟩ := y
  rw [eqF_step (.int .i64 a) (.int .i64 a') (a == a') (by rw [n0]; decide) (by rw [t0, o0]; exact p0 ⟨a, b, c, d⟩) (by rw [t0, o0]; exact p0 ⟨a', b', c', d'⟩) (by rw [t0]; exact e1 9998 a a'),
    eqF_step (Sv b) (Sv b') (decide (b = b')) (by rw [n1]; decide) (by rw [t1, o1]; exact p1 ⟨a, b, c, d⟩) (by rw [t1, o1]; exact p1 ⟨a', b', c', d'⟩) (by rw [t1]; exact e2 9998 b b'),
    eqF_step (.int .i64 c) (.int .i64 c') (c == c') (by rw [n2]; decide) (by rw [t2, o2]; exact p2 ⟨a, b, c, d⟩) (by rw [t2, o2]; exact p2 ⟨a', b', c', d'⟩) (by rw [t2]; exact e1 9998 c c'),
    eqF_step (.int .i64 d) (.int .i64 d') (d == d') (by rw [n3]; decide) (by rw [t3, o3]; exact p3 ⟨a, b, c, d⟩) (by rw [t3, o3]; exact p3 ⟨a', b', c', d'⟩) (by rw [t3]; exact e1 9998 d d')]
  simp only [sameI]
  cases a == a' <;> cases decide (b = b') <;> cases c == c' <;> cases d == d' <;> rfl
theorem run_neq_item (w : World) (x y : ItemL) : (binOp .neq 53 (.agg x.cells) (.agg y.cells)).run Tryd.prog w = .ok (.bool (!sameI x y)) w := by
  rw [run_neq_struct, run_equal_item]; rfl
theorem run_guard_item (w : World) (op : BinOp) (o1 o2 : Operand) (x y : ItemL) : (eqGuard op 53 o1 o2 (.agg x.cells) (.agg y.cells)).run Tryd.prog w = .ok () w := run_eqGuard_agg w op _ o1 o2 _ _ (by kernel_rfl)
def ItemsAt (w : World) (a : Option Addr) (l : List ItemL) : Prop :=
  l = [] ∨ ∃ b o, a = some ⟨b, o, none⟩ ∧ ∀ i x, l[i]? = some x → ∀ j v, x.cells[j]? = some v → w.cell? ⟨b, o + i * 4 + j, none⟩ = some v
theorem ItemsAt.below {w w' : World} {a : Option Addr} {l : List ItemL} (h : ItemsAt w a l) (hB : Below w.heap.size w w') : ItemsAt w' a l := by
  rcases h with h | ⟨b, o, h, h'⟩
  · exact .inl h
  · exact .inr ⟨b, o, h, fun i x hx j v hv => (hB.cell (block_lt_of_cell (h' i x hx j v hv))).trans (h' i x hx j v hv)⟩
theorem cells_lt {x : ItemL} {j : Nat} {v : Value} (h : x.cells[j]? = some v) : j < 4 := by
  have := (Array.getElem?_eq_some_iff.1 h).1
  simpa [ItemL.cells] using this
theorem item_one1 (x : ItemL) : x.cells.all (·.oneCell') = true := by
  rw [Array.all_eq_true']; intro v hv; simp only [ItemL.cells, List.mem_toArray, List.mem_cons, List.not_mem_nil, or_false] at hv
  rcases hv with rfl | rfl | rfl | rfl <;> rfl
def ItemL.ok (x : ItemL) : Prop := (-9223372036854775808 ≤ x.kind ∧ x.kind < 9223372036854775808) ∧ (-9223372036854775808 ≤ x.time ∧ x.time < 9223372036854775808) ∧ (-9223372036854775808 ≤ x.value ∧ x.value < 9223372036854775808)
theorem open_int' {H : Type} {enc : TypeId × Value → H} {w : World} {v : Value} {y : DataW H × List MemPlace} {n : Nat} (h : DataW.trod enc Tryd.prog w 0 (fun _ => true) true n 3 [v] = some y) :
    ∃ k : Int, v = .int .i64 k ∧ -9223372036854775808 ≤ k ∧ k < 9223372036854775808 := by
  obtain ⟨k, hk, _, hwf⟩ := DataW.trod_int Tryd.underlying3 h; simp only [List.cons.injEq, and_true] at hk; have hmin : IntKind.i64.min = -9223372036854775808 := rfl; have hmax : IntKind.i64.max = 9223372036854775807 := rfl; simp only [Lit.wf, Bool.and_eq_true, decide_eq_true_eq, hmin, hmax] at hwf
  exact ⟨k, hk, by omega, by omega⟩
namespace bulkI
theorem mem_le {H : Type} {d : DataW H} : ∀ {l : List (DataW H)}, d ∈ l → Rows.uptoBulk d ≤ Rows.uptoBulkAll l
  | x :: l, h => by
    simp only [Rows.uptoBulkAll]
    rcases List.mem_cons.1 h with rfl | h
    · omega
    · have := mem_le h; omega
theorem one_le {H : Type} (d : DataW H) : 1 ≤ Rows.uptoBulk d := by
  cases d with
  | lit l => cases l <;> simp [Rows.uptoBulk]
  | nil => simp [Rows.uptoBulk]
  | ptr d => simp [Rows.uptoBulk]
  | slice elems spare => simp [Rows.uptoBulk]
  | agg parts => simp [Rows.uptoBulk]
  | iface t d => simp [Rows.uptoBulk]
  | map entries => simp [Rows.uptoBulk]
  | held h => simp [Rows.uptoBulk]
theorem length_le {H : Type} (l : List (DataW H)) : l.length ≤ Rows.uptoBulkAll l := by
  induction l with
  | nil => simp [Rows.uptoBulkAll]
  | cons x r ih => have := one_le x; simp only [Rows.uptoBulkAll, List.length_cons]; omega
end bulkI
theorem open_recsB {P : Program} {T E : TypeId} {fs : Array Field} (hT : P.underlying T = some (.slice E)) (hE : P.underlying E = some (.struct fs)) (ce : P.cellsOf E = fs.size) (hB : recB P fs = true) (h0 : 0 < fs.size)
    {H : Type} {enc : TypeId × Value → H} {w : World} {a : Option Addr} {len cap : Nat} {d : DataW H} {p : List MemPlace} (h : DataW.Trod enc P w 0 (fun _ => true) true T (.slice a len cap) d p) :
    len ≤ cap ∧ cap ≤ maxLen ∧ len ≤ Rows.uptoBulk d ∧ (len = 0 ∨ ∃ b o, a = some ⟨b, o, none⟩ ∧ ∀ i < len, ∀ (j : Nat) (f : Field), fs[j]? = some f →
      ∃ (v : Value) (y : DataW H × List MemPlace) (n : Nat), w.cell? ⟨b, o + i * fs.size + j, none⟩ = some v ∧ DataW.trod enc P w 0 (fun _ => true) true n f.type [v] = some y ∧ Rows.uptoBulk y.1 ≤ Rows.uptoBulk d) := by
  obtain ⟨fuel, hf⟩ := h
  rcases Deep.open_slice hT hf with ⟨hcs, _⟩ | ⟨x, l, c, m, n, D, Pl, hcs, _, hl, hm, hmm, hx, hr⟩
  · simp [Value.cells] at hcs; obtain ⟨rfl, rfl, rfl⟩ := hcs; exact ⟨Nat.le_refl _, Nat.zero_le _, Nat.zero_le _, .inl rfl⟩
  · simp [Value.cells] at hcs; obtain ⟨rfl, rfl, rfl⟩ := hcs; simp only [if_true] at hmm; subst hmm; simp only [Prod.mk.injEq] at hx
    have hln : len ≤ Rows.uptoBulk d := by
      rw [hx.1]; simp only [Rows.uptoBulk]; have := bulkI.length_le ((List.range len).map D); simp only [List.length_map, List.length_range] at this; omega
    refine ⟨hl, hm, hln, ?_⟩
    by_cases hz : len = 0
    · exact .inl hz
    right
    have each : ∀ i < len, ∀ (j : Nat) (f : Field), fs[j]? = some f → ∃ (v : Value) (y : DataW H × List MemPlace) (n : Nat), w.cell? ((x.add (i * fs.size)).add j) = some v ∧ DataW.trod enc P w 0 (fun _ => true) true n f.type [v] = some y ∧
        Rows.uptoBulk y.1 ≤ Rows.uptoBulk d := by
      intro i hi j f hj
      obtain ⟨cs, h1, h2⟩ := hr i (by omega)
      rw [ce] at h1; obtain ⟨_, hlen, hcell⟩ := World.cells?_some h1; obtain ⟨xs, q, _, hxy, _, hxl, hfd⟩ := DataW.trod_struct hE h2; obtain ⟨ho, hc⟩ := recB_spec hB hj; have hjl : j < fs.size := (Array.getElem?_eq_some_iff.1 hj).1
      have hjc : j < cs.length := by omega
      have g := hfd j f hj
      rw [ho, hc, List.drop_eq_getElem_cons hjc, List.take_succ_cons, List.take_zero, List.getElem?_eq_getElem (show j < xs.length by omega)] at g
      refine ⟨cs[j], xs[j], q, by rw [hcell j hjl, List.getElem?_eq_getElem hjc], g, ?_⟩
      simp only [Prod.mk.injEq] at hxy; have hin : D i ∈ (List.range len).map D := List.mem_map.2 ⟨i, List.mem_range.2 hi, rfl⟩; have h3 := bulkI.mem_le hin
      have h4 : Rows.uptoBulk xs[j].1 ≤ Rows.uptoBulk (D i) := by
        rw [hxy.1]; simp only [Rows.uptoBulk]
        have : xs[j].1 ∈ xs.map (·.1) := List.mem_map.2 ⟨xs[j], List.getElem_mem _, rfl⟩
        have := bulkI.mem_le this; omega
      rw [hx.1]; simp only [Rows.uptoBulk]; omega
    obtain ⟨b, off, spot⟩ := x
    have hs : spot = none := by
      obtain ⟨v, _, _, hv, _⟩ := each 0 (by omega) 0 fs[0] (Array.getElem?_eq_getElem h0)
      have := World.cell?_spot hv
      simpa [Addr.add] using this
    subst hs; refine ⟨b, off, rfl, fun i hi j f hj => ?_⟩; obtain ⟨v, y, q, hv, hy, hk⟩ := each i hi j f hj; rw [addr_add, addr_add] at hv; exact ⟨v, y, q, hv, hy, hk⟩
theorem open_str {H : Type} {enc : TypeId × Value → H} {w : World} {v : Value} {y : DataW H × List MemPlace} {n : Nat} (h : DataW.trod enc Tryd.prog w 0 (fun _ => true) true n 9 [v] = some y) :
    ∃ k : List (BitVec 8), v = Sv k ∧ k.length ≤ Rows.uptoBulk y.1 ∧ (∀ m ∈ y.1.weights Tryd.prog 9, m ≤ reachBytes) = (k.length ≤ reachBytes) := by
  obtain ⟨s, hs, hy, hz⟩ := DataW.trod_string Tryd.underlying9 h; simp only [List.cons.injEq, and_true] at hs; obtain ⟨k, hk, hkl⟩ := sv_of s
  have hsl : s.data.toList.length = k.length := by rw [hkl]; exact Array.length_toList
  refine ⟨k, hs.trans hk, ?_, ?_⟩
  · rw [hy]; simp only [Rows.uptoBulk]; omega
  · rw [hy]; simp only [DataW.weights, List.mem_singleton, forall_eq, hsl]
theorem open_items {H : Type} {enc : TypeId × Value → H} {w : World} {a : Option Addr} {len cap : Nat} {d : DataW H} {p : List MemPlace}
    (h : DataW.Trod enc Tryd.prog w 0 (fun _ => true) true 22 (.slice a len cap) d p) :
    ∃ l : List ItemL, l.length = len ∧ ItemsAt w a l ∧ (∀ x ∈ l, x.ok ∧ x.key.length ≤ Rows.uptoBulk d) ∧ len ≤ Rows.uptoBulk d := by
  obtain ⟨hl, hm, hln, hr⟩ := open_recsB Tryd.underlying22 Tryd.underlying53 (by kernel_rfl) (by kernel_rfl) (by decide) h
  rcases hr with rfl | ⟨b, o, rfl, hr⟩
  · exact ⟨[], rfl, .inl rfl, by simp, Nat.zero_le _⟩
  · have each : ∀ i < len, ∃ x : ItemL, (∀ j v, x.cells[j]? = some v → w.cell? ⟨b, o + i * 4 + j, none⟩ = some v) ∧ x.ok ∧ x.key.length ≤ Rows.uptoBulk d := by
      intro i hi; obtain ⟨v0, y0, n0, c0, t0, _⟩ := hr i hi 0 _ rfl; obtain ⟨v1, y1, n1, c1, t1, b1⟩ := hr i hi 1 _ rfl; obtain ⟨v2, y2, n2, c2, t2, _⟩ := hr i hi 2 _ rfl; obtain ⟨v3, y3, n3, c3, t3, _⟩ := hr i hi 3 _ rfl; obtain ⟨k, rfl, hk⟩ := open_int' t0; obtain ⟨s, rfl, hs, _⟩ := open_str t1; obtain ⟨t, rfl, ht⟩ := open_int' t2; obtain ⟨v, rfl, hv⟩ := open_int' t3; refine ⟨⟨k, s, t, v⟩, fun j u hj => ?_, ⟨hk, ht, hv⟩, Nat.le_trans hs b1⟩
      match j, hj with
      | 0, hj => cases hj; exact c0
      | 1, hj => cases hj; exact c1
      | 2, hj => cases hj; exact c2
      | 3, hj => cases hj; exact c3
      | k + 4, hj => simp [ItemL.cells] at hj
    classical
    let f : Nat → ItemL := fun r => if h : r < len then Classical.choose (each r h) else ⟨0, [], 0, 0⟩
    have hM : ∀ r < len, (∀ j v, (f r).cells[j]? = some v → w.cell? ⟨b, o + r * 4 + j, none⟩ = some v) ∧ (f r).ok ∧ (f r).key.length ≤ Rows.uptoBulk d := fun r hrl => by
      simp only [f, dif_pos hrl]; exact Classical.choose_spec (each r hrl)
    refine ⟨(List.range len).map f, by simp, .inr ⟨b, o, rfl, fun i y hy => ?_⟩, fun y hy => ?_, hln⟩
    · rw [List.getElem?_map] at hy
      have hi : i < len := by
        rcases Nat.lt_or_ge i len with hi | hi
        · exact hi
        · rw [List.getElem?_eq_none (by simpa using hi)] at hy
          cases hy
      rw [List.getElem?_range hi] at hy; simp only [Option.map_some, Option.some.injEq] at hy; subst hy; exact (hM i hi).1
    · obtain ⟨r, hrl, rfl⟩ := List.mem_map.1 hy; exact (hM r (List.mem_range.1 hrl)).2
def cellsL (l : List ItemL) : List Value := l.flatMap fun x => x.cells.toList
def OwnI (w : World) (base : Nat) (v : Value) (l : List ItemL) : Prop := w.ownsRow base 53 4 v l.length (cellsL l)
theorem cellsL_at (l : List ItemL) : ∀ (i : Nat) (x : ItemL) (j : Nat) (v : Value), l[i]? = some x → x.cells[j]? = some v → (cellsL l)[i * 4 + j]? = some v := by
  induction l with
  | nil => intro i x j v h; simp at h
  | cons y l ih =>
    intro i x j v h hv; have hj : j < 4 := cells_lt hv; have hy : (cellsL (y :: l)) = y.cells.toList ++ cellsL l := rfl; have hys : y.cells.toList.length = 4 := rfl
    cases i with
    | zero =>
      simp only [List.getElem?_cons_zero, Option.some.injEq] at h; subst h
      rw [hy, Nat.zero_mul, Nat.zero_add, List.getElem?_append_left (by omega)]
      simpa using hv
    | succ i =>
      rw [hy, List.getElem?_append_right (by omega), hys, show (i + 1) * 4 + j - 4 = i * 4 + j by omega]
      exact ih i x j v (by simpa using h) hv
theorem OwnI.nil (w : World) (base : Nat) : OwnI w base (.slice none 0 0) [] := World.ownsRow_nil w base _ 4
theorem OwnI.form {w : World} {base : Nat} {v : Value} {l : List ItemL} (h : OwnI w base v l) : ∃ a c, v = .slice a l.length c ∧ ItemsAt w a l := by
  have hh := h
  rcases h.2 with ⟨h1, h2⟩ | ⟨g, cap, cur, h1, _⟩
  · exact ⟨none, 0, by rw [h1, h2], .inl (List.eq_nil_of_length_eq_zero h2)⟩
  · refine ⟨_, _, h1, .inr ⟨g, 0, rfl, fun i x hx j u hu => ?_⟩⟩; unfold OwnI at hh; rw [h1] at hh; have hi : i < l.length := (List.getElem?_eq_some_iff.1 hx).1; have hj : j < 4 := cells_lt hu
    rw [show 0 + i * 4 + j = i * 4 + j by omega, World.ownsRow.cellAt hh _ (by omega)]
    exact cellsL_at l i x j u hx hu
theorem OwnI.kept {w w' : World} {base : Nat} {v : Value} {l : List ItemL} (h : OwnI w base v l) {row : Option Nat} (hg : w.grownBy w' row) (hne : v.ownBlock = none ∨ v.ownBlock ≠ row) : OwnI w' base v l := World.ownsRow.kept h hg hne
theorem OwnI.far {w w' : World} {base : Nat} {v : Value} {l : List ItemL} (h : OwnI w base v l) (hB : Below w.heap.size w w') : OwnI w' base v l :=
  h.kept (grown_none_below hB) (by cases hv : v.ownBlock <;> simp)
theorem OwnI.lt {w : World} {base : Nat} {v : Value} {l : List ItemL} (h : OwnI w base v l) {k : Nat} (hk : v.ownBlock = some k) : base ≤ k ∧ k < w.heap.size := World.ownsRow.lt h k hk
theorem cellsL_snoc (l : List ItemL) (x : ItemL) : cellsL (l ++ [x]) = cellsL l ++ x.cells.toList := by simp [cellsL]
end Go.Proofs.YtdmnhgbdeifpbaaDoor
