/-
  Lists of items: as they came in, as a call makes them; items side by side.
-/
import Derived.Test.YtbfioekbahcicaaEventName
import Derived.Test.YtbfioekbahcicaaCoreOpen
import Derived.Test.YtbfioekbahcicaaCoreBase
import Derived.Laws.StructEq
import Derived.Test.YtbfioekbahcicaaRows
namespace Go.Proofs.Ytbfioekbahcicaa
open Go Go.ChangeShapes Go.WideShapes Go.ChangeAt Go.WideMaps Go.WideElems Go.RowKit

/-- The same item? -/
def sameI (x y : ItemL) : Bool := x.kind == y.kind && (decide (x.key = y.key) && (x.time == y.time && x.value == y.value))
theorem sameI_iff (x y : ItemL) : sameI x y = true ↔ x = y := by
  obtain ⟨a, b, c, d⟩ := x
  obtain ⟨a', b', c', d'⟩ := y
  simp [sameI]
theorem map4 {α β : Type} (g : α → β) : ∀ (l : List α) (a b c d : β), l.map g = [a, b, c, d] → ∃ x0 x1 x2 x3, l = [x0, x1, x2, x3] ∧ g x0 = a ∧ g x1 = b ∧ g x2 = c ∧ g x3 = d
  | [], _, _, _, _, h => by simp at h
  | [_], _, _, _, _, h => by simp at h
  | [_, _], _, _, _, _, h => by simp at h
  | [_, _, _], _, _, _, _, h => by simp at h
  | [x0, x1, x2, x3], _, _, _, _, h => by
    simp only [List.map_cons, List.map_nil, List.cons.injEq, and_true] at h
    exact ⟨x0, x1, x2, x3, rfl, h⟩
  | _ :: _ :: _ :: _ :: _ :: _, _, _, _, _, h => by simp at h
theorem eqF_step {P : Program} {w : World} {d : Nat} {xs ys : Array Value} {f : Field} {fs : List Field} (a b : Value) (r : Bool) (hn : f.name ≠ "_") (ha : (part f.type xs f.offset).run P w = .ok a w) (hb : (part f.type ys f.offset).run P w = .ok b w)
    (he : (Op.equalIn d f.type a b).run P w = .ok r w) : (Op.eqFields d xs ys (f :: fs)).run P w = if r then (Op.eqFields d xs ys fs).run P w else .ok false w := by
  simp only [Op.eqFields, if_pos hn, Sem.run_bind, ha, hb, he, Result.andThen_ok]
  cases r <;> simp
/-- A list of items that lies at an address. -/
def ItemsAt (w : World) (a : Option Addr) (l : List ItemL) : Prop :=
  l = [] ∨ ∃ b o, a = some ⟨b, o, none⟩ ∧ ∀ i x, l[i]? = some x → ∀ j v, x.cells[j]? = some v → w.cell? ⟨b, o + i * 4 + j, none⟩ = some v
theorem ItemsAt.below {w w' : World} {a : Option Addr} {l : List ItemL} (h : ItemsAt w a l) (hB : Below w.heap.size w w') : ItemsAt w' a l := by
  rcases h with h | ⟨b, o, h, h'⟩
  · exact .inl h
  · exact .inr ⟨b, o, h, fun i x hx j v hv => (hB.cell (block_lt_of_cell (h' i x hx j v hv))).trans (h' i x hx j v hv)⟩
theorem cells_lt {x : ItemL} {j : Nat} {v : Value} (h : x.cells[j]? = some v) : j < 4 := by
  have := (Array.getElem?_eq_some_iff.1 h).1
  simpa [ItemL.cells] using this
theorem item_one1 (x : ItemL) : x.cells.all (·.oneCell') = true := by
  rw [Array.all_eq_true']
  intro v hv
  simp only [ItemL.cells, List.mem_toArray, List.mem_cons, List.not_mem_nil, or_false] at hv
  rcases hv with rfl | rfl | rfl | rfl <;> rfl
def ItemL.ok (x : ItemL) : Prop := (-9223372036854775808 ≤ x.kind ∧ x.kind < 9223372036854775808) ∧ (-9223372036854775808 ≤ x.time ∧ x.time < 9223372036854775808) ∧ (-9223372036854775808 ≤ x.value ∧ x.value < 9223372036854775808)
theorem open_int' {H : Type} {enc : TypeId × Value → H} {w : World} {v : Value} {y : DataW H × List MemPlace} {n : Nat} (h : DataW.trod enc Try.prog w 0 (fun _ => true) true n 3 [v] = some y) :
    ∃ k : Int, v = .int .i64 k ∧ -9223372036854775808 ≤ k ∧ k < 9223372036854775808 := by
  obtain ⟨k, hk, _, hwf⟩ := DataW.trod_int Try.underlying3 h
  simp only [List.cons.injEq, and_true] at hk
  have hmin : IntKind.i64.min = -9223372036854775808 := rfl
  have hmax : IntKind.i64.max = 9223372036854775807 := rfl
  simp only [Lit.wf, Bool.and_eq_true, decide_eq_true_eq, hmin, hmax] at hwf
  exact ⟨k, hk, by omega, by omega⟩
namespace bulkI
theorem mem_le {H : Type} {d : DataW H} : ∀ {l : List (DataW H)}, d ∈ l → Rows.uptoBulk d ≤ Rows.uptoBulkAll l
  | x :: l, h => by
    simp only [Rows.uptoBulkAll]
    rcases List.mem_cons.1 h with rfl | h
    · omega
    · have := mem_le h
      omega
theorem one_le {H : Type} (d : DataW H) : 1 ≤ Rows.uptoBulk d := by
  cases d with
  | lit l => cases l <;> simp [Rows.uptoBulk]
  | nil => simp [Rows.uptoBulk]
  | ptr d => simp [Rows.uptoBulk]
  | slice elems spare => simp [Rows.uptoBulk]
  | agg parts => simp [Rows.uptoBulk]
  | iface t d => simp [Rows.uptoBulk]
  | map entries => simp [Rows.uptoBulk]
  | held h => simp [Rows.uptoBulk]
theorem length_le {H : Type} (l : List (DataW H)) : l.length ≤ Rows.uptoBulkAll l := by
  induction l with
  | nil => simp [Rows.uptoBulkAll]
  | cons x r ih => have := one_le x; simp only [Rows.uptoBulkAll, List.length_cons]; omega
end bulkI
/-- open_recs, with what bounds the fields' bulk. -/
theorem open_recsB {P : Program} {T E : TypeId} {fs : Array Field} (hT : P.underlying T = some (.slice E)) (hE : P.underlying E = some (.struct fs)) (ce : P.cellsOf E = fs.size) (hB : recB P fs = true) (h0 : 0 < fs.size)
    {H : Type} {enc : TypeId × Value → H} {w : World} {a : Option Addr} {len cap : Nat} {d : DataW H} {p : List MemPlace} (h : DataW.Trod enc P w 0 (fun _ => true) true T (.slice a len cap) d p) :
    len ≤ cap ∧ cap ≤ maxLen ∧ len ≤ Rows.uptoBulk d ∧ (len = 0 ∨ ∃ b o, a = some ⟨b, o, none⟩ ∧ ∀ i < len, ∀ (j : Nat) (f : Field), fs[j]? = some f →
      ∃ (v : Value) (y : DataW H × List MemPlace) (n : Nat), w.cell? ⟨b, o + i * fs.size + j, none⟩ = some v ∧ DataW.trod enc P w 0 (fun _ => true) true n f.type [v] = some y ∧ Rows.uptoBulk y.1 ≤ Rows.uptoBulk d) := by
  obtain ⟨fuel, hf⟩ := h
  rcases Deep.open_slice hT hf with ⟨hcs, _⟩ | ⟨x, l, c, m, n, D, Pl, hcs, _, hl, hm, hmm, hx, hr⟩
  · simp [Value.cells] at hcs
    obtain ⟨rfl, rfl, rfl⟩ := hcs
    exact ⟨Nat.le_refl _, Nat.zero_le _, Nat.zero_le _, .inl rfl⟩
  · simp [Value.cells] at hcs
    obtain ⟨rfl, rfl, rfl⟩ := hcs
    simp only [if_true] at hmm
    subst hmm
    simp only [Prod.mk.injEq] at hx
    have hln : len ≤ Rows.uptoBulk d := by
      rw [hx.1]
      simp only [Rows.uptoBulk]
      have := bulkI.length_le ((List.range len).map D)
      simp only [List.length_map, List.length_range] at this
      omega
    refine ⟨hl, hm, hln, ?_⟩
    by_cases hz : len = 0
    · exact .inl hz
    right
    have each : ∀ i < len, ∀ (j : Nat) (f : Field), fs[j]? = some f → ∃ (v : Value) (y : DataW H × List MemPlace) (n : Nat), w.cell? ((x.add (i * fs.size)).add j) = some v ∧ DataW.trod enc P w 0 (fun _ => true) true n f.type [v] = some y ∧
        Rows.uptoBulk y.1 ≤ Rows.uptoBulk d := by
      intro i hi j f hj
      obtain ⟨cs, h1, h2⟩ := hr i (by omega)
      rw [ce] at h1
      obtain ⟨_, hlen, hcell⟩ := World.cells?_some h1
      obtain ⟨xs, q, _, hxy, _, hxl, hfd⟩ := DataW.trod_struct hE h2
      obtain ⟨ho, hc⟩ := recB_spec hB hj
      have hjl : j < fs.size := (Array.getElem?_eq_some_iff.1 hj).1
      have hjc : j < cs.length := by omega
      have g := hfd j f hj
      rw [ho, hc, List.drop_eq_getElem_cons hjc, List.take_succ_cons, List.take_zero, List.getElem?_eq_getElem (show j < xs.length by omega)] at g
      refine ⟨cs[j], xs[j], q, by rw [hcell j hjl, List.getElem?_eq_getElem hjc], g, ?_⟩
      simp only [Prod.mk.injEq] at hxy
      have hin : D i ∈ (List.range len).map D := List.mem_map.2 ⟨i, List.mem_range.2 hi, rfl⟩
      have h3 := bulkI.mem_le hin
      have h4 : Rows.uptoBulk xs[j].1 ≤ Rows.uptoBulk (D i) := by
        rw [hxy.1]
        simp only [Rows.uptoBulk]
        have : xs[j].1 ∈ xs.map (·.1) := List.mem_map.2 ⟨xs[j], List.getElem_mem _, rfl⟩
        have := bulkI.mem_le this
        omega
      rw [hx.1]
      simp only [Rows.uptoBulk]
      omega
    obtain ⟨b, off, spot⟩ := x
    have hs : spot = none := by
      obtain ⟨v, _, _, hv, _⟩ := each 0 (by omega) 0 fs[0] (Array.getElem?_eq_getElem h0)
      have := World.cell?_spot hv
      simpa [Addr.add] using this
    subst hs
    refine ⟨b, off, rfl, fun i hi j f hj => ?_⟩
    obtain ⟨v, y, q, hv, hy, hk⟩ := each i hi j f hj
    rw [addr_add, addr_add] at hv
    exact ⟨v, y, q, hv, hy, hk⟩
theorem open_str {H : Type} {enc : TypeId × Value → H} {w : World} {v : Value} {y : DataW H × List MemPlace} {n : Nat} (h : DataW.trod enc Try.prog w 0 (fun _ => true) true n 9 [v] = some y) :
    ∃ k : List (BitVec 8), v = Sv k ∧ k.length ≤ Rows.uptoBulk y.1 ∧ (∀ m ∈ y.1.weights Try.prog 9, m ≤ reachBytes) = (k.length ≤ reachBytes) := by
  obtain ⟨s, hs, hy, hz⟩ := DataW.trod_string Try.underlying9 h
  simp only [List.cons.injEq, and_true] at hs
  obtain ⟨k, hk, hkl⟩ := sv_of s
  have hsl : s.data.toList.length = k.length := by rw [hkl]; exact Array.length_toList
  refine ⟨k, hs.trans hk, ?_, ?_⟩
  · rw [hy]
    simp only [Rows.uptoBulk]
    omega
  · rw [hy]
    simp only [DataW.weights, List.mem_singleton, forall_eq, hsl]
/-- A slice of items that a call made itself. -/
def cellsL (l : List ItemL) : List Value := l.flatMap fun x => x.cells.toList
theorem cellsL_length (l : List ItemL) : (cellsL l).length = l.length * 4 := by
  induction l with
  | nil => rfl
  | cons x l ih =>
    have : (cellsL (x :: l)).length = 4 + (cellsL l).length := by
      show (x.cells.toList ++ cellsL l).length = _
      rw [List.length_append]
      rfl
    rw [this, ih, List.length_cons]
    omega
theorem cellsL_at (l : List ItemL) : ∀ (i : Nat) (x : ItemL) (j : Nat) (v : Value), l[i]? = some x → x.cells[j]? = some v → (cellsL l)[i * 4 + j]? = some v := by
  induction l with
  | nil => intro i x j v h; simp at h
  | cons y l ih =>
    intro i x j v h hv
    have hj : j < 4 := cells_lt hv
    have hy : (cellsL (y :: l)) = y.cells.toList ++ cellsL l := rfl
    have hys : y.cells.toList.length = 4 := rfl
    cases i with
    | zero =>
      simp only [List.getElem?_cons_zero, Option.some.injEq] at h
      subst h
      rw [hy, Nat.zero_mul, Nat.zero_add, List.getElem?_append_left (by omega)]
      simpa using hv
    | succ i =>
      rw [hy, List.getElem?_append_right (by omega), hys, show (i + 1) * 4 + j - 4 = i * 4 + j by omega]
      exact ih i x j v (by simpa using h) hv
theorem cellsL_snoc (l : List ItemL) (x : ItemL) : cellsL (l ++ [x]) = cellsL l ++ x.cells.toList := by simp [cellsL]
end Go.Proofs.Ytbfioekbahcicaa
