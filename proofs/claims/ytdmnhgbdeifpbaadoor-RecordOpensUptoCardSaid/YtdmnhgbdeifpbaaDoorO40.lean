/-
  Part 40 of 42 of what the proof leans on.
-/
import Derived.Test.YtdmnhgbdeifpbaaDoorO27
import Derived.Test.YtdmnhgbdeifpbaaDoorO39
import Derived.Test.YtdmnhgbdeifpbaaDoorO21
import Derived.ChangeArms
namespace Go.Proofs.YtdmnhgbdeifpbaaDoor
open Go Go.ChangeShapes Go.WideShapes Go.ChangeAt Go.WideMaps Go.WideElems Go.RowKit
theorem c_rec : Tryd.prog.cellsOf 25 = 36 := by kernel_rfl
theorem c_hash : Tryd.prog.cellsOf 23 = 32 := by kernel_rfl
theorem c_case : Tryd.prog.cellsOf 44 = 70 := by kernel_rfl
theorem c_int : Tryd.prog.cellsOf 3 = 1 := by kernel_rfl
theorem c_items : Tryd.prog.cellsOf 22 = 1 := by kernel_rfl
theorem agg_bulk {H : Type} {l : List (DataW H × List MemPlace)} {y : DataW H × List MemPlace} (h : y ∈ l) : Rows.uptoBulk y.1 + 1 ≤ Rows.uptoBulk (.agg (l.map (·.1))) := by
  have h1 := bulkI.mem_le (List.mem_map.2 ⟨y, h, rfl⟩ : y.1 ∈ l.map (·.1))
  simp only [Rows.uptoBulk]; omega
section
variable {H : Type} {enc : TypeId × Value → H} {w : World}
theorem field_at {P : Program} {fs : Array Field} {cs : List Value} {q : Nat} {xs : List (DataW H × List MemPlace)}
    (hf : ∀ (i : Nat) (f : Field), fs[i]? = some f → DataW.trod enc P w 0 (fun _ => true) true q f.type ((cs.drop f.offset).take (P.cellsOf f.type)) = xs[i]?) (i : Nat) {T : TypeId} {o n : Nat} (hF : (fs[i]?).map (fun f => (f.type, f.offset)) = some (T, o)) (hc : P.cellsOf T = n) :
    DataW.trod enc P w 0 (fun _ => true) true q T ((cs.drop o).take n) = xs[i]? := by
  cases hfi : fs[i]? with
  | none => rw [hfi] at hF; cases hF
  | some f =>
    rw [hfi] at hF; simp only [Option.map_some, Option.some.injEq, Prod.mk.injEq] at hF; obtain ⟨rfl, rfl⟩ := hF; subst hc; exact hf i f hfi
theorem open_hash {cs : List Value} {y : DataW H × List MemPlace} {n : Nat} (h : DataW.trod enc Tryd.prog w 0 (fun _ => true) true n 23 cs = some y) : ∃ r : List (BitVec 8), r.length = 32 ∧ cs = (byA r).toList := by
  obtain ⟨xs, m, _, _, hl, hxl, hx⟩ := DataW.trod_array Tryd.underlying23 h; rw [c_hash] at hl
  have each : ∀ i < 32, ∃ b : BitVec 8, cs[i]? = some (B b) := by
    intro i hi; have g := hx i hi
    rw [cells_u8, Nat.mul_one, List.getElem?_eq_getElem (by omega)] at g
    obtain ⟨k, hk, _, hw⟩ := DataW.trod_int Tryd.underlying5 g
    have h1 : cs[i]? = some (.int .u8 k) := by
      have h2 : ((cs.drop i).take 1)[0]? = some (.int .u8 k) := by rw [hk]; rfl
      simpa [List.getElem?_take, List.getElem?_drop] using h2
    have hmin : IntKind.u8.min = 0 := rfl; have hmax : IntKind.u8.max = 255 := rfl; simp only [Lit.wf, Bool.and_eq_true, decide_eq_true_eq, hmin, hmax] at hw; refine ⟨BitVec.ofNat 8 k.toNat, ?_⟩; rw [h1]; simp only [B, BitVec.toNat_ofNat]
    congr 2
    omega
  obtain ⟨M, hM⟩ := Deep.choose_lt each
  refine ⟨(List.range 32).map M, by simp, List.ext_getElem? fun i => ?_⟩
  by_cases hi : i < 32
  · rw [hM i hi]; simp [byA, hi]
  · rw [List.getElem?_eq_none (by omega), List.getElem?_eq_none (by simp [byA]; omega)]
theorem open_bytes1 {v : Value} {y : DataW H × List MemPlace} {n : Nat} (h : DataW.trod enc Tryd.prog w 0 (fun _ => true) true n 26 [v] = some y) :
    ∃ (a : Option Addr) (c : Nat) (m : List (BitVec 8)), v = .slice a m.length c ∧ SrcP w a m.length m ∧ m.length ≤ c ∧ c ≤ Rows.uptoBulk y.1 := by
  obtain ⟨a, len, cap, hv⟩ : ∃ a len cap, v = .slice a len cap := by
    rcases Deep.open_slice Tryd.underlying26 h with ⟨hcs, _⟩ | ⟨x, l, c, m, n, D, Pl, hcs, _⟩
    · simp only [List.cons.injEq, and_true] at hcs; exact ⟨_, _, _, hcs⟩
    · simp only [List.cons.injEq, and_true] at hcs; exact ⟨_, _, _, hcs⟩
  subst hv; obtain ⟨d, pl⟩ := y
  have hT : DataW.Trod enc Tryd.prog w 0 (fun _ => true) true 26 (.slice a len cap) d pl := ⟨n, by simpa [Value.cells] using h⟩
  obtain ⟨m, h1, h2, h3, h4⟩ := open_bytes hT
  exact ⟨a, cap, m, by rw [h1], h2, by omega, bytes_bulk h4⟩
theorem open_items1 {v : Value} {y : DataW H × List MemPlace} {n : Nat} (h : DataW.trod enc Tryd.prog w 0 (fun _ => true) true n 22 [v] = some y) :
    ∃ (a : Option Addr) (c : Nat) (l : List ItemL), v = .slice a l.length c ∧ ItemsAt w a l ∧ (∀ x ∈ l, x.key.length ≤ Rows.uptoBulk y.1) ∧ l.length ≤ Rows.uptoBulk y.1 := by
  obtain ⟨a, len, cap, hv⟩ : ∃ a len cap, v = .slice a len cap := by
    rcases Deep.open_slice Tryd.underlying22 h with ⟨hcs, _⟩ | ⟨x, l, c, m, n, D, Pl, hcs, _⟩
    · simp only [List.cons.injEq, and_true] at hcs; exact ⟨_, _, _, hcs⟩
    · simp only [List.cons.injEq, and_true] at hcs; exact ⟨_, _, _, hcs⟩
  subst hv; obtain ⟨d, pl⟩ := y
  have hT : DataW.Trod enc Tryd.prog w 0 (fun _ => true) true 22 (.slice a len cap) d pl := ⟨n, by simpa [Value.cells] using h⟩
  obtain ⟨l, h1, h2, h3, h4⟩ := open_items hT
  exact ⟨a, cap, l, by rw [h1], h2, fun x hx => (h3 x hx).2, by rw [h1]; exact h4⟩
set_option maxRecDepth 100000 in
/-- A record's 36 cells. -/
theorem open_record {cs : List Value} {y : DataW H × List MemPlace} {n : Nat} (h : DataW.trod enc Tryd.prog w 0 (fun _ => true) true n 25 cs = some y) :
    ∃ (x : RecL) (ia : Option Addr) (ic : Nat), cs = (recC x.kind x.seq (.slice ia x.items.length ic) x.area x.root).toList ∧ ItemsAt w ia x.items ∧ x.root.length = 32 ∧ (∀ i ∈ x.items, i.key.length ≤ Rows.uptoBulk y.1) ∧ x.items.length ≤ Rows.uptoBulk y.1 := by
  obtain ⟨xs, q, _, hy, hl, hxl, hf⟩ := DataW.trod_struct Tryd.underlying25 h; rw [c_rec] at hl; have hxl5 : xs.length = 5 := hxl; have f0 := field_at hf 0 (T := 3) (o := 0) rfl c_int; have f1 := field_at hf 1 (T := 3) (o := 1) rfl c_int; have f2 := field_at hf 2 (T := 22) (o := 2) rfl c_items; have f3 := field_at hf 3 (T := 3) (o := 3) rfl c_int; have f4 := field_at hf 4 (T := 23) (o := 4) rfl c_hash
  rw [List.getElem?_eq_getElem (by omega)] at f0 f1 f2 f3 f4
  obtain ⟨v0, v1, v2, v3, rest, rfl⟩ : ∃ v0 v1 v2 v3 rest, cs = v0 :: v1 :: v2 :: v3 :: rest := by
    match cs, hl with
    | v0 :: v1 :: v2 :: v3 :: rest, _ => exact ⟨v0, v1, v2, v3, rest, rfl⟩
  have hrl : rest.length = 32 := by simpa using hl
  simp only [List.drop_zero, List.drop_succ_cons, List.take_succ_cons, List.take_zero] at f0 f1 f2 f3 f4
  rw [List.take_of_length_le (by omega)] at f4
  obtain ⟨z0, rfl, _⟩ := open_int' f0; obtain ⟨z1, rfl, _⟩ := open_int' f1; obtain ⟨ia, ic, l, rfl, hI, hk, hll⟩ := open_items1 f2; obtain ⟨z3, rfl, _⟩ := open_int' f3; obtain ⟨r, hr, rfl⟩ := open_hash f4
  have hb := agg_bulk (List.getElem_mem (show 2 < xs.length by omega))
  have hy1 : y.1 = .agg (xs.map (·.1)) := by rw [hy]
  rw [← hy1] at hb
  exact ⟨⟨z0, z1, l, z3, r⟩, ia, ic, by simp [recC], hI, hr, fun i hi => by have := hk i hi; omega, by show l.length ≤ _; omega⟩
end
end Go.Proofs.YtdmnhgbdeifpbaaDoor
