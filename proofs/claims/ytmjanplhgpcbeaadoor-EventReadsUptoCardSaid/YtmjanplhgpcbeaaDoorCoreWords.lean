/-
  Words of 32 bits and bytes as Go values, what the operations make of them, slices of arrays and of slices: no program here.
-/
import Derived.WalkKit
import Derived.WalkSpells
import Derived.Deep.Draws
namespace Go.Proofs.YtmjanplhgpcbeaaDoor
open Go.RowKit

/-- A word of 32 bits as a Go value. -/
def W (x : BitVec 32) : Value := .int .u32 (x.toNat : Int)
theorem W_oneCell (x : BitVec 32) : (W x).oneCell' = true := rfl
section
variable (P : Program) (t : TypeId) (x y : BitVec 32) (w : World)
theorem run_add_W : (binOp .add t (W x) (W y)).run P w = .ok (W (x + y)) w := by
  simp only [W, binOp_add, Op.intArith]
  show Result.ok (Value.int .u32 (IntKind.u32.wrap _)) w = _
  simp [IntKind.wrap, IntKind.bits, IntKind.signed, BitVec.toNat_add]
theorem run_bits_W (op : BinOp) (r : BitVec 32) (h : bits op .u32 (x.toNat : Int) (y.toNat : Int) = r.toNat) : (pure (Value.int .u32 (bits op .u32 (x.toNat : Int) (y.toNat : Int))) : Sem Value).run P w = .ok (W r) w := by
  rw [h]; rfl
theorem ofInt_toNat (x : BitVec 32) : BitVec.ofInt 32 (x.toNat : Int) = x := by
  apply BitVec.eq_of_toNat_eq
  simp
theorem wrap_toNat (x : BitVec 32) : IntKind.u32.wrap (x.toNat : Int) = x.toNat := by
  have := x.isLt
  simp [IntKind.wrap, IntKind.bits, IntKind.signed]
  omega
theorem bits_and : bits .and .u32 (x.toNat : Int) (y.toNat : Int) = (x &&& y).toNat := by
  show IntKind.u32.wrap ((BitVec.ofInt 32 (x.toNat : Int) &&& BitVec.ofInt 32 (y.toNat : Int)).toNat : Int) = _
  rw [ofInt_toNat, ofInt_toNat, wrap_toNat]
theorem bits_or : bits .or .u32 (x.toNat : Int) (y.toNat : Int) = (x ||| y).toNat := by
  show IntKind.u32.wrap ((BitVec.ofInt 32 (x.toNat : Int) ||| BitVec.ofInt 32 (y.toNat : Int)).toNat : Int) = _
  rw [ofInt_toNat, ofInt_toNat, wrap_toNat]
theorem bits_xor : bits .xor .u32 (x.toNat : Int) (y.toNat : Int) = (x ^^^ y).toNat := by
  show IntKind.u32.wrap ((BitVec.ofInt 32 (x.toNat : Int) ^^^ BitVec.ofInt 32 (y.toNat : Int)).toNat : Int) = _
  rw [ofInt_toNat, ofInt_toNat, wrap_toNat]
theorem run_and_W : (binOp .and t (W x) (W y)).run P w = .ok (W (x &&& y)) w := by
  simp only [W, go_sem]; rw [bits_and]; rfl
theorem run_or_W : (binOp .or t (W x) (W y)).run P w = .ok (W (x ||| y)) w := by
  simp only [W, go_sem]; rw [bits_or]; rfl
theorem run_xor_W : (binOp .xor t (W x) (W y)).run P w = .ok (W (x ^^^ y)) w := by
  simp only [W, go_sem]; rw [bits_xor]; rfl
theorem run_shr_W (k : IntKind) (n : Nat) (hn : n ≤ 32) : (binOp .shr t (W x) (.int k n)).run P w = .ok (W (x >>> n)) w := by
  simp only [W, binOp_shr, Op.shift]
  rw [if_neg (by omega)]
  show Result.ok (Value.int .u32 (Int.fdiv _ _)) w = _
  congr 2
  simp only [IntKind.bits, Int.toNat_natCast, Nat.min_eq_left hn]
  rw [Int.fdiv_eq_ediv_of_nonneg _ (Int.pow_nonneg (by decide))]
  simp [BitVec.toNat_ushiftRight, Nat.shiftRight_eq_div_pow]
theorem run_shl_W (k : IntKind) (n : Nat) (hn : n ≤ 32) : (binOp .shl t (W x) (.int k n)).run P w = .ok (W (x <<< n)) w := by
  simp only [W, binOp_shl, Op.shift]
  rw [if_neg (by omega)]
  show Result.ok (Value.int .u32 (IntKind.u32.wrap _)) w = _
  congr 2
  simp only [IntKind.bits, Int.toNat_natCast, Nat.min_eq_left hn]
  simp [IntKind.wrap, IntKind.bits, IntKind.signed, BitVec.toNat_shiftLeft, Nat.shiftLeft_eq]
end
theorem run_not_W (P : Program) (x : BitVec 32) (w : World) : (Op.unary .xor (W x)).run P w = .ok (W (~~~x)) w := by
  have h := bits_xor (BitVec.allOnes 32) x
  rw [show (((BitVec.allOnes 32).toNat : Nat) : Int) = 4294967295 from by decide] at h
  simp only [W, unary_xor, intBits_xor]
  show Result.ok (Value.int .u32 (bits .xor .u32 4294967295 (x.toNat : Int))) w = _
  rw [h, BitVec.allOnes_xor]
attribute [go_sem] run_not_W
attribute [go_sem] W_oneCell run_add_W run_and_W run_or_W run_xor_W
def rotr (x : BitVec 32) (n : Nat) : BitVec 32 := x >>> n ||| x <<< (32 - n)
theorem u64_neg : ∀ n : Fin 32, n.val ≠ 0 → bits .and .u64 (IntKind.u64.wrap (-(n.val : Int))) 31 = ((32 - n.val : Nat) : Int) := by decide
theorem u64_sub (n : Nat) (h1 : n ≤ 32) : IntKind.u64.wrap (32 - (n : Int)) = ((32 - n : Nat) : Int) := by
  simp [IntKind.wrap, IntKind.bits, IntKind.signed]
  omega
/-- A byte as a Go value. -/
def B (x : BitVec 8) : Value := .int .u8 (x.toNat : Int)
theorem B_oneCell (x : BitVec 8) : (B x).oneCell' = true := rfl
section
variable {P : Program} (w : World)
theorem run_conv_B_W (src dst : TypeId) (x : BitVec 8) (hs : P.underlying src = some (.int .u8)) (hd : P.underlying dst = some (.int .u32)) :
    (convert src dst (B x)).run P w = .ok (W (x.setWidth 32)) w := by
  simp [convert, B, W, run_underlying hs, run_underlying hd, Conv.intToInt, IntKind.wrap, IntKind.bits, IntKind.signed]
theorem run_conv_W_B (src dst : TypeId) (x : BitVec 32) (hs : P.underlying src = some (.int .u32)) (hd : P.underlying dst = some (.int .u8)) :
    (convert src dst (W x)).run P w = .ok (B (x.setWidth 8)) w := by
  simp [convert, B, W, run_underlying hs, run_underlying hd, Conv.intToInt, IntKind.wrap, IntKind.bits, IntKind.signed]
end
attribute [go_sem] B_oneCell
theorem run_store_W (P : Program) (w : World) (a : Addr) (m : Mode) (x : BitVec 32) : (store a (W x) m).run P w = stored P w a (W x) m := run_store P w a _ m rfl
theorem run_store_B (P : Program) (w : World) (a : Addr) (m : Mode) (x : BitVec 8) : (store a (B x) m).run P w = stored P w a (B x) m := run_store P w a _ m rfl
theorem W_cells (x : BitVec 32) : (W x).cells = #[W x] := rfl
theorem B_cells (x : BitVec 8) : (B x).cells = #[B x] := rfl
theorem run_storeCells_W (P : Program) (w : World) (a : Addr) (x : BitVec 32) : (storeCells a [W x]).run P w = stored P w a (W x) .plain := by
  have : a.add 0 = a := by simp [Addr.add]
  simp only [storeCells, Sem.run_bind, this, run_store_W]
  cases stored P w a (W x) .plain <;> rfl
theorem run_storeCells_B (P : Program) (w : World) (a : Addr) (x : BitVec 8) : (storeCells a [B x]).run P w = stored P w a (B x) .plain := by
  have : a.add 0 = a := by simp [Addr.add]
  simp only [storeCells, Sem.run_bind, this, run_store_B]
  cases stored P w a (B x) .plain <;> rfl
attribute [go_sem] run_store_W run_store_B W_cells B_cells run_storeCells_W run_storeCells_B
theorem addr_add (b o n : Nat) : (⟨b, o, none⟩ : Addr).add n = ⟨b, o + n, none⟩ := by
  unfold Addr.add
  split
  · rename_i h; subst h; rfl
  · rfl
theorem run_slice_arr {P : Program} (T e n : Nat) (hT : P.underlying T = some (.array n e)) (hz : ∀ w, (sizeOf e).run P w = .ok 1 w) (b o l h : Nat) (h1 : l ≤ h) (h2 : h ≤ n) (h3 : l < n) (w : World)
    (li hi : Int) (el : li = l) (eh : hi = h) :
    (Instr.sliceAt T (.pointer (some ⟨b, o, none⟩)) (some (.int .i64 li)) (some (.int .i64 hi)) none).run P w = .ok (.slice (some ⟨b, o + l, none⟩) (h - l) (n - l)) w := by
  subst el
  subst eh
  have h4 : ¬ n = l := by omega
  simp [Instr.sliceAt, Instr.sureAddr, run_underlying hT, Instr.sliceBounds, run_sliceBound, hz, h1, h2, h4, addr_add]
theorem run_shl_W_lit (P : Program) (t : TypeId) (x : BitVec 32) (w : World) (k : IntKind) (n : Nat) (hn : n ≤ 32) : (binOp .shl t (W x) (.int k (no_index (OfNat.ofNat n)))).run P w = .ok (W (x <<< n)) w := run_shl_W P t x w k n hn
theorem run_shr_W_lit (P : Program) (t : TypeId) (x : BitVec 32) (w : World) (k : IntKind) (n : Nat) (hn : n ≤ 32) : (binOp .shr t (W x) (.int k (no_index (OfNat.ofNat n)))).run P w = .ok (W (x >>> n)) w := run_shr_W P t x w k n hn
attribute [go_sem] run_shl_W_lit run_shr_W_lit
/-- One cell is stored. -/
theorem run_storeAt_one {P : Program} {ty : TypeId} {A : Addr} {v u : Value} {w : World} (hv : v.cells = #[v]) (h1 : v.oneCell' = true) (hs : ∀ w, (sizeOf ty).run P w = .ok 1 w)
    (hc : w.cell? A = some u) (hf : w.frozen? A = false) : (Instr.storeAt ty (.pointer (some A)) v).run P w = .ok () (w.setCell A v) := by
  have h0 : A.add 0 = A := by simp [Addr.add]
  have hst : (store (A.add 0) v).run P w = .ok () (w.setCell A v) := by
    rw [h0, run_store P w A v _ h1, hc]
    simp [hf]
  simp [Instr.storeAt, Instr.sureAddr, storeVar, hs, hv, storeCells, hst]
theorem wpList_store1 {P : Program} {ops : Array Oper} {rest : List Oper} {o : Oper} {a : Act} {w : World} {Q : Exit → Act → World → Prop} (hgd : o.guard = none) (ty : TypeId) (x y : Operand) (ho : o.op = .store ty x y)
    (A : Addr) (v u : Value) (hx : a.eval x = .pointer (some A)) (hy : a.eval y = v) (hv : v.cells = #[v]) (h1 : v.oneCell' = true) (hs : ∀ w, (sizeOf ty).run P w = .ok 1 w)
    (hc : w.cell? A = some u) (hf : w.frozen? A = false)
    (h : wpList P ops Q rest (a.put o.dst undef) (w.setCell A v)) : wpList P ops Q (o :: rest) a w :=
  wpList_plain hgd fun _ hK => by
    unfold Oper.wp execOp
    simp only [ho, hx, hy, Sem.run_bind, Sem.run_pure, Result.andThen_ok, run_storeAt_one hv h1 hs hc hf]
    exact hK _ _ h
theorem setCell_last (w : World) (o : Obj) (c : Array Value) (t : TypeId) (n i : Nat) (v : Value) :
    (((w.alloc o).alloc (.cells c t)).drewN n).setCell ⟨w.heap.size + 1, i, none⟩ v = ((w.alloc o).alloc (.cells (c.setIfInBounds i v) t)).drewN n := by
  have := World.setCell_alloc_at (w := w.alloc o) c t (w.heap.size + 1) i v (by simp)
  show World.drewN (World.setCell ((w.alloc o).alloc (.cells c t)) ⟨w.heap.size + 1, i, none⟩ v) n = _
  rw [this]
theorem run_index_arr {P : Program} (T e n : Nat) (hT : P.underlying T = some (.array n e)) (hz : ∀ w, (sizeOf e).run P w = .ok 1 w) (hg : ∀ w, (isAgg e).run P w = .ok false w) (cs : Array Value) (k : Nat) (hk : k < n) (v : Value) (hv : cs[k]? = some v) (w : World) :
    (Instr.index T (.agg cs) (.int .i64 (k : Int))).run P w = .ok v w := by
  simp [Instr.index, asIntOf, run_underlying hT, hz, part, hg, hv]
  omega
/-- A whole array is stored somewhere into a row. -/
theorem wpList_store_at {P : Program} {ops : Array Oper} {rest : List Oper} {o : Oper} {a : Act} {w : World} {Q : Exit → Act → World → Prop} (hgd : o.guard = none) (ty : TypeId) (x y : Operand) (ho : o.op = .store ty x y)
    (g off : Nat) (cs : List Value) (hx : a.eval x = .pointer (some ⟨g, off, none⟩)) (hy : a.eval y = .agg cs.toArray)
    (t : TypeId) (old : Array Value) (hg : w.heap[g]? = some (.cells old t (0, 0))) (hi : (P.info? ty).map (·.size) = some cs.length)
    (hfit : off + cs.length ≤ old.size) (h1 : ∀ v ∈ cs, v.oneCell' = true)
    (h : wpList P ops Q rest (a.put o.dst undef) (w.setRow g (old.toList.take off ++ cs ++ old.toList.drop (off + cs.length)).toArray)) : wpList P ops Q (o :: rest) a w :=
  wpList_plain hgd fun _ hK => by
    have hst := run_storeCells_at P g off t cs 0 old w hg (by simpa using hfit) h1
    have hrun : (storeVar ty ⟨g, off, none⟩ (.agg cs.toArray)).run P w = .ok () (w.setRow g (old.toList.take off ++ cs ++ old.toList.drop (off + cs.length)).toArray) := by
      cases hq : P.info? ty with
      | none => simp [hq] at hi
      | some i =>
        have hs : cs.length = i.size := by simp [hq] at hi; omega
        simpa [storeVar, sizeOf, typeInfo, hq, Value.cells, hs] using hst
    unfold Oper.wp execOp
    simp only [ho, hx, hy, Instr.storeAt, Instr.sureAddr, Sem.run_bind, Sem.run_pure, Result.andThen_ok, hrun]
    exact hK _ _ h
theorem run_slice_arr_l {P : Program} (T e n : Nat) (hT : P.underlying T = some (.array n e)) (hz : ∀ w, (sizeOf e).run P w = .ok 1 w) (b o l : Nat) (h3 : l < n) (w : World) :
    (Instr.sliceAt T (.pointer (some ⟨b, o, none⟩)) (some (.int .i64 (l : Int))) none none).run P w = .ok (.slice (some ⟨b, o + l, none⟩) (n - l) (n - l)) w := by
  have h4 : ¬ n = l := by omega
  have h5 : l ≤ n := by omega
  simp [Instr.sliceAt, Instr.sureAddr, run_underlying hT, Instr.sliceBounds, run_sliceBound, hz, h4, h5, addr_add]
theorem run_slice_sl_l {P : Program} (T e : Nat) (hT : P.underlying T = some (.slice e)) (hz : ∀ w, (sizeOf e).run P w = .ok 1 w) (b o n cap l : Nat) (h : l ≤ n) (w : World) :
    (Instr.slice T (.slice (some ⟨b, o, none⟩) n cap) (some (.int .i64 (l : Int))) none none).run P w = .ok (.slice (if cap = l then some ⟨b, o, none⟩ else some ⟨b, o + l, none⟩) (n - l) (cap - l)) w := by
  simp [Instr.slice, run_underlying hT, Instr.sliceBounds, run_sliceBound, hz, h, addr_add]
theorem run_sliceAt_sl {P : Program} (T e : Nat) (hT : P.underlying T = some (.slice e)) (x : Value) (lo hi mx : Option Value) (w : World) : (Instr.sliceAt T x lo hi mx).run P w = (Instr.slice T x lo hi mx).run P w := by
  simp [Instr.sliceAt, run_underlying hT]
theorem run_slice_arr_h {P : Program} (T e n : Nat) (hT : P.underlying T = some (.array n e)) (hz : ∀ w, (sizeOf e).run P w = .ok 1 w) (b o h : Nat) (h2 : h ≤ n) (w : World) (hi : Int) (eh : hi = h) :
    (Instr.sliceAt T (.pointer (some ⟨b, o, none⟩)) none (some (.int .i64 hi)) none).run P w = .ok (.slice (some ⟨b, o, none⟩) h n) w := by
  subst eh
  simp [Instr.sliceAt, Instr.sureAddr, run_underlying hT, Instr.sliceBounds, run_sliceBound, hz, h2, addr_add]
section
variable (P : Program) (t : TypeId) (x y : BitVec 8) (w : World)
theorem ofInt_toNat8 (x : BitVec 8) : BitVec.ofInt 8 (x.toNat : Int) = x := by
  apply BitVec.eq_of_toNat_eq
  simp
theorem wrap_toNat8 (x : BitVec 8) : IntKind.u8.wrap (x.toNat : Int) = x.toNat := by
  have := x.isLt
  simp [IntKind.wrap, IntKind.bits, IntKind.signed]
  omega
theorem bits_or8 : bits .or .u8 (x.toNat : Int) (y.toNat : Int) = (x ||| y).toNat := by
  show IntKind.u8.wrap ((BitVec.ofInt 8 (x.toNat : Int) ||| BitVec.ofInt 8 (y.toNat : Int)).toNat : Int) = _
  rw [ofInt_toNat8, ofInt_toNat8, wrap_toNat8]
theorem bits_xor8 : bits .xor .u8 (x.toNat : Int) (y.toNat : Int) = (x ^^^ y).toNat := by
  show IntKind.u8.wrap ((BitVec.ofInt 8 (x.toNat : Int) ^^^ BitVec.ofInt 8 (y.toNat : Int)).toNat : Int) = _
  rw [ofInt_toNat8, ofInt_toNat8, wrap_toNat8]
theorem run_or_B : (binOp .or t (B x) (B y)).run P w = .ok (B (x ||| y)) w := by
  simp only [B, go_sem]; rw [bits_or8]; rfl
theorem run_xor_B : (binOp .xor t (B x) (B y)).run P w = .ok (B (x ^^^ y)) w := by
  simp only [B, go_sem]; rw [bits_xor8]; rfl
theorem run_eql_B0 : (binOp .eql t (B x) (.int .u8 0)).run P w = .ok (.bool (decide (x = 0))) w := by
  simp only [B, binOp_eql]
  show Result.ok (Value.bool ((x.toNat : Int) == 0)) w = _
  congr 2
  rw [Bool.eq_iff_iff]
  simp [BitVec.toNat_eq]
end
attribute [go_sem] run_or_B run_xor_B run_eql_B0
theorem run_slice_sl_h {P : Program} (T e : Nat) (hT : P.underlying T = some (.slice e)) (hz : ∀ w, (sizeOf e).run P w = .ok 1 w) (a : Option Addr) (n cap h : Nat) (hh : h ≤ cap) (w : World) :
    (Instr.slice T (.slice a n cap) none (some (.int .i64 (h : Int))) none).run P w = .ok (.slice a h cap) w := by
  cases a with
  | none => simp [Instr.slice, run_underlying hT, Instr.sliceBounds, run_sliceBound, hz, hh]
  | some a => simp [Instr.slice, run_underlying hT, Instr.sliceBounds, run_sliceBound, hz, hh, Addr.add]
theorem run_slice_sl_any {P : Program} (T e : Nat) (hT : P.underlying T = some (.slice e)) (hz : ∀ w, (sizeOf e).run P w = .ok 1 w) (a : Option Addr) (n cap l : Nat) (h : l ≤ n) (w : World) :
    (Instr.slice T (.slice a n cap) (some (.int .i64 (l : Int))) none none).run P w = .ok (.slice (if cap = l then a else a.map (·.add l)) (n - l) (cap - l)) w := by
  simp [Instr.slice, run_underlying hT, Instr.sliceBounds, run_sliceBound, hz, h]

end Go.Proofs.YtmjanplhgpcbeaaDoor
