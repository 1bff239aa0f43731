/-
  Part 2 of 42 of what the proof leans on.
-/
import Derived.Test.YtdmnhgbdeifpbaaDoorRows
import Derived.WalkKit
import Derived.WalkSpells
import Derived.Deep.Draws
import Derived.Deep.QuietTactic
import Derived.BigQuiet
import Derived.Deep.WholeRow
import Derived.Deep.Cut
import Derived.Deep.CutRange
import Derived.Lib.Hide
import Derived.Laws.CopyOwn
import Derived.Test.YtdmnhgbdeifpbaaDoorO1
import Derived.Maps.AppendAt
import Derived.Deep.AppendLies
import Derived.OwnWalk
import Derived.Laws.IdiomStrings
import Derived.Great.BuildSlice
import Derived.Laws.Strings2
namespace Go.Proofs.YtdmnhgbdeifpbaaDoor
open Go.RowKit
def W (x : BitVec 32) : Value := .int .u32 (x.toNat : Int)
theorem W_oneCell (x : BitVec 32) : (W x).oneCell' = true := rfl
section
variable (P : Program) (t : TypeId) (x y : BitVec 32) (w : World)
theorem run_add_W : (binOp .add t (W x) (W y)).run P w = .ok (W (x + y)) w := by
  simp only [W, binOp_add, Op.intArith]
  show Result.ok (Value.int .u32 (IntKind.u32.wrap _)) w = _
  simp [IntKind.wrap, IntKind.bits, IntKind.signed, BitVec.toNat_add]
theorem ofInt_toNat (x : BitVec 32) : BitVec.ofInt 32 (x.toNat : Int) = x := by
  apply BitVec.eq_of_toNat_eq
  simp
theorem wrap_toNat (x : BitVec 32) : IntKind.u32.wrap (x.toNat : Int) = x.toNat := by
  have := x.isLt; simp [IntKind.wrap, IntKind.bits, IntKind.signed]; omega
theorem bits_and : bits .and .u32 (x.toNat : Int) (y.toNat : Int) = (x &&& y).toNat := by
  show IntKind.u32.wrap ((BitVec.ofInt 32 (x.toNat : Int) &&& BitVec.ofInt 32 (y.toNat : Int)).toNat : Int) = _
  rw [ofInt_toNat, ofInt_toNat, wrap_toNat]
theorem bits_or : bits .or .u32 (x.toNat : Int) (y.toNat : Int) = (x ||| y).toNat := by
  show IntKind.u32.wrap ((BitVec.ofInt 32 (x.toNat : Int) ||| BitVec.ofInt 32 (y.toNat : Int)).toNat : Int) = _
  rw [ofInt_toNat, ofInt_toNat, wrap_toNat]
theorem bits_xor : bits .xor .u32 (x.toNat : Int) (y.toNat : Int) = (x ^^^ y).toNat := by
  show IntKind.u32.wrap ((BitVec.ofInt 32 (x.toNat : Int) ^^^ BitVec.ofInt 32 (y.toNat : Int)).toNat : Int) = _
  rw [ofInt_toNat, ofInt_toNat, wrap_toNat]
theorem run_and_W : (binOp .and t (W x) (W y)).run P w = .ok (W (x &&& y)) w := by
  simp only [W, go_sem]; rw [bits_and]; rfl
theorem run_or_W : (binOp .or t (W x) (W y)).run P w = .ok (W (x ||| y)) w := by
  simp only [W, go_sem]; rw [bits_or]; rfl
theorem run_xor_W : (binOp .xor t (W x) (W y)).run P w = .ok (W (x ^^^ y)) w := by
  simp only [W, go_sem]; rw [bits_xor]; rfl
theorem run_shr_W (k : IntKind) (n : Nat) (hn : n ≤ 32) : (binOp .shr t (W x) (.int k n)).run P w = .ok (W (x >>> n)) w := by
  simp only [W, binOp_shr, Op.shift]
  rw [if_neg (by omega)]
  show Result.ok (Value.int .u32 (Int.fdiv _ _)) w = _
  congr 2
  simp only [IntKind.bits, Int.toNat_natCast, Nat.min_eq_left hn]
  rw [Int.fdiv_eq_ediv_of_nonneg _ (Int.pow_nonneg (by decide))]
  simp [BitVec.toNat_ushiftRight, Nat.shiftRight_eq_div_pow]
theorem run_shl_W (k : IntKind) (n : Nat) (hn : n ≤ 32) : (binOp .shl t (W x) (.int k n)).run P w = .ok (W (x <<< n)) w := by
  simp only [W, binOp_shl, Op.shift]
  rw [if_neg (by omega)]
  show Result.ok (Value.int .u32 (IntKind.u32.wrap _)) w = _
  congr 2
  simp only [IntKind.bits, Int.toNat_natCast, Nat.min_eq_left hn]; simp [IntKind.wrap, IntKind.bits, IntKind.signed, BitVec.toNat_shiftLeft, Nat.shiftLeft_eq]
end
theorem run_not_W (P : Program) (x : BitVec 32) (w : World) : (Op.unary .xor (W x)).run P w = .ok (W (~~~x)) w := by
  have h := bits_xor (BitVec.allOnes 32) x
  rw [show (((BitVec.allOnes 32).toNat : Nat) : Int) = 4294967295 from by decide] at h
  simp only [W, unary_xor, intBits_xor]
  show Result.ok (Value.int .u32 (bits .xor .u32 4294967295 (x.toNat : Int))) w = _
  rw [h, BitVec.allOnes_xor]
attribute [go_sem] run_not_W
attribute [go_sem] W_oneCell run_add_W run_and_W run_or_W run_xor_W
def rotr (x : BitVec 32) (n : Nat) : BitVec 32 := x >>> n ||| x <<< (32 - n)
theorem u64_neg : ∀ n : Fin 32, n.val ≠ 0 → bits .and .u64 (IntKind.u64.wrap (-(n.val : Int))) 31 = ((32 - n.val : Nat) : Int) := by decide
theorem u64_sub (n : Nat) (h1 : n ≤ 32) : IntKind.u64.wrap (32 - (n : Int)) = ((32 - n : Nat) : Int) := by
  simp [IntKind.wrap, IntKind.bits, IntKind.signed]; omega
def B (x : BitVec 8) : Value := .int .u8 (x.toNat : Int)
theorem B_oneCell (x : BitVec 8) : (B x).oneCell' = true := rfl
section
variable {P : Program} (w : World)
theorem run_conv_B_W (src dst : TypeId) (x : BitVec 8) (hs : P.underlying src = some (.int .u8)) (hd : P.underlying dst = some (.int .u32)) :
    (convert src dst (B x)).run P w = .ok (W (x.setWidth 32)) w := by
  simp [convert, B, W, run_underlying hs, run_underlying hd, Conv.intToInt, IntKind.wrap, IntKind.bits, IntKind.signed]
theorem run_conv_W_B (src dst : TypeId) (x : BitVec 32) (hs : P.underlying src = some (.int .u32)) (hd : P.underlying dst = some (.int .u8)) :
    (convert src dst (W x)).run P w = .ok (B (x.setWidth 8)) w := by
  simp [convert, B, W, run_underlying hs, run_underlying hd, Conv.intToInt, IntKind.wrap, IntKind.bits, IntKind.signed]
end
attribute [go_sem] B_oneCell
theorem run_store_W (P : Program) (w : World) (a : Addr) (m : Mode) (x : BitVec 32) : (store a (W x) m).run P w = stored P w a (W x) m := run_store P w a _ m rfl
attribute [go_sem] run_store_W
theorem addr_add (b o n : Nat) : (⟨b, o, none⟩ : Addr).add n = ⟨b, o + n, none⟩ := by
  unfold Addr.add
  split
  · rename_i h; subst h; rfl
  · rfl
theorem run_slice_arr {P : Program} (T e n : Nat) (hT : P.underlying T = some (.array n e)) (hz : ∀ w, (sizeOf e).run P w = .ok 1 w) (b o l h : Nat) (h1 : l ≤ h) (h2 : h ≤ n) (h3 : l < n) (w : World)
    (li hi : Int) (el : li = l) (eh : hi = h) :
    (Instr.sliceAt T (.pointer (some ⟨b, o, none⟩)) (some (.int .i64 li)) (some (.int .i64 hi)) none).run P w = .ok (.slice (some ⟨b, o + l, none⟩) (h - l) (n - l)) w := by
  subst el; subst eh
  have h4 : ¬ n = l := by omega
  simp [Instr.sliceAt, Instr.sureAddr, run_underlying hT, Instr.sliceBounds, run_sliceBound, hz, h1, h2, h4, addr_add]
theorem run_shl_W_lit (P : Program) (t : TypeId) (x : BitVec 32) (w : World) (k : IntKind) (n : Nat) (hn : n ≤ 32) : (binOp .shl t (W x) (.int k (no_index (OfNat.ofNat n)))).run P w = .ok (W (x <<< n)) w := run_shl_W P t x w k n hn
theorem run_shr_W_lit (P : Program) (t : TypeId) (x : BitVec 32) (w : World) (k : IntKind) (n : Nat) (hn : n ≤ 32) : (binOp .shr t (W x) (.int k (no_index (OfNat.ofNat n)))).run P w = .ok (W (x >>> n)) w := run_shr_W P t x w k n hn
attribute [go_sem] run_shl_W_lit run_shr_W_lit
theorem run_storeAt_one {P : Program} {ty : TypeId} {A : Addr} {v u : Value} {w : World} (hv : v.cells = #[v]) (h1 : v.oneCell' = true) (hs : ∀ w, (sizeOf ty).run P w = .ok 1 w)
    (hc : w.cell? A = some u) (hf : w.frozen? A = false) : (Instr.storeAt ty (.pointer (some A)) v).run P w = .ok () (w.setCell A v) := by
  have h0 : A.add 0 = A := by simp [Addr.add]
  have hst : (store (A.add 0) v).run P w = .ok () (w.setCell A v) := by
    rw [h0, run_store P w A v _ h1, hc]; simp [hf]
  simp [Instr.storeAt, Instr.sureAddr, storeVar, hs, hv, storeCells, hst]
theorem wpList_store1 {P : Program} {ops : Array Oper} {rest : List Oper} {o : Oper} {a : Act} {w : World} {Q : Exit → Act → World → Prop} (hgd : o.guard = none) (ty : TypeId) (x y : Operand) (ho : o.op = .store ty x y)
    (A : Addr) (v u : Value) (hx : a.eval x = .pointer (some A)) (hy : a.eval y = v) (hv : v.cells = #[v]) (h1 : v.oneCell' = true) (hs : ∀ w, (sizeOf ty).run P w = .ok 1 w)
    (hc : w.cell? A = some u) (hf : w.frozen? A = false)
    (h : wpList P ops Q rest (a.put o.dst undef) (w.setCell A v)) : wpList P ops Q (o :: rest) a w :=
  wpList_plain hgd fun _ hK => by
    unfold Oper.wp execOp; simp only [ho, hx, hy, Sem.run_bind, Sem.run_pure, Result.andThen_ok, run_storeAt_one hv h1 hs hc hf]; exact hK _ _ h
theorem setCell_last (w : World) (o : Obj) (c : Array Value) (t : TypeId) (n i : Nat) (v : Value) :
    (((w.alloc o).alloc (.cells c t)).drewN n).setCell ⟨w.heap.size + 1, i, none⟩ v = ((w.alloc o).alloc (.cells (c.setIfInBounds i v) t)).drewN n := by
  have := World.setCell_alloc_at (w := w.alloc o) c t (w.heap.size + 1) i v (by simp)
  show World.drewN (World.setCell ((w.alloc o).alloc (.cells c t)) ⟨w.heap.size + 1, i, none⟩ v) n = _
  rw [this]
theorem run_index_arr {P : Program} (T e n : Nat) (hT : P.underlying T = some (.array n e)) (hz : ∀ w, (sizeOf e).run P w = .ok 1 w) (hg : ∀ w, (isAgg e).run P w = .ok false w) (cs : Array Value) (k : Nat) (hk : k < n) (v : Value) (hv : cs[k]? = some v) (w : World) :
    (Instr.index T (.agg cs) (.int .i64 (k : Int))).run P w = .ok v w := by
  simp [Instr.index, asIntOf, run_underlying hT, hz, part, hg, hv]; omega
theorem wpList_store_at {P : Program} {ops : Array Oper} {rest : List Oper} {o : Oper} {a : Act} {w : World} {Q : Exit → Act → World → Prop} (hgd : o.guard = none) (ty : TypeId) (x y : Operand) (ho : o.op = .store ty x y)
    (g off : Nat) (cs : List Value) (hx : a.eval x = .pointer (some ⟨g, off, none⟩)) (hy : a.eval y = .agg cs.toArray)
    (t : TypeId) (old : Array Value) (hg : w.heap[g]? = some (.cells old t (0, 0))) (hi : (P.info? ty).map (·.size) = some cs.length)
    (hfit : off + cs.length ≤ old.size) (h1 : ∀ v ∈ cs, v.oneCell' = true)
    (h : wpList P ops Q rest (a.put o.dst undef) (w.setRow g (old.toList.take off ++ cs ++ old.toList.drop (off + cs.length)).toArray)) : wpList P ops Q (o :: rest) a w :=
  wpList_plain hgd fun _ hK => by
    have hst := run_storeCells_at P g off t cs 0 old w hg (by simpa using hfit) h1
    have hrun : (storeVar ty ⟨g, off, none⟩ (.agg cs.toArray)).run P w = .ok () (w.setRow g (old.toList.take off ++ cs ++ old.toList.drop (off + cs.length)).toArray) := by
      cases hq : P.info? ty with
      | none => simp [hq] at hi
      | some i =>
        have hs : cs.length = i.size := by simp [hq] at hi; omega
        simpa [storeVar, sizeOf, typeInfo, hq, Value.cells, hs] using hst
    unfold Oper.wp execOp; simp only [ho, hx, hy, Instr.storeAt, Instr.sureAddr, Sem.run_bind, Sem.run_pure, Result.andThen_ok, hrun]; exact hK _ _ h
theorem run_slice_arr_l {P : Program} (T e n : Nat) (hT : P.underlying T = some (.array n e)) (hz : ∀ w, (sizeOf e).run P w = .ok 1 w) (b o l : Nat) (h3 : l < n) (w : World) :
    (Instr.sliceAt T (.pointer (some ⟨b, o, none⟩)) (some (.int .i64 (l : Int))) none none).run P w = .ok (.slice (some ⟨b, o + l, none⟩) (n - l) (n - l)) w := by
  have h4 : ¬ n = l := by omega
  have h5 : l ≤ n := by omega
  simp [Instr.sliceAt, Instr.sureAddr, run_underlying hT, Instr.sliceBounds, run_sliceBound, hz, h4, h5, addr_add]
theorem run_slice_sl_l {P : Program} (T e : Nat) (hT : P.underlying T = some (.slice e)) (hz : ∀ w, (sizeOf e).run P w = .ok 1 w) (b o n cap l : Nat) (h : l ≤ n) (w : World) :
    (Instr.slice T (.slice (some ⟨b, o, none⟩) n cap) (some (.int .i64 (l : Int))) none none).run P w = .ok (.slice (if cap = l then some ⟨b, o, none⟩ else some ⟨b, o + l, none⟩) (n - l) (cap - l)) w := by
  simp [Instr.slice, run_underlying hT, Instr.sliceBounds, run_sliceBound, hz, h, addr_add]
theorem run_sliceAt_sl {P : Program} (T e : Nat) (hT : P.underlying T = some (.slice e)) (x : Value) (lo hi mx : Option Value) (w : World) : (Instr.sliceAt T x lo hi mx).run P w = (Instr.slice T x lo hi mx).run P w := by
  simp [Instr.sliceAt, run_underlying hT]
theorem run_slice_arr_h {P : Program} (T e n : Nat) (hT : P.underlying T = some (.array n e)) (hz : ∀ w, (sizeOf e).run P w = .ok 1 w) (b o h : Nat) (h2 : h ≤ n) (w : World) (hi : Int) (eh : hi = h) :
    (Instr.sliceAt T (.pointer (some ⟨b, o, none⟩)) none (some (.int .i64 hi)) none).run P w = .ok (.slice (some ⟨b, o, none⟩) h n) w := by
  subst eh; simp [Instr.sliceAt, Instr.sureAddr, run_underlying hT, Instr.sliceBounds, run_sliceBound, hz, h2, addr_add]
section
variable (P : Program) (t : TypeId) (x y : BitVec 8) (w : World)
theorem ofInt_toNat8 (x : BitVec 8) : BitVec.ofInt 8 (x.toNat : Int) = x := by
  apply BitVec.eq_of_toNat_eq
  simp
theorem wrap_toNat8 (x : BitVec 8) : IntKind.u8.wrap (x.toNat : Int) = x.toNat := by
  have := x.isLt; simp [IntKind.wrap, IntKind.bits, IntKind.signed]; omega
theorem bits_or8 : bits .or .u8 (x.toNat : Int) (y.toNat : Int) = (x ||| y).toNat := by
  show IntKind.u8.wrap ((BitVec.ofInt 8 (x.toNat : Int) ||| BitVec.ofInt 8 (y.toNat : Int)).toNat : Int) = _
  rw [ofInt_toNat8, ofInt_toNat8, wrap_toNat8]
theorem bits_xor8 : bits .xor .u8 (x.toNat : Int) (y.toNat : Int) = (x ^^^ y).toNat := by
  show IntKind.u8.wrap ((BitVec.ofInt 8 (x.toNat : Int) ^^^ BitVec.ofInt 8 (y.toNat : Int)).toNat : Int) = _
  rw [ofInt_toNat8, ofInt_toNat8, wrap_toNat8]
theorem run_or_B : (binOp .or t (B x) (B y)).run P w = .ok (B (x ||| y)) w := by
  simp only [B, go_sem]; rw [bits_or8]; rfl
theorem run_xor_B : (binOp .xor t (B x) (B y)).run P w = .ok (B (x ^^^ y)) w := by
  simp only [B, go_sem]; rw [bits_xor8]; rfl
theorem run_eql_B0 : (binOp .eql t (B x) (.int .u8 0)).run P w = .ok (.bool (decide (x = 0))) w := by
  simp only [B, binOp_eql]
  show Result.ok (Value.bool ((x.toNat : Int) == 0)) w = _
  congr 2
  rw [Bool.eq_iff_iff]; simp [BitVec.toNat_eq]
end
attribute [go_sem] run_or_B run_xor_B run_eql_B0
theorem run_slice_sl_h {P : Program} (T e : Nat) (hT : P.underlying T = some (.slice e)) (hz : ∀ w, (sizeOf e).run P w = .ok 1 w) (a : Option Addr) (n cap h : Nat) (hh : h ≤ cap) (w : World) :
    (Instr.slice T (.slice a n cap) none (some (.int .i64 (h : Int))) none).run P w = .ok (.slice a h cap) w := by
  cases a with
  | none => simp [Instr.slice, run_underlying hT, Instr.sliceBounds, run_sliceBound, hz, hh]
  | some a => simp [Instr.slice, run_underlying hT, Instr.sliceBounds, run_sliceBound, hz, hh, Addr.add]
theorem run_slice_sl_any {P : Program} (T e : Nat) (hT : P.underlying T = some (.slice e)) (hz : ∀ w, (sizeOf e).run P w = .ok 1 w) (a : Option Addr) (n cap l : Nat) (h : l ≤ n) (w : World) :
    (Instr.slice T (.slice a n cap) (some (.int .i64 (l : Int))) none none).run P w = .ok (.slice (if cap = l then a else a.map (·.add l)) (n - l) (cap - l)) w := by
  simp [Instr.slice, run_underlying hT, Instr.sliceBounds, run_sliceBound, hz, h]
end Go.Proofs.YtdmnhgbdeifpbaaDoor
namespace Go.Proofs.YtdmnhgbdeifpbaaDoor
open Go Go.RowKit
def gl (l : List (BitVec 8)) : Nat → BitVec 8 := fun i => l.getD i 0
theorem gl_left (l x : List (BitVec 8)) (i : Nat) (h : i < l.length) : gl (l ++ x) i = gl l i := by
  simp [gl, List.getElem?_append, h]
theorem gl_right (l x : List (BitVec 8)) (i : Nat) (h : l.length ≤ i) : gl (l ++ x) i = gl x (i - l.length) := by
  simp [gl, List.getElem?_append, Nat.not_lt.2 h]
theorem below_draws {B : Nat} {a w : World} (h : Below B a w) (n : Nat) : Below B a (w.drewN n) := h.trans ⟨rfl, rfl, rfl, Nat.le_refl _, fun _ _ => rfl⟩
def Below0 (w : World) (x : Value) (e : Ending) (w' : World) : Prop := e = .returned x ∧ Below w.heap.size w w'
theorem quiet_of2 {P : Program} {f : FuncId} {args : Array Value} {w : World} {n m : Nat} {v : Value}
    (h : Calls P f args (w.drewN (n + m)) fun e w' => e = .returned v ∧ ∃ k, w' = (w.drewN (n + m)).drewN k) : Calls P f args (w.drewN (n + m)) fun e w'' => e = .returned v ∧ ∃ k, w'' = w.drewN (n + k) :=
  h.mono fun _ _ ⟨he, k, hk⟩ => ⟨he, m + k, by rw [hk, World.drewN_drewN, Nat.add_assoc]⟩
theorem quiet_same2 {P : Program} {f : FuncId} {args : Array Value} {w : World} {n m : Nat} {v : Value}
    (h : Calls P f args (w.drewN (n + m)) fun e w' => e = .returned v ∧ w' = w.drewN (n + m)) : Calls P f args (w.drewN (n + m)) fun e w'' => e = .returned v ∧ ∃ k, w'' = w.drewN (n + k) :=
  h.mono fun _ _ ⟨he, hk⟩ => ⟨he, m, hk⟩
theorem setCell_row (w : World) (b i n : Nat) (c c' : Array Value) (t : TypeId) (v : Value) (hb : w.heap[b]? = some (.cells c t (0, 0))) :
    ((w.setRow b c').drewN n).setCell ⟨b, i, none⟩ v = (w.setRow b (c'.setIfInBounds i v)).drewN n := by
  show World.drewN (World.setCell (w.setRow b c') ⟨b, i, none⟩ v) n = _
  rw [setCell_eq_setRow (w.setRow b c') b i c' t (0, 0) v (setRow_heap w b c c' t _ hb), setRow_setRow]
theorem setRow_self (w : World) (b : Nat) (c : Array Value) (t : TypeId) (hb : w.heap[b]? = some (.cells c t (0, 0))) : w.setRow b c = w := by
  unfold World.setRow
  cases w with
  | mk heap tape drawn os output =>
    congr 1
    apply Array.ext_getElem?
    intro i; rw [Array.getElem?_modify]
    split
    · rename_i e
      subst e; have hb' : heap[b]? = some (.cells c t (0, 0)) := hb; rw [hb']; rfl
    · rfl
theorem setCell_1 (w : World) (c : Array Value) (t : TypeId) (i : Nat) (v : Value) :
    (w.alloc (.cells c t)).setCell ⟨w.heap.size, i, none⟩ v = w.alloc (.cells (c.setIfInBounds i v) t) :=
  World.setCell_alloc_at (w := w) c t w.heap.size i v rfl
def Src (w : World) (b : Nat) (a : Option Addr) (n : Nat) (m : List (BitVec 8)) (k : Nat) : Prop :=
  n = 0 ∨ ∃ ab off, a = some ⟨ab, off, none⟩ ∧ ab ≠ b ∧ ∀ i < n, w.cell? ⟨ab, off + i, none⟩ = some (B (gl m (k + i)))
theorem Src.grown {w w' : World} {b : Nat} {a : Option Addr} {n : Nat} {m : List (BitVec 8)} {k : Nat} (h : Src w b a n m k) (hg : w.grownBy w' (some b)) : Src w' b a n m k := by
  rcases h with h | ⟨ab, off, ha, hb, hc⟩
  · exact .inl h
  · exact .inr ⟨ab, off, ha, hb, fun i hi => hg.cell (hc i hi) (by simpa using hb)⟩
theorem Src.belowS {w w' : World} {b : Nat} {a : Option Addr} {n : Nat} {m : List (BitVec 8)} {k : Nat} (h : Src w b a n m k) (hB : Below w.heap.size w w') : Src w' b a n m k := by
  rcases h with h | ⟨ab, off, ha, hb, hc⟩
  · exact .inl h
  · exact .inr ⟨ab, off, ha, hb, fun i hi => (hB.cell (p := ⟨ab, off + i, none⟩) (block_lt_of_cell (hc i hi))).trans (hc i hi)⟩
def lenOf : Value → Nat | .slice _ n _ => n | _ => 0
theorem grown_trans {w w1 w2 : World} {b : Nat} (h : w.grownBy w1 (some b)) (h2 : w1.grownBy w2 (some b)) : w.grownBy w2 (some b) :=
  ⟨h2.os.trans h.os, h2.tape.trans h.tape, h2.output.trans h.output, Nat.le_trans h.size h2.size, fun k hk hne => (h2.block k (Nat.lt_of_lt_of_le hk h.size) hne).trans (h.block k hk hne)⟩
theorem grown_setCell (w : World) (b i : Nat) (v : Value) : w.grownBy (w.setCell ⟨b, i, none⟩ v) (some b) :=
  ⟨rfl, rfl, rfl, by simp [World.setCell], fun k hk hne => heap_setCell_other _ _ _ _ (fun e => hne (by rw [e]))⟩
def SrcP (w : World) (a : Option Addr) (n : Nat) (m : List (BitVec 8)) : Prop :=
  n = 0 ∨ ∃ ab off, a = some ⟨ab, off, none⟩ ∧ ∀ i < n, w.cell? ⟨ab, off + i, none⟩ = some (B (gl m i))
theorem SrcP.below {w w' : World} {a : Option Addr} {n : Nat} {m : List (BitVec 8)} (h : SrcP w a n m) (hB : Below w.heap.size w w') : SrcP w' a n m := by
  rcases h with h | ⟨ab, off, ha, hc⟩
  · exact .inl h
  · exact .inr ⟨ab, off, ha, fun i hi => (hB.cell (p := ⟨ab, off + i, none⟩) (block_lt_of_cell (hc i hi))).trans (hc i hi)⟩
theorem SrcP.src {w : World} {a : Option Addr} {n : Nat} {m : List (BitVec 8)} (h : SrcP w a n m) {b : Nat} (hb : w.heap.size ≤ b) : Src w b a n m 0 := by
  rcases h with h | ⟨ab, off, ha, hc⟩
  · exact .inl h
  · by_cases hn : n = 0
    · exact .inl hn
    · refine .inr ⟨ab, off, ha, ?_, fun i hi => by rw [Nat.zero_add]; exact hc i hi⟩
      have := block_lt_of_cell (hc 0 (by omega))
      intro e; subst e
      exact absurd this (by simp; omega)
theorem list_eq_gl {m1 m2 : List (BitVec 8)} (h : m1.length = m2.length) : m1 = m2 ↔ ∀ i < m1.length, gl m1 i = gl m2 i := by
  refine ⟨fun e i _ => by rw [e], fun hh => List.ext_getElem h fun i h1 h2 => ?_⟩
  have := hh i h1
  simpa [gl, h1, h2] using this
theorem or_zero {x y : BitVec 8} : x ||| y = 0 ↔ x = 0 ∧ y = 0 := BitVec.or_eq_zero_iff
theorem below_own {B : Nat} {wT w w' : World} {b : Nat} (hB : Below B wT w) (hb : B ≤ b) (hBs : B ≤ w.heap.size) (hg : w.grownBy w' (some b)) : Below B wT w' :=
  hB.trans ⟨hg.os, hg.tape, hg.output, hg.size, fun k hk => hg.block k (by omega) (by simp; omega)⟩
structure Part where
  a : Option Addr
  cap : Nat
  m : List (BitVec 8)
def Part.val (p : Part) : Value := .slice p.a p.m.length p.cap
def Part.ok (w : World) (p : Part) : Prop := p.m.length ≤ p.cap ∧ p.cap ≤ 9223372036854775807 ∧ SrcP w p.a p.m.length p.m
def flat (ps : List Part) : List (BitVec 8) := ps.flatMap (·.m)
def PartsAt (w : World) (a : Option Addr) (ps : List Part) : Prop :=
  ps = [] ∨ ∃ b o, a = some ⟨b, o, none⟩ ∧ ∀ i p, ps[i]? = some p → w.cell? ⟨b, o + i, none⟩ = some p.val
theorem flat_take_length (ps : List Part) (t : Nat) : (flat (ps.take t)).length ≤ (flat ps).length := by
  have : flat ps = flat (ps.take t) ++ flat (ps.drop t) := by
    rw [flat, flat, flat, ← List.flatMap_append, List.take_append_drop]
  rw [this]; simp
theorem flat_step (ps : List Part) (t : Nat) (p : Part) (h : ps[t]? = some p) : flat (ps.take (t + 1)) = flat (ps.take t) ++ p.m := by
  have ht : t < ps.length := (List.getElem?_eq_some_iff.1 h).1
  have e : ps.take (t + 1) = ps.take t ++ [p] := by
    rw [List.take_succ_eq_append_getElem ht]; rw [List.getElem?_eq_getElem ht] at h; simp only [Option.some.injEq] at h; rw [h]
  rw [e, flat, flat, List.flatMap_append]; simp
theorem parts_one {w : World} {g : Nat} {e : TypeId} {fr : Nat × Nat} (p : Part) (hg : w.heap[g]? = some (.cells #[p.val] e fr)) : PartsAt w (some ⟨g, 0, none⟩) [p] := by
  refine .inr ⟨g, 0, rfl, fun i q hq => ?_⟩; rw [cell_of_row _ _ _ _ _ _ hg, Nat.zero_add]
  match i, hq with
  | 0, hq => cases hq; rfl
theorem flat_one (p : Part) : flat [p] = p.m := by simp [flat]
theorem laid_noughts (n : Nat) (s : List (BitVec 8)) :
    splice (Array.replicate n (Value.int .u8 0)).toList 0 (s.map B) = (s ++ List.replicate (n - s.length) 0).map B := by
  rw [splice, Array.toList_replicate, List.take_zero, List.drop_replicate]; simp [B]
theorem src_new {w : World} {g : Nat} {cs : Array Value} {e : TypeId} {fr : Nat × Nat} {m : List (BitVec 8)} (hg : w.heap[g]? = some (.cells cs e fr)) (hc : ∀ i < m.length, cs[i]? = some (B (gl m i))) :
    SrcP w (some ⟨g, 0, none⟩) m.length m := by
  refine .inr ⟨g, 0, rfl, fun i hi => ?_⟩; rw [cell_of_row w g _ cs e fr hg, Nat.zero_add]; exact hc i hi
theorem list_map_at (l : List (BitVec 8)) (i : Nat) (h : i < l.length) : ((l.map B).toArray)[i]? = some (B (gl l i)) := by simp [gl, h]
theorem src_row {w : World} {g : Nat} {e : TypeId} {fr : Nat × Nat} {m : List (BitVec 8)} (hg : w.heap[g]? = some (.cells ((m.map B).toArray) e fr)) : SrcP w (some ⟨g, 0, none⟩) m.length m :=
  src_new hg fun i hi => list_map_at m i hi
theorem row_one (m : List (BitVec 8)) : ((m.map B).toArray).all (·.oneCell') = true := by
  rw [Array.all_eq_true]; intro i hi; simp [B_oneCell]
theorem row_size (m : List (BitVec 8)) : ((m.map B).toArray).size = m.length := by simp
theorem grown_none_below {w w' : World} (hB : Below w.heap.size w w') : w.grownBy w' none := ⟨hB.os, hB.tape, hB.output, hB.size, fun k hk _ => hB.block k hk⟩
end Go.Proofs.YtdmnhgbdeifpbaaDoor
namespace Go.Proofs.YtdmnhgbdeifpbaaDoor
open Go Go.RowKit
def Lay (w w' : World) : Prop := w.heap.size ≤ w'.heap.size ∧ ∀ (k : Nat) (c : Array Value) (e : TypeId) (fr : Nat × Nat), w.heap[k]? = some (Obj.cells c e fr) → ∃ fr', w'.heap[k]? = some (Obj.cells c e fr')
theorem heap_freeze (w : World) (g n k : Nat) : (w.freeze ⟨g, n, none⟩ 1).heap[k]? = (w.heap[k]?).map fun o => if k = g then (match o with | .cells c e (lo, hi) => .cells c e (if lo == hi then (n, n + 1) else (min lo n, max hi (n + 1))) | o => o) else o := by
  simp only [World.freeze, Nat.one_ne_zero, if_false, Array.getElem?_modify]
  by_cases h : g = k
  · subst h; simp; rfl
  · have h' : ¬ k = g := fun e => h e.symm; simp [h, h']
theorem Lay.freeze (w : World) (g n : Nat) : Lay w (w.freeze ⟨g, n, none⟩ 1) := by
  refine ⟨by simp [World.freeze], fun k c e fr hk => ?_⟩
  rw [heap_freeze, hk]
  by_cases h : k = g
  · obtain ⟨lo, hi⟩ := fr
    refine ⟨if lo == hi then (n, n + 1) else (min lo n, max hi (n + 1)), ?_⟩
    simp only [Option.map_some, h, if_true]
  · exact ⟨fr, by simp [h]⟩
theorem below_freeze {B : Nat} (w : World) (g n : Nat) (h : B ≤ g) : Below B w (w.freeze ⟨g, n, none⟩ 1) := by
  refine ⟨rfl, rfl, rfl, by simp [World.freeze], fun k hk => ?_⟩
  rw [heap_freeze]
  cases w.heap[k]? with
  | none => rfl
  | some o => simp [show ¬ k = g by omega]
theorem run_conv_bytes {P : Program} (T e : Nat) (hT : P.underlying T = some (.slice e)) (he : P.underlying e = some (.int .u8)) (w : World) (g n c : Nat) (cs : Array Value) (ty : TypeId) (fr : Nat × Nat) (hg : w.heap[g]? = some (.cells cs ty fr)) :
    (convert T T (.slice (some ⟨g, 0, none⟩) n c)).run P w = .ok (.slice (some ⟨g, 0, none⟩) n c) (w.freeze ⟨g, cs.size, none⟩ 1) := by
  have hs : (shape g).run P w = .ok (some (ty, cs.size)) w := by
    show Result.ok (w.shape? g) w = _
    simp [World.shape?, hg]
  simp [convert, run_underlying hT, run_underlying he, markStringish, hs]
theorem ev_of {a : Act} {s : Tmp} {x : Value} (h : a.eval (.tmp s) = x) : a.tmps[s]?.getD undef = x := by simpa [Act.eval] using h
theorem conv_new (w : World) (cs : Array Value) (e : TypeId) (n : Nat) :
    Below w.heap.size w ((w.alloc (.cells cs e)).freeze ⟨w.heap.size, n, none⟩ 1) ∧ (∃ fr, ((w.alloc (.cells cs e)).freeze ⟨w.heap.size, n, none⟩ 1).heap[w.heap.size]? = some (.cells cs e fr)) ∧
    w.heap.size < ((w.alloc (.cells cs e)).freeze ⟨w.heap.size, n, none⟩ 1).heap.size := by
  have h := (Lay.freeze (w.alloc (.cells cs e)) w.heap.size n).2 _ _ _ _ (heap_alloc_new w _); refine ⟨((Below.refl _ w).alloc (Nat.le_refl _) _).trans (below_freeze _ _ _ (Nat.le_refl _)), h, ?_⟩; obtain ⟨fr, h⟩ := h; exact (Array.getElem?_eq_some_iff.1 h).1
structure StB where
  p : World → Value → Prop
  st : ∀ w w' v, Below w.heap.size w w' → p w v → p w' v
def sbTrue : StB := ⟨fun _ _ => True, fun _ _ _ _ h => h⟩
def sbEq (x : Value) : StB := ⟨fun _ v => v = x, fun _ _ _ _ h => h⟩
def vOfB (Vs : List StB) : Nat → World → Value → Prop := fun i => (Vs.getD i sbTrue).p
theorem vOfB_st (Vs : List StB) : ∀ i w w' v, Below w.heap.size w w' → vOfB Vs i w v → vOfB Vs i w' v := fun i => (Vs.getD i sbTrue).st
end Go.Proofs.YtdmnhgbdeifpbaaDoor
namespace Go.Proofs.YtdmnhgbdeifpbaaDoor
open Go Go.RowKit
def Own (w : World) (base : Nat) (e : TypeId) (v : Value) (xs : List Value) : Prop := w.ownsRow base e 1 v xs.length xs
theorem Own.form {w : World} {base : Nat} {e : TypeId} {v : Value} {xs : List Value} (h : Own w base e v xs) : ∃ a c, v = .slice a xs.length c := by
  rcases h.2 with ⟨h1, h2⟩ | ⟨g, cap, cur, h1, _⟩
  · exact ⟨none, 0, by rw [h1, h2]⟩
  · exact ⟨_, _, h1⟩
theorem Own.form1 {w : World} {base : Nat} {e : TypeId} {v : Value} {xs : List Value} (h : Own w base e v xs) (hn : 0 < xs.length) : ∃ g c, v = .slice (some ⟨g, 0, none⟩) xs.length c ∧ base ≤ g ∧ g < w.heap.size := World.ownsRow.form h hn
theorem Own.cellAt {w : World} {base : Nat} {e : TypeId} {g c : Nat} {xs : List Value} (h : Own w base e (.slice (some ⟨g, 0, none⟩) xs.length c) xs) (j : Nat) (hj : j < xs.length) : w.cell? ⟨g, j, none⟩ = xs[j]? :=
  World.ownsRow.cellAt h j (by omega)
theorem Own.nil (w : World) (base : Nat) (e : TypeId) : Own w base e (.slice none 0 0) [] := World.ownsRow_nil w base e 1
theorem Own.kept {w w' : World} {base : Nat} {e : TypeId} {v : Value} {xs : List Value} (h : Own w base e v xs) {row : Option Nat} (hg : w.grownBy w' row) (hne : v.ownBlock = none ∨ v.ownBlock ≠ row) : Own w' base e v xs := World.ownsRow.kept h hg hne
theorem Own.far {w w' : World} {base : Nat} {e : TypeId} {v : Value} {xs : List Value} (h : Own w base e v xs) (hB : Below w.heap.size w w') : Own w' base e v xs :=
  h.kept (grown_none_below hB) (by cases hv : v.ownBlock <;> simp)
theorem Own.lt {w : World} {base : Nat} {e : TypeId} {v : Value} {xs : List Value} (h : Own w base e v xs) {k : Nat} (hk : v.ownBlock = some k) : base ≤ k ∧ k < w.heap.size := World.ownsRow.lt h k hk
theorem Own.mono {w : World} {base base' : Nat} {e : TypeId} {v : Value} {xs : List Value} (h : Own w base e v xs) (hb : base' ≤ base) : Own w base' e v xs := by
  refine ⟨h.1, ?_⟩
  rcases h.2 with h | ⟨g, cap, cur, h1, h2, h3⟩
  · exact .inl h
  · exact .inr ⟨g, cap, cur, h1, Nat.le_trans hb h2, h3⟩
theorem Own.lit (w : World) (cs : Array Value) (e : TypeId) {base : Nat} (hb : base ≤ w.heap.size) (hm : cs.size ≤ 1000) :
    Own (w.alloc (.cells cs e)) base e (.slice (some ⟨w.heap.size, 0, none⟩) cs.size cs.size) cs.toList := by
  have := World.ownsRow_lit (size := 1) (e := e) w cs cs.size hb (by unfold maxLen; omega) (by omega)
  simpa [Own] using this
theorem below_grown {w w' : World} {base : Nat} {e : TypeId} {v : Value} {xs : List Value} (h : Own w base e v xs) (hg : w.grownBy w' v.ownBlock) (hb : base ≤ w.heap.size) : Below base w w' :=
  ⟨hg.os, hg.tape, hg.output, hg.size, fun k hk => hg.block k (by omega) (fun he => by have := h.lt he.symm; omega)⟩
theorem wpList_push {T e : TypeId} {z : Value} {bytes : Nat} (hT : Tryd.prog.underlying T = some (.slice e)) (hE : (Tryd.prog.info? e).map (fun i => (i.zero, i.size, i.bytes)) = some (some z, 1, bytes)) (hzc : z.cells.size = 1)
    {ops : Array Oper} {rest : List Oper} {o : Oper} {a : Act} {Q : Exit → Act → World → Prop} {w : World} (hgd : o.guard = none) (s x : Operand)
    (ho : o.op = .call { callee := .builtin .append, args := #[s, x], argTypes := #[T, T] })
    (base : Nat) (v : Value) (xs : List Value) (hs : a.eval s = v) (hown : Own w base e v xs) (u : Value) (g : Nat) (hx : a.eval x = .slice (some ⟨g, 0, none⟩) 1 1) (hu : w.cell? ⟨g, 0, none⟩ = some u) (h1 : u.oneCell' = true)
    (hlen : xs.length + 1 ≤ 1000) (hbase : base ≤ w.heap.size) (hby : bytes ≤ 16)
    (h : ∀ v' w', Own w' base e v' (xs ++ [u]) → w.grownBy w' v.ownBlock → (v'.ownBlock = v.ownBlock ∨ v'.ownBlock = some w.heap.size) → wpList Tryd.prog ops Q rest (a.put o.dst v') w') :
    wpList Tryd.prog ops Q (o :: rest) a w := by
  obtain ⟨i, hi, hz0, hz1, hz2⟩ := info_parts hE
  refine wpList_append_own_at _ hgd s x T ho base e i z 1 bytes hT hi hz0 hz1 hz2 hzc (by decide) v xs.length xs hs hown ⟨g, 0, none⟩ 1 1 [u] hx rfl ?_ ?_ (by unfold maxLen; omega) ?_ hbase ?_
  · intro j u' hj
    match j, hj with
    | 0, hj =>
      simp at hj; subst hj
      simpa [Addr.add] using hu
  · intro u' hu'; simp at hu'; subst hu'; exact h1
  · have : (xs.length + 1) * bytes ≤ 1000 * 16 := Nat.mul_le_mul hlen hby; omega
  · intro v' w' k1 k2 _ k4
    exact h v' w' (by simpa [Own] using k1) k2 k4
end Go.Proofs.YtdmnhgbdeifpbaaDoor
namespace Go.Proofs.YtdmnhgbdeifpbaaDoor
open Go Go.RowKit
theorem info_u8 : ∃ i, Tryd.prog.info? 5 = some i ∧ i.zero = some (.int .u8 0) ∧ i.size = 1 ∧ i.bytes = 1 := by
  have h : (Tryd.prog.info? 5).map (fun i => (i.zero, i.size, i.bytes)) = some (some (.int .u8 0), 1, 1) := by kernel_rfl
  cases hq : Tryd.prog.info? 5 with
  | none => simp [hq] at h
  | some i =>
    simp [hq] at h; exact ⟨i, rfl, h.1, h.2.1, h.2.2⟩
def strOf (m : List (BitVec 8)) : ByteArray := strOfNums (m.map fun x => (x.toNat : Int))
theorem run_conv_str (w : World) (a : Option Addr) (c : Nat) (m : List (BitVec 8)) (h : SrcP w a m.length m) : (convert 26 9 (.slice a m.length c)).run Tryd.prog w = .ok (.string (strOf m)) w := by
  have hz : m = [] → ∀ b off c, (convert 26 9 (.slice (some ⟨b, off, none⟩) m.length c)).run Tryd.prog w = .ok (.string (strOf m)) w := fun hm b off c => by
    subst hm
    exact run_convert_bytes_arg w _ _ Tryd.underlying26 Tryd.underlying5 b off 0 c [] rfl (fun i hi => by omega) _ Tryd.underlying9
  rcases h with h | ⟨ab, off, rfl, hc⟩
  · have hm : m = [] := List.eq_nil_of_length_eq_zero h
    cases a with
    | none =>
      subst hm; exact run_convert_bytes_nil w _ _ Tryd.underlying26 Tryd.underlying5 _ _ _ Tryd.underlying9
    | some a =>
      subst hm; rw [run_convert_bytes_string w _ _ _ _ _ _ Tryd.underlying26 Tryd.underlying5 Tryd.underlying9]; simp [Conv.bytesToString]; rfl
  · refine run_convert_bytes_arg w _ _ Tryd.underlying26 Tryd.underlying5 ab off m.length c _ (by simp) (fun i hi => ?_) _ Tryd.underlying9
    rw [hc i hi]; simp [B, gl, hi]
theorem map_inj {α β : Type} {f : α → β} (hf : ∀ x y, f x = f y → x = y) : ∀ (l l' : List α), l.map f = l'.map f → l = l'
  | [], [], _ => rfl
  | [], _ :: _, h => by simp at h
  | _ :: _, [], h => by simp at h
  | x :: l, y :: l', h => by
    simp only [List.map_cons, List.cons.injEq] at h; rw [hf _ _ h.1, map_inj hf l l' h.2]
theorem str_eq (m1 m2 : List (BitVec 8)) : ((strOf m1).toList == (strOf m2).toList) = decide (m1 = m2) := by
  rw [Bool.eq_iff_iff, beq_iff_eq, decide_eq_true_eq]
  refine ⟨fun h => ?_, fun h => by rw [h]⟩
  rw [ByteArray.toList_eq, ByteArray.toList_eq] at h; simp only [strOf, strOfNums_data, List.map_map] at h; refine map_inj (fun x y hxy => ?_) _ _ h; simp only [Function.comp, Int.toNat_natCast] at hxy; have := congrArg UInt8.toNat hxy; simp at this
  exact BitVec.eq_of_toNat_eq (by omega)
def Sv (m : List (BitVec 8)) : Value := .string (strOf m)
theorem strOf_size (m : List (BitVec 8)) : (strOf m).size = m.length := by simp [strOf, strOfNums_size]
theorem strOf_data (m : List (BitVec 8)) : (strOf m).data = (m.map fun x => UInt8.ofNat x.toNat).toArray := by
  simp [strOf, strOfNums]
theorem strOf_append (a b : List (BitVec 8)) : strOf a ++ strOf b = strOf (a ++ b) := by
  have : (strOf a ++ strOf b).data = (strOf (a ++ b)).data := by
    rw [ByteArray.data_append, strOf_data, strOf_data, strOf_data]; simp
  cases h1 : strOf a ++ strOf b
  cases h2 : strOf (a ++ b)
  rw [h1, h2] at this
  simpa using this
theorem run_add_Sv (w : World) (a b : List (BitVec 8)) (h : a.length + b.length ≤ 1048576) : (binOp .add 9 (Sv a) (Sv b)).run Tryd.prog w = .ok (Sv (a ++ b)) w := by
  show (Op.stringOp .add (strOf a) (strOf b)).run Tryd.prog w = _
  rw [run_string_add_sum w _ _ (by rw [strOf_size, strOf_size]; omega), strOf_append]
  rfl
theorem run_len_Sv (w : World) (ty : TypeId) (a : List (BitVec 8)) : (Builtin.len_ #[9] ty #[Sv a]).run Tryd.prog w = .ok (.int .i64 (a.length : Int)) w := by
  show (Builtin.len_ #[9] ty #[.string (strOf a)]).run Tryd.prog w = _
  rw [run_len_string w _ _ _ Tryd.underlying9, strOf_size]; rfl
theorem run_index_Sv (w : World) (a : List (BitVec 8)) (i : Nat) (h : i < a.length) : (Instr.index 9 (Sv a) (.int .i64 (i : Int))).run Tryd.prog w = .ok (B (gl a i)) w := by
  show (Instr.index 9 (.string (strOf a)) (.int .i64 (i : Int))).run Tryd.prog w = _
  rw [run_index_string w _ _ _ _ Tryd.underlying9]; have hs := strOf_size a
  rw [dif_pos (by rw [hs]; omega)]
  congr 1
  show Value.int .u8 _ = Value.int .u8 _
  congr 1
  have e : ∀ (hi : i < (strOf a).size), ((strOf a)[i]'hi) = UInt8.ofNat (gl a i).toNat := by
    intro hi
    have : ((strOf a)[i]'hi) = (strOf a).data[i]'(by simpa using hi) := rfl
    rw [this]; simp only [strOf_data, List.getElem_toArray, List.getElem_map]; simp [gl, h]
  have h2 := (gl a i).isLt; simp only [Int.toNat_natCast]; rw [e]; simp
theorem run_slice1_B {ops : Array Oper} {rest : List Oper} {o : Oper} {a : Act} {w : World} {Q : Exit → Act → World → Prop} (hg : o.guard = none) (y : Operand) (ho : o.op = .buildSlice 26 1 #[(0, y)]) (x : BitVec 8) (hy : a.eval y = B x)
    (h : wpList Tryd.prog ops Q rest (a.put o.dst (.slice (some ⟨w.heap.size, 0, none⟩) 1 1)) (w.alloc (.cells #[B x] 5))) : wpList Tryd.prog ops Q (o :: rest) a w := by
  have hF : Instr.fill (fun i => some (i * 1, 1)) ((Array.range (1 * 1)).map ((Value.int .u8 0).cells[· % (Value.int .u8 0).cells.size]!)) [(0, B x)] = some #[B x] := by kernel_rfl
  obtain ⟨i, hi, hz0, hz1, hz2⟩ := info_u8
  refine wpList_buildSlice hg 26 5 1 _ ho #[B x] i _ Tryd.underlying26 hi hz0 (by rw [hz1]; decide) (by rw [hz1]; decide) ?_ h
  rw [hz1]; simp only [List.map_toArray, List.map_cons, List.map_nil, hy]; exact hF
theorem run_conv_one (w : World) (g c : Nat) (x : BitVec 8) (h : w.cell? ⟨g, 0, none⟩ = some (B x)) : (convert 26 9 (.slice (some ⟨g, 0, none⟩) 1 c)).run Tryd.prog w = .ok (Sv [x]) w :=
  run_conv_str w (some ⟨g, 0, none⟩) c [x] (.inr ⟨g, 0, rfl, fun j hj => by
    have : j = 0 := by simpa using hj
    subst this
    simpa [gl] using h⟩)
def lenS : Value → Nat | .string b => b.size | _ => 0
theorem lenS_Sv (m : List (BitVec 8)) : lenS (Sv m) = m.length := strOf_size m
set_option maxRecDepth 100000 in
/-- A string as bytes: a new row, its bytes ahead of some spare noughts. -/
theorem conv_bytes (w : World) (m : List (BitVec 8)) : ∃ c w', (convert 9 26 (Sv m)).run Tryd.prog w = .ok (.slice (some ⟨w.heap.size, 0, none⟩) m.length c) w' ∧ Below w.heap.size w w' ∧
    ∀ i < m.length, w'.cell? ⟨w.heap.size, i, none⟩ = some (B (gl m i)) := by
  have h := run_bytes_of_string (P := Tryd.prog) w 9 26 5 (strOf m) Tryd.underlying9 Tryd.underlying26 Tryd.underlying5; rw [strOf_size] at h; refine ⟨_, _, h, ((Below.refl _ w).drew).alloc (Nat.le_refl _) _, fun i hi => ?_⟩
  have hs : i < (strOf m).data.size := by rw [strOf_data]; simpa using hi
  have e : w.heap.size = w.drew.heap.size := rfl; rw [e, World.cell?_alloc_mark, bytesRow_at _ _ _ hs]; simp only [strOf_data, List.getElem_toArray, List.getElem_map]; have := (gl m i).isLt; simp only [B, gl, List.getD_eq_getElem?_getD, List.getElem?_eq_getElem hi, Option.getD_some] at this ⊢
  congr 2
  simp
theorem run_conv_u64_B (w : World) (b : Nat) (h : b < 256) : (convert 95 5 (.int .u64 (b : Int))).run Tryd.prog w = .ok (B (BitVec.ofNat 8 b)) w := by
  have e : (B (BitVec.ofNat 8 b)) = .int .u8 (IntKind.u8.wrap (b : Int)) := by
    rw [IntWalk.u8_in _ (by omega)]
    simp [B]; omega
  rw [e]; simp [convert, Conv.intToInt, run_underlying Tryd.underlying95, run_underlying Tryd.underlying5]
end Go.Proofs.YtdmnhgbdeifpbaaDoor
namespace Go.Proofs.YtdmnhgbdeifpbaaDoor
open Go Go.RowKit
theorem strOf_extract (m : List (BitVec 8)) (l h : Nat) : (strOf m).extract l h = strOf ((m.drop l).take (h - l)) := by
  have : ((strOf m).extract l h).data = (strOf ((m.drop l).take (h - l))).data := by
    rw [ByteArray.data_extract, strOf_data, strOf_data, List.extract_toArray, List.extract_eq_take_drop, List.map_take, List.map_drop]
  cases h1 : (strOf m).extract l h
  cases h2 : strOf ((m.drop l).take (h - l))
  rw [h1, h2] at this
  simpa using this
theorem run_drop_Sv (w : World) (m : List (BitVec 8)) (n : Nat) (h : n ≤ m.length) : (Instr.slice 9 (Sv m) (some (.int .i64 (n : Int))) none none).run Tryd.prog w = .ok (Sv (m.drop n)) w := by
  have hs := strOf_size m
  have e : (strOf m).extract n m.length = strOf (m.drop n) := by rw [strOf_extract, List.take_of_length_le (by simp)]
  simp [Sv, Instr.slice, run_underlying Tryd.underlying9, Instr.sliceBounds, run_sliceBound, hs, h, e]
theorem run_take_Sv (w : World) (m : List (BitVec 8)) (n : Nat) (h : n ≤ m.length) : (Instr.slice 9 (Sv m) none (some (.int .i64 (n : Int))) none).run Tryd.prog w = .ok (Sv (m.take n)) w := by
  have hs := strOf_size m
  have e : (strOf m).extract 0 n = strOf (m.take n) := by rw [strOf_extract]; simp
  simp [Sv, Instr.slice, run_underlying Tryd.underlying9, Instr.sliceBounds, run_sliceBound, hs, h, e]
theorem run_eql_Sv (w : World) (a b : List (BitVec 8)) : (binOp .eql 9 (Sv a) (Sv b)).run Tryd.prog w = .ok (.bool (decide (a = b))) w := by
  show Result.ok (Value.bool ((strOf a).toList == (strOf b).toList)) w = _
  rw [str_eq]
theorem run_neq_Sv (w : World) (a b : List (BitVec 8)) : (binOp .neq 9 (Sv a) (Sv b)).run Tryd.prog w = .ok (.bool (!decide (a = b))) w := by
  show Result.ok (Value.bool (!((strOf a).toList == (strOf b).toList))) w = _
  rw [str_eq]
theorem run_eqGuard_Sv {P : Program} (w : World) (op : BinOp) (t : TypeId) (o1 o2 : Operand) (m : List (BitVec 8)) (v : Value) : (eqGuard op t o1 o2 (Sv m) v).run P w = .ok () w := by
  unfold eqGuard Sv
  cases op <;> rfl
theorem Sv_nil : (Value.string ⟨#[]⟩) = Sv [] := rfl
theorem run_eql_Sv0 (w : World) (a : List (BitVec 8)) : (binOp .eql 9 (Sv a) (.string ⟨#[]⟩)).run Tryd.prog w = .ok (.bool (decide (a = []))) w := run_eql_Sv w a []
theorem run_neq_Sv0 (w : World) (a : List (BitVec 8)) : (binOp .neq 9 (Sv a) (.string ⟨#[]⟩)).run Tryd.prog w = .ok (.bool (!decide (a = []))) w := run_neq_Sv w a []
attribute [go_sem] run_eqGuard_Sv run_eql_Sv run_neq_Sv run_eql_Sv0 run_neq_Sv0
theorem run_index_Sv0 (w : World) (x : BitVec 8) (a : List (BitVec 8)) : (Instr.index 9 (Sv (x :: a)) (.int .i64 0)).run Tryd.prog w = .ok (B x) w := by
  have := run_index_Sv w (x :: a) 0 (by simp)
  simpa [gl] using this
theorem run_store_Sv (P : Program) (w : World) (a : Addr) (k : Mode) (m : List (BitVec 8)) : (store a (Sv m) k).run P w = stored P w a (Sv m) k := run_store P w a _ k rfl
theorem run_storeCells_Sv (P : Program) (w : World) (a : Addr) (m : List (BitVec 8)) : (storeCells a [Sv m]).run P w = stored P w a (Sv m) .plain := by
  have : a.add 0 = a := by simp [Addr.add]
  simp only [storeCells, Sem.run_bind, this, run_store_Sv]
  cases stored P w a (Sv m) .plain <;> rfl
attribute [go_sem] run_store_Sv run_storeCells_Sv
theorem sv_of (s : ByteArray) : ∃ m : List (BitVec 8), Value.string s = Sv m ∧ m.length = s.size := by
  refine ⟨s.data.toList.map fun x => BitVec.ofNat 8 x.toNat, ?_, by simp⟩
  have : s.data = (strOf (s.data.toList.map fun x => BitVec.ofNat 8 x.toNat)).data := by
    rw [strOf_data, List.map_map]
    apply Array.ext'
    have : ((fun x : BitVec 8 => UInt8.ofNat x.toNat) ∘ fun x : UInt8 => BitVec.ofNat 8 x.toNat) = id := by
      funext x
      have := x.toNat_lt; simp
    rw [this, List.map_id]
  have e : s = strOf (s.data.toList.map fun x => BitVec.ofNat 8 x.toNat) := by
    cases s
    cases h : strOf _ with
    | mk d =>
      rw [h] at this
      simpa using this
  rw [Sv, ← e]
end Go.Proofs.YtdmnhgbdeifpbaaDoor
namespace Go.Proofs.YtdmnhgbdeifpbaaDoor
open Go.RowKit
def wordF : Nat → Nat → List (BitVec 8)
  | 0, _ => []
  | n + 1, w => if w < 128 then [BitVec.ofNat 8 w] else BitVec.ofNat 8 (128 + w % 128) :: wordF n (w / 128)
def wordL (w : Nat) : List (BitVec 8) := wordF 10 w
theorem wordF_length : ∀ n w, (wordF n w).length ≤ n
  | 0, _ => by simp [wordF]
  | n + 1, w => by
    have := wordF_length n (w / 128); rw [wordF]
    split
    · simp
    · simp; omega
theorem wordL_length (w : Nat) : (wordL w).length ≤ 10 := wordF_length 10 w
def numberL (n : Int) : List (BitVec 8) := wordL n.toNat
def zig (n : Int) : Nat := if 0 ≤ n then 2 * n.toNat else 2 * (-(n + 1)).toNat + 1
def signedL (n : Int) : List (BitVec 8) := wordL (zig n)
def textL (b : List (BitVec 8)) : List (BitVec 8) := wordL b.length ++ b
def zag (w : Nat) : Int := if w % 2 = 1 then -((w / 2 : Nat) : Int) - 1 else ((w / 2 : Nat) : Int)
theorem zag_zig (n : Int) : zag (zig n) = n := by
  unfold zag zig
  split <;> split <;> omega
theorem zig_lt (n : Int) (h1 : -9223372036854775808 ≤ n) (h2 : n < 9223372036854775808) : zig n < 18446744073709551616 := by
  unfold zig
  split <;> omega
def rdW : Nat → Nat → Nat → List (BitVec 8) → Nat × Nat × List (BitVec 8)
  | 0, _, _, _ => (11, 0, [])
  | _ + 1, _, _, [] => (10, 0, [])
  | n + 1, i, acc, c :: r =>
    if (c.toNat = 0 ∧ 0 < i) ∨ (i = 9 ∧ 1 < c.toNat) then (11, 0, [])
    else if c.toNat < 128 then (0, acc + c.toNat % 128 * 128 ^ i, r) else rdW n (i + 1) (acc + c.toNat % 128 * 128 ^ i) r
theorem p9 : (128 : Nat) ^ 9 = 9223372036854775808 := by decide
theorem rdW_word : ∀ (n i acc w : Nat) (r : List (BitVec 8)), i + n = 10 → w * 128 ^ i < 18446744073709551616 → (0 < i → 0 < w) → (n = 0 → False) → rdW n i acc (wordF n w ++ r) = (0, acc + w * 128 ^ i, r)
  | 0, _, _, _, _, _, _, _, h => (h rfl).elim
  | n + 1, i, acc, w, r, hi, hw, hp, _ => by
    rw [wordF]
    by_cases h : w < 128
    · rw [if_pos h]
      have hc : (BitVec.ofNat 8 w).toNat = w := by simp; omega
      simp only [List.cons_append, List.nil_append, rdW, hc]
      rw [if_neg, if_pos h, show w % 128 = w by omega]
      rintro (⟨h1, h2⟩ | ⟨h1, h2⟩)
      · have := hp h2; omega
      · subst h1; rw [p9] at hw; omega
    · rw [if_neg h]
      have hc : (BitVec.ofNat 8 (128 + w % 128)).toNat = 128 + w % 128 := by simp; omega
      have hi9 : i < 9 := by
        rcases Nat.lt_or_ge i 9 with h9 | h9
        · exact h9
        · have : i = 9 := by omega
          subst this; rw [p9] at hw; omega
      simp only [List.cons_append, rdW, hc]
      rw [if_neg (by omega), if_neg (by omega)]
      have e : (128 + w % 128) % 128 = w % 128 := by omega
      have hm := Nat.div_add_mod w 128
      have e2 : w * 128 ^ i = w / 128 * 128 ^ (i + 1) + w % 128 * 128 ^ i := by
        rw [Nat.pow_succ, ← Nat.mul_assoc, Nat.mul_right_comm, ← Nat.add_mul]
        congr 1
        omega
      rw [e, rdW_word n (i + 1) _ (w / 128) r (by omega) (by omega) (fun _ => by omega) (by omega), e2]
      congr 2
      omega
theorem rdW_wordL (w : Nat) (r : List (BitVec 8)) (h : w < 18446744073709551616) : rdW 10 0 0 (wordL w ++ r) = (0, w, r) := by
  have := rdW_word 10 0 0 w r rfl (by simpa using h) (by omega) (by omega)
  simpa [wordL] using this
theorem rdW_back : ∀ (n i acc v : Nat) (l r : List (BitVec 8)), i + n = 10 → acc < 128 ^ i → rdW n i acc l = (0, v, r) → ∃ w, v = acc + w * 128 ^ i ∧ l = wordF n w ++ r ∧ (0 < i → 0 < w) ∧ v < 18446744073709551616
  | 0, _, _, _, _, _, _, _, h => by simp [rdW] at h
  | n + 1, i, acc, v, [], r, _, _, h => by simp [rdW] at h
  | n + 1, i, acc, v, c :: l, r, hi, ha, h => by
    have hc := c.isLt; rw [rdW] at h
    split at h
    · simp at h
    · rename_i hg
      have hpos : 0 < 128 ^ i := Nat.pow_pos (by decide)
      split at h
      · rename_i hlt
        simp only [Prod.mk.injEq, true_and] at h; obtain ⟨rfl, rfl⟩ := h
        refine ⟨c.toNat, by rw [Nat.mod_eq_of_lt hlt], ?_, fun h0 => by omega, ?_⟩
        · rw [wordF, if_pos hlt]; simp
        · rw [Nat.mod_eq_of_lt hlt]
          rcases Nat.lt_or_ge i 9 with h9 | h9
          · have h1 : 128 ^ (i + 1) ≤ 128 ^ 9 := Nat.pow_le_pow_right (by decide) (by omega)
            have h2 : c.toNat * 128 ^ i ≤ 127 * 128 ^ i := Nat.mul_le_mul_right _ (by omega)
            rw [Nat.pow_succ] at h1; rw [p9] at h1; omega
          · have : i = 9 := by omega
            subst this
            have h2 : c.toNat * 128 ^ 9 ≤ 1 * 128 ^ 9 := Nat.mul_le_mul_right _ (by omega)
            rw [p9] at ha h2 ⊢; omega
      · rename_i hge
        have hi9 : i < 9 := by omega
        have ha' : acc + c.toNat % 128 * 128 ^ i < 128 ^ (i + 1) := by
          have h2 : c.toNat % 128 * 128 ^ i ≤ 127 * 128 ^ i := Nat.mul_le_mul_right _ (by omega)
          rw [Nat.pow_succ]; omega
        obtain ⟨w, hv, hl, hw, hb⟩ := rdW_back n (i + 1) _ v l r (by omega) ha' h
        have hw0 := hw (by omega)
        refine ⟨c.toNat % 128 + 128 * w, ?_, ?_, fun _ => by omega, hb⟩
        · rw [hv, Nat.pow_succ, Nat.add_mul, Nat.add_assoc]
          congr 2
          rw [Nat.mul_comm 128 w, Nat.mul_assoc, Nat.mul_comm 128]
        · rw [wordF, if_neg (by omega), hl]
          have e1 : (c.toNat % 128 + 128 * w) % 128 = c.toNat % 128 := by omega
          have e2 : (c.toNat % 128 + 128 * w) / 128 = w := by omega
          rw [e1, e2, show 128 + c.toNat % 128 = c.toNat by omega]
          simp
theorem rdW_backL (v : Nat) (l r : List (BitVec 8)) (h : rdW 10 0 0 l = (0, v, r)) : l = wordL v ++ r ∧ v < 18446744073709551616 := by
  obtain ⟨w, hv, hl, _, hb⟩ := rdW_back 10 0 0 v l r rfl (by decide) h
  have : v = w := by simpa using hv
  subst this; exact ⟨hl, hb⟩
structure TapeL where
  s : List (BitVec 8)
  e : Int
def TapeL.fail (t : TapeL) (e : Int) : TapeL := if t.e = 0 ∧ e ≠ 0 then ⟨[], e⟩ else t
def TapeL.word (t : TapeL) : Nat × TapeL :=
  if t.e ≠ 0 then (0, t) else if (rdW 10 0 0 t.s).1 = 0 then ((rdW 10 0 0 t.s).2.1, ⟨(rdW 10 0 0 t.s).2.2, 0⟩) else (0, t.fail (rdW 10 0 0 t.s).1)
def TapeL.number (t : TapeL) (most : Int) : Int × TapeL :=
  if 9223372036854775807 < t.word.1 then (0, t.word.2.fail 11) else if t.word.2.e = 0 ∧ most < t.word.1 then (0, t.word.2.fail 12) else (t.word.1, t.word.2)
def TapeL.signed (t : TapeL) : Int × TapeL := (zag t.word.1, t.word.2)
def TapeL.fixed (t : TapeL) (n : Int) : List (BitVec 8) × TapeL :=
  if t.e ≠ 0 then ([], t) else if n < 0 then ([], t.fail 2) else if (t.s.length : Int) < n then ([], t.fail 10) else (t.s.take n.toNat, ⟨t.s.drop n.toNat, t.e⟩)
def TapeL.text (t : TapeL) (most : Int) : List (BitVec 8) × TapeL :=
  if (t.number 9223372036854775807).2.e = 0 ∧ most < (t.number 9223372036854775807).1 then ((t.number 9223372036854775807).2.fail 12).fixed (t.number 9223372036854775807).1
  else (t.number 9223372036854775807).2.fixed (t.number 9223372036854775807).1
def TapeL.done (t : TapeL) : Int := if t.e = 0 ∧ t.s ≠ [] then 13 else t.e
theorem TapeL.word_lt (t : TapeL) : t.word.1 < 18446744073709551616 := by
  unfold TapeL.word
  split
  · simp
  · split
    · rename_i h
      obtain ⟨k, v, r, hv⟩ : ∃ k v r, rdW 10 0 0 t.s = (k, v, r) := ⟨_, _, _, rfl⟩; rw [hv] at h ⊢; obtain rfl : k = 0 := h; exact (rdW_backL _ _ _ hv).2
    · simp
end Go.Proofs.YtdmnhgbdeifpbaaDoor
