/-
  Part 2 of 56 of what the proof leans on.
-/
import Derived.Test.YtjeeghafachebaaGreatRows
import Derived.WalkKit
import Derived.WalkSpells
import Derived.Deep.Draws
import Derived.Deep.QuietTactic
import Derived.BigQuiet
import Derived.Deep.WholeRow
import Derived.Deep.Cut
import Derived.Deep.CutRange
import Derived.Lib.Hide
import Derived.Laws.CopyOwn
import Derived.Test.YtjeeghafachebaaGreatK1
import Derived.Maps.AppendAt
import Derived.Deep.AppendLies
import Derived.OwnWalk
import Derived.Laws.IdiomStrings
import Derived.Great.BuildSlice
import Derived.Laws.Strings2
namespace Go.Proofs.YtjeeghafachebaaGreat
open Go.RowKit
def W (x : BitVec 32) : Value := .int .u32 (x.toNat : Int)
theorem W_oneCell (x : BitVec 32) : (W x).oneCell' = true := rfl
section
variable (P : Program) (t : TypeId) (x y : BitVec 32) (w : World)
theorem run_add_W : (binOp .add t (W x) (W y)).run P w = .ok (W (x + y)) w := by
  simp only [W, binOp_add, Op.intArith]
  show Result.ok (Value.int .u32 (IntKind.u32.wrap _)) w = _
  simp [IntKind.wrap, IntKind.bits, IntKind.signed, BitVec.toNat_add]
theorem ofInt_toNat (x : BitVec 32) : BitVec.ofInt 32 (x.toNat : Int) = x := by
  apply BitVec.eq_of_toNat_eq
  simp
theorem wrap_toNat (x : BitVec 32) : IntKind.u32.wrap (x.toNat : Int) = x.toNat := by
  have := x.isLt
  simp [IntKind.wrap, IntKind.bits, IntKind.signed]
  omega
theorem bits_and : bits .and .u32 (x.toNat : Int) (y.toNat : Int) = (x &&& y).toNat := by
  show IntKind.u32.wrap ((BitVec.ofInt 32 (x.toNat : Int) &&& BitVec.ofInt 32 (y.toNat : Int)).toNat : Int) = _
  rw [ofInt_toNat, ofInt_toNat, wrap_toNat]
theorem bits_or : bits .or .u32 (x.toNat : Int) (y.toNat : Int) = (x ||| y).toNat := by
  show IntKind.u32.wrap ((BitVec.ofInt 32 (x.toNat : Int) ||| BitVec.ofInt 32 (y.toNat : Int)).toNat : Int) = _
  rw [ofInt_toNat, ofInt_toNat, wrap_toNat]
theorem bits_xor : bits .xor .u32 (x.toNat : Int) (y.toNat : Int) = (x ^^^ y).toNat := by
  show IntKind.u32.wrap ((BitVec.ofInt 32 (x.toNat : Int) ^^^ BitVec.ofInt 32 (y.toNat : Int)).toNat : Int) = _
  rw [ofInt_toNat, ofInt_toNat, wrap_toNat]
theorem run_and_W : (binOp .and t (W x) (W y)).run P w = .ok (W (x &&& y)) w := by
  simp only [W, go_sem]; rw [bits_and]; rfl
theorem run_or_W : (binOp .or t (W x) (W y)).run P w = .ok (W (x ||| y)) w := by
  simp only [W, go_sem]; rw [bits_or]; rfl
theorem run_xor_W : (binOp .xor t (W x) (W y)).run P w = .ok (W (x ^^^ y)) w := by
  simp only [W, go_sem]; rw [bits_xor]; rfl
theorem run_shr_W (k : IntKind) (n : Nat) (hn : n ≤ 32) : (binOp .shr t (W x) (.int k n)).run P w = .ok (W (x >>> n)) w := by
  simp only [W, binOp_shr, Op.shift]
  rw [if_neg (by omega)]
  show Result.ok (Value.int .u32 (Int.fdiv _ _)) w = _
  congr 2
  simp only [IntKind.bits, Int.toNat_natCast, Nat.min_eq_left hn]
  rw [Int.fdiv_eq_ediv_of_nonneg _ (Int.pow_nonneg (by decide))]
  simp [BitVec.toNat_ushiftRight, Nat.shiftRight_eq_div_pow]
theorem run_shl_W (k : IntKind) (n : Nat) (hn : n ≤ 32) : (binOp .shl t (W x) (.int k n)).run P w = .ok (W (x <<< n)) w := by
  simp only [W, binOp_shl, Op.shift]
  rw [if_neg (by omega)]
  show Result.ok (Value.int .u32 (IntKind.u32.wrap _)) w = _
  congr 2
  simp only [IntKind.bits, Int.toNat_natCast, Nat.min_eq_left hn]
  simp [IntKind.wrap, IntKind.bits, IntKind.signed, BitVec.toNat_shiftLeft, Nat.shiftLeft_eq]
end
theorem run_not_W (P : Program) (x : BitVec 32) (w : World) : (Op.unary .xor (W x)).run P w = .ok (W (~~~x)) w := by
  have h := bits_xor (BitVec.allOnes 32) x
  rw [show (((BitVec.allOnes 32).toNat : Nat) : Int) = 4294967295 from by decide] at h
  simp only [W, unary_xor, intBits_xor]
  show Result.ok (Value.int .u32 (bits .xor .u32 4294967295 (x.toNat : Int))) w = _
  rw [h, BitVec.allOnes_xor]
attribute [go_sem] run_not_W
attribute [go_sem] W_oneCell run_add_W run_and_W run_or_W run_xor_W
def B (x : BitVec 8) : Value := .int .u8 (x.toNat : Int)
theorem B_oneCell (x : BitVec 8) : (B x).oneCell' = true := rfl
section
variable {P : Program} (w : World)
end
attribute [go_sem] B_oneCell
theorem run_store_W (P : Program) (w : World) (a : Addr) (m : Mode) (x : BitVec 32) : (store a (W x) m).run P w = stored P w a (W x) m := run_store P w a _ m rfl
theorem run_store_B (P : Program) (w : World) (a : Addr) (m : Mode) (x : BitVec 8) : (store a (B x) m).run P w = stored P w a (B x) m := run_store P w a _ m rfl
theorem W_cells (x : BitVec 32) : (W x).cells = #[W x] := rfl
theorem B_cells (x : BitVec 8) : (B x).cells = #[B x] := rfl
theorem run_storeCells_W (P : Program) (w : World) (a : Addr) (x : BitVec 32) : (storeCells a [W x]).run P w = stored P w a (W x) .plain := by
  have : a.add 0 = a := by simp [Addr.add]
  simp only [storeCells, Sem.run_bind, this, run_store_W]
  cases stored P w a (W x) .plain <;> rfl
theorem run_storeCells_B (P : Program) (w : World) (a : Addr) (x : BitVec 8) : (storeCells a [B x]).run P w = stored P w a (B x) .plain := by
  have : a.add 0 = a := by simp [Addr.add]
  simp only [storeCells, Sem.run_bind, this, run_store_B]
  cases stored P w a (B x) .plain <;> rfl
attribute [go_sem] run_store_W run_store_B W_cells B_cells run_storeCells_W run_storeCells_B
theorem addr_add (b o n : Nat) : (⟨b, o, none⟩ : Addr).add n = ⟨b, o + n, none⟩ := by
  unfold Addr.add
  split
  · rename_i h; subst h; rfl
  · rfl
theorem run_shl_W_lit (P : Program) (t : TypeId) (x : BitVec 32) (w : World) (k : IntKind) (n : Nat) (hn : n ≤ 32) : (binOp .shl t (W x) (.int k (no_index (OfNat.ofNat n)))).run P w = .ok (W (x <<< n)) w := run_shl_W P t x w k n hn
theorem run_shr_W_lit (P : Program) (t : TypeId) (x : BitVec 32) (w : World) (k : IntKind) (n : Nat) (hn : n ≤ 32) : (binOp .shr t (W x) (.int k (no_index (OfNat.ofNat n)))).run P w = .ok (W (x >>> n)) w := run_shr_W P t x w k n hn
attribute [go_sem] run_shl_W_lit run_shr_W_lit
theorem run_storeAt_one {P : Program} {ty : TypeId} {A : Addr} {v u : Value} {w : World} (hv : v.cells = #[v]) (h1 : v.oneCell' = true) (hs : ∀ w, (sizeOf ty).run P w = .ok 1 w)
    (hc : w.cell? A = some u) (hf : w.frozen? A = false) : (Instr.storeAt ty (.pointer (some A)) v).run P w = .ok () (w.setCell A v) := by
  have h0 : A.add 0 = A := by simp [Addr.add]
  have hst : (store (A.add 0) v).run P w = .ok () (w.setCell A v) := by
    rw [h0, run_store P w A v _ h1, hc]
    simp [hf]
  simp [Instr.storeAt, Instr.sureAddr, storeVar, hs, hv, storeCells, hst]
theorem wpList_store1 {P : Program} {ops : Array Oper} {rest : List Oper} {o : Oper} {a : Act} {w : World} {Q : Exit → Act → World → Prop} (hgd : o.guard = none) (ty : TypeId) (x y : Operand) (ho : o.op = .store ty x y)
    (A : Addr) (v u : Value) (hx : a.eval x = .pointer (some A)) (hy : a.eval y = v) (hv : v.cells = #[v]) (h1 : v.oneCell' = true) (hs : ∀ w, (sizeOf ty).run P w = .ok 1 w)
    (hc : w.cell? A = some u) (hf : w.frozen? A = false)
    (h : wpList P ops Q rest (a.put o.dst undef) (w.setCell A v)) : wpList P ops Q (o :: rest) a w :=
  wpList_plain hgd fun _ hK => by
    unfold Oper.wp execOp
    simp only [ho, hx, hy, Sem.run_bind, Sem.run_pure, Result.andThen_ok, run_storeAt_one hv h1 hs hc hf]
    exact hK _ _ h
theorem wpList_store_at {P : Program} {ops : Array Oper} {rest : List Oper} {o : Oper} {a : Act} {w : World} {Q : Exit → Act → World → Prop} (hgd : o.guard = none) (ty : TypeId) (x y : Operand) (ho : o.op = .store ty x y)
    (g off : Nat) (cs : List Value) (hx : a.eval x = .pointer (some ⟨g, off, none⟩)) (hy : a.eval y = .agg cs.toArray)
    (t : TypeId) (old : Array Value) (hg : w.heap[g]? = some (.cells old t (0, 0))) (hi : (P.info? ty).map (·.size) = some cs.length)
    (hfit : off + cs.length ≤ old.size) (h1 : ∀ v ∈ cs, v.oneCell' = true)
    (h : wpList P ops Q rest (a.put o.dst undef) (w.setRow g (old.toList.take off ++ cs ++ old.toList.drop (off + cs.length)).toArray)) : wpList P ops Q (o :: rest) a w :=
  wpList_plain hgd fun _ hK => by
    have hst := run_storeCells_at P g off t cs 0 old w hg (by simpa using hfit) h1
    have hrun : (storeVar ty ⟨g, off, none⟩ (.agg cs.toArray)).run P w = .ok () (w.setRow g (old.toList.take off ++ cs ++ old.toList.drop (off + cs.length)).toArray) := by
      cases hq : P.info? ty with
      | none => simp [hq] at hi
      | some i =>
        have hs : cs.length = i.size := by simp [hq] at hi; omega
        simpa [storeVar, sizeOf, typeInfo, hq, Value.cells, hs] using hst
    unfold Oper.wp execOp
    simp only [ho, hx, hy, Instr.storeAt, Instr.sureAddr, Sem.run_bind, Sem.run_pure, Result.andThen_ok, hrun]
    exact hK _ _ h
section
variable (P : Program) (t : TypeId) (x y : BitVec 8) (w : World)
theorem ofInt_toNat8 (x : BitVec 8) : BitVec.ofInt 8 (x.toNat : Int) = x := by
  apply BitVec.eq_of_toNat_eq
  simp
theorem wrap_toNat8 (x : BitVec 8) : IntKind.u8.wrap (x.toNat : Int) = x.toNat := by
  have := x.isLt
  simp [IntKind.wrap, IntKind.bits, IntKind.signed]
  omega
theorem bits_or8 : bits .or .u8 (x.toNat : Int) (y.toNat : Int) = (x ||| y).toNat := by
  show IntKind.u8.wrap ((BitVec.ofInt 8 (x.toNat : Int) ||| BitVec.ofInt 8 (y.toNat : Int)).toNat : Int) = _
  rw [ofInt_toNat8, ofInt_toNat8, wrap_toNat8]
theorem bits_xor8 : bits .xor .u8 (x.toNat : Int) (y.toNat : Int) = (x ^^^ y).toNat := by
  show IntKind.u8.wrap ((BitVec.ofInt 8 (x.toNat : Int) ^^^ BitVec.ofInt 8 (y.toNat : Int)).toNat : Int) = _
  rw [ofInt_toNat8, ofInt_toNat8, wrap_toNat8]
theorem run_or_B : (binOp .or t (B x) (B y)).run P w = .ok (B (x ||| y)) w := by
  simp only [B, go_sem]; rw [bits_or8]; rfl
theorem run_xor_B : (binOp .xor t (B x) (B y)).run P w = .ok (B (x ^^^ y)) w := by
  simp only [B, go_sem]; rw [bits_xor8]; rfl
theorem run_eql_B0 : (binOp .eql t (B x) (.int .u8 0)).run P w = .ok (.bool (decide (x = 0))) w := by
  simp only [B, binOp_eql]
  show Result.ok (Value.bool ((x.toNat : Int) == 0)) w = _
  congr 2
  rw [Bool.eq_iff_iff]
  simp [BitVec.toNat_eq]
end
attribute [go_sem] run_or_B run_xor_B run_eql_B0
end Go.Proofs.YtjeeghafachebaaGreat
namespace Go.Proofs.YtjeeghafachebaaGreat
open Go Go.RowKit
def gl (l : List (BitVec 8)) : Nat → BitVec 8 := fun i => l.getD i 0
theorem below_draws {B : Nat} {a w : World} (h : Below B a w) (n : Nat) : Below B a (w.drewN n) := h.trans ⟨rfl, rfl, rfl, Nat.le_refl _, fun _ _ => rfl⟩
def Below0 (w : World) (x : Value) (e : Ending) (w' : World) : Prop := e = .returned x ∧ Below w.heap.size w w'
theorem grown_setCell (w : World) (b i : Nat) (v : Value) : w.grownBy (w.setCell ⟨b, i, none⟩ v) (some b) :=
  ⟨rfl, rfl, rfl, by simp [World.setCell], fun k hk hne => heap_setCell_other _ _ _ _ (fun e => hne (by rw [e]))⟩
theorem grown_none_below {w w' : World} (hB : Below w.heap.size w w') : w.grownBy w' none := ⟨hB.os, hB.tape, hB.output, hB.size, fun k hk _ => hB.block k hk⟩
end Go.Proofs.YtjeeghafachebaaGreat
namespace Go.Proofs.YtjeeghafachebaaGreat
open Go Go.RowKit
theorem ev_of {a : Act} {s : Tmp} {x : Value} (h : a.eval (.tmp s) = x) : a.tmps[s]?.getD undef = x := by simpa [Act.eval] using h
end Go.Proofs.YtjeeghafachebaaGreat
namespace Go.Proofs.YtjeeghafachebaaGreat
open Go Go.RowKit
def Own (w : World) (base : Nat) (e : TypeId) (v : Value) (xs : List Value) : Prop := w.ownsRow base e 1 v xs.length xs
theorem Own.form {w : World} {base : Nat} {e : TypeId} {v : Value} {xs : List Value} (h : Own w base e v xs) : ∃ a c, v = .slice a xs.length c := by
  rcases h.2 with ⟨h1, h2⟩ | ⟨g, cap, cur, h1, _⟩
  · exact ⟨none, 0, by rw [h1, h2]⟩
  · exact ⟨_, _, h1⟩
theorem Own.nil (w : World) (base : Nat) (e : TypeId) : Own w base e (.slice none 0 0) [] := World.ownsRow_nil w base e 1
theorem Own.kept {w w' : World} {base : Nat} {e : TypeId} {v : Value} {xs : List Value} (h : Own w base e v xs) {row : Option Nat} (hg : w.grownBy w' row) (hne : v.ownBlock = none ∨ v.ownBlock ≠ row) : Own w' base e v xs := World.ownsRow.kept h hg hne
theorem Own.far {w w' : World} {base : Nat} {e : TypeId} {v : Value} {xs : List Value} (h : Own w base e v xs) (hB : Below w.heap.size w w') : Own w' base e v xs :=
  h.kept (grown_none_below hB) (by cases hv : v.ownBlock <;> simp)
theorem Own.lt {w : World} {base : Nat} {e : TypeId} {v : Value} {xs : List Value} (h : Own w base e v xs) {k : Nat} (hk : v.ownBlock = some k) : base ≤ k ∧ k < w.heap.size := World.ownsRow.lt h k hk
theorem Own.mono {w : World} {base base' : Nat} {e : TypeId} {v : Value} {xs : List Value} (h : Own w base e v xs) (hb : base' ≤ base) : Own w base' e v xs := by
  refine ⟨h.1, ?_⟩
  rcases h.2 with h | ⟨g, cap, cur, h1, h2, h3⟩
  · exact .inl h
  · exact .inr ⟨g, cap, cur, h1, Nat.le_trans hb h2, h3⟩
theorem wpList_push {T e : TypeId} {z : Value} {bytes : Nat} (hT : Tryz.prog.underlying T = some (.slice e)) (hE : (Tryz.prog.info? e).map (fun i => (i.zero, i.size, i.bytes)) = some (some z, 1, bytes)) (hzc : z.cells.size = 1)
    {ops : Array Oper} {rest : List Oper} {o : Oper} {a : Act} {Q : Exit → Act → World → Prop} {w : World} (hgd : o.guard = none) (s x : Operand)
    (ho : o.op = .call { callee := .builtin .append, args := #[s, x], argTypes := #[T, T] })
    (base : Nat) (v : Value) (xs : List Value) (hs : a.eval s = v) (hown : Own w base e v xs) (u : Value) (g : Nat) (hx : a.eval x = .slice (some ⟨g, 0, none⟩) 1 1) (hu : w.cell? ⟨g, 0, none⟩ = some u) (h1 : u.oneCell' = true)
    (hlen : xs.length + 1 ≤ 1000) (hbase : base ≤ w.heap.size) (hby : bytes ≤ 16)
    (h : ∀ v' w', Own w' base e v' (xs ++ [u]) → w.grownBy w' v.ownBlock → (v'.ownBlock = v.ownBlock ∨ v'.ownBlock = some w.heap.size) → wpList Tryz.prog ops Q rest (a.put o.dst v') w') :
    wpList Tryz.prog ops Q (o :: rest) a w := by
  obtain ⟨i, hi, hz0, hz1, hz2⟩ := info_parts hE
  refine wpList_append_own_at _ hgd s x T ho base e i z 1 bytes hT hi hz0 hz1 hz2 hzc (by decide) v xs.length xs hs hown ⟨g, 0, none⟩ 1 1 [u] hx rfl ?_ ?_ (by unfold maxLen; omega) ?_ hbase ?_
  · intro j u' hj
    match j, hj with
    | 0, hj =>
      simp at hj
      subst hj
      simpa [Addr.add] using hu
  · intro u' hu'
    simp at hu'
    subst hu'
    exact h1
  · have : (xs.length + 1) * bytes ≤ 1000 * 16 := Nat.mul_le_mul hlen hby
    omega
  · intro v' w' k1 k2 _ k4
    exact h v' w' (by simpa [Own] using k1) k2 k4
end Go.Proofs.YtjeeghafachebaaGreat
namespace Go.Proofs.YtjeeghafachebaaGreat
open Go Go.RowKit
def strOf (m : List (BitVec 8)) : ByteArray := strOfNums (m.map fun x => (x.toNat : Int))
theorem map_inj {α β : Type} {f : α → β} (hf : ∀ x y, f x = f y → x = y) : ∀ (l l' : List α), l.map f = l'.map f → l = l'
  | [], [], _ => rfl
  | [], _ :: _, h => by simp at h
  | _ :: _, [], h => by simp at h
  | x :: l, y :: l', h => by
    simp only [List.map_cons, List.cons.injEq] at h
    rw [hf _ _ h.1, map_inj hf l l' h.2]
theorem str_eq (m1 m2 : List (BitVec 8)) : ((strOf m1).toList == (strOf m2).toList) = decide (m1 = m2) := by
  rw [Bool.eq_iff_iff, beq_iff_eq, decide_eq_true_eq]
  refine ⟨fun h => ?_, fun h => by rw [h]⟩
  rw [ByteArray.toList_eq, ByteArray.toList_eq] at h
  simp only [strOf, strOfNums_data, List.map_map] at h
  refine map_inj (fun x y hxy => ?_) _ _ h
  simp only [Function.comp, Int.toNat_natCast] at hxy
  have := congrArg UInt8.toNat hxy
  simp at this
  exact BitVec.eq_of_toNat_eq (by omega)
def Sv (m : List (BitVec 8)) : Value := .string (strOf m)
theorem strOf_size (m : List (BitVec 8)) : (strOf m).size = m.length := by simp [strOf, strOfNums_size]
theorem strOf_data (m : List (BitVec 8)) : (strOf m).data = (m.map fun x => UInt8.ofNat x.toNat).toArray := by
  simp [strOf, strOfNums]
theorem run_len_Sv (w : World) (ty : TypeId) (a : List (BitVec 8)) : (Builtin.len_ #[9] ty #[Sv a]).run Tryz.prog w = .ok (.int .i64 (a.length : Int)) w := by
  show (Builtin.len_ #[9] ty #[.string (strOf a)]).run Tryz.prog w = _
  rw [run_len_string w _ _ _ Tryz.underlying9, strOf_size]
  rfl
theorem run_index_Sv (w : World) (a : List (BitVec 8)) (i : Nat) (h : i < a.length) : (Instr.index 9 (Sv a) (.int .i64 (i : Int))).run Tryz.prog w = .ok (B (gl a i)) w := by
  show (Instr.index 9 (.string (strOf a)) (.int .i64 (i : Int))).run Tryz.prog w = _
  rw [run_index_string w _ _ _ _ Tryz.underlying9]
  have hs := strOf_size a
  rw [dif_pos (by rw [hs]; omega)]
  congr 1
  show Value.int .u8 _ = Value.int .u8 _
  congr 1
  have e : ∀ (hi : i < (strOf a).size), ((strOf a)[i]'hi) = UInt8.ofNat (gl a i).toNat := by
    intro hi
    have : ((strOf a)[i]'hi) = (strOf a).data[i]'(by simpa using hi) := rfl
    rw [this]
    simp only [strOf_data, List.getElem_toArray, List.getElem_map]
    simp [gl, h]
  have h2 := (gl a i).isLt
  simp only [Int.toNat_natCast]
  rw [e]
  simp
end Go.Proofs.YtjeeghafachebaaGreat
namespace Go.Proofs.YtjeeghafachebaaGreat
open Go Go.RowKit
theorem run_eql_Sv (w : World) (a b : List (BitVec 8)) : (binOp .eql 9 (Sv a) (Sv b)).run Tryz.prog w = .ok (.bool (decide (a = b))) w := by
  show Result.ok (Value.bool ((strOf a).toList == (strOf b).toList)) w = _
  rw [str_eq]
theorem run_neq_Sv (w : World) (a b : List (BitVec 8)) : (binOp .neq 9 (Sv a) (Sv b)).run Tryz.prog w = .ok (.bool (!decide (a = b))) w := by
  show Result.ok (Value.bool (!((strOf a).toList == (strOf b).toList))) w = _
  rw [str_eq]
theorem run_eqGuard_Sv {P : Program} (w : World) (op : BinOp) (t : TypeId) (o1 o2 : Operand) (m : List (BitVec 8)) (v : Value) : (eqGuard op t o1 o2 (Sv m) v).run P w = .ok () w := by
  unfold eqGuard Sv
  cases op <;> rfl
theorem run_eqGuard_Svr {P : Program} (w : World) (op : BinOp) (t : TypeId) (o1 o2 : Operand) (m : List (BitVec 8)) (s : ByteArray) : (eqGuard op t o1 o2 (.string s) (Sv m)).run P w = .ok () w := by
  unfold eqGuard Sv
  cases op <;> rfl
theorem run_eql_Sv0 (w : World) (a : List (BitVec 8)) : (binOp .eql 9 (Sv a) (.string ⟨#[]⟩)).run Tryz.prog w = .ok (.bool (decide (a = []))) w := run_eql_Sv w a []
theorem run_neq_Sv0 (w : World) (a : List (BitVec 8)) : (binOp .neq 9 (Sv a) (.string ⟨#[]⟩)).run Tryz.prog w = .ok (.bool (!decide (a = []))) w := run_neq_Sv w a []
attribute [go_sem] run_eqGuard_Sv run_eqGuard_Svr run_eql_Sv run_neq_Sv run_eql_Sv0 run_neq_Sv0
theorem Sv_oneCell (m : List (BitVec 8)) : (Sv m).oneCell' = true := rfl
theorem run_store_Sv (P : Program) (w : World) (a : Addr) (k : Mode) (m : List (BitVec 8)) : (store a (Sv m) k).run P w = stored P w a (Sv m) k := run_store P w a _ k rfl
theorem Sv_cells (m : List (BitVec 8)) : (Sv m).cells = #[Sv m] := rfl
theorem run_storeCells_Sv (P : Program) (w : World) (a : Addr) (m : List (BitVec 8)) : (storeCells a [Sv m]).run P w = stored P w a (Sv m) .plain := by
  have : a.add 0 = a := by simp [Addr.add]
  simp only [storeCells, Sem.run_bind, this, run_store_Sv]
  cases stored P w a (Sv m) .plain <;> rfl
attribute [go_sem] Sv_oneCell run_store_Sv Sv_cells run_storeCells_Sv
theorem sv_of (s : ByteArray) : ∃ m : List (BitVec 8), Value.string s = Sv m ∧ m.length = s.size := by
  refine ⟨s.data.toList.map fun x => BitVec.ofNat 8 x.toNat, ?_, by simp⟩
  have : s.data = (strOf (s.data.toList.map fun x => BitVec.ofNat 8 x.toNat)).data := by
    rw [strOf_data, List.map_map]
    apply Array.ext'
    have : ((fun x : BitVec 8 => UInt8.ofNat x.toNat) ∘ fun x : UInt8 => BitVec.ofNat 8 x.toNat) = id := by
      funext x
      have := x.toNat_lt
      simp
    rw [this, List.map_id]
  have e : s = strOf (s.data.toList.map fun x => BitVec.ofNat 8 x.toNat) := by
    cases s
    cases h : strOf _ with
    | mk d =>
      rw [h] at this
      simpa using this
  rw [Sv, ← e]
end Go.Proofs.YtjeeghafachebaaGreat
