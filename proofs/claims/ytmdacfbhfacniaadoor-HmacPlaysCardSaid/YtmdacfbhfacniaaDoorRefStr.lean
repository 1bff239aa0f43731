/-
  Bytes as a string of Go, behind an opaque name; a word from its four bytes.
-/
import Derived.Test.YtmdacfbhfacniaaDoorRefTable
import Derived.Test.YtmdacfbhfacniaaDoorShaSameOps
namespace Go.Proofs.YtmdacfbhfacniaaDoor
open Go.RowKit

def Sv (m : List (BitVec 8)) : Value := .string (strOf m)
theorem strOf_size (m : List (BitVec 8)) : (strOf m).size = m.length := by simp [strOf, strOfNums_size]
theorem strOf_data (m : List (BitVec 8)) : (strOf m).data = (m.map fun x => UInt8.ofNat x.toNat).toArray := by
  simp [strOf, strOfNums]
theorem strOf_append (a b : List (BitVec 8)) : strOf a ++ strOf b = strOf (a ++ b) := by
  have : (strOf a ++ strOf b).data = (strOf (a ++ b)).data := by
    rw [ByteArray.data_append, strOf_data, strOf_data, strOf_data]
    simp
  cases h1 : strOf a ++ strOf b
  cases h2 : strOf (a ++ b)
  rw [h1, h2] at this
  simpa using this
theorem run_add_Sv (w : World) (a b : List (BitVec 8)) (h : a.length + b.length ≤ 1048576) : (binOp .add 9 (Sv a) (Sv b)).run Tryd.prog w = .ok (Sv (a ++ b)) w := by
  show (Op.stringOp .add (strOf a) (strOf b)).run Tryd.prog w = _
  rw [run_string_add_sum w _ _ (by rw [strOf_size, strOf_size]; omega), strOf_append]
  rfl
theorem run_add_S80 (w : World) (a : List (BitVec 8)) (h : a.length ≤ 1048000) : (binOp .add 9 (Sv a) (.string ⟨#[128]⟩)).run Tryd.prog w = .ok (Sv (a ++ [0x80])) w :=
  run_add_Sv w a [0x80] (by simp; omega)
theorem run_add_S0 (w : World) (a : List (BitVec 8)) (h : a.length ≤ 1048000) : (binOp .add 9 (Sv a) (.string ⟨#[0]⟩)).run Tryd.prog w = .ok (Sv (a ++ [0])) w :=
  run_add_Sv w a [0] (by simp; omega)
theorem run_len_Sv (w : World) (ty : TypeId) (a : List (BitVec 8)) : (Builtin.len_ #[9] ty #[Sv a]).run Tryd.prog w = .ok (.int .i64 (a.length : Int)) w := by
  show (Builtin.len_ #[9] ty #[.string (strOf a)]).run Tryd.prog w = _
  rw [run_len_string w _ _ _ Tryd.underlying9, strOf_size]
  rfl
theorem run_index_Sv (w : World) (a : List (BitVec 8)) (i : Nat) (h : i < a.length) : (Instr.index 9 (Sv a) (.int .i64 (i : Int))).run Tryd.prog w = .ok (B (gl a i)) w := by
  show (Instr.index 9 (.string (strOf a)) (.int .i64 (i : Int))).run Tryd.prog w = _
  rw [run_index_string w _ _ _ _ Tryd.underlying9]
  have hs := strOf_size a
  rw [dif_pos (by rw [hs]; omega)]
  congr 1
  show Value.int .u8 _ = Value.int .u8 _
  congr 1
  have e : ∀ (hi : i < (strOf a).size), ((strOf a)[i]'hi) = UInt8.ofNat (gl a i).toNat := by
    intro hi
    have : ((strOf a)[i]'hi) = (strOf a).data[i]'(by simpa using hi) := rfl
    rw [this]
    simp only [strOf_data, List.getElem_toArray, List.getElem_map]
    simp [gl, h]
  have h2 := (gl a i).isLt
  simp only [Int.toNat_natCast]
  rw [e]
  simp
theorem run_slice1_B {ops : Array Oper} {rest : List Oper} {o : Oper} {a : Act} {w : World} {Q : Exit → Act → World → Prop} (hg : o.guard = none) (y : Operand) (ho : o.op = .buildSlice 22 1 #[(0, y)]) (x : BitVec 8) (hy : a.eval y = B x)
    (h : wpList Tryd.prog ops Q rest (a.put o.dst (.slice (some ⟨w.heap.size, 0, none⟩) 1 1)) (w.alloc (.cells #[B x] 5))) : wpList Tryd.prog ops Q (o :: rest) a w := by
  have hF : Instr.fill (fun i => some (i * 1, 1)) ((Array.range (1 * 1)).map ((Value.int .u8 0).cells[· % (Value.int .u8 0).cells.size]!)) [(0, B x)] = some #[B x] := by kernel_rfl
  obtain ⟨i, hi, hz0, hz1, hz2⟩ := info_u8
  refine wpList_buildSlice hg 22 5 1 _ ho #[B x] i _ Tryd.underlying22 hi hz0 (by rw [hz1]; decide) (by rw [hz1]; decide) ?_ h
  rw [hz1]
  simp only [List.map_toArray, List.map_cons, List.map_nil, hy]
  exact hF
theorem run_conv_one (w : World) (g c : Nat) (x : BitVec 8) (h : w.cell? ⟨g, 0, none⟩ = some (B x)) : (convert 22 9 (.slice (some ⟨g, 0, none⟩) 1 c)).run Tryd.prog w = .ok (Sv [x]) w :=
  run_conv_str w (some ⟨g, 0, none⟩) c [x] (.inr ⟨g, 0, rfl, fun j hj => by
    have : j = 0 := by simpa using hj
    subst this
    simpa [gl] using h⟩)

theorem run_conv_u64_B (w : World) (b : Nat) (h : b < 256) : (convert 61 5 (.int .u64 (b : Int))).run Tryd.prog w = .ok (B (BitVec.ofNat 8 b)) w := by
  have e : (B (BitVec.ofNat 8 b)) = .int .u8 (IntKind.u8.wrap (b : Int)) := by
    rw [IntWalk.u8_in _ (by omega)]
    simp [B]
    omega
  rw [e]
  simp [convert, Conv.intToInt, run_underlying Tryd.underlying61, run_underlying Tryd.underlying5]

/-! A word of four bytes. -/
theorem run_mul256_W {P : Program} (w : World) (t : TypeId) (x : BitVec 32) : (binOp .mul t (W x) (.int .u32 256)).run P w = .ok (W (x * 256)) w := by
  simp only [W, binOp_mul, Op.intArith]
  show Result.ok (Value.int .u32 (IntKind.u32.wrap _)) w = _
  simp [IntKind.wrap, IntKind.bits, IntKind.signed, BitVec.toNat_mul]
theorem be4_is (a b c d : BitVec 8) : (((((0 * 256 + a.setWidth 32) * 256 + b.setWidth 32) * 256 + c.setWidth 32) * 256 + d.setWidth 32) : BitVec 32) = be4 a b c d := by
  have ha := a.isLt
  have hb := b.isLt
  have hc := c.isLt
  have hd := d.isLt
  apply BitVec.eq_of_toNat_eq
  have e1 : (be4 a b c d).toNat = a.toNat * 2 ^ 24 ||| b.toNat * 2 ^ 16 ||| c.toNat * 2 ^ 8 ||| d.toNat := by
    simp only [be4, BitVec.toNat_or, BitVec.toNat_shiftLeft, BitVec.toNat_setWidth, Nat.shiftLeft_eq]
    rw [Nat.mod_eq_of_lt (a := a.toNat) (by omega), Nat.mod_eq_of_lt (a := b.toNat) (by omega), Nat.mod_eq_of_lt (a := c.toNat) (by omega), Nat.mod_eq_of_lt (a := d.toNat) (by omega),
      Nat.mod_eq_of_lt (by omega), Nat.mod_eq_of_lt (by omega), Nat.mod_eq_of_lt (by omega)]
  have e2 : a.toNat * 2 ^ 24 ||| b.toNat * 2 ^ 16 = (a.toNat * 2 ^ 8 + b.toNat) * 2 ^ 16 := by
    rw [Nat.mul_comm a.toNat, ← Nat.two_pow_add_eq_or_of_lt (by omega)]
    omega
  have e3 : (a.toNat * 2 ^ 8 + b.toNat) * 2 ^ 16 ||| c.toNat * 2 ^ 8 = ((a.toNat * 2 ^ 8 + b.toNat) * 2 ^ 8 + c.toNat) * 2 ^ 8 := by
    rw [Nat.mul_comm _ (2 ^ 16), ← Nat.two_pow_add_eq_or_of_lt (by omega)]
    omega
  have e4 : ((a.toNat * 2 ^ 8 + b.toNat) * 2 ^ 8 + c.toNat) * 2 ^ 8 ||| d.toNat = ((a.toNat * 2 ^ 8 + b.toNat) * 2 ^ 8 + c.toNat) * 2 ^ 8 + d.toNat := by
    rw [Nat.mul_comm _ (2 ^ 8), ← Nat.two_pow_add_eq_or_of_lt (by omega)]
  rw [e1, e2, e3, e4]
  simp only [BitVec.toNat_add, BitVec.toNat_mul, BitVec.toNat_setWidth, show (256 : BitVec 32).toNat = 256 from rfl, show (0 : BitVec 32).toNat = 0 from rfl]
  omega
/-- A word after j of its bytes. -/
def vj (f : Nat → BitVec 8) (t : Nat) : Nat → BitVec 32
  | 0 => 0
  | j + 1 => vj f t j * 256 + (f (4 * t + j)).setWidth 32
theorem vj_4 (f : Nat → BitVec 8) (t : Nat) (h : t < 16) : vj f t 4 = sched f t := by
  rw [sched_lo f t h, ← be4_is]
  rfl

/-! The length, byte by byte, the last one first. -/
def lenTail (n i : Nat) : List (BitVec 8) := ((List.range 8).drop (8 - i)).map (lenByte n)
theorem lenTail_succ (n i : Nat) (h : i < 8) : lenTail n (i + 1) = lenByte n (7 - i) :: lenTail n i := by
  match i, h with
  | 0, _ => rfl
  | 1, _ => rfl
  | 2, _ => rfl
  | 3, _ => rfl
  | 4, _ => rfl
  | 5, _ => rfl
  | 6, _ => rfl
  | 7, _ => rfl
theorem lenByte_is (n i : Nat) (h : i < 8) : lenByte n (7 - i) = BitVec.ofNat 8 (8 * n / 256 ^ i % 256) := by
  have e : 56 - 8 * (7 - i) = 8 * i := by omega
  rw [lenByte, e, Nat.pow_mul]
  apply BitVec.eq_of_toNat_eq
  simp
theorem run_inv_W (w : World) (t : TypeId) (x : BitVec 32) {P : Program} : (binOp .sub t (.int .u32 4294967295) (W x)).run P w = .ok (W (~~~x)) w := by
  simp only [W, binOp_sub, Op.intArith]
  show Result.ok (Value.int .u32 (IntKind.u32.wrap _)) w = _
  have := x.isLt
  simp [IntKind.wrap, IntKind.bits, IntKind.signed, BitVec.toNat_not]
  omega
end Go.Proofs.YtmdacfbhfacniaaDoor
