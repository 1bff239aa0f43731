/-
  A reader and the document's tape, side by side: neither's calls touch the other.
  What was written, told off a tape again: words, numbers, signed ones, texts.
  Lists of acts (two numbers, and bytes) that came in.
  What is written is read again, and what is read whole was written so: plain, over the tape; how a reader and a pen live side by side.
-/
import Derived.Test.YtbfioekbahcicaaPenPen
import Derived.Test.YtbfioekbahcicaaReadMore
import Derived.Test.YtbfioekbahcicaaCoreOpen
import Derived.Test.YtbfioekbahcicaaLocal
namespace Go.Proofs.Ytbfioekbahcicaa
open Go Go.ChangeShapes Go.WideShapes Go.ChangeAt Go.WideMaps Go.WideElems Go.RowKit

theorem run_conv_i64_u2 (w : World) (k : Int) : (convert 3 50 (.int .i64 k)).run Try.prog w = .ok (.int .u64 (IntKind.u64.wrap k)) w := by
  simp [convert, Conv.intToInt, run_underlying Try.underlying3, run_underlying Try.underlying50]
/-- All blocks but two are as they were. -/
structure KeptTwo (p q : Nat) (w w' : World) : Prop where
  os : w'.os = w.os
  tape : w'.tape = w.tape
  output : w'.output = w.output
  size : w.heap.size ≤ w'.heap.size
  block : ∀ k < w.heap.size, k ≠ p → k ≠ q → w'.heap[k]? = w.heap[k]?
theorem KeptTwo.refl (p q : Nat) (w : World) : KeptTwo p q w w := ⟨rfl, rfl, rfl, Nat.le_refl _, fun _ _ _ _ => rfl⟩
theorem KeptTwo.one {p q : Nat} {w w' : World} (h : w.grownBy w' (some p)) : KeptTwo p q w w' := ⟨h.os, h.tape, h.output, h.size, fun k hk hp _ => h.block k hk (by simpa using hp)⟩
theorem KeptTwo.two {p q : Nat} {w w' : World} (h : w.grownBy w' (some q)) : KeptTwo p q w w' := ⟨h.os, h.tape, h.output, h.size, fun k hk _ hq => h.block k hk (by simpa using hq)⟩
theorem KeptTwo.of_below {p q : Nat} {w w' : World} (h : Below w.heap.size w w') : KeptTwo p q w w' := ⟨h.os, h.tape, h.output, h.size, fun k hk _ _ => h.block k hk⟩
theorem KeptTwo.trans {p q : Nat} {a b c : World} (h : KeptTwo p q a b) (k : KeptTwo p q b c) : KeptTwo p q a c :=
  ⟨k.os.trans h.os, k.tape.trans h.tape, k.output.trans h.output, Nat.le_trans h.size k.size, fun i hi hp hq => (k.block i (Nat.lt_of_lt_of_le hi h.size) hp hq).trans (h.block i hi hp hq)⟩
theorem KeptTwo.row {p q : Nat} {w w' : World} (h : KeptTwo p q w w') {k : Nat} {o : Obj} (hk : w.heap[k]? = some o) (hp : k ≠ p) (hq : k ≠ q) : w'.heap[k]? = some o := (h.block k (Array.getElem?_eq_some_iff.1 hk).1 hp hq).trans hk
theorem KeptTwo.below {p q B0 : Nat} {w w' : World} (h : KeptTwo p q w w') (hB : B0 ≤ w.heap.size) (hp : B0 ≤ p) (hq : B0 ≤ q) : Below B0 w w' := ⟨h.os, h.tape, h.output, h.size, fun k hk => h.block k (by omega) (by omega) (by omega)⟩
/-- Some slice of the bytes m, away from two blocks; it stays so while these two are written. -/
def SrcT (p q : Nat) (w : World) (v : Value) (m : List (BitVec 8)) : Prop :=
  ∃ a c, v = .slice a m.length c ∧ (m.length = 0 ∨ ∃ ab off, a = some ⟨ab, off, none⟩ ∧ ab ≠ p ∧ ab ≠ q ∧ ∀ i < m.length, w.cell? ⟨ab, off + i, none⟩ = some (B (gl m i)))
theorem SrcT.kept {p q : Nat} {w w' : World} {v : Value} {m : List (BitVec 8)} (h : SrcT p q w v m) (hK : KeptTwo p q w w') : SrcT p q w' v m := by
  obtain ⟨a, c, hv, h⟩ := h
  refine ⟨a, c, hv, ?_⟩
  rcases h with h | ⟨ab, off, h1, h2, h3, h4⟩
  · exact .inl h
  · refine .inr ⟨ab, off, h1, h2, h3, fun i hi => ?_⟩
    have hc := h4 i hi
    exact cell_of_heap hc (hK.block ab (block_lt_of_cell hc) h2 h3)
theorem SrcN.srcT {B0 p q c : Nat} {w : World} {a : Option Addr} {m : List (BitVec 8)} (h : SrcN B0 w a m) (hp : p < B0) (hq : q < B0) : SrcT p q w (.slice a m.length c) m := by
  refine ⟨a, c, rfl, ?_⟩
  rcases h with h | ⟨ab, off, h1, h2, h3⟩
  · exact .inl h
  · exact .inr ⟨ab, off, h1, by omega, by omega, h3⟩
/-- What an operation leaves, told so that it stays true while R lasts. -/
structure StT (R : World → World → Prop) where
  p : World → Value → Prop
  st : ∀ w w' v, R w w' → p w v → p w' v
def stE {R : World → World → Prop} (x : Value) : StT R := ⟨fun _ v => v = x, fun _ _ _ _ h => h⟩
def stS (p q : Nat) (m : List (BitVec 8)) : StT (KeptTwo p q) := ⟨fun w v => SrcT p q w v m, fun _ _ _ h hv => hv.kept h⟩
def vOfT {R : World → World → Prop} (Vs : List (StT R)) : Nat → World → Value → Prop := fun i => (Vs.getD i ⟨fun _ _ => True, fun _ _ _ _ h => h⟩).p
theorem vOfT_st {R : World → World → Prop} (Vs : List (StT R)) : ∀ i w w' v, R w w' → vOfT Vs i w v → vOfT Vs i w' v := fun i => (Vs.getD i ⟨fun _ _ => True, fun _ _ _ _ h => h⟩).st
end Go.Proofs.Ytbfioekbahcicaa
namespace Go.Proofs.Ytbfioekbahcicaa
open Go Go.RowKit

theorem back_word (k : Nat) (hk : k < 18446744073709551616) (r : List (BitVec 8)) : (TapeL.mk (wordL k ++ r) 0).word = (k, ⟨r, 0⟩) := tapeWord_ok rfl (rdW_wordL k r hk)
theorem back_number (k : Nat) (most : Int) (hk : k < 9223372036854775808) (hm : (k : Int) ≤ most) (r : List (BitVec 8)) : (TapeL.mk (wordL k ++ r) 0).number most = ((k : Int), ⟨r, 0⟩) := by
  rw [TapeL.number, back_word k (by omega) r]
  simp only
  rw [if_neg (by omega), if_neg (by omega)]
theorem back_signed (n : Int) (h1 : -9223372036854775808 ≤ n) (h2 : n < 9223372036854775808) (r : List (BitVec 8)) : (TapeL.mk (signedL n ++ r) 0).signed = (n, ⟨r, 0⟩) := by
  rw [TapeL.signed, signedL, back_word (zig n) (zig_lt n h1 h2) r]
  simp only [zag_zig]
theorem back_fixed (m r : List (BitVec 8)) : (TapeL.mk (m ++ r) 0).fixed (m.length : Int) = (m, ⟨r, 0⟩) := by
  rw [fixed_good (by simp) (fun h => absurd rfl h)]
  simp
theorem back_text (m r : List (BitVec 8)) (h : m.length ≤ 300) : (TapeL.mk (textL m ++ r) 0).text 300 = (m, ⟨r, 0⟩) := by
  rw [text_eq, textL, List.append_assoc, back_number m.length 300 (by omega) (by omega)]
  exact back_fixed m r
/-- A signed number read: it stood there as it would be written; or the tape tells an error. -/
theorem signed_cases (t : TapeL) (h0 : t.e = 0) : (∃ v r, t.signed = (v, ⟨r, 0⟩) ∧ t.s = signedL v ++ r ∧ -9223372036854775808 ≤ v ∧ v < 9223372036854775808 ∧ 0 < (signedL v).length) ∨ (t.signed.2.e ≠ 0 ∧ t.signed.2.s = []) := by
  obtain ⟨k, v, r, hv⟩ : ∃ k v r, rdW 10 0 0 t.s = (k, v, r) := ⟨_, _, _, rfl⟩
  by_cases hk : k = 0
  · subst hk
    left
    obtain ⟨h1, h2⟩ := rdW_backL v t.s r hv
    have hb := zag_bd v h2
    have hsg : signedL (zag v) = wordL v := by rw [signedL, zig_zag]
    refine ⟨zag v, r, by rw [TapeL.signed, tapeWord_ok h0 hv], by rw [hsg]; exact h1, hb.1, hb.2, ?_⟩
    rw [hsg, wordL, wordF]
    split <;> simp
  · right
    rw [TapeL.signed, tapeWord_err h0 hv hk]
    exact ⟨by show (k : Int) ≠ 0; omega, rfl⟩
end Go.Proofs.Ytbfioekbahcicaa
namespace Go.Proofs.Ytbfioekbahcicaa
open Go Go.ChangeShapes Go.WideShapes Go.ChangeAt Go.WideMaps Go.WideElems Go.RowKit

/-- One act: its kind, its number and its bytes. -/
structure OpR where
  kind : Int
  n : Int
  part : Part
def OpR.ok (w : World) (x : OpR) : Prop := x.part.ok w ∧ (x.part.a = none → x.part.cap = 0) ∧ -9223372036854775808 ≤ x.n ∧ x.n < 9223372036854775808 ∧ x.part.m.length ≤ 140737488355328
def OpsR (w : World) (a : Option Addr) (l : List OpR) : Prop :=
  l = [] ∨ ∃ b o, a = some ⟨b, o, none⟩ ∧ ∀ i x, l[i]? = some x → w.cell? ⟨b, o + i * 3, none⟩ = some (.int .i64 x.kind) ∧ w.cell? ⟨b, o + i * 3 + 1, none⟩ = some (.int .i64 x.n) ∧ w.cell? ⟨b, o + i * 3 + 2, none⟩ = some x.part.val
theorem OpR.ok.below {w w' : World} {x : OpR} (h : x.ok w) (hB : Below w.heap.size w w') : x.ok w' := ⟨h.1.below hB, h.2⟩
theorem OpsR.below {w w' : World} {a : Option Addr} {l : List OpR} (h : OpsR w a l) (hB : Below w.heap.size w w') : OpsR w' a l := by
  rcases h with h | ⟨b, o, h, h'⟩
  · exact .inl h
  · refine .inr ⟨b, o, h, fun i x hx => ?_⟩
    obtain ⟨h1, h2, h3⟩ := h' i x hx
    exact ⟨(hB.cell (block_lt_of_cell h1)).trans h1, (hB.cell (block_lt_of_cell h2)).trans h2, (hB.cell (block_lt_of_cell h3)).trans h3⟩
theorem bytes_u8p : Try.prog.bytesOf 5 = 1 := by kernel_rfl
theorem open_field_int {H : Type} {enc : TypeId × Value → H} {w : World} {v : Value} {y : DataW H × List MemPlace} {n : Nat} (h : DataW.trod enc Try.prog w 0 (fun _ => true) true n 3 [v] = some y) :
    ∃ k : Int, v = .int .i64 k ∧ -9223372036854775808 ≤ k ∧ k < 9223372036854775808 := by
  obtain ⟨k, hk, _, hwf⟩ := DataW.trod_int Try.underlying3 h
  simp only [List.cons.injEq, and_true] at hk
  have hmin : IntKind.i64.min = -9223372036854775808 := rfl
  have hmax : IntKind.i64.max = 9223372036854775807 := rfl
  simp only [Lit.wf, Bool.and_eq_true, decide_eq_true_eq, hmin, hmax] at hwf
  exact ⟨k, hk, by omega, by omega⟩
end Go.Proofs.Ytbfioekbahcicaa
namespace Go.Proofs.Ytbfioekbahcicaa
open Go Go.RowKit

def posN (n : Int) : Nat := (n % 9223372036854775808).toNat
theorem posN_lt (n : Int) : posN n < 9223372036854775808 := by
  unfold posN
  omega
theorem bits_mask (n : Int) (h1 : -9223372036854775808 ≤ n) (h2 : n < 9223372036854775808) : bits .and .i64 n 9223372036854775807 = ((posN n : Nat) : Int) := by
  show IntKind.i64.wrap ((BitVec.ofInt 64 n &&& BitVec.ofInt 64 9223372036854775807).toNat : Int) = _
  have e1 : BitVec.ofInt 64 9223372036854775807 = BitVec.ofNat 64 (2 ^ 63 - 1) := by decide +kernel
  rw [e1, BitVec.toNat_and, BitVec.toNat_ofNat, Nat.mod_eq_of_lt (by decide : 2 ^ 63 - 1 < 2 ^ 64), Nat.and_two_pow_sub_one_eq_mod]
  have e2 : (BitVec.ofInt 64 n).toNat % 2 ^ 63 = posN n := by
    rw [BitVec.toNat_ofInt]
    unfold posN
    omega
  rw [e2]
  have := posN_lt n
  exact IntWalk.i64_in _ (by omega)
/-- What an act writes. -/
def encR (x : OpR) : List (BitVec 8) := wordL (posN x.n) ++ (signedL x.n ++ (textL x.part.m ++ x.part.m))
def encL (l : List OpR) : List (BitVec 8) := l.flatMap encR
theorem encL_step (l : List OpR) (t : Nat) (x : OpR) (h : l[t]? = some x) : encL (l.take (t + 1)) = encL (l.take t) ++ encR x := by
  have ht : t < l.length := (List.getElem?_eq_some_iff.1 h).1
  have e : l.take (t + 1) = l.take t ++ [x] := by
    rw [List.take_succ_eq_append_getElem ht]
    rw [List.getElem?_eq_getElem ht] at h
    simp only [Option.some.injEq] at h
    rw [h]
  rw [e, encL, encL, List.flatMap_append]
  simp
theorem encL_drop (l : List OpR) (t : Nat) (x : OpR) (h : l[t]? = some x) : encL (l.drop t) = encR x ++ encL (l.drop (t + 1)) := by
  have ht : t < l.length := (List.getElem?_eq_some_iff.1 h).1
  rw [List.getElem?_eq_getElem ht] at h
  simp only [Option.some.injEq] at h
  rw [List.drop_eq_getElem_cons ht, h, encL, encL]
  simp
theorem encR_length (x : OpR) : (encR x).length ≤ 30 + 2 * x.part.m.length := by
  have h1 := wordL_length (posN x.n)
  have h2 : (signedL x.n).length ≤ 10 := wordL_length _
  have h3 := wordL_length x.part.m.length
  simp only [encR, textL, List.length_append]
  omega
theorem own_ne2 {base b : Nat} {w : World} {v : Value} {xs : List Value} {c : Array Value} {t : TypeId} {fr : Nat × Nat} (h : Own w base 5 v xs) (hb : w.heap[b]? = some (.cells c t fr)) (ht : t ≠ 5) : v.ownBlock ≠ some b := by
  intro he
  rcases h.2 with ⟨hv, _⟩ | ⟨g, cap, cur, hv, _, hrow, _⟩
  · rw [hv] at he
    cases he
  · rw [hv] at he
    injection he with he
    have : g = b := he
    subst this
    rw [hb] at hrow
    injection hrow with hrow
    injection hrow with _ e2
    exact ht e2
def rdLeft (sb : Nat) (w : World) : Nat := lenOf ((w.cell? ⟨sb, 0, none⟩).getD undef)
end Go.Proofs.Ytbfioekbahcicaa
