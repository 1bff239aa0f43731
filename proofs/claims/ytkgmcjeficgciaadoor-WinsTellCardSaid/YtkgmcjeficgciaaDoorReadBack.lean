/-
  A reader and the document's tape, side by side: neither's calls touch the other.
  What was written, told off a tape again: words, numbers, signed ones, texts.
  Lists of acts (two numbers, and bytes) that came in.
  What is written is read again, and what is read whole was written so: plain, over the tape; how a reader and a pen live side by side.
-/
import Derived.Test.YtkgmcjeficgciaaDoorPenPen
import Derived.Test.YtkgmcjeficgciaaDoorReadMore
import Derived.Test.YtkgmcjeficgciaaDoorCoreOpen
import Derived.Test.YtkgmcjeficgciaaDoorLocal
namespace Go.Proofs.YtkgmcjeficgciaaDoor
open Go Go.ChangeShapes Go.WideShapes Go.ChangeAt Go.WideMaps Go.WideElems Go.RowKit

theorem run_conv_i64_u2 (w : World) (k : Int) : (convert 3 103 (.int .i64 k)).run Tryd.prog w = .ok (.int .u64 (IntKind.u64.wrap k)) w := by
  simp [convert, Conv.intToInt, run_underlying Tryd.underlying3, run_underlying Tryd.underlying103]
theorem rd_ne {base b xb : Nat} {w : World} {t tx : TapeL} (h : RdAt base w b t) (hx : TapeAt w xb tx) : xb ≠ b := by
  intro e
  subst e
  obtain ⟨a, n, c, hb, _⟩ := h
  unfold TapeAt at hx
  rw [hb] at hx
  injection hx with hx
  injection hx with _ e2
  exact absurd e2 (by decide)
/-- The reader stays as it is while the tape's block is written. -/
theorem RdAt.aside {base b xb : Nat} {w w' : World} {t tx : TapeL} (h : RdAt base w b t) (hx : TapeAt w xb tx) (hg : w.grownBy w' (some xb)) : RdAt base w' b t := by
  have hne := rd_ne h hx
  obtain ⟨a, n, c, h1, h2, h3, h4, h5, h6, h7⟩ := h
  refine ⟨a, n, c, (hg.block b (Array.getElem?_eq_some_iff.1 h1).1 (by simpa using hne.symm)).trans h1, h2, h3, h4, h5, ?_, h7⟩
  rcases h6 with h6 | ⟨ab, off, k1, k2, k3, k4⟩
  · exact .inl h6
  · by_cases h0 : t.s.length = 0
    · exact .inl h0
    · refine .inr ⟨ab, off, k1, k2, k3, fun i hi => hg.cell (k4 i hi) ?_⟩
      show some ab ≠ some xb
      intro e
      injection e with e
      have hc := k4 0 (by omega)
      rw [e, cell_of_row _ _ _ _ _ _ hx] at hc
      match off, hc with
      | 0, hc => simp [Sv, B] at hc
      | 1, hc => simp [B] at hc
      | k + 2, hc => simp at hc
theorem TapeAt.aside {base b xb : Nat} {w w' : World} {t tx : TapeL} (h : RdAt base w b t) (hx : TapeAt w xb tx) (hg : w.grownBy w' (some b)) : TapeAt w' xb tx := by
  have hne := rd_ne h hx
  exact (hg.block xb (Array.getElem?_eq_some_iff.1 hx).1 (by simpa using hne)).trans hx
theorem TapeAt.below {xb : Nat} {w w' : World} {tx : TapeL} (hx : TapeAt w xb tx) (hB : Below w.heap.size w w') : TapeAt w' xb tx := (hB.block xb (Array.getElem?_eq_some_iff.1 hx).1).trans hx
/-- All blocks but two are as they were. -/
structure KeptTwo (p q : Nat) (w w' : World) : Prop where
  os : w'.os = w.os
  tape : w'.tape = w.tape
  output : w'.output = w.output
  size : w.heap.size ≤ w'.heap.size
  block : ∀ k < w.heap.size, k ≠ p → k ≠ q → w'.heap[k]? = w.heap[k]?
theorem KeptTwo.refl (p q : Nat) (w : World) : KeptTwo p q w w := ⟨rfl, rfl, rfl, Nat.le_refl _, fun _ _ _ _ => rfl⟩
theorem KeptTwo.one {p q : Nat} {w w' : World} (h : w.grownBy w' (some p)) : KeptTwo p q w w' := ⟨h.os, h.tape, h.output, h.size, fun k hk hp _ => h.block k hk (by simpa using hp)⟩
theorem KeptTwo.two {p q : Nat} {w w' : World} (h : w.grownBy w' (some q)) : KeptTwo p q w w' := ⟨h.os, h.tape, h.output, h.size, fun k hk _ hq => h.block k hk (by simpa using hq)⟩
theorem KeptTwo.of_below {p q : Nat} {w w' : World} (h : Below w.heap.size w w') : KeptTwo p q w w' := ⟨h.os, h.tape, h.output, h.size, fun k hk _ _ => h.block k hk⟩
theorem KeptTwo.trans {p q : Nat} {a b c : World} (h : KeptTwo p q a b) (k : KeptTwo p q b c) : KeptTwo p q a c :=
  ⟨k.os.trans h.os, k.tape.trans h.tape, k.output.trans h.output, Nat.le_trans h.size k.size, fun i hi hp hq => (k.block i (Nat.lt_of_lt_of_le hi h.size) hp hq).trans (h.block i hi hp hq)⟩
theorem KeptTwo.row {p q : Nat} {w w' : World} (h : KeptTwo p q w w') {k : Nat} {o : Obj} (hk : w.heap[k]? = some o) (hp : k ≠ p) (hq : k ≠ q) : w'.heap[k]? = some o := (h.block k (Array.getElem?_eq_some_iff.1 hk).1 hp hq).trans hk
theorem KeptTwo.below {p q B0 : Nat} {w w' : World} (h : KeptTwo p q w w') (hB : B0 ≤ w.heap.size) (hp : B0 ≤ p) (hq : B0 ≤ q) : Below B0 w w' := ⟨h.os, h.tape, h.output, h.size, fun k hk => h.block k (by omega) (by omega) (by omega)⟩
/-- Some slice of the bytes m, away from two blocks; it stays so while these two are written. -/
def SrcT (p q : Nat) (w : World) (v : Value) (m : List (BitVec 8)) : Prop :=
  ∃ a c, v = .slice a m.length c ∧ (m.length = 0 ∨ ∃ ab off, a = some ⟨ab, off, none⟩ ∧ ab ≠ p ∧ ab ≠ q ∧ ∀ i < m.length, w.cell? ⟨ab, off + i, none⟩ = some (B (gl m i)))
theorem SrcT.kept {p q : Nat} {w w' : World} {v : Value} {m : List (BitVec 8)} (h : SrcT p q w v m) (hK : KeptTwo p q w w') : SrcT p q w' v m := by
  obtain ⟨a, c, hv, h⟩ := h
  refine ⟨a, c, hv, ?_⟩
  rcases h with h | ⟨ab, off, h1, h2, h3, h4⟩
  · exact .inl h
  · refine .inr ⟨ab, off, h1, h2, h3, fun i hi => ?_⟩
    have hc := h4 i hi
    exact cell_of_heap hc (hK.block ab (block_lt_of_cell hc) h2 h3)
theorem SrcT.str {p q : Nat} {w : World} {v : Value} {m : List (BitVec 8)} (h : SrcT p q w v m) : (convert 42 9 v).run Tryd.prog w = .ok (Sv m) w := by
  obtain ⟨a, c, rfl, h⟩ := h
  refine run_conv_str w a c m ?_
  rcases h with h | ⟨ab, off, h1, _, _, h4⟩
  · exact .inl h
  · exact .inr ⟨ab, off, h1, h4⟩
theorem SrcN.srcT {B0 p q c : Nat} {w : World} {a : Option Addr} {m : List (BitVec 8)} (h : SrcN B0 w a m) (hp : p < B0) (hq : q < B0) : SrcT p q w (.slice a m.length c) m := by
  refine ⟨a, c, rfl, ?_⟩
  rcases h with h | ⟨ab, off, h1, h2, h3⟩
  · exact .inl h
  · exact .inr ⟨ab, off, h1, by omega, by omega, h3⟩
/-- What an operation leaves, told so that it stays true while R lasts. -/
structure StT (R : World → World → Prop) where
  p : World → Value → Prop
  st : ∀ w w' v, R w w' → p w v → p w' v
def stE {R : World → World → Prop} (x : Value) : StT R := ⟨fun _ v => v = x, fun _ _ _ _ h => h⟩
def stS (p q : Nat) (m : List (BitVec 8)) : StT (KeptTwo p q) := ⟨fun w v => SrcT p q w v m, fun _ _ _ h hv => hv.kept h⟩
def stRd (B0 : Nat) (m : List (BitVec 8)) : StT (fun w w' => Below w.heap.size w w') :=
  ⟨fun w v => ∃ g base, v = .pointer (some ⟨g, 0, none⟩) ∧ B0 ≤ g ∧ RdAt base w g ⟨m, 0⟩, fun _ _ _ h ⟨g, base, h1, h2, h3⟩ => ⟨g, base, h1, h2, h3.below h⟩⟩
def stTp (B0 : Nat) (m : List (BitVec 8)) : StT (fun w w' => Below w.heap.size w w') :=
  ⟨fun w v => ∃ g, v = .pointer (some ⟨g, 0, none⟩) ∧ B0 ≤ g ∧ TapeAt w g ⟨m, 0⟩, fun _ _ _ h ⟨g, h1, h2, h3⟩ => ⟨g, h1, h2, h3.below h⟩⟩
def vOfT {R : World → World → Prop} (Vs : List (StT R)) : Nat → World → Value → Prop := fun i => (Vs.getD i ⟨fun _ _ => True, fun _ _ _ _ h => h⟩).p
theorem vOfT_st {R : World → World → Prop} (Vs : List (StT R)) : ∀ i w w' v, R w w' → vOfT Vs i w v → vOfT Vs i w' v := fun i => (Vs.getD i ⟨fun _ _ => True, fun _ _ _ _ h => h⟩).st
/-- Bytes that came in as an argument. -/
theorem open_arg {H : Type} {enc : TypeId × Value → H} {w : World} {a : Option Addr} {len cap : Nat} {d : DataW H} {p : List MemPlace}
    (h : DataW.Trod enc Tryd.prog w 0 (fun _ => true) true 42 (.slice a len cap) d p) :
    ∃ m : List (BitVec 8), m.length = len ∧ SrcP w a m.length m ∧ len ≤ cap ∧ cap ≤ 9223372036854775807 ∧ (a = none → cap = 0) := by
  obtain ⟨fuel, hf⟩ := h
  rcases open_ints Tryd.underlying42 Tryd.underlying5 (by kernel_rfl) hf with ⟨hcs, _⟩ | ⟨x, l, c, zs, hcs, _, hl, hm, hz, hx, hcell, hwz⟩
  · simp [Value.cells] at hcs
    obtain ⟨rfl, rfl, rfl⟩ := hcs
    exact ⟨[], rfl, .inl rfl, Nat.le_refl _, Nat.zero_le _, fun _ => rfl⟩
  · simp [Value.cells] at hcs
    obtain ⟨rfl, rfl, rfl⟩ := hcs
    obtain ⟨m, hm1, hm2⟩ := src_of_ints (w := w) (a := some x) (len := len) (cap := cap) (zs := zs) (.inr ⟨x, rfl, hl, by simpa using hz, hcell, hwz⟩)
    have hml : maxLen ≤ 9223372036854775807 := by unfold maxLen; omega
    exact ⟨m, hm1, hm2, hl, Nat.le_trans hm hml, fun h => by cases h⟩
end Go.Proofs.YtkgmcjeficgciaaDoor
namespace Go.Proofs.YtkgmcjeficgciaaDoor
open Go Go.RowKit

theorem back_word (k : Nat) (hk : k < 18446744073709551616) (r : List (BitVec 8)) : (TapeL.mk (wordL k ++ r) 0).word = (k, ⟨r, 0⟩) := tapeWord_ok rfl (rdW_wordL k r hk)
theorem back_number (k : Nat) (most : Int) (hk : k < 9223372036854775808) (hm : (k : Int) ≤ most) (r : List (BitVec 8)) : (TapeL.mk (wordL k ++ r) 0).number most = ((k : Int), ⟨r, 0⟩) := by
  rw [TapeL.number, back_word k (by omega) r]
  simp only
  rw [if_neg (by omega), if_neg (by omega)]
theorem back_signed (n : Int) (h1 : -9223372036854775808 ≤ n) (h2 : n < 9223372036854775808) (r : List (BitVec 8)) : (TapeL.mk (signedL n ++ r) 0).signed = (n, ⟨r, 0⟩) := by
  rw [TapeL.signed, signedL, back_word (zig n) (zig_lt n h1 h2) r]
  simp only [zag_zig]
theorem back_fixed (m r : List (BitVec 8)) : (TapeL.mk (m ++ r) 0).fixed (m.length : Int) = (m, ⟨r, 0⟩) := by
  rw [fixed_good (by simp) (fun h => absurd rfl h)]
  simp
theorem back_text (m r : List (BitVec 8)) (h : m.length ≤ 300) : (TapeL.mk (textL m ++ r) 0).text 300 = (m, ⟨r, 0⟩) := by
  rw [text_eq, textL, List.append_assoc, back_number m.length 300 (by omega) (by omega)]
  exact back_fixed m r
/-- A signed number read: it stood there as it would be written; or the tape tells an error. -/
theorem signed_cases (t : TapeL) (h0 : t.e = 0) : (∃ v r, t.signed = (v, ⟨r, 0⟩) ∧ t.s = signedL v ++ r ∧ -9223372036854775808 ≤ v ∧ v < 9223372036854775808 ∧ 0 < (signedL v).length) ∨ (t.signed.2.e ≠ 0 ∧ t.signed.2.s = []) := by
  obtain ⟨k, v, r, hv⟩ : ∃ k v r, rdW 10 0 0 t.s = (k, v, r) := ⟨_, _, _, rfl⟩
  by_cases hk : k = 0
  · subst hk
    left
    obtain ⟨h1, h2⟩ := rdW_backL v t.s r hv
    have hb := zag_bd v h2
    have hsg : signedL (zag v) = wordL v := by rw [signedL, zig_zag]
    refine ⟨zag v, r, by rw [TapeL.signed, tapeWord_ok h0 hv], by rw [hsg]; exact h1, hb.1, hb.2, ?_⟩
    rw [hsg, wordL, wordF]
    split <;> simp
  · right
    rw [TapeL.signed, tapeWord_err h0 hv hk]
    exact ⟨by show (k : Int) ≠ 0; omega, rfl⟩
end Go.Proofs.YtkgmcjeficgciaaDoor
namespace Go.Proofs.YtkgmcjeficgciaaDoor
open Go Go.ChangeShapes Go.WideShapes Go.ChangeAt Go.WideMaps Go.WideElems Go.RowKit

/-- One act: its kind, its number and its bytes. -/
structure OpR where
  kind : Int
  n : Int
  part : Part
def OpR.ok (w : World) (x : OpR) : Prop := x.part.ok w ∧ (x.part.a = none → x.part.cap = 0) ∧ -9223372036854775808 ≤ x.n ∧ x.n < 9223372036854775808 ∧ x.part.m.length ≤ 140737488355328
def OpsR (w : World) (a : Option Addr) (l : List OpR) : Prop :=
  l = [] ∨ ∃ b o, a = some ⟨b, o, none⟩ ∧ ∀ i x, l[i]? = some x → w.cell? ⟨b, o + i * 3, none⟩ = some (.int .i64 x.kind) ∧ w.cell? ⟨b, o + i * 3 + 1, none⟩ = some (.int .i64 x.n) ∧ w.cell? ⟨b, o + i * 3 + 2, none⟩ = some x.part.val
theorem OpR.ok.below {w w' : World} {x : OpR} (h : x.ok w) (hB : Below w.heap.size w w') : x.ok w' := ⟨h.1.below hB, h.2⟩
theorem OpsR.below {w w' : World} {a : Option Addr} {l : List OpR} (h : OpsR w a l) (hB : Below w.heap.size w w') : OpsR w' a l := by
  rcases h with h | ⟨b, o, h, h'⟩
  · exact .inl h
  · refine .inr ⟨b, o, h, fun i x hx => ?_⟩
    obtain ⟨h1, h2, h3⟩ := h' i x hx
    exact ⟨(hB.cell (block_lt_of_cell h1)).trans h1, (hB.cell (block_lt_of_cell h2)).trans h2, (hB.cell (block_lt_of_cell h3)).trans h3⟩
theorem bytes_u8p : Tryd.prog.bytesOf 5 = 1 := by kernel_rfl
/-- Bytes that came in as a field. -/
theorem open_field {H : Type} {enc : TypeId × Value → H} {w : World} {v : Value} {y : DataW H × List MemPlace} {n : Nat} (h : DataW.trod enc Tryd.prog w 0 (fun _ => true) true n 42 [v] = some y) (hw : ∀ k ∈ y.1.weights Tryd.prog 42, k ≤ reachBytes) :
    ∃ p : Part, v = p.val ∧ p.ok w ∧ (p.a = none → p.cap = 0) ∧ p.m.length ≤ 140737488355328 := by
  obtain ⟨d, pl⟩ := y
  rcases open_ints Tryd.underlying42 Tryd.underlying5 (by kernel_rfl) h with ⟨hcs, _⟩ | ⟨x', l', c', zs, hcs, _, hl', hm', hz, hx', hcell, hwz⟩
  · simp only [List.cons.injEq, and_true] at hcs
    exact ⟨⟨none, 0, []⟩, hcs, ⟨Nat.le_refl _, Nat.zero_le _, .inl rfl⟩, fun _ => rfl, Nat.zero_le _⟩
  · simp only [List.cons.injEq, and_true] at hcs
    have hz' : zs.length = c' := by simpa using hz
    obtain ⟨m, hm1, hm2⟩ := src_of_ints (w := w) (a := some x') (len := l') (cap := c') (zs := zs) (.inr ⟨x', rfl, hl', hz', hcell, hwz⟩)
    have hml : maxLen ≤ 9223372036854775807 := by unfold maxLen; omega
    refine ⟨⟨some x', c', m⟩, by rw [hcs, Part.val, hm1], ⟨by show m.length ≤ c'; omega, Nat.le_trans hm' hml, hm2⟩, (fun h => by cases h), ?_⟩
    show m.length ≤ _
    simp only [Prod.mk.injEq] at hx'
    have hb := hw (c' * 1) (by
      show c' * 1 ∈ d.weights Tryd.prog 42
      rw [hx'.1]
      simp only [DataW.weights, Tryd.underlying42, bytes_u8p, List.mem_cons]
      left
      simp only [lits, List.length_map, List.length_take, List.length_drop]
      omega)
    simp only [reachBytes] at hb
    omega
theorem open_field_int {H : Type} {enc : TypeId × Value → H} {w : World} {v : Value} {y : DataW H × List MemPlace} {n : Nat} (h : DataW.trod enc Tryd.prog w 0 (fun _ => true) true n 3 [v] = some y) :
    ∃ k : Int, v = .int .i64 k ∧ -9223372036854775808 ≤ k ∧ k < 9223372036854775808 := by
  obtain ⟨k, hk, _, hwf⟩ := DataW.trod_int Tryd.underlying3 h
  simp only [List.cons.injEq, and_true] at hk
  have hmin : IntKind.i64.min = -9223372036854775808 := rfl
  have hmax : IntKind.i64.max = 9223372036854775807 := rfl
  simp only [Lit.wf, Bool.and_eq_true, decide_eq_true_eq, hmin, hmax] at hwf
  exact ⟨k, hk, by omega, by omega⟩
end Go.Proofs.YtkgmcjeficgciaaDoor
namespace Go.Proofs.YtkgmcjeficgciaaDoor
open Go Go.RowKit

def posN (n : Int) : Nat := (n % 9223372036854775808).toNat
theorem posN_lt (n : Int) : posN n < 9223372036854775808 := by
  unfold posN
  omega
theorem bits_mask (n : Int) (h1 : -9223372036854775808 ≤ n) (h2 : n < 9223372036854775808) : bits .and .i64 n 9223372036854775807 = ((posN n : Nat) : Int) := by
  show IntKind.i64.wrap ((BitVec.ofInt 64 n &&& BitVec.ofInt 64 9223372036854775807).toNat : Int) = _
  have e1 : BitVec.ofInt 64 9223372036854775807 = BitVec.ofNat 64 (2 ^ 63 - 1) := by decide +kernel
  rw [e1, BitVec.toNat_and, BitVec.toNat_ofNat, Nat.mod_eq_of_lt (by decide : 2 ^ 63 - 1 < 2 ^ 64), Nat.and_two_pow_sub_one_eq_mod]
  have e2 : (BitVec.ofInt 64 n).toNat % 2 ^ 63 = posN n := by
    rw [BitVec.toNat_ofInt]
    unfold posN
    omega
  rw [e2]
  have := posN_lt n
  exact IntWalk.i64_in _ (by omega)
/-- What an act writes. -/
def encR (x : OpR) : List (BitVec 8) := wordL (posN x.n) ++ (signedL x.n ++ (textL x.part.m ++ x.part.m))
def encL (l : List OpR) : List (BitVec 8) := l.flatMap encR
theorem encL_step (l : List OpR) (t : Nat) (x : OpR) (h : l[t]? = some x) : encL (l.take (t + 1)) = encL (l.take t) ++ encR x := by
  have ht : t < l.length := (List.getElem?_eq_some_iff.1 h).1
  have e : l.take (t + 1) = l.take t ++ [x] := by
    rw [List.take_succ_eq_append_getElem ht]
    rw [List.getElem?_eq_getElem ht] at h
    simp only [Option.some.injEq] at h
    rw [h]
  rw [e, encL, encL, List.flatMap_append]
  simp
theorem encL_drop (l : List OpR) (t : Nat) (x : OpR) (h : l[t]? = some x) : encL (l.drop t) = encR x ++ encL (l.drop (t + 1)) := by
  have ht : t < l.length := (List.getElem?_eq_some_iff.1 h).1
  rw [List.getElem?_eq_getElem ht] at h
  simp only [Option.some.injEq] at h
  rw [List.drop_eq_getElem_cons ht, h, encL, encL]
  simp
theorem encR_length (x : OpR) : (encR x).length ≤ 30 + 2 * x.part.m.length := by
  have h1 := wordL_length (posN x.n)
  have h2 : (signedL x.n).length ≤ 10 := wordL_length _
  have h3 := wordL_length x.part.m.length
  simp only [encR, textL, List.length_append]
  omega
theorem own_ne2 {base b : Nat} {w : World} {v : Value} {xs : List Value} {c : Array Value} {t : TypeId} {fr : Nat × Nat} (h : Own w base 5 v xs) (hb : w.heap[b]? = some (.cells c t fr)) (ht : t ≠ 5) : v.ownBlock ≠ some b := by
  intro he
  rcases h.2 with ⟨hv, _⟩ | ⟨g, cap, cur, hv, _, hrow, _⟩
  · rw [hv] at he
    cases he
  · rw [hv] at he
    injection he with he
    have : g = b := he
    subst this
    rw [hb] at hrow
    injection hrow with hrow
    injection hrow with _ e2
    exact ht e2
theorem rd_row {base b : Nat} {w : World} {t : TapeL} (h : RdAt base w b t) : ∃ c, w.heap[b]? = some (.cells c 76 (0, 0)) := by
  obtain ⟨a, n, c, hb, _⟩ := h
  exact ⟨_, hb⟩
theorem pen_rd_ne {X : Nat → Prop} {base b q : Nat} {w : World} {t : TapeL} {l : List (BitVec 8)} (h : RdAt base w b t) (hp : PenAt X w q l) : q ≠ b := by
  intro e
  subst e
  obtain ⟨c, hb⟩ := rd_row h
  obtain ⟨v, hq, _⟩ := hp
  rw [hb] at hq
  injection hq with hq
  injection hq with _ e2
  exact absurd e2 (by decide)
/-- The pen stays as it is while a reader's block is written. -/
theorem PenAt.aside {X : Nat → Prop} {base b q : Nat} {w w' : World} {t : TapeL} {l : List (BitVec 8)} (hp : PenAt X w q l) (h : RdAt base w b t) (hg : w.grownBy w' (some b)) : PenAt X w' q l := by
  have hne := pen_rd_ne h hp
  obtain ⟨c, hb⟩ := rd_row h
  obtain ⟨v, hq, ho, hx⟩ := hp
  refine ⟨v, (hg.block q (Array.getElem?_eq_some_iff.1 hq).1 (by simpa using hne)).trans hq, ho.kept hg ?_, hx⟩
  exact .inr (own_ne2 ho hb (by decide))
/-- The reader stays as it is while a pen writes that keeps what lies below the reader's bound. -/
theorem RdAt.pen {X : Nat → Prop} {base b q : Nat} {w w' : World} {t : TapeL} {l : List (BitVec 8)} (h : RdAt base w b t) (hp : PenAt X w q l) (hK : PKept X q w w') (hX : ∀ k < base, X k) : RdAt base w' b t := by
  have hne := pen_rd_ne h hp
  obtain ⟨v, hq, ho⟩ := hp
  obtain ⟨a, n, c, h1, h2, h3, h4, h5, h6, h7⟩ := h
  refine ⟨a, n, c, hK.row h1 (by decide) hne.symm, h2, h3, h4, h5, ?_, h7⟩
  rcases h6 with h6 | ⟨ab, off, k1, k2, k3, k4⟩
  · exact .inl h6
  · by_cases h0 : t.s.length = 0
    · exact .inl h0
    · have hne2 : ab ≠ q := by
        intro e
        have hc := k4 0 (by omega)
        rw [e, cell_of_row _ _ _ _ _ _ hq] at hc
        match off, hc, ho with
        | 0, hc, ho =>
          obtain ⟨a', c', hv⟩ := ho.1.form
          rw [hv] at hc
          simp [B] at hc
        | k + 1, hc, _ => simp at hc
      refine .inr ⟨ab, off, k1, k2, k3, fun i hi => ?_⟩
      have hc := k4 i hi
      exact cell_of_heap hc (hK.2.2.2.2.1 ab (hX ab k2) hne2 (block_lt_of_cell hc))
def rdLeft (sb : Nat) (w : World) : Nat := lenOf ((w.cell? ⟨sb, 0, none⟩).getD undef)
theorem rdLeft_eq {base b : Nat} {w : World} {t : TapeL} (h : RdAt base w b t) : rdLeft b w = t.s.length := by
  obtain ⟨a, n, c, h1, h2, _⟩ := h
  rw [rdLeft, (rd_cells h1).1, ← h2]
  rfl
end Go.Proofs.YtkgmcjeficgciaaDoor
