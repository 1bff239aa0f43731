/-
  The contracts of the reference's Name and Right.
  The reference's words and numbers, plain; what it parses is what Parse parses.
  The contract of the reference's Split at a blank: the words of a text.
  The contract of the reference's Number: a whole number's text, as it is told.
-/
import Derived.Test.YtbfioekbahcicaaEventPure
import Derived.Test.YtbfioekbahcicaaRefPen
import Derived.Test.YtbfioekbahcicaaEventAll
namespace Go.Proofs.Ytbfioekbahcicaa
open Go Go.RowKit

def NameRel (w : World) (s : List (BitVec 8)) (v _c : Value) (wr : World) : Prop := ∃ k : Nat, k ≤ s.length ∧ v = .int .i64 (k : Int) ∧ wr = w ∧ (s.take k).all (fun c => nameC c.toNat) = true
set_option maxRecDepth 100000 in
set_option maxHeartbeats 1000000 in
theorem erName_any (w : World) (s : List (BitVec 8)) (hl : s.length ≤ 1000000) :
    Calls Try.prog 27 #[Sv s] w fun e w' => e = .returned (.bool (nameB s)) ∧ w' = w := by
  obtain ⟨n, hn⟩ : ∃ n, n = s.length := ⟨_, rfl⟩
  have lk : ∀ w ty, (Builtin.len_ #[9] ty #[Sv s]).run Try.prog w = .ok (.int .i64 (n : Int)) w := fun w ty => by rw [run_len_Sv w ty s, hn]
  obtain ⟨r, hr⟩ : ∃ r, r = nameB s := ⟨_, rfl⟩
  rw [← hr]
  have HN := Lib.hid (And.intro hn hr)
  have hn6 : n ≤ 1000000 := by omega
  clear hn hr hl
  go_enter Try.func27, Try.ntmps27
  go_wp2_with (fail)
  go_loopw [3, 4] (NameRel w s) (fun v _ _ => n - (intOf v).toNat)
  case atStart => exact ⟨0, by omega, rfl, rfl, rfl⟩
  case round =>
    obtain ⟨k, hk, rfl, rfl, hall⟩ := hrel
    rw [← HN.out.1] at hk
    by_cases hlt : k < n
    · have hlt' : (k : Int) < (n : Int) := by omega
      obtain ⟨x, hx⟩ : ∃ x, x = (gl s k).toNat := ⟨_, rfl⟩
      have hx256 : x < 256 := by rw [hx]; exact (gl s k).isLt
      have hix : ∀ w, (Instr.index 9 (Sv s) (.int .i64 (k : Int))).run Try.prog w = .ok (.int .u8 (x : Int)) w := fun w => by
        rw [run_index_Sv w s k (by rw [← HN.out.1]; exact hlt), B, hx]
      by_cases hgood : nameC x = true
      · have HZ : Hid (NameRel wr s (.int .i64 ((k : Int) + 1)) (.int .u8 (x : Int)) wr) := by
          refine ⟨k + 1, by rw [← HN.out.1]; omega, by go_num, rfl, ?_⟩
          rw [nameB_step s k (by rw [← HN.out.1]; exact hlt), hall, ← hx, hgood]
          rfl
        have HL := Lib.hid hlt
        simp only [nameC, decide_eq_true_eq] at hgood
        have hcase : (97 ≤ x ∧ x ≤ 122) ∨ (x < 97 ∧ 48 ≤ x ∧ x ≤ 57) ∨ (x < 97 ∧ x < 48 ∧ x = 45) := by omega
        clear hall hx hgood hlt
        rcases hcase with ⟨h1, h2⟩ | ⟨h1, h2, h3⟩ | ⟨h1, h2, h3⟩
        · have e1 : ¬ (x : Int) < 97 := by omega
          have e2 : ¬ (122 : Int) < (x : Int) := by omega
          go_wp2_with (fail)
          exact ⟨HZ.out, by have := HL.out; simp [intOf]; omega⟩
        · have e1 : (x : Int) < 97 := by omega
          have e2 : ¬ (x : Int) < 48 := by omega
          have e3 : ¬ (57 : Int) < (x : Int) := by omega
          go_wp2_with (fail)
          exact ⟨HZ.out, by have := HL.out; simp [intOf]; omega⟩
        · have e1 : (x : Int) < 97 := by omega
          have e2 : (x : Int) < 48 := by omega
          have e4 : ((x : Int) != 45) = false := by rw [h3]; rfl
          clear h3
          go_wp2_with (fail)
          exact ⟨HZ.out, by have := HL.out; simp [intOf]; omega⟩
      · have HB : Hid (r = false) := by
          rw [HN.out.2]
          exact nameB_bad s k (by rw [← HN.out.1]; exact hlt) (by rw [← hx]; simpa using hgood)
        simp only [nameC, decide_eq_true_eq] at hgood
        have e4 : ((x : Int) != 45) = true := by simp; omega
        have hcase : (122 < x) ∨ (x < 97 ∧ x < 48) ∨ (x < 97 ∧ 57 < x) := by omega
        clear hall hx hgood hlt
        obtain rfl : r = false := HB.out
        rcases hcase with h1 | ⟨h1, h2⟩ | ⟨h1, h2⟩
        · have e1 : ¬ (x : Int) < 97 := by omega
          have e2 : (122 : Int) < (x : Int) := by omega
          have e5 : ¬ (x : Int) < 48 := by omega
          have e6 : (57 : Int) < (x : Int) := by omega
          go_wp2_with (fail)
          go_ret
          exact ⟨rfl, rfl⟩
        · have e1 : (x : Int) < 97 := by omega
          have e2 : (x : Int) < 48 := by omega
          go_wp2_with (fail)
          go_ret
          exact ⟨rfl, rfl⟩
        · have e1 : (x : Int) < 97 := by omega
          have e2 : ¬ (x : Int) < 48 := by omega
          have e3 : (57 : Int) < (x : Int) := by omega
          go_wp2_with (fail)
          go_ret
          exact ⟨rfl, rfl⟩
    · obtain rfl : k = n := by omega
      rw [HN.out.1, List.take_length] at hall
      have hr2 : r = decide (1 ≤ k ∧ k ≤ 16) := by rw [HN.out.2, nameB, hall, ← HN.out.1]; rfl
      by_cases h1 : 1 ≤ k
      · have h1' : (1 : Int) ≤ (k : Int) := by omega
        by_cases h16 : k ≤ 16
        · have h16' : (k : Int) ≤ 16 := by omega
          obtain rfl : r = true := by rw [hr2]; exact decide_eq_true ⟨h1, h16⟩
          clear hall hr2 hlt
          go_wp2_with (fail)
          go_ret
          exact ⟨rfl, rfl⟩
        · have h16' : ¬ (k : Int) ≤ 16 := by omega
          obtain rfl : r = false := by rw [hr2]; exact decide_eq_false (fun h => h16 h.2)
          clear hall hr2 hlt
          go_wp2_with (fail)
          go_ret
          exact ⟨rfl, rfl⟩
      · have h1' : ¬ (1 : Int) ≤ (k : Int) := by omega
        obtain rfl : r = false := by rw [hr2]; exact decide_eq_false (fun h => h1 h.1)
        clear hall hr2 hlt
        go_wp2_with (fail)
        go_ret
        exact ⟨rfl, rfl⟩
end Go.Proofs.Ytbfioekbahcicaa
namespace Go.Proofs.Ytbfioekbahcicaa
open Go Go.RowKit

def splitStep (p : List (List (BitVec 8)) × List (BitVec 8)) (c : BitVec 8) : List (List (BitVec 8)) × List (BitVec 8) := if c = 32 then (p.1 ++ [p.2], []) else (p.1, p.2 ++ [c])
def splitS (s : List (BitVec 8)) : List (List (BitVec 8)) × List (BitVec 8) := s.foldl splitStep ([], [])
def splitL (s : List (BitVec 8)) : List (List (BitVec 8)) := (splitS s).1 ++ [(splitS s).2]
theorem splitS_next {s : List (BitVec 8)} {k : Nat} {c : BitVec 8} (h : s[k]? = some c) : splitS (s.take (k + 1)) = splitStep (splitS (s.take k)) c := by
  have hk : k < s.length := (List.getElem?_eq_some_iff.1 h).1
  have e : s.take (k + 1) = s.take k ++ [c] := by
    rw [List.take_succ_eq_append_getElem hk]
    rw [List.getElem?_eq_getElem hk] at h
    simp only [Option.some.injEq] at h
    rw [h]
  rw [e, splitS, splitS, List.foldl_append]
  rfl
/-- Words put together with blanks between. -/
def joinL : List (List (BitVec 8)) → List (BitVec 8)
  | [] => []
  | [a] => a
  | a :: b :: r => a ++ bBlank ++ joinL (b :: r)
theorem joinL_snoc : ∀ (o : List (List (BitVec 8))) (w : List (BitVec 8)) (x : List (BitVec 8)), joinL (o ++ [w ++ x]) = joinL (o ++ [w]) ++ x
  | [], w, x => rfl
  | [a], w, x => by simp [joinL]
  | a :: b :: r, w, x => by
    have ih := joinL_snoc (b :: r) w x
    simp only [List.cons_append, joinL] at ih ⊢
    rw [ih]
    simp [List.append_assoc]
theorem joinL_push : ∀ (o : List (List (BitVec 8))) (w : List (BitVec 8)), joinL (o ++ [w] ++ [[]]) = joinL (o ++ [w]) ++ bBlank
  | [], w => by simp [joinL]
  | [a], w => by simp [joinL]
  | a :: b :: r, w => by
    have ih := joinL_push (b :: r) w
    simp only [List.cons_append, joinL] at ih ⊢
    rw [ih]
    simp [List.append_assoc]
theorem join_split (s : List (BitVec 8)) : joinL (splitL s) = s := by
  have key : ∀ k, k ≤ s.length → joinL ((splitS (s.take k)).1 ++ [(splitS (s.take k)).2]) = s.take k := by
    intro k
    induction k with
    | zero => intro _; rfl
    | succ k ih =>
      intro hk
      have hc : s[k]? = some s[k] := List.getElem?_eq_getElem (by omega)
      have e : s.take (k + 1) = s.take k ++ [s[k]] := List.take_succ_eq_append_getElem (by omega)
      rw [splitS_next hc, splitStep]
      split
      · rename_i h32
        rw [joinL_push, ih (by omega), e, h32]
        rfl
      · rw [joinL_snoc, ih (by omega), e]
  have := key s.length (Nat.le_refl _)
  rw [List.take_length] at this
  exact this
theorem splitS_word (o : List (List (BitVec 8))) (a w : List (BitVec 8)) (h : ∀ c ∈ a, c ≠ 32) : a.foldl splitStep (o, w) = (o, w ++ a) := by
  induction a generalizing w with
  | nil => simp
  | cons c a ih =>
    rw [List.foldl_cons, splitStep, if_neg (h c (by simp)), ih _ fun d hd => h d (by simp [hd])]
    simp
theorem splitL_two (a b : List (BitVec 8)) (ha : ∀ c ∈ a, c ≠ 32) (hb : ∀ c ∈ b, c ≠ 32) : splitL (a ++ bBlank ++ b) = [a, b] := by
  have e : splitS (a ++ bBlank ++ b) = ([a], b) := by
    rw [splitS, List.foldl_append, List.foldl_append, splitS_word [] a [] ha, bBlank, List.foldl_cons, List.foldl_nil, splitStep, if_pos rfl, splitS_word _ b [] hb]
    simp
  rw [splitL, e]
  rfl
theorem splitL_four (a b c d : List (BitVec 8)) (ha : ∀ x ∈ a, x ≠ 32) (hb : ∀ x ∈ b, x ≠ 32) (hc : ∀ x ∈ c, x ≠ 32) (hd : ∀ x ∈ d, x ≠ 32) : splitL (a ++ bBlank ++ b ++ bBlank ++ c ++ bBlank ++ d) = [a, b, c, d] := by
  have step : ∀ (o : List (List (BitVec 8))) (w : List (BitVec 8)), bBlank.foldl splitStep (o, w) = (o ++ [w], []) := fun o w => by rw [bBlank, List.foldl_cons, List.foldl_nil, splitStep, if_pos rfl]
  have e : splitS (a ++ bBlank ++ b ++ bBlank ++ c ++ bBlank ++ d) = ([a, b, c], d) := by
    rw [splitS]
    simp only [List.foldl_append]
    rw [splitS_word [] a [] ha, step [] ([] ++ a), splitS_word _ b [] hb, step _ ([] ++ b), splitS_word _ c [] hc, step _ ([] ++ c), splitS_word _ d [] hd]
    simp
  rw [splitL, e]
  rfl
/-- A number's text read, as the reference reads it. -/
def digitC (c : BitVec 8) : Bool := decide (48 ≤ c.toNat ∧ c.toNat ≤ 57)
def valL (l : List (BitVec 8)) : Nat := l.foldl (fun a c => 10 * a + (c.toNat - 48)) 0
def plainN (l : List (BitVec 8)) : Bool := !(decide (l = []) || (decide (18 < l.length) || (decide (l.head? = some 48) && !decide (l = [48])))) && l.all digitC
def negN (l : List (BitVec 8)) : Bool := decide (1 < l.length ∧ l.head? = some 45)
def refNum (l : List (BitVec 8)) : Int × Bool :=
  if negN l = true then (if l.tail = [48] then (0, false) else if plainN l.tail = true then (-(valL l.tail : Int), true) else (0, false))
  else if plainN l = true then ((valL l : Int), true) else (0, false)
theorem valL_snoc (l : List (BitVec 8)) (c : BitVec 8) : valL (l ++ [c]) = 10 * valL l + (c.toNat - 48) := by rw [valL, valL, List.foldl_append]; rfl
theorem bv_digit (c : BitVec 8) (h : digitC c = true) : BitVec.ofNat 8 (UInt8.ofNat (48 + (c.toNat - 48))).toNat = c := by
  simp only [digitC, decide_eq_true_eq] at h
  have : (UInt8.ofNat (48 + (c.toNat - 48))).toNat = c.toNat := by
    rw [UInt8.toNat_ofNat']
    have := c.isLt
    rw [Nat.mod_eq_of_lt (by omega)]
    omega
  rw [this]
  simp
theorem digits_val : ∀ (n : Nat) (l : List (BitVec 8)), l.length = n → 0 < n → l.all digitC = true → (l.head? = some 48 → l = [48]) → bvL (Lib.decDigits (valL l)) = l ∧ (l ≠ [48] → 0 < valL l) := by
  intro n
  induction n with
  | zero => intro l _ h; omega
  | succ n ih =>
    intro l hl _ hd hh
    have hne : l ≠ [] := by intro e; rw [e] at hl; simp at hl
    obtain ⟨a, c, rfl⟩ : ∃ a c, l = a ++ [c] := ⟨l.dropLast, l.getLast hne, (List.dropLast_concat_getLast hne).symm⟩
    rw [List.all_append, Bool.and_eq_true] at hd
    have hc : digitC c = true := by simpa using hd.2
    have hcb := hc
    simp only [digitC, decide_eq_true_eq] at hcb
    rw [valL_snoc]
    by_cases ha : a = []
    · subst ha
      have hv : 10 * valL [] + (c.toNat - 48) = c.toNat - 48 := by simp [valL]
      rw [hv, Lib.decDigits, dif_pos (by omega)]
      refine ⟨?_, fun hn => ?_⟩
      · simp only [bvL, List.map_cons, List.map_nil, List.nil_append]
        rw [bv_digit c hc]
      · have : c.toNat ≠ 48 := fun e => hn (by
          have : c = 48 := BitVec.eq_of_toNat_eq (by rw [e]; rfl)
          rw [this]
          rfl)
        omega
    · have hal : a.length = n := by simp at hl; omega
      have hhead : a.head? = (a ++ [c]).head? := by
        cases a with
        | nil => exact absurd rfl ha
        | cons x r => rfl
      have h48 : a.head? ≠ some 48 := fun e => by
        have := hh (by rw [← hhead]; exact e)
        have hlen : (a ++ [c]).length = 1 := by rw [this]; rfl
        have h0 : 0 < a.length := List.length_pos_iff.2 ha
        rw [List.length_append, List.length_singleton] at hlen
        omega
      obtain ⟨i1, i2⟩ := ih a hal (by have := List.length_pos_iff.2 ha; omega) hd.1 (fun e => absurd e h48)
      have hpos : 0 < valL a := i2 (fun e => h48 (by rw [e]; rfl))
      refine ⟨?_, fun _ => by omega⟩
      rw [Lib.decDigits, dif_neg (by omega), bvL_append, show (10 * valL a + (c.toNat - 48)) / 10 = valL a by omega, show (10 * valL a + (c.toNat - 48)) % 10 = c.toNat - 48 by omega, i1]
      congr 1
      simp only [bvL, List.map_cons, List.map_nil]
      rw [bv_digit c hc]
theorem plainN_spec {l : List (BitVec 8)} (h : plainN l = true) : l ≠ [] ∧ l.length ≤ 18 ∧ (l.head? = some 48 → l = [48]) ∧ l.all digitC = true := by
  simp only [plainN, Bool.and_eq_true, Bool.not_eq_true', Bool.or_eq_false_iff, Bool.and_eq_false_iff, decide_eq_false_iff_not, Bool.not_eq_false', decide_eq_true_eq] at h
  refine ⟨h.1.1, by omega, fun e => ?_, h.2⟩
  rcases h.1.2.2 with h1 | h1
  · exact absurd e h1
  · exact h1
theorem refNum_sound {l : List (BitVec 8)} {n : Int} (h : refNum l = (n, true)) : l = itoaL n := by
  unfold refNum at h
  split at h
  · rename_i hneg
    simp only [negN, decide_eq_true_eq] at hneg
    obtain ⟨d, rfl⟩ : ∃ d, l = 45 :: d := by
      cases l with
      | nil => simp at hneg
      | cons c r =>
        have : c = 45 := by simpa using hneg.2
        exact ⟨r, by rw [this]⟩
    split at h
    · simp at h
    · rename_i h48
      split at h
      · rename_i hp
        obtain ⟨p1, p2, p3, p4⟩ := plainN_spec hp
        simp only [List.tail_cons] at p1 p2 p3 p4 h48 h
        obtain ⟨q1, q2⟩ := digits_val _ d rfl (List.length_pos_iff.2 p1) p4 p3
        have hpos := q2 h48
        simp only [Prod.mk.injEq, and_true] at h
        rw [← h, itoaL_bv, Lib.itoa, if_pos (by omega)]
        have e : (-(valL d : Int)).natAbs = valL d := by omega
        rw [e]
        show 45 :: d = bvL (45 :: Lib.decDigits (valL d))
        rw [show bvL (45 :: Lib.decDigits (valL d)) = 45 :: bvL (Lib.decDigits (valL d)) from rfl, q1]
      · simp at h
  · split at h
    · rename_i hp
      obtain ⟨p1, p2, p3, p4⟩ := plainN_spec hp
      obtain ⟨q1, _⟩ := digits_val _ l rfl (List.length_pos_iff.2 p1) p4 p3
      simp only [Prod.mk.injEq, and_true] at h
      rw [← h, itoaL_bv, Lib.itoa, if_neg (by omega)]
      simp only [Int.toNat_natCast]
      exact q1.symm
    · simp at h
theorem digits_plain (u : Nat) (hu : u < 10 ^ 18) : plainN (bvL (Lib.decDigits u)) = true ∧ valL (bvL (Lib.decDigits u)) = u := by
  obtain ⟨v1, v2, v3, v4⟩ := decDigits_val u
  have hl := digits_len 17 u hu
  have hall : (bvL (Lib.decDigits u)).all digitC = true := by
    rw [List.all_eq_true]
    intro c hc
    obtain ⟨x, hx, rfl⟩ := List.mem_map.1 hc
    have := v2 x hx
    have hx2 := x.toNat_lt
    simp only [digitC, decide_eq_true_eq, BitVec.toNat_ofNat]
    omega
  have hval : valL (bvL (Lib.decDigits u)) = u := by
    rw [valL, bvL, List.foldl_map]
    have e : ∀ (l : List UInt8) (a : Nat), l.foldl (fun a c => 10 * a + ((BitVec.ofNat 8 c.toNat).toNat - 48)) a = l.foldl (fun a c => 10 * a + (c.toNat - 48)) a := by
      intro l
      induction l with
      | nil => intro a; rfl
      | cons c l ih =>
        intro a
        have := c.toNat_lt
        rw [List.foldl_cons, List.foldl_cons, ih]
        congr 2
        simp
    rw [e]
    exact v1
  refine ⟨?_, hval⟩
  simp only [plainN, Bool.and_eq_true, hall, and_true, Bool.not_eq_true', Bool.or_eq_false_iff, Bool.and_eq_false_iff, decide_eq_false_iff_not, Bool.not_eq_false', decide_eq_true_eq]
  refine ⟨fun e => ?_, by rw [bvL_length]; omega, ?_⟩
  · have : (bvL (Lib.decDigits u)).length = 0 := by rw [e]; rfl
    rw [bvL_length] at this
    omega
  · by_cases h10 : 10 ≤ u
    · left
      obtain ⟨c, r, hc, hn⟩ := v4 h10
      rw [hc]
      intro e
      simp only [bvL, List.map_cons, List.head?_cons, Option.some.injEq] at e
      have := congrArg BitVec.toNat e
      have hcl := c.toNat_lt
      simp at this
      omega
    · by_cases h0 : u = 0
      · right
        rw [h0, Lib.decDigits, dif_pos (by omega)]
        rfl
      · left
        rw [Lib.decDigits, dif_pos (by omega)]
        intro e
        simp only [bvL, List.map_cons, List.head?_cons, Option.some.injEq] at e
        have := congrArg BitVec.toNat e
        rw [UInt8.toNat_ofNat'] at this
        simp at this
        omega
theorem refNum_itoa (n : Int) (h : -1099511627776 ≤ n ∧ n ≤ 1099511627776) : refNum (itoaL n) = (n, true) := by
  rw [itoaL_bv, Lib.itoa]
  split
  · rename_i hn
    obtain ⟨h1, h2⟩ := digits_plain n.natAbs (by omega)
    have hd := digits_pos n.natAbs
    have e : bvL (45 :: Lib.decDigits n.natAbs) = 45 :: bvL (Lib.decDigits n.natAbs) := rfl
    rw [e, refNum, if_pos (by simp only [negN, decide_eq_true_eq, List.length_cons, bvL_length, List.head?_cons, and_true]; omega)]
    rw [if_neg (show ¬ (45 :: bvL (Lib.decDigits n.natAbs)).tail = [48] from fun e2 => by
      rw [List.tail_cons] at e2
      rw [e2] at h2
      have : valL [48] = 0 := by decide
      omega), if_pos (show plainN (45 :: bvL (Lib.decDigits n.natAbs)).tail = true from h1)]
    show (-(valL (bvL (Lib.decDigits n.natAbs)) : Int), true) = (n, true)
    rw [h2]
    simp only [Prod.mk.injEq, and_true]
    omega
  · rename_i hn
    obtain ⟨h1, h2⟩ := digits_plain n.toNat (by omega)
    have hneg : negN (bvL (Lib.decDigits n.toNat)) = false := by
      simp only [negN, decide_eq_false_iff_not]
      rintro ⟨_, e⟩
      obtain ⟨p1, p2, p3, p4⟩ := plainN_spec h1
      cases hl : bvL (Lib.decDigits n.toNat) with
      | nil => exact p1 hl
      | cons c r =>
        rw [hl] at e p4
        simp only [List.head?_cons, Option.some.injEq] at e
        rw [e] at p4
        revert p4
        simp [digitC]
    rw [refNum, hneg, if_neg (by decide), if_pos h1, h2]
    simp only [Prod.mk.injEq, and_true]
    omega
/-- What the reference parses. -/
def refParseL (s : List (BitVec 8)) : ItemL × Bool :=
  match splitL s with
  | [a, b] => if a = wMark ∧ (refNum b).2 = true ∧ (ItemL.mk 2 [] (refNum b).1 0).rightB = true then (⟨2, [], (refNum b).1, 0⟩, true) else (zeroI, false)
  | [a, b, c, d] => if a = wEvent ∧ (refNum c).2 = true ∧ (refNum d).2 = true ∧ (ItemL.mk 1 b (refNum c).1 (refNum d).1).rightB = true then (⟨1, b, (refNum c).1, (refNum d).1⟩, true) else (zeroI, false)
  | _ => (zeroI, false)
theorem noBlank_bv {l : List (BitVec 8)} (h : noBlank (lvB l)) : ∀ c ∈ l, c ≠ 32 := by
  intro c hc e
  exact h (UInt8.ofNat c.toNat) (List.mem_map.2 ⟨c, hc, rfl⟩) (by rw [e]; rfl)
theorem itoaL_noBlank (n : Int) : ∀ c ∈ itoaL n, c ≠ 32 := noBlank_bv (by rw [itoaL_bv, lvB_bvL]; exact itoa_noBlank n)
theorem refParse_text {x : ItemL} (h : x.rightB = true) : refParseL x.text = (x, true) := by
  obtain ⟨kind, key, time, value⟩ := x
  obtain ⟨ht, ⟨rfl, rfl, rfl⟩ | ⟨rfl, hn, h1, h16, hv⟩⟩ := right_cases h
  · have e : (ItemL.mk 2 [] time 0).text = wMark ++ bBlank ++ itoaL time := by rw [ItemL.text, if_pos rfl]; rfl
    rw [e, refParseL, splitL_two _ _ (by decide) (itoaL_noBlank _)]
    simp only [refNum_itoa time (by omega)]
    rw [if_pos (by simp [h])]
  · have e : (ItemL.mk 1 key time value).text = wEvent ++ bBlank ++ key ++ bBlank ++ itoaL time ++ bBlank ++ itoaL value := by rw [ItemL.text, if_neg (show ¬ (1 : Int) = 2 by decide)]; rfl
    rw [e, refParseL, splitL_four _ _ _ _ (by decide) (noBlank_bv (name_noBlank hn)) (itoaL_noBlank _) (itoaL_noBlank _)]
    simp only [refNum_itoa time (by omega), refNum_itoa value (by omega)]
    rw [if_pos (by simp [h])]
theorem refParse_eq (s : List (BitVec 8)) : refParseL s = parseL s := by
  have hp : ∀ x : ItemL, x.rightB = true → x.text = s → refParseL s = parseL s := fun x hx hs => by rw [← hs, refParse_text hx, parseL_text hx]
  have hno : refParseL s = (zeroI, false) → refParseL s = parseL s := fun h => by
    rw [h, parseL]
    by_cases hc : (itemW (wordsOf s)).rightB = true ∧ (itemW (wordsOf s)).text = s
    · have h2 := refParse_text hc.1
      rw [hc.2, h] at h2
      simp at h2
    · rw [if_neg hc]
  have hj := join_split s
  rcases hsp : splitL s with _ | ⟨a, _ | ⟨b, _ | ⟨c, _ | ⟨d, _ | ⟨e, r⟩⟩⟩⟩⟩
  · exact hno (by rw [refParseL, hsp])
  · exact hno (by rw [refParseL, hsp])
  · by_cases hc : a = wMark ∧ (refNum b).2 = true ∧ (ItemL.mk 2 [] (refNum b).1 0).rightB = true
    · obtain ⟨rfl, h2, h3⟩ := hc
      have hb := refNum_sound (l := b) (n := (refNum b).1) (by rw [← h2])
      refine hp _ h3 ?_
      rw [← hj, hsp]
      simp only [joinL]
      rw [ItemL.text, if_pos rfl]
      show bMark ++ itoaL (refNum b).1 = wMark ++ bBlank ++ b
      rw [← hb]
      rfl
    · exact hno (by rw [refParseL, hsp]; simp only; rw [if_neg hc])
  · exact hno (by rw [refParseL, hsp])
  · by_cases hc : a = wEvent ∧ (refNum c).2 = true ∧ (refNum d).2 = true ∧ (ItemL.mk 1 b (refNum c).1 (refNum d).1).rightB = true
    · obtain ⟨rfl, h2, h3, h4⟩ := hc
      have hcs := refNum_sound (l := c) (n := (refNum c).1) (by rw [← h2])
      have hds := refNum_sound (l := d) (n := (refNum d).1) (by rw [← h3])
      refine hp _ h4 ?_
      rw [← hj, hsp]
      simp only [joinL]
      rw [ItemL.text, if_neg (show ¬ (1 : Int) = 2 by decide)]
      show bEvent ++ b ++ bBlank ++ itoaL (refNum c).1 ++ bBlank ++ itoaL (refNum d).1 = _
      rw [← hcs, ← hds]
      simp only [List.append_assoc]
      rfl
    · exact hno (by rw [refParseL, hsp]; simp only; rw [if_neg hc])
  · exact hno (by rw [refParseL, hsp])
end Go.Proofs.Ytbfioekbahcicaa
namespace Go.Proofs.Ytbfioekbahcicaa
open Go Go.RowKit

theorem infoStr : (Try.prog.info? 9).map (fun i => (i.zero, i.size, i.bytes)) = some (some (.string ⟨#[]⟩), 1, 16) := by kernel_rfl
theorem wpList_slice1_S {ops : Array Oper} {rest : List Oper} {o : Oper} {a : Act} {w : World} {Q : Exit → Act → World → Prop} (hg : o.guard = none) (y : Operand) (ho : o.op = .buildSlice 36 1 #[(0, y)]) (x : List (BitVec 8)) (hy : a.eval y = Sv x)
    (h : wpList Try.prog ops Q rest (a.put o.dst (.slice (some ⟨w.heap.size, 0, none⟩) 1 1)) (w.alloc (.cells #[Sv x] 9))) : wpList Try.prog ops Q (o :: rest) a w := by
  have hF : Instr.fill (fun i => some (i * 1, 1)) ((Array.range (1 * 1)).map ((Value.string ⟨#[]⟩).cells[· % (Value.string ⟨#[]⟩).cells.size]!)) [(0, Sv x)] = some #[Sv x] := by kernel_rfl
  obtain ⟨i, hi, hz0, hz1, hz2⟩ := info_parts infoStr
  refine wpList_buildSlice hg 36 9 1 _ ho #[Sv x] i _ Try.underlying36 hi hz0 (by rw [hz1]; decide) (by rw [hz1]; decide) ?_ h
  rw [hz1]
  simp only [List.map_toArray, List.map_cons, List.map_nil, hy]
  exact hF
theorem run_mid_Sv (w : World) (m : List (BitVec 8)) (l h : Nat) (h1 : l ≤ h) (h2 : h ≤ m.length) : (Instr.slice 9 (Sv m) (some (.int .i64 (l : Int))) (some (.int .i64 (h : Int))) none).run Try.prog w = .ok (Sv ((m.drop l).take (h - l))) w := by
  have hs := strOf_size m
  have e : (strOf m).extract l h = strOf ((m.drop l).take (h - l)) := strOf_extract m l h
  simp [Sv, Instr.slice, run_underlying Try.underlying9, Instr.sliceBounds, run_sliceBound, hs, h1, h2, e]
theorem run_one_Sv (w : World) (m : List (BitVec 8)) (k : Nat) (h : k < m.length) : (Instr.slice 9 (Sv m) (some (.int .i64 (k : Int))) (some (.int .i64 ((k : Int) + 1))) none).run Try.prog w = .ok (Sv [gl m k]) w := by
  have e := run_mid_Sv w m k (k + 1) (by omega) (by omega)
  rw [show k + 1 - k = 1 by omega] at e
  have e2 : (m.drop k).take 1 = [gl m k] := by
    rw [List.drop_eq_getElem_cons h]
    simp only [gl, List.getD_eq_getElem?_getD, List.getElem?_eq_getElem h]
    rfl
  rw [e2] at e
  exact e
def RSp (w : World) (s : List (BitVec 8)) (out wd i : Value) (wr : World) : Prop :=
  ∃ t : Nat, t ≤ s.length ∧ i = .int .i64 (t : Int) ∧ wd = Sv (splitS (s.take t)).2 ∧ Own wr w.heap.size 9 out ((splitS (s.take t)).1.map Sv) ∧ Below w.heap.size w wr
theorem splitS_len (s : List (BitVec 8)) : (splitS s).1.length + (splitS s).2.length ≤ s.length := by
  have key : ∀ k, k ≤ s.length → (splitS (s.take k)).1.length + (splitS (s.take k)).2.length ≤ k := by
    intro k
    induction k with
    | zero => intro _; simp [splitS]
    | succ k ih =>
      intro hk
      have hc : s[k]? = some s[k] := List.getElem?_eq_getElem (by omega)
      have := ih (by omega)
      rw [splitS_next hc, splitStep]
      split
      · simp only [List.length_append, List.length_cons, List.length_nil]
        omega
      · simp only [List.length_append, List.length_cons, List.length_nil]
        omega
  have := key s.length (Nat.le_refl _)
  rwa [List.take_length] at this
end Go.Proofs.Ytbfioekbahcicaa
namespace Go.Proofs.Ytbfioekbahcicaa
open Go Go.RowKit

/-- The loop over a number's digits: what it has come to. -/
def RNu (w : World) (s : List (BitVec 8)) (n i : Value) (wr : World) : Prop :=
  ∃ t : Nat, t ≤ s.length ∧ i = .int .i64 (t : Int) ∧ n = .int .i64 ((valL (s.take t) : Nat) : Int) ∧ (s.take t).all digitC = true ∧ wr = w
theorem valL_lt (l : List (BitVec 8)) (h : l.all digitC = true) : valL l < 10 ^ l.length := by
  have key : ∀ (n : Nat) (l : List (BitVec 8)), l.length = n → l.all digitC = true → valL l < 10 ^ n := by
    intro n
    induction n with
    | zero =>
      intro l hl _
      rw [List.eq_nil_of_length_eq_zero hl]
      decide
    | succ n ih =>
      intro l hl hd
      have hne : l ≠ [] := by intro e; rw [e] at hl; simp at hl
      obtain ⟨a, c, rfl⟩ : ∃ a c, l = a ++ [c] := ⟨l.dropLast, l.getLast hne, (List.dropLast_concat_getLast hne).symm⟩
      rw [List.all_append, Bool.and_eq_true] at hd
      have hc : digitC c = true := by simpa using hd.2
      simp only [digitC, decide_eq_true_eq] at hc
      have hi := ih a (by simpa using hl) hd.1
      rw [valL_snoc, Nat.pow_succ]
      omega
  exact key _ l rfl h
/-- The text behind a minus, and the sign. -/
def restN (s : List (BitVec 8)) : List (BitVec 8) := if negN s = true then s.tail else s
def signN (s : List (BitVec 8)) : Int := if negN s = true then -1 else 1
theorem refNum_eq (s : List (BitVec 8)) : refNum s = if negN s = true ∧ restN s = [48] then (0, false) else if plainN (restN s) = true then (signN s * (valL (restN s) : Int), true) else (0, false) := by
  unfold refNum restN signN
  cases negN s with
  | true =>
    simp only [if_true, true_and]
    split
    · rfl
    · split
      · simp only [Prod.mk.injEq, and_true]
        omega
      · rfl
  | false =>
    simp only [Bool.false_eq_true, if_false, false_and]
    split
    · simp only [Prod.mk.injEq, and_true]
      omega
    · rfl
theorem plain_early {d : List (BitVec 8)} (h : d = [] ∨ 18 < d.length ∨ (d.head? = some 48 ∧ d ≠ [48])) : plainN d = false := by
  have e : (decide (d = []) || (decide (18 < d.length) || (decide (d.head? = some 48) && !decide (d = [48])))) = true := by
    rcases h with h | h | ⟨h1, h2⟩
    · simp [h]
    · simp [h]
    · rw [decide_eq_true h1, decide_eq_false h2]
      simp
  rw [plainN, e]
  rfl
theorem plain_late {d : List (BitVec 8)} (h1 : d ≠ []) (h2 : d.length ≤ 18) (h3 : d.head? = some 48 → d = [48]) : plainN d = d.all digitC := by
  have e : (decide (d = []) || (decide (18 < d.length) || (decide (d.head? = some 48) && !decide (d = [48])))) = false := by
    by_cases h : d.head? = some 48
    · rw [h3 h]
      rfl
    · rw [decide_eq_false h1, decide_eq_false h, decide_eq_false (show ¬ 18 < d.length by omega)]
      rfl
  rw [plainN, e]
  rfl
end Go.Proofs.Ytbfioekbahcicaa
