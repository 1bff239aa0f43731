/-
  Layer 8 as plain functions: windows, their orders, their texts and bytes, the windows of a time: no program here.
-/
import Derived.Test.YtbfioekbahcicaaQueryPure
namespace Go.Proofs.Ytbfioekbahcicaa
open Go Go.RowKit

/-- A window. -/
structure WindowL where
  key : List (BitVec 8)
  lo : Int
  hi : Int
deriving DecidableEq
def zeroW : WindowL := ⟨[], 0, 0⟩
def WindowL.cells (x : WindowL) : Array Value := #[Sv x.key, .int .i64 x.lo, .int .i64 x.hi]
def WindowL.rightB (x : WindowL) : Bool := nameB x.key && decide (0 ≤ x.lo ∧ x.lo ≤ 1099511627776 ∧ x.lo < x.hi ∧ x.hi ≤ 4398046511104)
def bDots : List (BitVec 8) := [46, 46]
def WindowL.text (x : WindowL) : List (BitVec 8) := x.key ++ bBlank ++ itoaL x.lo ++ bDots ++ itoaL x.hi
def WindowL.told (x : WindowL) : List (BitVec 8) := if x.rightB then x.text else []
def WindowL.bytes (x : WindowL) : List (BitVec 8) := textL x.key ++ numberL x.lo ++ numberL (x.hi - x.lo)
def ordI (a b : Int) : Int := if a < b then -1 else if b < a then 1 else 0
def ltS (a b : List (BitVec 8)) : Bool := Op.bytesLess (strOf a).toList (strOf b).toList
def ordS (a b : List (BitVec 8)) : Int := if ltS a b = true then -1 else if ltS b a = true then 1 else 0
def firstI (a b c : Int) : Int := if a ≠ 0 then a else if b ≠ 0 then b else c
def cmpW (a b : WindowL) : Int := firstI (ordI a.hi b.hi) (ordI a.lo b.lo) (ordS a.key b.key)
def placeW (a b : WindowL) : Int := firstI (ordS a.key b.key) (ordI a.lo b.lo) (ordI a.hi b.hi)
def hasW (x : WindowL) (t : Int) : Bool := x.rightB && decide (x.lo ≤ t ∧ t < x.hi)
def ripeW (x : WindowL) (mark : Int) : Bool := x.rightB && decide (x.hi ≤ mark)
def goneW (q : QueryL) (x : WindowL) (mark : Int) : Bool := q.rightB && x.rightB && decide (x.hi + q.late ≤ mark)
theorem bytesLess_total : ∀ x y : List UInt8, (!Op.bytesLess x y && !(x == y)) = Op.bytesLess y x
  | [], [] => rfl
  | [], _ :: _ => rfl
  | _ :: _, [] => rfl
  | a :: x, b :: y => by
    have ih := bytesLess_total x y
    simp only [Op.bytesLess, List.cons_beq_cons]
    by_cases h : a = b
    · subst h
      have h0 : ¬ a < a := fun h => absurd (UInt8.lt_iff_toNat_lt.1 h) (by omega)
      simp only [h0, decide_false, beq_self_eq_true, Bool.true_and, Bool.false_or]
      exact ih
    · have hn : a.toNat ≠ b.toNat := fun e => h (UInt8.toNat_inj.1 e)
      have e1 : (a == b) = false := by simpa using h
      have e2 : (b == a) = false := by simpa using fun e => h e.symm
      simp only [e1, e2, Bool.false_and, Bool.or_false, Bool.not_false, Bool.and_true]
      by_cases hl : a < b
      · have := UInt8.lt_iff_toNat_lt.1 hl
        rw [decide_eq_true hl, decide_eq_false (fun h' => by have := UInt8.lt_iff_toNat_lt.1 h'; omega)]
        rfl
      · have : b < a := UInt8.lt_iff_toNat_lt.2 (by have h' : ¬ a.toNat < b.toNat := fun h' => hl (UInt8.lt_iff_toNat_lt.2 h'); omega)
        rw [decide_eq_false hl, decide_eq_true this]
        rfl
theorem ordS_self (a : List (BitVec 8)) : ordS a a = 0 := by
  have h := bytesLess_total (strOf a).toList (strOf a).toList
  rw [beq_self_eq_true, Bool.not_true, Bool.and_false] at h
  unfold ordS ltS
  rw [← h]
  rfl
theorem rightW_cases {x : WindowL} (h : x.rightB = true) : nameB x.key = true ∧ 1 ≤ x.key.length ∧ x.key.length ≤ 16 ∧ 0 ≤ x.lo ∧ x.lo ≤ 1099511627776 ∧ x.lo < x.hi ∧ x.hi ≤ 4398046511104 := by
  simp only [WindowL.rightB, Bool.and_eq_true, decide_eq_true_eq] at h
  obtain ⟨h1, h2⟩ := h
  have h3 := h1
  simp only [nameB, Bool.and_eq_true, decide_eq_true_eq] at h3
  exact ⟨h1, h3.2.1, h3.2.2, h2⟩
/-- The windows of a time. -/
def stepQ (q : QueryL) : Int := if q.kind = 2 then q.slide else q.size
def winAt (q : QueryL) (key : List (BitVec 8)) (k : Int) : WindowL := ⟨key, k * stepQ q, k * stepQ q + q.size⟩
def loK (q : QueryL) (t : Int) : Int := if t < q.size then 0 else (t - q.size) / stepQ q + 1
/-- n windows from the k-th on. -/
def runW (q : QueryL) (key : List (BitVec 8)) (k : Int) (n : Nat) : List WindowL := (List.range n).map fun (i : Nat) => winAt q key (k + (i : Int))
def okAsk (q : QueryL) (key : List (BitVec 8)) (t : Int) : Bool := q.rightB && nameB key && decide (0 ≤ t ∧ t ≤ 1099511627776)
def ofW (q : QueryL) (key : List (BitVec 8)) (t : Int) : List WindowL :=
  if okAsk q key t = true then (if q.kind = 3 then [⟨key, t, t + q.size⟩] else runW q key (loK q t) (t / stepQ q + 1 - loK q t).toNat) else []
theorem runW_length (q : QueryL) (key : List (BitVec 8)) (k : Int) (n : Nat) : (runW q key k n).length = n := by simp [runW]
theorem runW_at (q : QueryL) (key : List (BitVec 8)) (k : Int) (n i : Nat) (h : i < n) : (runW q key k n)[i]? = some (winAt q key (k + (i : Int))) := by
  simp [runW, h]
theorem runW_cons (q : QueryL) (key : List (BitVec 8)) (k : Int) (n : Nat) : runW q key k (n + 1) = winAt q key k :: runW q key (k + 1) n := by
  apply List.ext_getElem?
  intro i
  cases i with
  | zero => rw [runW_at _ _ _ _ _ (by omega)]; simp
  | succ i =>
    rw [List.getElem?_cons_succ]
    by_cases h : i < n
    · rw [runW_at _ _ _ _ _ (by omega), runW_at _ _ _ _ _ h]
      congr 2
      omega
    · rw [List.getElem?_eq_none (by rw [runW_length]; omega), List.getElem?_eq_none (by rw [runW_length]; omega)]
theorem runW_snoc (q : QueryL) (key : List (BitVec 8)) (k : Int) (n : Nat) : runW q key k (n + 1) = runW q key k n ++ [winAt q key (k + (n : Int))] := by
  simp [runW, List.range_succ]
theorem stepQ_pos {q : QueryL} (h : q.rightB = true) : 1 ≤ stepQ q ∧ stepQ q ≤ q.size ∧ q.size ≤ 16 * stepQ q ∧ 1 ≤ q.size ∧ q.size ≤ 1073741824 := by
  obtain ⟨h1, _, h2, h4, h5, _⟩ := rightQ_cases h
  unfold stepQ
  by_cases k2 : q.kind = 2
  · have := h4 k2
    rw [if_pos k2]
    omega
  · rw [if_neg k2]
    omega
/-- Which windows have the time: those from loK on. -/
theorem loK_spec {q : QueryL} (h : q.rightB = true) {t : Int} (k : Int) (hk : 0 ≤ k) : t < k * stepQ q + q.size ↔ loK q t ≤ k := by
  obtain ⟨s1, s2, s3, s4, s5⟩ := stepQ_pos h
  have hm : 0 ≤ k * stepQ q := Int.mul_nonneg hk (by omega)
  unfold loK
  by_cases hlt : t < q.size
  · rw [if_pos hlt]
    omega
  · rw [if_neg hlt]
    have e : (t - q.size) / stepQ q < k ↔ t - q.size < k * stepQ q := Int.ediv_lt_iff_lt_mul (by omega)
    omega
theorem loK_bd {q : QueryL} (h : q.rightB = true) {t : Int} (ht : 0 ≤ t) : 0 ≤ loK q t ∧ loK q t ≤ t / stepQ q ∧ t / stepQ q + 1 - loK q t ≤ 16 := by
  obtain ⟨s1, s2, s3, s4, s5⟩ := stepQ_pos h
  have hK0 : 0 ≤ t / stepQ q := Int.ediv_nonneg ht (by omega)
  have hK1 : t / stepQ q * stepQ q ≤ t := Int.ediv_mul_le _ (by omega)
  have hK2 : t < t / stepQ q * stepQ q + stepQ q := by
    have := Int.lt_ediv_add_one_mul_self t (show 0 < stepQ q by omega)
    rw [Int.add_mul, Int.one_mul] at this
    exact this
  have hl0 : 0 ≤ loK q t := by
    unfold loK
    by_cases hlt : t < q.size
    · rw [if_pos hlt]; omega
    · rw [if_neg hlt]
      have := Int.ediv_nonneg (show 0 ≤ t - q.size by omega) (show 0 ≤ stepQ q by omega)
      omega
  refine ⟨hl0, (loK_spec h _ hK0).1 (by omega), ?_⟩
  by_cases h16 : t / stepQ q - 16 < 0
  · omega
  · have hs := not_congr (loK_spec h (t := t) (t / stepQ q - 16) (by omega))
    have e : (t / stepQ q - 16) * stepQ q = t / stepQ q * stepQ q - 16 * stepQ q := by rw [Int.sub_mul]
    rw [e] at hs
    have := hs.1 (by omega)
    omega
theorem ofW_len (q : QueryL) (key : List (BitVec 8)) (t : Int) : (ofW q key t).length ≤ 16 := by
  unfold ofW
  split
  · rename_i h
    simp only [okAsk, Bool.and_eq_true, decide_eq_true_eq] at h
    split
    · simp
    · rw [runW_length]
      have := loK_bd h.1.1 h.2.1
      omega
  · simp
/-- A text cut at each two full stops, from the left. -/
def splitDF : List (BitVec 8) → List (List (BitVec 8)) × List (BitVec 8) → List (List (BitVec 8))
  | [], p => p.1 ++ [p.2]
  | [c], p => p.1 ++ [p.2 ++ [c]]
  | a :: b :: r, p => if a = 46 ∧ b = 46 then splitDF r (p.1 ++ [p.2], []) else splitDF (b :: r) (p.1, p.2 ++ [a])
def splitD (s : List (BitVec 8)) : List (List (BitVec 8)) := splitDF s ([], [])
/-- Words put together with two full stops between. -/
def joinD : List (List (BitVec 8)) → List (BitVec 8)
  | [] => []
  | [a] => a
  | a :: b :: r => a ++ bDots ++ joinD (b :: r)
theorem joinD_snoc : ∀ (o : List (List (BitVec 8))) (w x : List (BitVec 8)), joinD (o ++ [w ++ x]) = joinD (o ++ [w]) ++ x
  | [], w, x => rfl
  | [a], w, x => by simp [joinD]
  | a :: b :: r, w, x => by
    have ih := joinD_snoc (b :: r) w x
    simp only [List.cons_append, joinD] at ih ⊢
    rw [ih]
    simp [List.append_assoc]
theorem joinD_push : ∀ (o : List (List (BitVec 8))) (w x : List (BitVec 8)), joinD (o ++ [w] ++ [x]) = joinD (o ++ [w]) ++ bDots ++ x
  | [], w, x => by simp [joinD]
  | [a], w, x => by simp [joinD]
  | a :: b :: r, w, x => by
    have ih := joinD_push (b :: r) w x
    simp only [List.cons_append, joinD] at ih ⊢
    rw [ih]
    simp [List.append_assoc]
theorem join_splitDF : ∀ (n : Nat) (s : List (BitVec 8)) (p : List (List (BitVec 8)) × List (BitVec 8)), s.length = n → joinD (splitDF s p) = joinD (p.1 ++ [p.2]) ++ s := by
  intro n
  induction n using Nat.strongRecOn with
  | ind n ih =>
    intro s p hs
    match s, hs with
    | [], _ => simp [splitDF]
    | [c], _ => rw [splitDF, joinD_snoc]
    | a :: b :: r, hs =>
      rw [splitDF]
      by_cases h : a = 46 ∧ b = 46
      · rw [if_pos h, ih r.length (by simp at hs; omega) r _ rfl]
        simp only
        rw [joinD_push, h.1, h.2]
        simp [bDots]
      · rw [if_neg h, ih (b :: r).length (by simp at hs ⊢; omega) (b :: r) _ rfl]
        simp only
        rw [joinD_snoc]
        simp
theorem join_splitD (s : List (BitVec 8)) : joinD (splitD s) = s := by
  rw [splitD, join_splitDF _ s _ rfl]
  rfl
theorem splitDF_word : ∀ (a b : List (BitVec 8)) (o : List (List (BitVec 8))) (w : List (BitVec 8)), (∀ c ∈ a, c ≠ 46) → splitDF (a ++ bDots ++ b) (o, w) = splitDF b (o ++ [w ++ a], [])
  | [], b, o, w, _ => by simp [bDots, splitDF]
  | [c], b, o, w, h => by
    have hc : c ≠ 46 := h c (by simp)
    show splitDF (c :: 46 :: 46 :: b) (o, w) = _
    rw [splitDF, if_neg (fun e => hc e.1), splitDF, if_pos ⟨rfl, rfl⟩]
  | c :: d :: r, b, o, w, h => by
    have hc : c ≠ 46 := h c (by simp)
    show splitDF (c :: d :: (r ++ bDots ++ b)) (o, w) = _
    rw [splitDF, if_neg (fun e => hc e.1)]
    have := splitDF_word (d :: r) b o (w ++ [c]) (fun x hx => h x (by simp [hx]))
    rw [show d :: (r ++ bDots ++ b) = (d :: r) ++ bDots ++ b from rfl, this]
    simp
theorem splitDF_last : ∀ (a : List (BitVec 8)) (o : List (List (BitVec 8))) (w : List (BitVec 8)), (∀ c ∈ a, c ≠ 46) → splitDF a (o, w) = o ++ [w ++ a]
  | [], o, w, _ => by simp [splitDF]
  | [c], o, w, _ => by simp [splitDF]
  | c :: d :: r, o, w, h => by
    have hc : c ≠ 46 := h c (by simp)
    rw [splitDF, if_neg (fun e => hc e.1), splitDF_last (d :: r) o (w ++ [c]) (fun x hx => h x (by simp [hx]))]
    simp
theorem splitD_two (a b : List (BitVec 8)) (ha : ∀ c ∈ a, c ≠ 46) (hb : ∀ c ∈ b, c ≠ 46) : splitD (a ++ bDots ++ b) = [a, b] := by
  rw [splitD, splitDF_word a b [] [] ha, splitDF_last b _ _ hb]
  simp
theorem splitDF_len : ∀ (n : Nat) (s : List (BitVec 8)) (p : List (List (BitVec 8)) × List (BitVec 8)), s.length = n → (splitDF s p).length ≤ p.1.length + 1 + s.length ∧ 1 ≤ (splitDF s p).length := by
  intro n
  induction n using Nat.strongRecOn with
  | ind n ih =>
    intro s p hs
    match s, hs with
    | [], _ => simp [splitDF]
    | [c], _ => simp [splitDF]
    | a :: b :: r, hs =>
      rw [splitDF]
      by_cases h : a = 46 ∧ b = 46
      · rw [if_pos h]
        have := ih r.length (by simp at hs; omega) r (p.1 ++ [p.2], []) rfl
        simp at this ⊢
        omega
      · rw [if_neg h]
        have := ih (b :: r).length (by simp at hs ⊢; omega) (b :: r) (p.1, p.2 ++ [a]) rfl
        simp at this ⊢
        omega
/-- What is parsed of a text. -/
def winOf (k a b : List (BitVec 8)) : WindowL := ⟨k, (refNum a).1, (refNum b).1⟩
def parseWw (k : List (BitVec 8)) : List (List (BitVec 8)) → WindowL × Bool
  | [a, b] => if ((refNum a).2 = true ∧ (refNum b).2 = true) ∧ (winOf k a b).rightB = true then (winOf k a b, true) else (zeroW, false)
  | _ => (zeroW, false)
def parseW2 : List (List (BitVec 8)) → WindowL × Bool
  | [k, r] => parseWw k (splitD r)
  | _ => (zeroW, false)
def parseW (s : List (BitVec 8)) : WindowL × Bool := parseW2 (splitL s)
theorem digit_noDot (n : Int) : ∀ c ∈ itoaL n, c ≠ 46 := by
  have hd : ∀ u, ∀ c ∈ Lib.decDigits u, c ≠ 46 := fun u c hc e => by
    have := (decDigits_val u).2.1 c hc
    rw [e] at this
    revert this
    decide
  intro c hc e
  obtain ⟨x, hx, rfl⟩ := List.mem_map.1 hc
  have hx46 : x ≠ 46 := by
    unfold Lib.itoa at hx
    split at hx
    · rcases List.mem_cons.1 hx with h | h
      · rw [h]; decide
      · exact hd _ x h
    · exact hd _ x hx
  apply hx46
  have h2 := congrArg BitVec.toNat e
  have hl := x.toNat_lt
  simp at h2
  exact UInt8.toNat_inj.1 (by rw [show (46 : UInt8).toNat = 46 from rfl]; omega)
theorem key_noBlank {x : WindowL} (h : x.rightB = true) : ∀ c ∈ x.key, c ≠ 32 := noBlank_bv (name_noBlank (rightW_cases h).1)
theorem refNum_itoa2 (n : Int) (h : 0 ≤ n ∧ n < 1000000000000000000) : refNum (itoaL n) = (n, true) := by
  rw [itoaL_bv, Lib.itoa, if_neg (by omega)]
  obtain ⟨h1, h2⟩ := digits_plain n.toNat (by omega)
  have hneg : negN (bvL (Lib.decDigits n.toNat)) = false := by
    simp only [negN, decide_eq_false_iff_not]
    rintro ⟨_, e⟩
    obtain ⟨p1, p2, p3, p4⟩ := plainN_spec h1
    cases hl : bvL (Lib.decDigits n.toNat) with
    | nil => exact p1 hl
    | cons c r =>
      rw [hl] at e p4
      simp only [List.head?_cons, Option.some.injEq] at e
      rw [e] at p4
      revert p4
      simp [digitC]
  rw [refNum, hneg, if_neg (by decide), if_pos h1, h2]
  simp only [Prod.mk.injEq, and_true]
  omega
theorem itoaL_noBlank' (n : Int) : ∀ c ∈ itoaL n, c ≠ 32 := itoaL_noBlank n
theorem parseW_text {x : WindowL} (h : x.rightB = true) : parseW x.text = (x, true) := by
  obtain ⟨h1, h2, h3, h4, h5, h6, h7⟩ := rightW_cases h
  have hk := key_noBlank h
  have e : x.text = x.key ++ bBlank ++ (itoaL x.lo ++ bDots ++ itoaL x.hi) := by simp [WindowL.text, List.append_assoc]
  have hb : ∀ c ∈ itoaL x.lo ++ bDots ++ itoaL x.hi, c ≠ 32 := by
    intro c hc
    simp only [List.mem_append] at hc
    rcases hc with (hc | hc) | hc
    · exact itoaL_noBlank _ c hc
    · have : ∀ c ∈ bDots, c ≠ 32 := by decide
      exact this c hc
    · exact itoaL_noBlank _ c hc
  rw [parseW, e, splitL_two _ _ hk hb]
  show parseWw x.key (splitD _) = _
  rw [splitD_two _ _ (digit_noDot _) (digit_noDot _)]
  show (if _ then _ else _) = _
  rw [winOf, refNum_itoa2 x.lo (by omega), refNum_itoa2 x.hi (by omega), if_pos ⟨⟨rfl, rfl⟩, h⟩]
theorem parseW_sound {s : List (BitVec 8)} {x : WindowL} (h : parseW s = (x, true)) : x.rightB = true ∧ x.text = s := by
  have hj := join_split s
  unfold parseW at h
  match hs : splitL s, h with
  | [k, r], h =>
    have hj2 := join_splitD r
    rw [hs] at hj
    simp only [parseW2] at h
    match hd : splitD r, h with
    | [a, b], h =>
      rw [hd] at hj2
      simp only [parseWw] at h
      by_cases hc : ((refNum a).2 = true ∧ (refNum b).2 = true) ∧ (winOf k a b).rightB = true
      · rw [if_pos hc] at h
        obtain ⟨⟨c1, c2⟩, c3⟩ := hc
        simp only [Prod.mk.injEq, and_true] at h
        subst h
        refine ⟨c3, ?_⟩
        have ha : a = itoaL (refNum a).1 := refNum_sound (Prod.ext rfl c1)
        have hb : b = itoaL (refNum b).1 := refNum_sound (Prod.ext rfl c2)
        rw [← hj, joinL, joinL, ← hj2, joinD, joinD, WindowL.text, winOf]
        simp only
        rw [← ha, ← hb]
        simp [List.append_assoc]
      · rw [if_neg hc] at h
        simp at h
    | [], h => simp [parseWw] at h
    | [_], h => simp [parseWw] at h
    | _ :: _ :: _ :: _, h => simp [parseWw] at h
  | [], h => simp [parseW2] at h
  | [_], h => simp [parseW2] at h
  | _ :: _ :: _ :: _, h => simp [parseW2] at h
theorem parseW_no {s : List (BitVec 8)} (h : (parseW s).2 = false) : parseW s = (zeroW, false) := by
  unfold parseW at h ⊢
  match splitL s, h with
  | [k, r], h =>
    simp only [parseW2] at h ⊢
    match splitD r, h with
    | [a, b], h =>
      simp only [parseWw] at h ⊢
      by_cases hc : ((refNum a).2 = true ∧ (refNum b).2 = true) ∧ (winOf k a b).rightB = true
      · rw [if_pos hc] at h
        cases h
      · rw [if_neg hc]
    | [], _ => rfl
    | [_], _ => rfl
    | _ :: _ :: _ :: _, _ => rfl
  | [], _ => rfl
  | [_], _ => rfl
  | _ :: _ :: _ :: _, _ => rfl
/-- Whoever finds the window of a right window's text, and holds its text against the text, parses. -/
theorem parseW_cand (s : List (BitVec 8)) (cand : WindowL) (h : ∀ x : WindowL, x.rightB = true → x.text = s → cand = x) : (if cand.rightB = true ∧ cand.text = s then (cand, true) else (zeroW, false)) = parseW s := by
  by_cases hc : cand.rightB = true ∧ cand.text = s
  · rw [if_pos hc, ← hc.2, parseW_text hc.1]
  · rw [if_neg hc]
    cases hr : (parseW s).2 with
    | false => exact (parseW_no hr).symm
    | true =>
      obtain ⟨h1, h2⟩ := parseW_sound (x := (parseW s).1) (Prod.ext rfl hr)
      exact absurd ⟨by rw [h _ h1 h2]; exact h1, by rw [h _ h1 h2]; exact h2⟩ hc
theorem textW_short {x : WindowL} (h : x.rightB = true) : x.text.length ≤ 100 := by
  obtain ⟨h1, h2, h3, h4, h5, h6, h7⟩ := rightW_cases h
  have l1 := itoaL_length x.lo (by omega)
  have l2 := itoaL_length x.hi (by omega)
  have e1 : bBlank.length = 1 := rfl
  have e2 : bDots.length = 2 := rfl
  simp only [WindowL.text, List.length_append, e1, e2]
  omega
end Go.Proofs.Ytbfioekbahcicaa
