/-
  Words of a text, as strings.SplitN finds them; an item's text read again: plain.
-/
import Derived.Test.YteoolfifpmbkeaaDoorEventItem
import Derived.Test.YteoolfifpmbkeaaDoorEventText
import Derived.Test.YteoolfifpmbkeaaDoorGaussText
import Derived.Lib.AtoiTie
import Derived.Lib.Split
import Derived.Lib.IndexLaws
namespace Go.Proofs.YteoolfifpmbkeaaDoor
open Go Go.RowKit

theorem lvB_bvL (l : List UInt8) : lvB (bvL l) = l := by
  unfold lvB bvL
  rw [List.map_map]
  have : ((fun c : BitVec 8 => UInt8.ofNat c.toNat) ∘ fun c : UInt8 => BitVec.ofNat 8 c.toNat) = id := by
    funext c
    have := c.toNat_lt
    simp
  rw [this, List.map_id]
theorem bvL_lvB (l : List (BitVec 8)) : bvL (lvB l) = l := by
  unfold lvB bvL
  rw [List.map_map]
  have : ((fun c : UInt8 => BitVec.ofNat 8 c.toNat) ∘ fun c : BitVec 8 => UInt8.ofNat c.toNat) = id := by
    funext c
    have := c.isLt
    apply BitVec.eq_of_toNat_eq
    simp
  rw [this, List.map_id]
theorem lvB_append (a b : List (BitVec 8)) : lvB (a ++ b) = lvB a ++ lvB b := by simp [lvB]
theorem lvB_length (a : List (BitVec 8)) : (lvB a).length = a.length := by simp [lvB]
def noBlank (l : List UInt8) : Prop := ∀ c ∈ l, c ≠ 32
theorem occ_one (s : List UInt8) (i : Nat) : Lib.occAt s [32] i = true ↔ s[i]? = some 32 := by
  unfold Lib.occAt
  constructor
  · intro h
    exact Lib.occAt_head (s := s) (t := []) rfl h
  · intro h
    have hi : i < s.length := (List.getElem?_eq_some_iff.1 h).1
    rw [List.drop_eq_getElem_cons hi]
    rw [List.getElem?_eq_getElem hi] at h
    simp only [Option.some.injEq] at h
    simp [List.isPrefixOf, h]
theorem index_text (a r : List UInt8) (h : noBlank a) : Lib.index (a ++ 32 :: r) [32] = (a.length : Int) := by
  refine Lib.index_first (by simp) ((occ_one _ _).2 (by simp)) fun j hj => ?_
  rw [Bool.eq_false_iff]
  intro ho
  rw [occ_one, List.getElem?_append_left hj] at ho
  exact h _ (List.mem_of_getElem? ho) rfl
theorem index_blank (a : List UInt8) (h : noBlank a) : Lib.index a [32] = -1 := by
  refine Lib.index_none fun j _ => ?_
  rw [Bool.eq_false_iff]
  intro ho
  rw [occ_one] at ho
  exact h _ (List.mem_of_getElem? ho) rfl
theorem splitK_cons (k : Nat) (a r : List UInt8) (h : noBlank a) : Lib.splitK [32] 0 (k + 1) (a ++ 32 :: r) = a :: Lib.splitK [32] 0 k r := by
  rw [Lib.splitK, index_text a r h, if_neg (by simp)]
  simp
theorem splitK_last (k : Nat) (a : List UInt8) (h : noBlank a) : Lib.splitK [32] 0 k a = [a] := by
  cases k with
  | zero => rfl
  | succ k => rw [Lib.splitK, index_blank a h, if_pos (by decide)]
theorem splitK_ne (k : Nat) (a : List UInt8) : Lib.splitK [32] 0 k a ≠ [] := by
  cases k with
  | zero => simp [Lib.splitK]
  | succ k => rw [Lib.splitK]; split <;> simp
theorem splitK_len : ∀ (k : Nat) (a : List UInt8), ∀ x ∈ Lib.splitK [32] 0 k a, x.length ≤ a.length
  | 0, a, x, h => by simp [Lib.splitK] at h; rw [h]; exact Nat.le_refl _
  | k + 1, a, x, h => by
    rw [Lib.splitK] at h
    split at h
    · simp at h; rw [h]; exact Nat.le_refl _
    · rcases List.mem_cons.1 h with h | h
      · rw [h]
        simp only [List.length_take]
        omega
      · have := splitK_len k _ x h
        simp only [List.length_drop] at this
        omega
/-- What strings.SplitN(s, " ", 5) makes. -/
def wordsOf (s : List (BitVec 8)) : List (List (BitVec 8)) := (Lib.splitK [32] 0 (min 5 (s.length + 1) - 1) (lvB s)).map bvL
theorem wordsOf_ne (s : List (BitVec 8)) : wordsOf s ≠ [] := by
  unfold wordsOf
  intro h
  exact splitK_ne _ _ (List.map_eq_nil_iff.1 h)
theorem wordsOf_len (s : List (BitVec 8)) : ∀ x ∈ wordsOf s, x.length ≤ s.length := by
  intro x hx
  obtain ⟨y, hy, rfl⟩ := List.mem_map.1 hx
  rw [bvL_length, ← lvB_length s]
  exact splitK_len _ _ y hy
theorem itoa_noBlank (n : Int) : noBlank (Lib.itoa n) := by
  intro c hc
  have key : ∀ u, ∀ c ∈ Lib.decDigits u, c ≠ 32 := fun u c hc => by
    have := digits_bytes u c hc
    rintro rfl
    revert this
    decide
  unfold Lib.itoa at hc
  split at hc
  · rcases List.mem_cons.1 hc with rfl | hc
    · decide
    · exact key _ c hc
  · exact key _ c hc
theorem name_noBlank {s : List (BitVec 8)} (h : nameB s = true) : noBlank (lvB s) := by
  intro c hc
  unfold lvB at hc
  obtain ⟨x, hx, rfl⟩ := List.mem_map.1 hc
  simp only [nameB, Bool.and_eq_true, List.all_eq_true] at h
  have h1 := h.1 x hx
  simp only [nameC, decide_eq_true_eq] at h1
  intro e
  have : (UInt8.ofNat x.toNat).toNat = 32 := by rw [e]; rfl
  have hx := x.isLt
  have h2 : (UInt8.ofNat x.toNat).toNat = x.toNat := by
    rw [UInt8.toNat_ofNat']
    exact Nat.mod_eq_of_lt hx
  omega
theorem itoa_short (n : Int) (h : -1099511627776 ≤ n ∧ n ≤ 1099511627776) : (Lib.itoa n).length ≤ 18 := by
  unfold Lib.itoa
  split
  · have := digits_len 12 n.natAbs (by omega)
    simp only [List.length_cons]
    omega
  · have := digits_len 12 n.toNat (by omega)
    omega
theorem numL_itoa (n : Int) (h : -1099511627776 ≤ n ∧ n ≤ 1099511627776) : numL (itoaL n) = n := by
  rw [numL, itoaL_bv, lvB_bvL, Lib.atoiAll_short _ (itoa_short n h), atoi_itoa]
  rfl
theorem lv_event : lvB bEvent = lvB wEvent ++ 32 :: [] := by decide
theorem lv_mark : lvB bMark = lvB wMark ++ 32 :: [] := by decide
theorem text_words {x : ItemL} (h : x.rightB = true) : itemW (wordsOf x.text) = x := by
  obtain ⟨kind, key, time, value⟩ := x
  obtain ⟨ht, ⟨rfl, rfl, rfl⟩ | ⟨rfl, hn, h1, h16, hv⟩⟩ := right_cases h
  · have e : (ItemL.mk 2 [] time 0).text = bMark ++ itoaL time := by rw [ItemL.text, if_pos rfl]
    have hl : 5 ≤ (bMark ++ itoaL time).length := by rw [List.length_append]; exact Nat.le_add_right 5 _
    have hw : wordsOf (bMark ++ itoaL time) = [wMark, itoaL time] := by
      unfold wordsOf
      rw [show min 5 ((bMark ++ itoaL time).length + 1) - 1 = 3 + 1 by omega, lvB_append, lv_mark, itoaL_bv, lvB_bvL, List.append_assoc, List.cons_append, List.nil_append, splitK_cons _ _ _ (by unfold noBlank; decide), splitK_last _ _ (itoa_noBlank _)]
      rw [List.map_cons, List.map_cons, List.map_nil, bvL_lvB]
    rw [e, hw, itemW, if_pos rfl, numL_itoa _ (by omega)]
  · have e : (ItemL.mk 1 key time value).text = bEvent ++ key ++ bBlank ++ itoaL time ++ bBlank ++ itoaL value := by rw [ItemL.text, if_neg (show ¬ (1 : Int) = 2 by decide)]
    have hl : 5 ≤ (bEvent ++ key ++ bBlank ++ itoaL time ++ bBlank ++ itoaL value).length := by
      simp only [List.length_append]
      have : bEvent.length = 6 := rfl
      omega
    have hw : wordsOf (bEvent ++ key ++ bBlank ++ itoaL time ++ bBlank ++ itoaL value) = [wEvent, key, itoaL time, itoaL value] := by
      unfold wordsOf
      have lb : lvB bBlank = [32] := by decide
      rw [show min 5 ((bEvent ++ key ++ bBlank ++ itoaL time ++ bBlank ++ itoaL value).length + 1) - 1 = 1 + 1 + 1 + 1 by omega]
      have e2 : lvB (bEvent ++ key ++ bBlank ++ itoaL time ++ bBlank ++ itoaL value) = lvB wEvent ++ 32 :: (lvB key ++ 32 :: (Lib.itoa time ++ 32 :: Lib.itoa value)) := by
        simp only [lvB_append, lv_event, itoaL_bv, lvB_bvL, lb, List.append_assoc, List.cons_append, List.nil_append]
      rw [e2, splitK_cons _ _ _ (by unfold noBlank; decide), splitK_cons _ _ _ (name_noBlank hn), splitK_cons _ _ _ (itoa_noBlank _), splitK_last _ _ (itoa_noBlank _)]
      simp only [List.map_cons, List.map_nil, bvL_lvB, itoaL_bv]
    rw [e, hw, itemW, if_pos rfl, numL_itoa _ (by omega), numL_itoa _ (by omega)]
theorem text_short {x : ItemL} (h : x.rightB = true) : x.text.length ≤ 1000 := by
  obtain ⟨kind, key, time, value⟩ := x
  have hb1 : bMark.length = 5 := rfl
  have hb2 : bEvent.length = 6 := rfl
  have hb3 : bBlank.length = 1 := rfl
  obtain ⟨ht, ⟨rfl, rfl, rfl⟩ | ⟨rfl, hn, h1, h16, hv⟩⟩ := right_cases h
  · have l1 := itoaL_length time (by omega)
    have e : (ItemL.mk 2 [] time 0).text = bMark ++ itoaL time := by rw [ItemL.text, if_pos rfl]
    rw [e, List.length_append]
    omega
  · have l1 := itoaL_length time (by omega)
    have l2 := itoaL_length value (by omega)
    have e : (ItemL.mk 1 key time value).text = bEvent ++ key ++ bBlank ++ itoaL time ++ bBlank ++ itoaL value := by rw [ItemL.text, if_neg (show ¬ (1 : Int) = 2 by decide)]
    rw [e]
    simp only [List.length_append]
    omega
/-- What Parse tells. -/
def parseL (s : List (BitVec 8)) : ItemL × Bool := if (itemW (wordsOf s)).rightB = true ∧ (itemW (wordsOf s)).text = s then (itemW (wordsOf s), true) else (zeroI, false)
theorem parseL_text {x : ItemL} (h : x.rightB = true) : parseL x.text = (x, true) := by
  rw [parseL, text_words h, if_pos ⟨h, rfl⟩]
end Go.Proofs.YteoolfifpmbkeaaDoor
