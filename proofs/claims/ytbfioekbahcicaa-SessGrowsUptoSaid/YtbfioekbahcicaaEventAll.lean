/-
  The contract of package event's Text.
  The contract of package event's Put.
  The contract of package event's Get: an item off a reader, as the document's tape tells it.
  The contract of package event's Read.
  The contract of package event's Bytes.
  What is put is got, plain: an item's bytes on a tape, and a list's.
  The contract of package event's item: the item that words are about.
  Words of a text, as strings.SplitN finds them; an item's text read again: plain.
-/
import Derived.Test.YtbfioekbahcicaaEventName
import Derived.Test.YtbfioekbahcicaaLocal
import Derived.Test.YtbfioekbahcicaaPenPen
import Derived.Test.YtbfioekbahcicaaReadMore
import Derived.Test.YtbfioekbahcicaaCoreBase
import Derived.Test.YtbfioekbahcicaaItems
import Derived.Test.YtbfioekbahcicaaReadBack
import Derived.Test.YtbfioekbahcicaaEventNumber
import Derived.Test.YtbfioekbahcicaaGaussText
import Derived.Lib.AtoiTie
import Derived.Lib.Split
import Derived.Lib.IndexLaws
namespace Go.Proofs.Ytbfioekbahcicaa
open Go Go.RowKit

def ItemL.told (x : ItemL) : List (BitVec 8) := if x.rightB then x.text else []
theorem right_cases {kind : Int} {key : List (BitVec 8)} {time value : Int} (h : (ItemL.mk kind key time value).rightB = true) :
    (0 ≤ time ∧ time ≤ 1099511627776) ∧ ((kind = 2 ∧ key = [] ∧ value = 0) ∨ (kind = 1 ∧ nameB key = true ∧ 1 ≤ key.length ∧ key.length ≤ 16 ∧ -1099511627776 ≤ value ∧ value ≤ 1099511627776)) := by
  simp only [ItemL.rightB, Bool.and_eq_true, decide_eq_true_eq] at h
  refine ⟨h.1, ?_⟩
  have h2 := h.2
  split at h2
  · rename_i hk
    exact .inl ⟨hk, by simpa using h2⟩
  · simp only [Bool.and_eq_true, decide_eq_true_eq] at h2
    have hn := h2.1.2
    simp only [nameB, Bool.and_eq_true, decide_eq_true_eq] at hn
    exact .inr ⟨h2.1.1, h2.1.2, hn.2.1, hn.2.2, h2.2.1, h2.2.2⟩
end Go.Proofs.Ytbfioekbahcicaa
namespace Go.Proofs.Ytbfioekbahcicaa
open Go Go.RowKit

theorem ItemL.bytes_length {x : ItemL} (h : x.key.length ≤ 1000) : x.bytes.length ≤ 1050 := by
  have h1 := wordL_length 1
  have h2 := wordL_length 2
  have h3 := wordL_length x.time.toNat
  have h4 := wordL_length (zig x.value)
  have h5 := wordL_length x.key.length
  unfold ItemL.bytes numberL signedL textL
  split
  · rw [List.length_append]; omega
  · simp only [List.length_append]; omega
end Go.Proofs.Ytbfioekbahcicaa
namespace Go.Proofs.Ytbfioekbahcicaa
open Go Go.RowKit

def zeroI : ItemL := ⟨0, [], 0, 0⟩
/-- What an item's bytes tell, ahead of the last test. -/
def TapeL.item0 (t : TapeL) : ItemL × TapeL :=
  if (t.number 9223372036854775807).1 = 1 then
    (⟨1, ((t.number 9223372036854775807).2.text 16).1, (((t.number 9223372036854775807).2.text 16).2.number 1099511627776).1, ((((t.number 9223372036854775807).2.text 16).2.number 1099511627776).2.signed).1⟩,
      ((((t.number 9223372036854775807).2.text 16).2.number 1099511627776).2.signed).2)
  else if (t.number 9223372036854775807).1 = 2 then (⟨2, [], ((t.number 9223372036854775807).2.number 1099511627776).1, 0⟩, ((t.number 9223372036854775807).2.number 1099511627776).2)
  else (⟨(t.number 9223372036854775807).1, [], 0, 0⟩, (t.number 9223372036854775807).2)
def TapeL.last (x : ItemL) (t : TapeL) : TapeL := if x.rightB then t else t.fail 11
def TapeL.item (t : TapeL) : ItemL × TapeL := (if (TapeL.last t.item0.1 t.item0.2).e = 0 then t.item0.1 else zeroI, TapeL.last t.item0.1 t.item0.2)
theorem item_one (x : ItemL) : x.cells.all (·.oneCell') = true := by
  rw [Array.all_eq_true']
  intro v hv
  simp only [ItemL.cells, List.mem_toArray, List.mem_cons, List.not_mem_nil, or_false] at hv
  rcases hv with rfl | rfl | rfl | rfl <;> rfl
theorem below_gb {w w' : World} {b : Option Nat} (h : Below w.heap.size w w') : w.grownBy w' b := ⟨h.os, h.tape, h.output, h.size, fun k hk _ => h.block k hk⟩
theorem text16_len (t : TapeL) : (t.text 16).1.length ≤ 16 := by
  have hn : (t.number 16).1 ≤ 16 := by
    unfold TapeL.number
    split
    · simp
    · split
      · simp
      · rename_i h1 h2
        by_cases he : t.word.2.e = 0
        · simp only
          omega
        · have := word_err he
          simp only
          omega
  rw [text_eq]
  unfold TapeL.fixed
  split
  · simp
  · split
    · simp
    · split
      · simp
      · simp only [List.length_take]
        omega
end Go.Proofs.Ytbfioekbahcicaa
namespace Go.Proofs.Ytbfioekbahcicaa
open Go Go.RowKit

def itemsN : Nat → TapeL → List ItemL × TapeL
  | 0, t => ([], t)
  | k + 1, t => ((itemsN k t).1 ++ [(itemsN k t).2.item.1], (itemsN k t).2.item.2)
theorem itemsN_length (t : TapeL) : ∀ k, (itemsN k t).1.length = k
  | 0 => rfl
  | k + 1 => by simp [itemsN, itemsN_length t k]
def readT (m : List (BitVec 8)) : List ItemL × Int :=
  if (itemsN ((TapeL.mk m 0).number 1024).1.toNat ((TapeL.mk m 0).number 1024).2).2.done = 0 then ((itemsN ((TapeL.mk m 0).number 1024).1.toNat ((TapeL.mk m 0).number 1024).2).1, 0)
  else ([], (itemsN ((TapeL.mk m 0).number 1024).1.toNat ((TapeL.mk m 0).number 1024).2).2.done)
theorem number_range (t : TapeL) (most : Int) (h0 : 0 ≤ most) : 0 ≤ (t.number most).1 ∧ (t.number most).1 ≤ most := by
  unfold TapeL.number
  split
  · simp only; omega
  · split
    · simp only; omega
    · rename_i h1 h2
      by_cases he : t.word.2.e = 0
      · simp only
        omega
      · have := word_err he
        simp only
        omega
end Go.Proofs.Ytbfioekbahcicaa
namespace Go.Proofs.Ytbfioekbahcicaa
open Go Go.RowKit

def bytesL (l : List ItemL) : List (BitVec 8) := (l.filter (·.rightB)).flatMap (·.bytes)
def countL (l : List ItemL) : Nat := (l.filter (·.rightB)).length
theorem listL_eq (l : List ItemL) : listL l = wordL (countL l) ++ bytesL l := rfl
theorem take_next {α : Type} {l : List α} {t : Nat} {x : α} (h : l[t]? = some x) : l.take (t + 1) = l.take t ++ [x] := by
  have ht : t < l.length := (List.getElem?_eq_some_iff.1 h).1
  rw [List.take_succ_eq_append_getElem ht]
  rw [List.getElem?_eq_getElem ht] at h
  simp only [Option.some.injEq] at h
  rw [h]
theorem countL_next {l : List ItemL} {t : Nat} {x : ItemL} (h : l[t]? = some x) : countL (l.take (t + 1)) = countL (l.take t) + if x.rightB then 1 else 0 := by
  rw [take_next h, countL, countL, List.filter_append]
  cases hx : x.rightB <;> simp [hx]
theorem bytesL_next {l : List ItemL} {t : Nat} {x : ItemL} (h : l[t]? = some x) : bytesL (l.take (t + 1)) = bytesL (l.take t) ++ if x.rightB then x.bytes else [] := by
  rw [take_next h, bytesL, bytesL, List.filter_append]
  cases hx : x.rightB <;> simp [hx]
theorem countL_le (l : List ItemL) : countL l ≤ l.length := List.length_filter_le _ _
theorem right_bytes {x : ItemL} (h : x.rightB = true) : x.bytes.length ≤ 1050 := by
  obtain ⟨kind, key, time, value⟩ := x
  obtain ⟨_, h | h⟩ := right_cases h
  · exact ItemL.bytes_length (by rw [show (ItemL.mk kind key time value).key = key from rfl, h.2.1]; decide)
  · exact ItemL.bytes_length (Nat.le_trans h.2.2.2.1 (by decide))
set_option maxRecDepth 100000 in
theorem bytesL_len : ∀ l : List ItemL, (bytesL l).length ≤ l.length * 1050
  | [] => by simp [bytesL]
  | x :: l => by
    have ih := bytesL_len l
    unfold bytesL at ih ⊢
    cases hx : x.rightB with
    | true =>
      have := right_bytes hx
      simp only [List.filter_cons, hx, if_true, List.flatMap_cons, List.length_append, List.length_cons]
      omega
    | false =>
      simp only [List.filter_cons, hx, List.length_cons]
      simp only [Bool.false_eq_true, if_false]
      omega
/-- One of a list, with its cells. -/
theorem ItemsAt.get {w : World} {a : Option Addr} {l : List ItemL} (h : ItemsAt w a l) {t : Nat} (ht : t < l.length) : ∃ x b o, l[t]? = some x ∧ a = some ⟨b, o, none⟩ ∧ w.cell? ⟨b, o + t * 4, none⟩ = some (.int .i64 x.kind) ∧ w.cell? ⟨b, o + t * 4 + 1, none⟩ = some (Sv x.key) ∧
    w.cell? ⟨b, o + t * 4 + 2, none⟩ = some (.int .i64 x.time) ∧ w.cell? ⟨b, o + t * 4 + 3, none⟩ = some (.int .i64 x.value) := by
  rcases h with h | ⟨b, o, h, h'⟩
  · rw [h] at ht
    simp at ht
  · exact ⟨l[t], b, o, List.getElem?_eq_getElem ht, h, h' t _ (List.getElem?_eq_getElem ht) 0 _ rfl, h' t _ (List.getElem?_eq_getElem ht) 1 _ rfl, h' t _ (List.getElem?_eq_getElem ht) 2 _ rfl, h' t _ (List.getElem?_eq_getElem ht) 3 _ rfl⟩
def EB1 (w : World) (l : List ItemL) (n i : Value) (wr : World) : Prop := ∃ t : Nat, t ≤ l.length ∧ i = .int .i64 (t : Int) ∧ n = .int .i64 ((countL (l.take t) : Nat) : Int) ∧ Below w.heap.size w wr
end Go.Proofs.Ytbfioekbahcicaa
namespace Go.Proofs.Ytbfioekbahcicaa
open Go Go.RowKit

theorem back_text16 (m r : List (BitVec 8)) (h : m.length ≤ 16) : (TapeL.mk (textL m ++ r) 0).text 16 = (m, ⟨r, 0⟩) := by
  rw [text_eq, textL, List.append_assoc, back_number m.length 16 (by omega) (by omega)]
  exact back_fixed m r
theorem item_back {x : ItemL} (h : x.rightB = true) (r : List (BitVec 8)) : (TapeL.mk (x.bytes ++ r) 0).item = (x, ⟨r, 0⟩) := by
  have key : (TapeL.mk (x.bytes ++ r) 0).item0 = (x, ⟨r, 0⟩) := by
    obtain ⟨kind, key, time, value⟩ := x
    obtain ⟨ht, ⟨rfl, rfl, rfl⟩ | ⟨rfl, hn, h1, h16, hv⟩⟩ := right_cases h
    · have e : (ItemL.mk 2 [] time 0).bytes ++ r = wordL 2 ++ (wordL time.toNat ++ r) := by rw [ItemL.bytes, if_pos rfl, List.append_assoc]; rfl
      have n1 := back_number 2 9223372036854775807 (by decide) (by decide) (wordL time.toNat ++ r)
      have n2 := back_number time.toNat 1099511627776 (by omega) (by omega) r
      rw [e, TapeL.item0, n1]
      simp only
      rw [if_neg (by decide), if_pos (by decide), n2]
      simp only [Prod.mk.injEq, ItemL.mk.injEq, and_true, true_and]
      omega
    · have e : (ItemL.mk 1 key time value).bytes ++ r = wordL 1 ++ (textL key ++ (wordL time.toNat ++ (signedL value ++ r))) := by
        rw [ItemL.bytes, if_neg (show ¬ (1 : Int) = 2 by decide)]
        simp only [List.append_assoc]
        rfl
      have n1 := back_number 1 9223372036854775807 (by decide) (by decide) (textL key ++ (wordL time.toNat ++ (signedL value ++ r)))
      have n2 := back_text16 key (wordL time.toNat ++ (signedL value ++ r)) h16
      have n3 := back_number time.toNat 1099511627776 (by omega) (by omega) (signedL value ++ r)
      have n4 := back_signed value (by omega) (by omega) r
      rw [e, TapeL.item0, n1]
      simp only
      rw [if_pos (by decide), n2]
      simp only
      rw [n3]
      simp only
      rw [n4]
      simp only [Prod.mk.injEq, ItemL.mk.injEq, and_true, true_and]
      omega
  rw [TapeL.item, key]
  simp only [TapeL.last, h, if_true]
theorem itemsN_back : ∀ (l : List ItemL) (r : List (BitVec 8)), (∀ x ∈ l, x.rightB = true) → itemsN l.length ⟨l.flatMap (·.bytes) ++ r, 0⟩ = (l, ⟨r, 0⟩) := by
  have snoc : ∀ (k : Nat) (t : TapeL), itemsN (k + 1) t = (t.item.1 :: (itemsN k t.item.2).1, (itemsN k t.item.2).2) := by
    intro k
    induction k with
    | zero => intro t; rfl
    | succ k ih =>
      intro t
      rw [itemsN, ih t]
      rfl
  intro l
  induction l with
  | nil => intro r _; rfl
  | cons x l ih =>
    intro r h
    rw [List.length_cons, snoc, List.flatMap_cons, List.append_assoc, item_back (h x (by simp)), ih r fun y hy => h y (by simp [hy])]
theorem readT_back (l : List ItemL) (h : countL l ≤ 1024) : readT (listL l) = (l.filter (·.rightB), 0) := by
  have n1 := back_number (countL l) 1024 (by omega) (by omega) (bytesL l)
  rw [readT, listL_eq, n1]
  have e : bytesL l = (l.filter (·.rightB)).flatMap (·.bytes) ++ [] := by rw [List.append_nil]; rfl
  have hb := itemsN_back (l.filter (·.rightB)) [] (fun x hx => (List.mem_filter.1 hx).2)
  simp only [Int.toNat_natCast]
  rw [e, show countL l = (l.filter (·.rightB)).length from rfl, hb]
  rfl
end Go.Proofs.Ytbfioekbahcicaa
namespace Go.Proofs.Ytbfioekbahcicaa
open Go Go.RowKit

def wEvent : List (BitVec 8) := [101, 118, 101, 110, 116]
def wMark : List (BitVec 8) := [109, 97, 114, 107]
def itemW (ws : List (List (BitVec 8))) : ItemL :=
  match ws with
  | [a, b, c, d] => if a = wEvent then ⟨1, b, numL c, numL d⟩ else zeroI
  | [a, b] => if a = wMark then ⟨2, [], numL b, 0⟩ else zeroI
  | _ => zeroI
/-- Words that lie at a block. -/
def WordsAt (w : World) (g : Nat) (ws : List (List (BitVec 8))) : Prop := ∀ j x, ws[j]? = some x → w.cell? ⟨g, j, none⟩ = some (Sv x)
theorem itemW_none (ws : List (List (BitVec 8))) (h1 : ¬ (ws[0]? = some wEvent ∧ ws.length = 4)) (h2 : ¬ (ws[0]? = some wMark ∧ ws.length = 2)) : itemW ws = zeroI := by
  unfold itemW
  split
  · rw [if_neg fun e => h1 ⟨by simp [e], rfl⟩]
  · rw [if_neg fun e => h2 ⟨by simp [e], rfl⟩]
  · rfl
end Go.Proofs.Ytbfioekbahcicaa
namespace Go.Proofs.Ytbfioekbahcicaa
open Go Go.RowKit

theorem lvB_bvL (l : List UInt8) : lvB (bvL l) = l := by
  unfold lvB bvL
  rw [List.map_map]
  have : ((fun c : BitVec 8 => UInt8.ofNat c.toNat) ∘ fun c : UInt8 => BitVec.ofNat 8 c.toNat) = id := by
    funext c
    have := c.toNat_lt
    simp
  rw [this, List.map_id]
theorem bvL_lvB (l : List (BitVec 8)) : bvL (lvB l) = l := by
  unfold lvB bvL
  rw [List.map_map]
  have : ((fun c : UInt8 => BitVec.ofNat 8 c.toNat) ∘ fun c : BitVec 8 => UInt8.ofNat c.toNat) = id := by
    funext c
    have := c.isLt
    apply BitVec.eq_of_toNat_eq
    simp
  rw [this, List.map_id]
theorem lvB_append (a b : List (BitVec 8)) : lvB (a ++ b) = lvB a ++ lvB b := by simp [lvB]
theorem lvB_length (a : List (BitVec 8)) : (lvB a).length = a.length := by simp [lvB]
def noBlank (l : List UInt8) : Prop := ∀ c ∈ l, c ≠ 32
theorem occ_one (s : List UInt8) (i : Nat) : Lib.occAt s [32] i = true ↔ s[i]? = some 32 := by
  unfold Lib.occAt
  constructor
  · intro h
    exact Lib.occAt_head (s := s) (t := []) rfl h
  · intro h
    have hi : i < s.length := (List.getElem?_eq_some_iff.1 h).1
    rw [List.drop_eq_getElem_cons hi]
    rw [List.getElem?_eq_getElem hi] at h
    simp only [Option.some.injEq] at h
    simp [List.isPrefixOf, h]
theorem index_text (a r : List UInt8) (h : noBlank a) : Lib.index (a ++ 32 :: r) [32] = (a.length : Int) := by
  refine Lib.index_first (by simp) ((occ_one _ _).2 (by simp)) fun j hj => ?_
  rw [Bool.eq_false_iff]
  intro ho
  rw [occ_one, List.getElem?_append_left hj] at ho
  exact h _ (List.mem_of_getElem? ho) rfl
theorem index_blank (a : List UInt8) (h : noBlank a) : Lib.index a [32] = -1 := by
  refine Lib.index_none fun j _ => ?_
  rw [Bool.eq_false_iff]
  intro ho
  rw [occ_one] at ho
  exact h _ (List.mem_of_getElem? ho) rfl
theorem splitK_cons (k : Nat) (a r : List UInt8) (h : noBlank a) : Lib.splitK [32] 0 (k + 1) (a ++ 32 :: r) = a :: Lib.splitK [32] 0 k r := by
  rw [Lib.splitK, index_text a r h, if_neg (by simp)]
  simp
theorem splitK_last (k : Nat) (a : List UInt8) (h : noBlank a) : Lib.splitK [32] 0 k a = [a] := by
  cases k with
  | zero => rfl
  | succ k => rw [Lib.splitK, index_blank a h, if_pos (by decide)]
theorem splitK_ne (k : Nat) (a : List UInt8) : Lib.splitK [32] 0 k a ≠ [] := by
  cases k with
  | zero => simp [Lib.splitK]
  | succ k => rw [Lib.splitK]; split <;> simp
theorem splitK_len : ∀ (k : Nat) (a : List UInt8), ∀ x ∈ Lib.splitK [32] 0 k a, x.length ≤ a.length
  | 0, a, x, h => by simp [Lib.splitK] at h; rw [h]; exact Nat.le_refl _
  | k + 1, a, x, h => by
    rw [Lib.splitK] at h
    split at h
    · simp at h; rw [h]; exact Nat.le_refl _
    · rcases List.mem_cons.1 h with h | h
      · rw [h]
        simp only [List.length_take]
        omega
      · have := splitK_len k _ x h
        simp only [List.length_drop] at this
        omega
/-- What strings.SplitN(s, " ", 5) makes. -/
def wordsOf (s : List (BitVec 8)) : List (List (BitVec 8)) := (Lib.splitK [32] 0 (min 5 (s.length + 1) - 1) (lvB s)).map bvL
theorem wordsOf_ne (s : List (BitVec 8)) : wordsOf s ≠ [] := by
  unfold wordsOf
  intro h
  exact splitK_ne _ _ (List.map_eq_nil_iff.1 h)
theorem wordsOf_len (s : List (BitVec 8)) : ∀ x ∈ wordsOf s, x.length ≤ s.length := by
  intro x hx
  obtain ⟨y, hy, rfl⟩ := List.mem_map.1 hx
  rw [bvL_length, ← lvB_length s]
  exact splitK_len _ _ y hy
theorem itoa_noBlank (n : Int) : noBlank (Lib.itoa n) := by
  intro c hc
  have key : ∀ u, ∀ c ∈ Lib.decDigits u, c ≠ 32 := fun u c hc => by
    have := digits_bytes u c hc
    rintro rfl
    revert this
    decide
  unfold Lib.itoa at hc
  split at hc
  · rcases List.mem_cons.1 hc with rfl | hc
    · decide
    · exact key _ c hc
  · exact key _ c hc
theorem name_noBlank {s : List (BitVec 8)} (h : nameB s = true) : noBlank (lvB s) := by
  intro c hc
  unfold lvB at hc
  obtain ⟨x, hx, rfl⟩ := List.mem_map.1 hc
  simp only [nameB, Bool.and_eq_true, List.all_eq_true] at h
  have h1 := h.1 x hx
  simp only [nameC, decide_eq_true_eq] at h1
  intro e
  have : (UInt8.ofNat x.toNat).toNat = 32 := by rw [e]; rfl
  have hx := x.isLt
  have h2 : (UInt8.ofNat x.toNat).toNat = x.toNat := by
    rw [UInt8.toNat_ofNat']
    exact Nat.mod_eq_of_lt hx
  omega
theorem itoa_short (n : Int) (h : -1099511627776 ≤ n ∧ n ≤ 1099511627776) : (Lib.itoa n).length ≤ 18 := by
  unfold Lib.itoa
  split
  · have := digits_len 12 n.natAbs (by omega)
    simp only [List.length_cons]
    omega
  · have := digits_len 12 n.toNat (by omega)
    omega
theorem numL_itoa (n : Int) (h : -1099511627776 ≤ n ∧ n ≤ 1099511627776) : numL (itoaL n) = n := by
  rw [numL, itoaL_bv, lvB_bvL, Lib.atoiAll_short _ (itoa_short n h), atoi_itoa]
  rfl
theorem lv_event : lvB bEvent = lvB wEvent ++ 32 :: [] := by decide
theorem lv_mark : lvB bMark = lvB wMark ++ 32 :: [] := by decide
theorem text_words {x : ItemL} (h : x.rightB = true) : itemW (wordsOf x.text) = x := by
  obtain ⟨kind, key, time, value⟩ := x
  obtain ⟨ht, ⟨rfl, rfl, rfl⟩ | ⟨rfl, hn, h1, h16, hv⟩⟩ := right_cases h
  · have e : (ItemL.mk 2 [] time 0).text = bMark ++ itoaL time := by rw [ItemL.text, if_pos rfl]
    have hl : 5 ≤ (bMark ++ itoaL time).length := by rw [List.length_append]; exact Nat.le_add_right 5 _
    have hw : wordsOf (bMark ++ itoaL time) = [wMark, itoaL time] := by
      unfold wordsOf
      rw [show min 5 ((bMark ++ itoaL time).length + 1) - 1 = 3 + 1 by omega, lvB_append, lv_mark, itoaL_bv, lvB_bvL, List.append_assoc, List.cons_append, List.nil_append, splitK_cons _ _ _ (by unfold noBlank; decide), splitK_last _ _ (itoa_noBlank _)]
      rw [List.map_cons, List.map_cons, List.map_nil, bvL_lvB]
    rw [e, hw, itemW, if_pos rfl, numL_itoa _ (by omega)]
  · have e : (ItemL.mk 1 key time value).text = bEvent ++ key ++ bBlank ++ itoaL time ++ bBlank ++ itoaL value := by rw [ItemL.text, if_neg (show ¬ (1 : Int) = 2 by decide)]
    have hl : 5 ≤ (bEvent ++ key ++ bBlank ++ itoaL time ++ bBlank ++ itoaL value).length := by
      simp only [List.length_append]
      have : bEvent.length = 6 := rfl
      omega
    have hw : wordsOf (bEvent ++ key ++ bBlank ++ itoaL time ++ bBlank ++ itoaL value) = [wEvent, key, itoaL time, itoaL value] := by
      unfold wordsOf
      have lb : lvB bBlank = [32] := by decide
      rw [show min 5 ((bEvent ++ key ++ bBlank ++ itoaL time ++ bBlank ++ itoaL value).length + 1) - 1 = 1 + 1 + 1 + 1 by omega]
      have e2 : lvB (bEvent ++ key ++ bBlank ++ itoaL time ++ bBlank ++ itoaL value) = lvB wEvent ++ 32 :: (lvB key ++ 32 :: (Lib.itoa time ++ 32 :: Lib.itoa value)) := by
        simp only [lvB_append, lv_event, itoaL_bv, lvB_bvL, lb, List.append_assoc, List.cons_append, List.nil_append]
      rw [e2, splitK_cons _ _ _ (by unfold noBlank; decide), splitK_cons _ _ _ (name_noBlank hn), splitK_cons _ _ _ (itoa_noBlank _), splitK_last _ _ (itoa_noBlank _)]
      simp only [List.map_cons, List.map_nil, bvL_lvB, itoaL_bv]
    rw [e, hw, itemW, if_pos rfl, numL_itoa _ (by omega), numL_itoa _ (by omega)]
theorem text_short {x : ItemL} (h : x.rightB = true) : x.text.length ≤ 1000 := by
  obtain ⟨kind, key, time, value⟩ := x
  have hb1 : bMark.length = 5 := rfl
  have hb2 : bEvent.length = 6 := rfl
  have hb3 : bBlank.length = 1 := rfl
  obtain ⟨ht, ⟨rfl, rfl, rfl⟩ | ⟨rfl, hn, h1, h16, hv⟩⟩ := right_cases h
  · have l1 := itoaL_length time (by omega)
    have e : (ItemL.mk 2 [] time 0).text = bMark ++ itoaL time := by rw [ItemL.text, if_pos rfl]
    rw [e, List.length_append]
    omega
  · have l1 := itoaL_length time (by omega)
    have l2 := itoaL_length value (by omega)
    have e : (ItemL.mk 1 key time value).text = bEvent ++ key ++ bBlank ++ itoaL time ++ bBlank ++ itoaL value := by rw [ItemL.text, if_neg (show ¬ (1 : Int) = 2 by decide)]
    rw [e]
    simp only [List.length_append]
    omega
/-- What Parse tells. -/
def parseL (s : List (BitVec 8)) : ItemL × Bool := if (itemW (wordsOf s)).rightB = true ∧ (itemW (wordsOf s)).text = s then (itemW (wordsOf s), true) else (zeroI, false)
theorem parseL_text {x : ItemL} (h : x.rightB = true) : parseL x.text = (x, true) := by
  rw [parseL, text_words h, if_pos ⟨h, rfl⟩]
end Go.Proofs.Ytbfioekbahcicaa
