/-
  What is put is got, plain: an item's bytes on a tape, and a list's.
-/
import Derived.Test.YtmjanplhgpcbeaaDoorEventBytes
import Derived.Test.YtmjanplhgpcbeaaDoorEventRead
import Derived.Test.YtmjanplhgpcbeaaDoorPenBackPure
namespace Go.Proofs.YtmjanplhgpcbeaaDoor
open Go Go.RowKit

theorem back_text16 (m r : List (BitVec 8)) (h : m.length ≤ 16) : (TapeL.mk (textL m ++ r) 0).text 16 = (m, ⟨r, 0⟩) := by
  rw [text_eq, textL, List.append_assoc, back_number m.length 16 (by omega) (by omega)]
  exact back_fixed m r
theorem item_back {x : ItemL} (h : x.rightB = true) (r : List (BitVec 8)) : (TapeL.mk (x.bytes ++ r) 0).item = (x, ⟨r, 0⟩) := by
  have key : (TapeL.mk (x.bytes ++ r) 0).item0 = (x, ⟨r, 0⟩) := by
    obtain ⟨kind, key, time, value⟩ := x
    obtain ⟨ht, ⟨rfl, rfl, rfl⟩ | ⟨rfl, hn, h1, h16, hv⟩⟩ := right_cases h
    · have e : (ItemL.mk 2 [] time 0).bytes ++ r = wordL 2 ++ (wordL time.toNat ++ r) := by rw [ItemL.bytes, if_pos rfl, List.append_assoc]; rfl
      have n1 := back_number 2 9223372036854775807 (by decide) (by decide) (wordL time.toNat ++ r)
      have n2 := back_number time.toNat 1099511627776 (by omega) (by omega) r
      rw [e, TapeL.item0, n1]
      simp only
      rw [if_neg (by decide), if_pos (by decide), n2]
      simp only [Prod.mk.injEq, ItemL.mk.injEq, and_true, true_and]
      omega
    · have e : (ItemL.mk 1 key time value).bytes ++ r = wordL 1 ++ (textL key ++ (wordL time.toNat ++ (signedL value ++ r))) := by
        rw [ItemL.bytes, if_neg (show ¬ (1 : Int) = 2 by decide)]
        simp only [List.append_assoc]
        rfl
      have n1 := back_number 1 9223372036854775807 (by decide) (by decide) (textL key ++ (wordL time.toNat ++ (signedL value ++ r)))
      have n2 := back_text16 key (wordL time.toNat ++ (signedL value ++ r)) h16
      have n3 := back_number time.toNat 1099511627776 (by omega) (by omega) (signedL value ++ r)
      have n4 := back_signed value (by omega) (by omega) r
      rw [e, TapeL.item0, n1]
      simp only
      rw [if_pos (by decide), n2]
      simp only
      rw [n3]
      simp only
      rw [n4]
      simp only [Prod.mk.injEq, ItemL.mk.injEq, and_true, true_and]
      omega
  rw [TapeL.item, key]
  simp only [TapeL.last, h, if_true]
theorem itemsN_back : ∀ (l : List ItemL) (r : List (BitVec 8)), (∀ x ∈ l, x.rightB = true) → itemsN l.length ⟨l.flatMap (·.bytes) ++ r, 0⟩ = (l, ⟨r, 0⟩) := by
  have snoc : ∀ (k : Nat) (t : TapeL), itemsN (k + 1) t = (t.item.1 :: (itemsN k t.item.2).1, (itemsN k t.item.2).2) := by
    intro k
    induction k with
    | zero => intro t; rfl
    | succ k ih =>
      intro t
      rw [itemsN, ih t]
      rfl
  intro l
  induction l with
  | nil => intro r _; rfl
  | cons x l ih =>
    intro r h
    rw [List.length_cons, snoc, List.flatMap_cons, List.append_assoc, item_back (h x (by simp)), ih r fun y hy => h y (by simp [hy])]
theorem readT_back (l : List ItemL) (h : countL l ≤ 1024) : readT (listL l) = (l.filter (·.rightB), 0) := by
  have n1 := back_number (countL l) 1024 (by omega) (by omega) (bytesL l)
  rw [readT, listL_eq, n1]
  have e : bytesL l = (l.filter (·.rightB)).flatMap (·.bytes) ++ [] := by rw [List.append_nil]; rfl
  have hb := itemsN_back (l.filter (·.rightB)) [] (fun x hx => (List.mem_filter.1 hx).2)
  simp only [Int.toNat_natCast]
  rw [e, show countL l = (l.filter (·.rightB)).length from rfl, hb]
  rfl
end Go.Proofs.YtmjanplhgpcbeaaDoor
