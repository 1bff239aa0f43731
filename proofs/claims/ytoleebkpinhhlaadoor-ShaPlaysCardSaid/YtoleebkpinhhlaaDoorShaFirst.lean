/-
  The contract of first.
-/
import Derived.Test.YtoleebkpinhhlaaDoorLocalOps
import Derived.Test.YtoleebkpinhhlaaDoorShaAbc
import Derived.Test.YtoleebkpinhhlaaDoorArrEq
namespace Go.Proofs.YtoleebkpinhhlaaDoor
open Go.RowKit

/-- What lies in memory when first begins its last statement. -/
def FirstAt (W0 : World) (b b2 x : Nat) : Prop :=
  (∃ c, W0.heap[b]? = some (.cells c 38 (0, 0)) ∧ HashW c abc) ∧ (∃ c, W0.heap[b2]? = some (.cells c 38 (0, 0)) ∧ HashW c [97, 98]) ∧
  W0.heap[x]? = some (.cells (ShaA abc) 25 (0, 0)) ∧ Tables W0 ∧ 0 < W0.heap.size ∧ 1 < W0.heap.size

theorem src_new {w : World} {g : Nat} {cs : Array Value} {e : TypeId} {fr : Nat × Nat} {m : List (BitVec 8)} (hg : w.heap[g]? = some (.cells cs e fr)) (hc : ∀ i < m.length, cs[i]? = some (B (gl m i))) :
    SrcP w (some ⟨g, 0, none⟩) m.length m := by
  refine .inr ⟨g, 0, rfl, fun i hi => ?_⟩
  rw [cell_of_row w g _ cs e fr hg, Nat.zero_add]
  exact hc i hi

/-- A new row, marked behind its end. -/
theorem conv_new (w : World) (cs : Array Value) (e : TypeId) (n : Nat) :
    Below w.heap.size w ((w.alloc (.cells cs e)).freeze ⟨w.heap.size, n, none⟩ 1) ∧ (∃ fr, ((w.alloc (.cells cs e)).freeze ⟨w.heap.size, n, none⟩ 1).heap[w.heap.size]? = some (.cells cs e fr)) ∧
    w.heap.size < ((w.alloc (.cells cs e)).freeze ⟨w.heap.size, n, none⟩ 1).heap.size := by
  have h := (Lay.freeze (w.alloc (.cells cs e)) w.heap.size n).2 _ _ _ _ (heap_alloc_new w _)
  refine ⟨((Below.refl _ w).alloc (Nat.le_refl _) _).trans (below_freeze _ _ _ (Nat.le_refl _)), h, ?_⟩
  obtain ⟨fr, h⟩ := h
  exact (Array.getElem?_eq_some_iff.1 h).1

theorem FirstAt.below {W0 w : World} {b b2 x : Nat} (h : FirstAt W0 b b2 x) (hG : Below W0.heap.size W0 w) : FirstAt w b b2 x := by
  obtain ⟨⟨c, hc, hH⟩, ⟨c2, hc2, hH2⟩, hx, hT, h0, h1⟩ := h
  have hs := hG.size
  exact ⟨⟨c, (hG.block _ (Array.getElem?_eq_some_iff.1 hc).1).trans hc, hH⟩, ⟨c2, (hG.block _ (Array.getElem?_eq_some_iff.1 hc2).1).trans hc2, hH2⟩, (hG.block _ (Array.getElem?_eq_some_iff.1 hx).1).trans hx, hT.below hG, by omega, by omega⟩
theorem ShaA_cell (l : List (BitVec 8)) (i : Nat) (h : i < 32) : (ShaA l)[i]? = some (B (byteAt (shaSt l) i)) := by simp [ShaA, Spell, h]
theorem abc0 : (ShaA abc)[0]? = some (.int .u8 186) := (ShaA_cell abc 0 (by decide)).trans (by rw [show byteAt (shaSt abc) 0 = 0xba from abc_b0]; rfl)
theorem abc31 : (ShaA abc)[31]? = some (.int .u8 173) := (ShaA_cell abc 31 (by decide)).trans (by rw [show byteAt (shaSt abc) 31 = 0xad from abc_b31]; rfl)
theorem eql_sum (l l' : List (BitVec 8)) (h : l = l') : (∀ w, (Op.equalIn 10000 25 (.agg (ShaA l)) (.agg (ShaA l'))).run Tryd.prog w = .ok true w) ∧ (∀ w, (binOp .eql 25 (.agg (ShaA l)) (.agg (ShaA l'))).run Tryd.prog w = .ok (.bool true) w) ∧
    (∀ (o1 o2 : Operand) (w : World), (eqGuard .eql 25 o1 o2 (.agg (ShaA l)) (.agg (ShaA l'))).run Tryd.prog w = .ok () w) := by
  subst h
  have h1 : ∀ w, (Op.equalIn 10000 25 (.agg (ShaA l)) (.agg (ShaA l))).run Tryd.prog w = .ok true w := fun w => by
    have := run_equalIn_bytes 9998 25 5 32 Tryd.underlying25 Tryd.underlying5 Tryd.sizeOf5 Tryd.isAgg5 (byteAt (shaSt l)) (byteAt (shaSt l)) (ShaA l) (ShaA l) (ShaA_cell l) (ShaA_cell l) w
    rw [this]
    congr 1
    simp
  refine ⟨h1, fun w => ?_, fun o1 o2 w => run_eqGuard_agg w .eql 25 o1 o2 _ _ (by kernel_rfl)⟩
  rw [run_eql_struct, h1]
  rfl

def firstVs (W0 : World) (b b2 x : Nat) : List StV :=
   [stEq (.int .i64 2),
    stEq (.bool true),
    stEq (.bool true),
    stEq (.pointer (some ⟨b, 0, none⟩)),
    stEq (.int .i64 3),
    stEq (.bool true),
    stEq (.bool true),
    stEq (.bool true),
    stEq (.pointer (some ⟨b2, 0, none⟩)),
    stEq (.bool true),
    stEq (.bool true),
    stEq (.bool true),
    stEq (.pointer (some ⟨b2, 0, none⟩)),
    stEq (.int .i64 2),
    stEq (.bool true),
    stEq (.bool true),
    stEq (.bool true),
    stEq (.agg (ShaA abc)),
    stSl W0.heap.size 1 #[.int .u8 97] 5,
    stSl W0.heap.size 1 #[.int .u8 97] 5,
    stSl W0.heap.size 2 #[.int .u8 98, .int .u8 99] 5,
    stSl W0.heap.size 2 #[.int .u8 98, .int .u8 99] 5,
    stParts 3 abc,
    stEq (.agg (ShaA abc)),
    stEq (.bool true),
    stEq (.bool true),
    stEq (.bool true),
    stEq (.pointer (some ⟨x, 0, none⟩)),
    stEq (.int .u8 186),
    stEq (.bool true),
    stEq (.bool true),
    stEq (.bool true),
    stEq (.pointer (some ⟨x, 31, none⟩)),
    stEq (.int .u8 173),
    stEq (.bool true),
    stEq (.bool true),
    stEq (.bool true),
    stSl W0.heap.size 2 #[.int .u8 97, .int .u8 98] 5,
    stSl W0.heap.size 2 #[.int .u8 97, .int .u8 98] 5,
    stSl W0.heap.size 2 #[.int .u8 97, .int .u8 98] 5,
    stSl W0.heap.size 2 #[.int .u8 97, .int .u8 98] 5,
    stEq (.bool true),
    stEq (.bool true),
    stEq (.bool true),
    stSl W0.heap.size 2 #[.int .u8 97, .int .u8 98] 5,
    stSl W0.heap.size 2 #[.int .u8 97, .int .u8 98] 5,
    stSl W0.heap.size 2 #[.int .u8 97, .int .u8 99] 5,
    stSl W0.heap.size 2 #[.int .u8 97, .int .u8 99] 5,
    stEq (.bool false),
    stEq (.bool true),
    stEq (.bool true),
    stEq (.bool true)]

set_option maxRecDepth 100000 in
set_option maxHeartbeats 1000000 in
theorem first_any (w : World) (hT : Tables w) (hgl : 0 < w.heap.size ∧ 1 < w.heap.size) :
    Calls Tryd.prog 6 #[] w (Below0 w (.bool true)) := by
  have HT := Lib.hid (And.intro hT hgl)
  have hz : ∀ w, (zeroValue 25).run Tryd.prog w = .ok (.agg (Array.replicate 32 (.int .u8 0))) w := (zero_of_info (n := 32) (by kernel_rfl)).1
  have hconv : ∀ (w : World) (g n c : Nat) (cs : Array Value) (ty : TypeId) (fr : Nat × Nat), w.heap[g]? = some (.cells cs ty fr) → (convert 24 24 (.slice (some ⟨g, 0, none⟩) n c)).run Tryd.prog w = .ok (.slice (some ⟨g, 0, none⟩) n c) (w.freeze ⟨g, cs.size, none⟩ 1) :=
    fun w g n c cs ty fr hg => run_conv_bytes _ _ Tryd.underlying24 Tryd.underlying5 w g n c cs ty fr hg
  have HC := Lib.hid hconv
  clear hconv hT hgl
  go_enter Tryd.func6, Tryd.ntmps6
  go_wp2_with (fail)
  refine (new_any w).mono ?_
  rintro e w1 ⟨rfl, hw1⟩
  dsimp only
  have hB1 : Below w.heap.size w w1 := by rw [hw1]; exact (Below.refl _ w).alloc (Nat.le_refl _) _
  have hb1 : w1.heap[w.heap.size]? = some (.cells zeroHash 38 (0, 0)) := by rw [hw1]; exact heap_alloc_new w _
  have h1s : w.heap.size < w1.heap.size := (Array.getElem?_eq_some_iff.1 hb1).1
  have hcv : (convert 24 24 (.slice (some ⟨w1.heap.size, 0, none⟩) 2 2)).run Tryd.prog (w1.alloc (.cells #[.int .u8 97, .int .u8 98] 5)) = .ok (.slice (some ⟨w1.heap.size, 0, none⟩) 2 2) ((w1.alloc (.cells #[.int .u8 97, .int .u8 98] 5)).freeze ⟨w1.heap.size, 2, none⟩ 1) :=
    HC.out _ _ 2 2 _ _ _ (heap_alloc_new w1 _)
  have H1 := Lib.hid (And.intro hB1 (And.intro hb1 h1s))
  clear hw1 hB1 hb1 h1s
  go_wp2_with (fail)
  obtain ⟨hB1, hb1, h1s⟩ := H1.out
  obtain ⟨hT, hgl⟩ := HT.out
  obtain ⟨hBc, ⟨fc, hfc⟩, hsc⟩ := conv_new w1 #[.int .u8 97, .int .u8 98] 5 2
  have hTc := (hT.below hB1).below hBc
  refine (write_any _ w.heap.size zeroHash [] [97, 98] (some ⟨w1.heap.size, 0, none⟩) 2 ((hBc.block _ h1s).trans hb1) zeroHash_is hTc (by omega) (by omega) (by simp) (by omega)
    (.inr ⟨w1.heap.size, 0, rfl, by omega, fun i hi => by rw [cell_of_row _ _ _ _ _ _ hfc]; match i, hi with | 0, _ => rfl | 1, _ => rfl⟩) (by simp)).mono ?_
  rintro e w2 ⟨rfl, c2, hb2, hS2, hg2⟩
  dsimp only
  have hB2 : Below w.heap.size w w2 := (hB1.trans (hBc.mono hB1.size)).trans ⟨hg2.os, hg2.tape, hg2.output, hg2.size, fun k hk => hg2.block k (by have := hB1.size; omega) (by simp; omega)⟩
  have H2 := Lib.hid (And.intro hB2 (And.intro hb2 (And.intro hS2 (hTc.grown hg2 (by omega) (by omega)))))
  clear hB1 hb1 h1s hT hgl hBc hfc hsc hTc hb2 hS2 hg2 hB2 hcv H1
  go_wp2_with (fail)
  refine (clone_any w2 w.heap.size c2 _ H2.out.2.1 H2.out.2.2.1.weak).mono ?_
  rintro e w3 ⟨rfl, hw3⟩
  dsimp only
  have hB3 : Below w2.heap.size w2 w3 := by rw [hw3]; exact (Below.refl _ w2).alloc (Nat.le_refl _) _
  have hb3 : w3.heap[w2.heap.size]? = some (.cells c2 38 (0, 0)) := by rw [hw3]; exact heap_alloc_new w2 _
  have h3s : w2.heap.size < w3.heap.size := (Array.getElem?_eq_some_iff.1 hb3).1
  have hcv : (convert 24 24 (.slice (some ⟨w3.heap.size, 0, none⟩) 1 1)).run Tryd.prog (w3.alloc (.cells #[.int .u8 99] 5)) = .ok (.slice (some ⟨w3.heap.size, 0, none⟩) 1 1) ((w3.alloc (.cells #[.int .u8 99] 5)).freeze ⟨w3.heap.size, 1, none⟩ 1) :=
    HC.out _ _ 1 1 _ _ _ (heap_alloc_new w3 _)
  have H3 := Lib.hid (And.intro hB3 (And.intro hb3 h3s))
  clear hw3 hB3 hb3 h3s
  go_wp2_with (fail)
  obtain ⟨hB2, hb2, hS2, hT2⟩ := H2.out
  obtain ⟨hB3, hb3, h3s⟩ := H3.out
  obtain ⟨hBc, ⟨fc, hfc⟩, hsc⟩ := conv_new w3 #[.int .u8 99] 5 1
  have hTc := (hT2.below hB3).below hBc
  have hwb : w.heap.size < w2.heap.size := (Array.getElem?_eq_some_iff.1 hb2).1
  have hgl := HT.out.2
  refine (write_any _ w.heap.size c2 [97, 98] [99] (some ⟨w3.heap.size, 0, none⟩) 1 ((hBc.block _ (by omega)).trans ((hB3.block _ hwb).trans hb2)) hS2.weak hTc (by omega) (by omega) (by simp) (by omega)
    (.inr ⟨w3.heap.size, 0, rfl, by omega, fun i hi => by rw [cell_of_row _ _ _ _ _ _ hfc]; match i, hi with | 0, _ => rfl⟩) (by simp)).mono ?_
  rintro e w4 ⟨rfl, c4, hb4, hS4, hg4⟩
  dsimp only
  have hB4 : Below w.heap.size w w4 := ((hB2.trans (hB3.mono (by omega))).trans (hBc.mono (by omega))).trans ⟨hg4.os, hg4.tape, hg4.output, hg4.size, fun k hk => hg4.block k (by omega) (by simp; omega)⟩
  have hc4 : w4.heap[w2.heap.size]? = some (.cells c2 38 (0, 0)) := (hg4.block _ (by omega) (by simp; omega)).trans ((hBc.block _ h3s).trans hb3)
  have hT4 := hTc.grown hg4 (by omega) (by omega)
  have H4 := Lib.hid (And.intro hB4 (And.intro hb4 (And.intro (show HashS c4 abc from hS4) (And.intro hc4 (And.intro hT4 hwb)))))
  have HS2 := Lib.hid hS2
  clear hB2 hb2 hS2 hT2 hB3 hb3 h3s hBc hfc hsc hTc hwb hgl hb4 hS4 hg4 hB4 hc4 hT4 hcv H3 H2
  go_wp2_with (fail)
  have hgl4 : 0 < w4.heap.size ∧ 1 < w4.heap.size := by have := HT.out.2; have := H4.out.1.size; omega
  refine (sum_any w4 (some ⟨w.heap.size, 0, none⟩) abc (.inr ⟨_, c4, rfl, H4.out.2.1, H4.out.2.2.1.weak⟩) H4.out.2.2.2.2.1 hgl4 (by decide)).mono ?_
  rintro e w5 ⟨rfl, hB5⟩
  dsimp only
  have H5 := Lib.hid (And.intro hB5 hgl4)
  clear hB5 hgl4
  have hi : (Tryd.prog.info? 25).map (·.size) = some (ShaA abc).size := by rw [show (ShaA abc).size = 32 by simp [ShaA, Spell]]; kernel_rfl
  go_step
  go_step
  go_step
  go_step
  refine wpList_store_row rfl _ _ _ rfl w5.heap.size (ShaA abc) rfl rfl 25 _ (heap_alloc_new w5 _) hi (by simp [ShaA, Spell]) (Spell_one _) ?_
  rw [World.setRow_alloc_new]
  obtain ⟨W0, hW0⟩ : ∃ W0, W0 = w5.alloc (.cells (ShaA abc) 25) := ⟨_, rfl⟩
  rw [← hW0]
  have hF : FirstAt W0 w.heap.size w2.heap.size w5.heap.size ∧ Below w.heap.size w W0 := by
    obtain ⟨hB4, hb4, hS4, hc4, hT4, hwb⟩ := H4.out
    obtain ⟨hB5, hgl4⟩ := H5.out
    have hB6 : Below w4.heap.size w4 W0 := hB5.trans (by rw [hW0]; exact (Below.refl _ w5).alloc hB5.size _)
    have hs6 := hB6.size
    refine ⟨⟨⟨c4, (hB6.block _ (Array.getElem?_eq_some_iff.1 hb4).1).trans hb4, hS4.weak⟩, ⟨c2, (hB6.block _ (Array.getElem?_eq_some_iff.1 hc4).1).trans hc4, HS2.out.weak⟩, ?_, hT4.below hB6, by omega, by omega⟩, hB4.trans (hB6.mono hB4.size)⟩
    rw [hW0]
    exact heap_alloc_new w5 _
  have HF := Lib.hid hF
  clear hW0 hF hi H5 H4 HS2 hz
  go_wp2_with (fail)
  refine wp_region_local (by kernel_rfl) (vOf (firstVs W0 w.heap.size w2.heap.size w5.heap.size)) (fun w' => Below W0.heap.size W0 w') Lay (vOf_st _) (by kernel_rfl) ⟨rfl, rfl, rfl, Nat.le_refl _, fun _ _ => rfl⟩ ⟨trivial, trivial, trivial, fun _ _ h => h, fun _ _ h => h, fun _ _ h => h, trivial, trivial, fun _ _ h => h, fun _ _ h => h, trivial, trivial, fun _ _ h => h, fun _ _ h => h, fun _ _ h => h, trivial, trivial, fun _ _ h => h, fun _ _ h => h, fun _ _ h => h, fun _ _ h => h, fun _ _ h => h, fun _ _ h => h, fun _ _ h => h, fun _ _ h => h, trivial, trivial, fun _ _ h => h, fun _ _ h => h, fun _ _ h => h, trivial, trivial, fun _ _ h => h, fun _ _ h => h, fun _ _ h => h, trivial, trivial, fun _ _ h => h, fun _ _ h => h, fun _ _ h => h, fun _ _ h => h, fun _ _ h => h, trivial, trivial, fun _ _ h => h, fun _ _ h => h, fun _ _ h => h, fun _ _ h => h, fun _ _ h => h, fun _ _ h => h, trivial, trivial, trivial⟩ ?_ ?_
  · have hF := HF.out.1
    generalize w.heap.size = b at hF ⊢
    generalize w2.heap.size = b2 at hF ⊢
    generalize w5.heap.size = x at hF ⊢
    clear HF HT
    have hi : (Tryd.prog.info? 25).map (·.size) = some (ShaA abc).size := by rw [show (ShaA abc).size = 32 by simp [ShaA, Spell]]; kernel_rfl
    have HE := Lib.hid (eql_sum abc abc rfl)
    refine ⟨?_, ?_, ?_, ?_, ?_, ?_, ?_, ?_, ?_, ?_, ?_, ?_, ?_, ?_, ?_, ?_, ?_, ?_, ?_, ?_, ?_, ?_, ?_, ?_, ?_, ?_, ?_, ?_, ?_, ?_, ?_, ?_, ?_, ?_, ?_, ?_, ?_, ?_, ?_, ?_, ?_, ?_, ?_, ?_, ?_, ?_, ?_, ?_, ?_, ?_, ?_, ?_, trivial⟩
    · intro a w hG hout hpre K hK
      have q2 := ev_of ((hout 2 rfl).trans (show _ = .int .i64 2 from rfl))
      clear hout hpre
      go_step
      exact hK _ _ rfl hG (Lay.refl _)
    · intro a w hG hout hpre K hK
      obtain ⟨p0, _⟩ := hpre
      have q18 := ev_of (show a.eval (.tmp 18) = .int .i64 2 from p0)
      clear hout
      go_step
      exact hK _ _ rfl hG (Lay.refl _)
    · intro a w hG hout hpre K hK
      obtain ⟨p0, _⟩ := hpre
      have q19 := ev_of (show a.eval (.tmp 19) = .bool true from p0)
      clear hout
      go_step
      exact hK _ _ rfl hG (Lay.refl _)
    · intro a w hG hout hpre K hK
      have q1 := ev_of ((hout 1 rfl).trans (show _ = .pointer (some ⟨b, 0, none⟩) from rfl))
      clear hout hpre
      go_step
      exact hK _ _ rfl hG (Lay.refl _)
    · intro a w hG hout hpre K hK
      obtain ⟨p0, _⟩ := hpre
      have q21 := ev_of (show a.eval (.tmp 21) = .pointer (some ⟨b, 0, none⟩) from p0)
      clear hout
      obtain ⟨c, hc, hH⟩ := (hF.below hG).1
      go_step
      refine (len_any w _ c _ hc hH).mono ?_
      rintro e w1 ⟨rfl, rfl⟩
      exact hK _ _ rfl hG (Lay.refl _)
    · intro a w hG hout hpre K hK
      obtain ⟨p0, _⟩ := hpre
      have q22 := ev_of (show a.eval (.tmp 22) = .int .i64 3 from p0)
      clear hout
      go_step
      exact hK _ _ rfl hG (Lay.refl _)
    · intro a w hG hout hpre K hK
      obtain ⟨p0, p1, _⟩ := hpre
      have q20 := ev_of (show a.eval (.tmp 20) = .bool true from p0)
      have q23 := ev_of (show a.eval (.tmp 23) = .bool true from p1)
      clear hout
      go_step
      exact hK _ _ rfl hG (Lay.refl _)
    · intro a w hG hout hpre K hK
      obtain ⟨p0, _⟩ := hpre
      have q24 := ev_of (show a.eval (.tmp 24) = .bool true from p0)
      clear hout
      go_step
      exact hK _ _ rfl hG (Lay.refl _)
    · intro a w hG hout hpre K hK
      have q3 := ev_of ((hout 3 rfl).trans (show _ = .pointer (some ⟨b2, 0, none⟩) from rfl))
      clear hout hpre
      go_step
      exact hK _ _ rfl hG (Lay.refl _)
    · intro a w hG hout hpre K hK
      obtain ⟨p0, _⟩ := hpre
      have q26 := ev_of (show a.eval (.tmp 26) = .pointer (some ⟨b2, 0, none⟩) from p0)
      clear hout
      go_step
      exact hK _ _ rfl hG (Lay.refl _)
    · intro a w hG hout hpre K hK
      obtain ⟨p0, p1, _⟩ := hpre
      have q25 := ev_of (show a.eval (.tmp 25) = .bool true from p0)
      have q27 := ev_of (show a.eval (.tmp 27) = .bool true from p1)
      clear hout
      go_step
      exact hK _ _ rfl hG (Lay.refl _)
    · intro a w hG hout hpre K hK
      obtain ⟨p0, _⟩ := hpre
      have q28 := ev_of (show a.eval (.tmp 28) = .bool true from p0)
      clear hout
      go_step
      exact hK _ _ rfl hG (Lay.refl _)
    · intro a w hG hout hpre K hK
      have q3 := ev_of ((hout 3 rfl).trans (show _ = .pointer (some ⟨b2, 0, none⟩) from rfl))
      clear hout hpre
      go_step
      exact hK _ _ rfl hG (Lay.refl _)
    · intro a w hG hout hpre K hK
      obtain ⟨p0, _⟩ := hpre
      have q30 := ev_of (show a.eval (.tmp 30) = .pointer (some ⟨b2, 0, none⟩) from p0)
      clear hout
      obtain ⟨c, hc, hH⟩ := (hF.below hG).2.1
      go_step
      refine (len_any w _ c _ hc hH).mono ?_
      rintro e w1 ⟨rfl, rfl⟩
      exact hK _ _ rfl hG (Lay.refl _)
    · intro a w hG hout hpre K hK
      obtain ⟨p0, _⟩ := hpre
      have q31 := ev_of (show a.eval (.tmp 31) = .int .i64 2 from p0)
      clear hout
      go_step
      exact hK _ _ rfl hG (Lay.refl _)
    · intro a w hG hout hpre K hK
      obtain ⟨p0, p1, _⟩ := hpre
      have q29 := ev_of (show a.eval (.tmp 29) = .bool true from p0)
      have q32 := ev_of (show a.eval (.tmp 32) = .bool true from p1)
      clear hout
      go_step
      exact hK _ _ rfl hG (Lay.refl _)
    · intro a w hG hout hpre K hK
      obtain ⟨p0, _⟩ := hpre
      have q33 := ev_of (show a.eval (.tmp 33) = .bool true from p0)
      clear hout
      go_step
      exact hK _ _ rfl hG (Lay.refl _)
    · intro a w hG hout hpre K hK
      refine wp_load_row _ _ rfl x ((hout 4 rfl).trans rfl) 25 (ShaA abc) (0, 0) _ (hF.below hG).2.2.1 Tryd.underlying25 rfl hi ?_
      exact hK _ _ rfl hG (Lay.refl _)
    · intro a w hG hout hpre K hK
      clear hout hpre
      go_step
      exact hK _ _ ⟨w.heap.size, (0, 0), rfl, hG.size, heap_alloc_new w _⟩ (hG.alloc hG.size _) (Lay.below ((Below.refl _ w).alloc (Nat.le_refl _) _))
    · intro a w hG hout hpre K hK
      obtain ⟨p0, _⟩ := hpre
      obtain ⟨g, fr, hv, hb, hg⟩ := show (stSl W0.heap.size 1 #[.int .u8 97] 5).p w (a.eval (.tmp 36)) from p0
      have q := ev_of hv
      have hcv := HC.out w g 1 1 _ _ _ hg
      clear hout
      go_step
      exact hK _ _ ((stSl W0.heap.size 1 #[.int .u8 97] 5).st _ _ _ (Lay.freeze w g _) ⟨g, fr, rfl, hb, hg⟩) (hG.trans (below_freeze w g _ hb)) (Lay.freeze w g _)
    · intro a w hG hout hpre K hK
      clear hout hpre
      go_step
      exact hK _ _ ⟨w.heap.size, (0, 0), rfl, hG.size, heap_alloc_new w _⟩ (hG.alloc hG.size _) (Lay.below ((Below.refl _ w).alloc (Nat.le_refl _) _))
    · intro a w hG hout hpre K hK
      obtain ⟨p0, _⟩ := hpre
      obtain ⟨g, fr, hv, hb, hg⟩ := show (stSl W0.heap.size 2 #[.int .u8 98, .int .u8 99] 5).p w (a.eval (.tmp 38)) from p0
      have q := ev_of hv
      have hcv := HC.out w g 2 2 _ _ _ hg
      clear hout
      go_step
      exact hK _ _ ((stSl W0.heap.size 2 #[.int .u8 98, .int .u8 99] 5).st _ _ _ (Lay.freeze w g _) ⟨g, fr, rfl, hb, hg⟩) (hG.trans (below_freeze w g _ hb)) (Lay.freeze w g _)
    · intro a w hG hout hpre K hK
      obtain ⟨p0, p1, _⟩ := hpre
      obtain ⟨g1, f1, hv1, _, hg1⟩ := show (stSl W0.heap.size 1 #[.int .u8 97] 5).p w (a.eval (.tmp 37)) from p0
      obtain ⟨g2, f2, hv2, _, hg2⟩ := show (stSl W0.heap.size 2 #[.int .u8 98, .int .u8 99] 5).p w (a.eval (.tmp 39)) from p1
      have q1 := ev_of hv1
      have q2 := ev_of hv2
      clear hout
      go_step
      have hB : Below w.heap.size w (w.alloc (.cells #[.slice (some ⟨g1, 0, none⟩) 1 1, .slice none 0 0, .slice (some ⟨g2, 0, none⟩) 2 2] 24)) := (Below.refl _ w).alloc (Nat.le_refl _) _
      have k1 : SrcP w (some ⟨g1, 0, none⟩) 1 [97] := src_new hg1 (m := [97]) fun i hi => by match i, hi with | 0, _ => rfl
      have k2 : SrcP w (some ⟨g2, 0, none⟩) 2 [98, 99] := src_new hg2 (m := [98, 99]) fun i hi => by match i, hi with | 0, _ => rfl | 1, _ => rfl
      refine hK _ _ ⟨w.heap.size, [⟨some ⟨g1, 0, none⟩, 1, [97]⟩, ⟨none, 0, []⟩, ⟨some ⟨g2, 0, none⟩, 2, [98, 99]⟩], rfl, rfl, rfl, .inr ⟨w.heap.size, 0, rfl, fun i p hp => ?_⟩, fun p hp => ?_⟩ (hG.alloc hG.size _) (Lay.below hB)
      · rw [cell_of_row _ _ _ _ _ _ (heap_alloc_new w _), Nat.zero_add]
        match i, hp with
        | 0, hp => cases hp; rfl
        | 1, hp => cases hp; rfl
        | 2, hp => cases hp; rfl
      · simp only [List.mem_cons, List.not_mem_nil, or_false] at hp
        rcases hp with rfl | rfl | rfl
        · exact ⟨Nat.le_refl _, show 1 ≤ 9223372036854775807 by decide, k1.below hB⟩
        · exact ⟨Nat.le_refl _, show 0 ≤ 9223372036854775807 by decide, .inl rfl⟩
        · exact ⟨Nat.le_refl _, show 2 ≤ 9223372036854775807 by decide, k2.below hB⟩
    · intro a w hG hout hpre K hK
      obtain ⟨p0, _⟩ := hpre
      obtain ⟨g, ps, hv, hn, hm, hP, hok⟩ := show (stParts 3 abc).p w (a.eval (.tmp 40)) from p0
      have q := ev_of hv
      have hs := sumF_any w (some ⟨g, 0, none⟩) 3 ps hP hok (hF.below hG).2.2.2.1 (hF.below hG).2.2.2.2 (by rw [hm]; decide) (by omega)
      rw [hn, hm] at hs
      have HS := Lib.hid hs
      clear hout hs hn hm hP hok hv
      go_step
      refine HS.out.mono ?_
      rintro e w1 ⟨rfl, hB⟩
      exact hK _ _ rfl (hG.trans (hB.mono hG.size)) (Lay.below hB)
    · intro a w hG hout hpre K hK
      obtain ⟨p0, p1, _⟩ := hpre
      have q35 := ev_of (show a.eval (.tmp 35) = .agg (ShaA abc) from p0)
      have q41 := ev_of (show a.eval (.tmp 41) = .agg (ShaA abc) from p1)
      clear hout
      obtain ⟨e1, e2, e3⟩ := HE.out
      go_step
      exact hK _ _ rfl hG (Lay.refl _)
    · intro a w hG hout hpre K hK
      obtain ⟨p0, p1, _⟩ := hpre
      have q34 := ev_of (show a.eval (.tmp 34) = .bool true from p0)
      have q42 := ev_of (show a.eval (.tmp 42) = .bool true from p1)
      clear hout
      go_step
      exact hK _ _ rfl hG (Lay.refl _)
    · intro a w hG hout hpre K hK
      obtain ⟨p0, _⟩ := hpre
      have q43 := ev_of (show a.eval (.tmp 43) = .bool true from p0)
      clear hout
      go_step
      exact hK _ _ rfl hG (Lay.refl _)
    · intro a w hG hout hpre K hK
      have q4 := ev_of ((hout 4 rfl).trans (show _ = .pointer (some ⟨x, 0, none⟩) from rfl))
      clear hout hpre
      go_step
      exact hK _ _ rfl hG (Lay.refl _)
    · intro a w hG hout hpre K hK
      obtain ⟨p0, _⟩ := hpre
      have q45 := ev_of (show a.eval (.tmp 45) = .pointer (some ⟨x, 0, none⟩) from p0)
      clear hout
      have hc : w.cell? ⟨x, 0, none⟩ = some (.int .u8 186) := (cell_of_row w x 0 _ _ _ (hF.below hG).2.2.1).trans abc0
      go_step
      exact hK _ _ rfl hG (Lay.refl _)
    · intro a w hG hout hpre K hK
      obtain ⟨p0, _⟩ := hpre
      have q46 := ev_of (show a.eval (.tmp 46) = .int .u8 186 from p0)
      clear hout
      go_step
      exact hK _ _ rfl hG (Lay.refl _)
    · intro a w hG hout hpre K hK
      obtain ⟨p0, p1, _⟩ := hpre
      have q44 := ev_of (show a.eval (.tmp 44) = .bool true from p0)
      have q47 := ev_of (show a.eval (.tmp 47) = .bool true from p1)
      clear hout
      go_step
      exact hK _ _ rfl hG (Lay.refl _)
    · intro a w hG hout hpre K hK
      obtain ⟨p0, _⟩ := hpre
      have q48 := ev_of (show a.eval (.tmp 48) = .bool true from p0)
      clear hout
      go_step
      exact hK _ _ rfl hG (Lay.refl _)
    · intro a w hG hout hpre K hK
      have q4 := ev_of ((hout 4 rfl).trans (show _ = .pointer (some ⟨x, 0, none⟩) from rfl))
      clear hout hpre
      go_step
      exact hK _ _ rfl hG (Lay.refl _)
    · intro a w hG hout hpre K hK
      obtain ⟨p0, _⟩ := hpre
      have q50 := ev_of (show a.eval (.tmp 50) = .pointer (some ⟨x, 31, none⟩) from p0)
      clear hout
      have hc : w.cell? ⟨x, 31, none⟩ = some (.int .u8 173) := (cell_of_row w x 31 _ _ _ (hF.below hG).2.2.1).trans abc31
      go_step
      exact hK _ _ rfl hG (Lay.refl _)
    · intro a w hG hout hpre K hK
      obtain ⟨p0, _⟩ := hpre
      have q51 := ev_of (show a.eval (.tmp 51) = .int .u8 173 from p0)
      clear hout
      go_step
      exact hK _ _ rfl hG (Lay.refl _)
    · intro a w hG hout hpre K hK
      obtain ⟨p0, p1, _⟩ := hpre
      have q49 := ev_of (show a.eval (.tmp 49) = .bool true from p0)
      have q52 := ev_of (show a.eval (.tmp 52) = .bool true from p1)
      clear hout
      go_step
      exact hK _ _ rfl hG (Lay.refl _)
    · intro a w hG hout hpre K hK
      obtain ⟨p0, _⟩ := hpre
      have q53 := ev_of (show a.eval (.tmp 53) = .bool true from p0)
      clear hout
      go_step
      exact hK _ _ rfl hG (Lay.refl _)
    · intro a w hG hout hpre K hK
      clear hout hpre
      go_step
      exact hK _ _ ⟨w.heap.size, (0, 0), rfl, hG.size, heap_alloc_new w _⟩ (hG.alloc hG.size _) (Lay.below ((Below.refl _ w).alloc (Nat.le_refl _) _))
    · intro a w hG hout hpre K hK
      obtain ⟨p0, _⟩ := hpre
      obtain ⟨g, fr, hv, hb, hg⟩ := show (stSl W0.heap.size 2 #[.int .u8 97, .int .u8 98] 5).p w (a.eval (.tmp 55)) from p0
      have q := ev_of hv
      have hcv := HC.out w g 2 2 _ _ _ hg
      clear hout
      go_step
      exact hK _ _ ((stSl W0.heap.size 2 #[.int .u8 97, .int .u8 98] 5).st _ _ _ (Lay.freeze w g _) ⟨g, fr, rfl, hb, hg⟩) (hG.trans (below_freeze w g _ hb)) (Lay.freeze w g _)
    · intro a w hG hout hpre K hK
      clear hout hpre
      go_step
      exact hK _ _ ⟨w.heap.size, (0, 0), rfl, hG.size, heap_alloc_new w _⟩ (hG.alloc hG.size _) (Lay.below ((Below.refl _ w).alloc (Nat.le_refl _) _))
    · intro a w hG hout hpre K hK
      obtain ⟨p0, _⟩ := hpre
      obtain ⟨g, fr, hv, hb, hg⟩ := show (stSl W0.heap.size 2 #[.int .u8 97, .int .u8 98] 5).p w (a.eval (.tmp 57)) from p0
      have q := ev_of hv
      have hcv := HC.out w g 2 2 _ _ _ hg
      clear hout
      go_step
      exact hK _ _ ((stSl W0.heap.size 2 #[.int .u8 97, .int .u8 98] 5).st _ _ _ (Lay.freeze w g _) ⟨g, fr, rfl, hb, hg⟩) (hG.trans (below_freeze w g _ hb)) (Lay.freeze w g _)
    · intro a w hG hout hpre K hK
      obtain ⟨p0, p1, _⟩ := hpre
      obtain ⟨g1, f1, hv1, _, hg1⟩ := show (stSl W0.heap.size 2 #[.int .u8 97, .int .u8 98] 5).p w (a.eval (.tmp 56)) from p0
      obtain ⟨g2, f2, hv2, _, hg2⟩ := show (stSl W0.heap.size 2 #[.int .u8 97, .int .u8 98] 5).p w (a.eval (.tmp 58)) from p1
      have q1 := ev_of hv1
      have q2 := ev_of hv2
      have k1 : SrcP w (some ⟨g1, 0, none⟩) 2 [97, 98] := src_new hg1 (m := [97, 98]) fun i hi => by match i, hi with | 0, _ => rfl | 1, _ => rfl
      have k2 : SrcP w (some ⟨g2, 0, none⟩) 2 [97, 98] := src_new hg2 (m := [97, 98]) fun i hi => by match i, hi with | 0, _ => rfl | 1, _ => rfl
      clear hout
      go_step
      refine (same_any w _ _ [97, 98] [97, 98] 2 2 k1 k2 (by decide) (by decide)).mono ?_
      rintro e w1 ⟨rfl, n, rfl⟩
      exact hK _ _ rfl (below_draws hG n) (Lay.below (below_draws (Below.refl _ w) n))
    · intro a w hG hout hpre K hK
      obtain ⟨p0, p1, _⟩ := hpre
      have q54 := ev_of (show a.eval (.tmp 54) = .bool true from p0)
      have q59 := ev_of (show a.eval (.tmp 59) = .bool true from p1)
      clear hout
      go_step
      exact hK _ _ rfl hG (Lay.refl _)
    · intro a w hG hout hpre K hK
      obtain ⟨p0, _⟩ := hpre
      have q60 := ev_of (show a.eval (.tmp 60) = .bool true from p0)
      clear hout
      go_step
      exact hK _ _ rfl hG (Lay.refl _)
    · intro a w hG hout hpre K hK
      clear hout hpre
      go_step
      exact hK _ _ ⟨w.heap.size, (0, 0), rfl, hG.size, heap_alloc_new w _⟩ (hG.alloc hG.size _) (Lay.below ((Below.refl _ w).alloc (Nat.le_refl _) _))
    · intro a w hG hout hpre K hK
      obtain ⟨p0, _⟩ := hpre
      obtain ⟨g, fr, hv, hb, hg⟩ := show (stSl W0.heap.size 2 #[.int .u8 97, .int .u8 98] 5).p w (a.eval (.tmp 62)) from p0
      have q := ev_of hv
      have hcv := HC.out w g 2 2 _ _ _ hg
      clear hout
      go_step
      exact hK _ _ ((stSl W0.heap.size 2 #[.int .u8 97, .int .u8 98] 5).st _ _ _ (Lay.freeze w g _) ⟨g, fr, rfl, hb, hg⟩) (hG.trans (below_freeze w g _ hb)) (Lay.freeze w g _)
    · intro a w hG hout hpre K hK
      clear hout hpre
      go_step
      exact hK _ _ ⟨w.heap.size, (0, 0), rfl, hG.size, heap_alloc_new w _⟩ (hG.alloc hG.size _) (Lay.below ((Below.refl _ w).alloc (Nat.le_refl _) _))
    · intro a w hG hout hpre K hK
      obtain ⟨p0, _⟩ := hpre
      obtain ⟨g, fr, hv, hb, hg⟩ := show (stSl W0.heap.size 2 #[.int .u8 97, .int .u8 99] 5).p w (a.eval (.tmp 64)) from p0
      have q := ev_of hv
      have hcv := HC.out w g 2 2 _ _ _ hg
      clear hout
      go_step
      exact hK _ _ ((stSl W0.heap.size 2 #[.int .u8 97, .int .u8 99] 5).st _ _ _ (Lay.freeze w g _) ⟨g, fr, rfl, hb, hg⟩) (hG.trans (below_freeze w g _ hb)) (Lay.freeze w g _)
    · intro a w hG hout hpre K hK
      obtain ⟨p0, p1, _⟩ := hpre
      obtain ⟨g1, f1, hv1, _, hg1⟩ := show (stSl W0.heap.size 2 #[.int .u8 97, .int .u8 98] 5).p w (a.eval (.tmp 63)) from p0
      obtain ⟨g2, f2, hv2, _, hg2⟩ := show (stSl W0.heap.size 2 #[.int .u8 97, .int .u8 99] 5).p w (a.eval (.tmp 65)) from p1
      have q1 := ev_of hv1
      have q2 := ev_of hv2
      have k1 : SrcP w (some ⟨g1, 0, none⟩) 2 [97, 98] := src_new hg1 (m := [97, 98]) fun i hi => by match i, hi with | 0, _ => rfl | 1, _ => rfl
      have k2 : SrcP w (some ⟨g2, 0, none⟩) 2 [97, 99] := src_new hg2 (m := [97, 99]) fun i hi => by match i, hi with | 0, _ => rfl | 1, _ => rfl
      clear hout
      go_step
      refine (same_any w _ _ [97, 98] [97, 99] 2 2 k1 k2 (by decide) (by decide)).mono ?_
      rintro e w1 ⟨rfl, n, rfl⟩
      exact hK _ _ rfl (below_draws hG n) (Lay.below (below_draws (Below.refl _ w) n))
    · intro a w hG hout hpre K hK
      obtain ⟨p0, _⟩ := hpre
      have q66 := ev_of (show a.eval (.tmp 66) = .bool false from p0)
      clear hout
      go_step
      exact hK _ _ rfl hG (Lay.refl _)
    · intro a w hG hout hpre K hK
      obtain ⟨p0, p1, _⟩ := hpre
      have q61 := ev_of (show a.eval (.tmp 61) = .bool true from p0)
      have q67 := ev_of (show a.eval (.tmp 67) = .bool true from p1)
      clear hout
      go_step
      exact hK _ _ rfl hG (Lay.refl _)
    · intro a w hG hout hpre K hK
      obtain ⟨p0, _⟩ := hpre
      have q68 := ev_of (show a.eval (.tmp 68) = .bool true from p0)
      clear hout
      go_step
      exact hK _ _ rfl hG (Lay.refl _)
  · intro a w' hG hd hsz hout hleft
    have hr : a.eval (.tmp 0) = .bool true := hleft 51 0 rfl
    clear hout hleft
    go_wp2_with (fail)
    refine bodyPost_ret (v := .bool true) ?_ (hd.trans rfl) ⟨rfl, HF.out.2.trans (hG.mono HF.out.2.size)⟩
    rw [results_tmp rfl, ← hr]
    rfl
end Go.Proofs.YtoleebkpinhhlaaDoor
