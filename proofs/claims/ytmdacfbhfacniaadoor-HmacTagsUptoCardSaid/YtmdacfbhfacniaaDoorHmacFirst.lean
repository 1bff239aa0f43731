/-
  The contract of first.
-/
import Derived.Test.YtmdacfbhfacniaaDoorHmacTag
import Derived.Test.YtmdacfbhfacniaaDoorRegOps
import Derived.KernelRfl
namespace Go.Proofs.YtmdacfbhfacniaaDoor
open Go.RowKit

def jefe : List (BitVec 8) := [74, 101, 102, 101]
def jefx : List (BitVec 8) := [106, 101, 102, 101]
def msgA : List (BitVec 8) := [119, 104, 97, 116, 32, 100, 111, 32, 121, 97, 32, 119, 97, 110, 116, 32]
def msgB : List (BitVec 8) := [102, 111, 114, 32, 110, 111, 116, 104, 105, 110, 103, 63]
def msg : List (BitVec 8) := [119, 104, 97, 116, 32, 100, 111, 32, 121, 97, 32, 119, 97, 110, 116, 32, 102, 111, 114, 32, 110, 111, 116, 104, 105, 110, 103, 63]
theorem msg_is : msgA ++ msgB = msg := rfl
def tagL : List (BitVec 8) := shaL (macL jefe msg)
theorem tagL_length : tagL.length = 32 := shaL_length _
theorem tag_b0 : byteAt (shaSt (macL jefe msg)) 0 = 0x5b := by kernel_rfl
theorem tag_b31 : byteAt (shaSt (macL jefe msg)) 31 = 0x43 := by kernel_rfl
theorem tag_x0 : byteAt (shaSt (macL jefx msg)) 0 ≠ 0x5b := by decide +kernel
theorem tag0 : (ShaA (macL jefe msg))[0]? = some (.int .u8 91) := (ShaA_cell _ 0 (by decide)).trans (by rw [tag_b0]; rfl)
theorem tag31 : (ShaA (macL jefe msg))[31]? = some (.int .u8 67) := (ShaA_cell _ 31 (by decide)).trans (by rw [tag_b31]; rfl)
theorem tag_yes : decide (shaL (macL jefe msg) = tagL) = true := decide_eq_true rfl
theorem tag_no : decide (shaL (macL jefx msg) = tagL) = false := by
  refine decide_eq_false fun h => tag_x0 ?_
  have h0 := congrArg (fun l : List (BitVec 8) => l[0]?) h
  simp [tagL, shaL] at h0
  rw [h0, tag_b0]

/-- What lies in memory when first begins its last statement. -/
def HFirstAt (W0 : World) (B0 b x : Nat) : Prop :=
  MacAt B0 W0 b (ipad jefe) (opad jefe) msg ∧ W0.heap[x]? = some (.cells (ShaA (macL jefe msg)) 25 (0, 0)) ∧ Tables W0 ∧ 0 < W0.heap.size ∧ 1 < W0.heap.size
theorem HFirstAt.below {W0 w : World} {B0 b x : Nat} (h : HFirstAt W0 B0 b x) (hG : Below W0.heap.size W0 w) : HFirstAt w B0 b x := by
  obtain ⟨hM, hx, hT, h0, h1⟩ := h
  have hs := hG.size
  exact ⟨hM.below hG, (hG.block _ (Array.getElem?_eq_some_iff.1 hx).1).trans hx, hT.below hG, by omega, by omega⟩

--VS
def hfirstVs (W0 : World) (b x : Nat) : List StV :=
   [stEq (.pointer (some ⟨x, 0, none⟩)),
    stEq (.int .u8 91),
    stEq (.bool true),
    stEq (.bool true),
    stEq (.pointer (some ⟨x, 31, none⟩)),
    stEq (.int .u8 67),
    stEq (.bool true),
    stEq (.bool true),
    stEq (.bool true),
    stEq (.int .i64 28),
    stEq (.bool true),
    stEq (.bool true),
    stEq (.bool true),
    stEq (.pointer (some ⟨b, 0, none⟩)),
    stEq (.agg (ShaA (macL jefe msg))),
    stEq (.agg (ShaA (macL jefe msg))),
    stEq (.bool true),
    stEq (.bool true),
    stEq (.bool true),
    stBytes W0.heap.size 4 jefe,
    stBytes W0.heap.size 4 jefe,
    stEq (.slice (some ⟨x, 0, none⟩) 32 32),
    stBytes W0.heap.size 28 msg,
    stBytes W0.heap.size 28 msg,
    stParts 1 msg,
    stEq (.bool true),
    stEq (.bool true),
    stEq (.bool true),
    stBytes W0.heap.size 4 jefx,
    stBytes W0.heap.size 4 jefx,
    stEq (.slice (some ⟨x, 0, none⟩) 32 32),
    stBytes W0.heap.size 28 msg,
    stBytes W0.heap.size 28 msg,
    stParts 1 msg,
    stEq (.bool false),
    stEq (.bool true),
    stEq (.bool true),
    stEq (.bool true)]
--ENDVS

set_option maxRecDepth 100000 in
set_option maxHeartbeats 1000000 in
theorem hfirst_any (w : World) (hT : Tables w) (hgl : 0 < w.heap.size ∧ 1 < w.heap.size) :
    Calls Tryd.prog 5 #[] w (Below0 w (.bool true)) := by
  obtain ⟨Y, hY⟩ : ∃ Y : Array Value, Y = noughts32 := ⟨_, rfl⟩
  have hz2 : ∀ w, (zeroValue 25).run Tryd.prog w = .ok (.agg Y) w := by rw [hY]; exact zero32.1
  have HY := Lib.hid hY
  have HT := Lib.hid (And.intro hT hgl)
  clear hY hT hgl
  go_enter Tryd.func5, Tryd.ntmps5
  go_upto_region 1 with (fail)
  refine wp_region_lit ?_
  refine wpList_bytes2 rfl rfl 4 rfl (show 4 < 56 by decide) 4 _ rfl rfl jefe rfl (by decide) (by decide) (by kernel_rfl) ?_
  intro g1 w1 hB1 hg1 hr1
  refine wpList_bytes2 rfl rfl 6 rfl (by simp [Act.put]) 16 _ rfl rfl msgA rfl (by decide) (by decide) (by kernel_rfl) ?_
  intro g2 w2 hB2 hg2 hr2
  refine wpList_bytes2 rfl rfl 8 rfl (by simp [Act.put]) 12 _ rfl rfl msgB rfl (by decide) (by decide) (by kernel_rfl) ?_
  intro g3 w3 hB3 hg3 hr3
  have H1 := Lib.hid (And.intro hB1 (And.intro hg1 (And.intro hr1 (And.intro hB2 (And.intro hg2 (And.intro hr2 (And.intro hB3 (And.intro hg3 hr3))))))))
  clear hB1 hg1 hr1 hB2 hg2 hr2 hB3 hg3 hr3
  iterate 3 go_step
  obtain ⟨w4, hw4⟩ : ∃ w4, w4 = w3.alloc (.cells #[.slice (some ⟨g2, 0, none⟩) 16 16, .slice (some ⟨g3, 0, none⟩) 12 12] 22) := ⟨_, rfl⟩
  rw [← hw4]
  have hB4 : Below w3.heap.size w3 w4 := by rw [hw4]; exact (Below.refl _ w3).alloc (Nat.le_refl _) _
  have hp4 : w4.heap[w3.heap.size]? = some (.cells #[.slice (some ⟨g2, 0, none⟩) 16 16, .slice (some ⟨g3, 0, none⟩) 12 12] 22 (0, 0)) := by rw [hw4]; exact heap_alloc_new w3 _
  obtain ⟨hB1, hg1, ⟨f1, hr1⟩, hB2, hg2, ⟨f2, hr2⟩, hB3, hg3, ⟨f3, hr3⟩⟩ := H1.out
  obtain ⟨hT, hgl⟩ := HT.out
  have hBa : Below w.heap.size w w4 := ((hB1.trans (hB2.mono hB1.size)).trans (hB3.mono (Nat.le_trans hB1.size hB2.size))).trans (hB4.mono (Nat.le_trans (Nat.le_trans hB1.size hB2.size) hB3.size))
  have l1 := (Array.getElem?_eq_some_iff.1 hr1).1
  have l2 := (Array.getElem?_eq_some_iff.1 hr2).1
  have l3 := (Array.getElem?_eq_some_iff.1 hr3).1
  have s2 := hB2.size
  have s3 := hB3.size
  have s4 := hB4.size
  have r1 : w4.heap[g1]? = some (.cells (jefe.map B).toArray 5 f1) := (hB4.block _ (by omega)).trans ((hB3.block _ (by omega)).trans ((hB2.block _ l1).trans hr1))
  have r2 : w4.heap[g2]? = some (.cells (msgA.map B).toArray 5 f2) := (hB4.block _ (by omega)).trans ((hB3.block _ l2).trans hr2)
  have r3 : w4.heap[g3]? = some (.cells (msgB.map B).toArray 5 f3) := (hB4.block _ l3).trans hr3
  have hP : PartsAt w4 (some ⟨w3.heap.size, 0, none⟩) [⟨some ⟨g2, 0, none⟩, 16, msgA⟩, ⟨some ⟨g3, 0, none⟩, 12, msgB⟩] := by
    refine .inr ⟨w3.heap.size, 0, rfl, fun i p hp => ?_⟩
    rw [cell_of_row _ _ _ _ _ _ hp4, Nat.zero_add]
    match i, hp with
    | 0, hp => cases hp; rfl
    | 1, hp => cases hp; rfl
  have hok : ∀ p ∈ ([⟨some ⟨g2, 0, none⟩, 16, msgA⟩, ⟨some ⟨g3, 0, none⟩, 12, msgB⟩] : List Part), p.ok w4 := by
    intro p hp
    simp only [List.mem_cons, List.not_mem_nil, or_false] at hp
    rcases hp with rfl | rfl
    · exact ⟨show 16 ≤ 16 by decide, show 16 ≤ 9223372036854775807 by decide, src_row r2⟩
    · exact ⟨show 12 ≤ 12 by decide, show 12 ≤ 9223372036854775807 by decide, src_row r3⟩
  have hfl : flat ([⟨some ⟨g2, 0, none⟩, 16, msgA⟩, ⟨some ⟨g3, 0, none⟩, 12, msgB⟩] : List Part) = msg := rfl
  have ht := htag_any w4 (some ⟨g1, 0, none⟩) (some ⟨w3.heap.size, 0, none⟩) 4 2 jefe [⟨some ⟨g2, 0, none⟩, 16, msgA⟩, ⟨some ⟨g3, 0, none⟩, 12, msgB⟩] (src_row r1) (by decide) (by decide) (by decide) hP hok (show 2 ≤ 9223372036854775807 by decide) (by rw [hfl]; decide) (hT.below hBa) (by have := hBa.size; omega)
  rw [hfl] at ht
  have HTG := Lib.hid ht
  have H4 := Lib.hid hBa
  clear hw4 hB4 hp4 hB1 hg1 hr1 hB2 hg2 hr2 hB3 hg3 hr3 hT hgl hBa l1 l2 l3 s2 s3 s4 r1 r2 r3 hP hok hfl ht H1
  go_wp2_with (fail)
  refine HTG.out.mono ?_
  rintro e w5 ⟨rfl, hB5⟩
  obtain ⟨z, hz⟩ : ∃ z, z = ShaA (macL jefe msg) := ⟨_, rfl⟩
  rw [← hz]
  have hzs : z.size = 32 := by rw [hz, ShaA_size]
  have hi : (Tryd.prog.info? 25).map (·.size) = some z.size := by rw [hzs]; exact zero32.2
  have hz1 : z.all (·.oneCell') = true := by rw [hz]; exact Spell_one _
  have H5 := Lib.hid (And.intro hz (And.intro hzs (And.intro hi (And.intro hz1 (H4.out.trans (hB5.mono H4.out.size))))))
  clear hz hzs hi hz1 hB5
  dsimp only
  iterate 4 go_step
  refine wpList_store_row rfl _ _ _ rfl w5.heap.size z rfl rfl 25 Y (heap_alloc_new w5 _) H5.out.2.2.1 (by rw [HY.out, H5.out.2.1]; simp [noughts32]) H5.out.2.2.2.1 ?_
  rw [World.setRow_alloc_new]
  obtain ⟨w6, hw6⟩ : ∃ w6, w6 = w5.alloc (.cells z 25) := ⟨_, rfl⟩
  rw [← hw6]
  have hB6 : Below w.heap.size w w6 := by rw [hw6]; exact H5.out.2.2.2.2.alloc H5.out.2.2.2.2.size _
  have hx6 : w6.heap[w5.heap.size]? = some (.cells z 25 (0, 0)) := by rw [hw6]; exact heap_alloc_new w5 _
  have H6 := Lib.hid (And.intro hB6 hx6)
  clear hw6 hB6 hx6 hz2
  obtain ⟨x, hx⟩ : ∃ x, x = w5.heap.size := ⟨_, rfl⟩
  rw [← hx] at H6 ⊢
  have HX := Lib.hid hx
  clear hx
  go_upto_region 2 with (fail)
  refine wp_region_lit ?_
  refine wpList_bytes2 rfl rfl 12 rfl (show 12 < 56 by decide) 4 _ rfl rfl jefe rfl (by decide) (by decide) (by kernel_rfl) ?_
  intro g7 w7 hB7 hg7 hr7
  obtain ⟨f7, hr7⟩ := hr7
  have hB67 : Below w.heap.size w w7 := H6.out.1.trans (hB7.mono H6.out.1.size)
  have hx7 : w7.heap[x]? = some (.cells z 25 (0, 0)) := (hB7.block _ (Array.getElem?_eq_some_iff.1 H6.out.2).1).trans H6.out.2
  have hgl := HT.out.2
  have HN := Lib.hid (newMac_any w7 (some ⟨g7, 0, none⟩) 4 jefe (src_row hr7) (by decide) (by decide) (by decide) (HT.out.1.below hB67) (by have := hB67.size; omega))
  have H7 := Lib.hid (And.intro hB67 hx7)
  clear hB7 hg7 hr7 hB67 hx7 hgl H6
  go_wp2_with (fail)
  refine HN.out.mono ?_
  rintro e w8 ⟨b, rfl, hM, hB8⟩
  obtain ⟨B0, hB0e⟩ : ∃ B0, B0 = w7.heap.size := ⟨_, rfl⟩
  rw [← hB0e] at hM hB8
  have H8 := Lib.hid (And.intro hM (And.intro hB8 hB0e))
  clear hM hB8 hB0e HN
  dsimp only
  go_upto_region 3 with (fail)
  refine wp_region_lit ?_
  iterate 3 go_step
  refine wpList_bytes2 rfl rfl 16 rfl (show 16 < 56 by decide) 28 _ rfl rfl msg rfl (by decide) (by decide) (by kernel_rfl) ?_
  intro g9 w9 hB9 hg9 hr9
  obtain ⟨f9, hr9⟩ := hr9
  obtain ⟨hM, hB8, hB0e⟩ := H8.out
  have hB79 : Below B0 w7 w9 := hB8.trans (hB9.mono (by rw [hB0e]; exact hB8.size))
  have hB09 : Below w.heap.size w w9 := H7.out.1.trans (hB79.mono (by rw [hB0e]; exact H7.out.1.size))
  have hx9 : w9.heap[x]? = some (.cells z 25 (0, 0)) := (hB79.block _ (by rw [hB0e]; exact (Array.getElem?_eq_some_iff.1 H7.out.2).1)).trans H7.out.2
  have hgl := HT.out.2
  have hs7 := H7.out.1.size
  have hw := mwrite_any w9 B0 b 28 (ipad jefe) (opad jefe) [] msg (some ⟨g9, 0, none⟩) 28 (hM.below hB9) (HT.out.1.below hB09) (by omega) rfl (by decide) (by decide) (fun g c _ hgc => by
    refine .inr ⟨g9, 0, rfl, ?_, fun i hi => ?_⟩
    · intro e
      subst e
      rw [hr9] at hgc
      injection hgc with hgc
      injection hgc with _ e2
      exact absurd e2 (by decide)
    · rw [cell_of_row _ _ _ _ _ _ hr9, Nat.zero_add]
      exact list_map_at msg i hi) (by rw [ipad_length]; decide)
  have HW := Lib.hid hw
  have H9 := Lib.hid (And.intro hB09 (And.intro hx9 (And.intro (show B0 ≤ w9.heap.size by have := hB79.size; omega) hs7)))
  clear hB9 hg9 hr9 hM hB8 hB0e hB79 hB09 hx9 hgl hs7 hw
  go_wp2_with (fail)
  refine HW.out.mono ?_
  rintro e W0 ⟨rfl, hM, hKp⟩
  have hF : HFirstAt W0 B0 b x ∧ Below w.heap.size w W0 := by
    obtain ⟨hB9, hx9, hB0, hs7⟩ := H9.out
    have hB : Below w.heap.size w W0 := hB9.trans (hKp.1.mono (by have := H8.out.2.2; omega))
    have := hB.size
    have hgl := HT.out.2
    refine ⟨⟨hM, ?_, HT.out.1.below hB, by omega, by omega⟩, hB⟩
    rw [← H5.out.1]
    exact hKp.2 _ _ _ _ hx9 (by decide) (by decide)
  have HF := Lib.hid hF
  clear hM hKp hF H9 H8 H7 HW HTG H4 H5 HX
  dsimp only
  go_upto_region 4 with (fail)
--REGION
  refine wp_region_local (by kernel_rfl) (vOf (hfirstVs W0 b x)) (fun w' => Below W0.heap.size W0 w') Lay (vOf_st _) (by kernel_rfl) ⟨rfl, rfl, rfl, Nat.le_refl _, fun _ _ => rfl⟩ ⟨trivial, trivial, trivial, trivial, fun _ _ h => h, fun _ _ h => h, fun _ _ h => h, trivial, trivial, fun _ _ h => h, fun _ _ h => h, trivial, trivial, fun _ _ h => h, fun _ _ h => h, fun _ _ h => h, fun _ _ h => h, trivial, trivial, fun _ _ h => h, fun _ _ h => h, fun _ _ h => h, fun _ _ h => h, fun _ _ h => h, fun _ _ h => h, fun _ _ h => h, trivial, trivial, fun _ _ h => h, fun _ _ h => h, fun _ _ h => h, fun _ _ h => h, fun _ _ h => h, fun _ _ h => h, fun _ _ h => h, fun _ _ h => h, trivial, trivial, trivial⟩ ?_ ?_
  · have hF := HF.out.1
    have hi : (Tryd.prog.info? 25).map (·.size) = some (ShaA (macL jefe msg)).size := by rw [ShaA_size]; exact zero32.2
    have HE := Lib.hid (eql_sum (macL jefe msg) (macL jefe msg) rfl)
    refine ⟨?_, ?_, ?_, ?_, ?_, ?_, ?_, ?_, ?_, ?_, ?_, ?_, ?_, ?_, ?_, ?_, ?_, ?_, ?_, ?_, ?_, ?_, ?_, ?_, ?_, ?_, ?_, ?_, ?_, ?_, ?_, ?_, ?_, ?_, ?_, ?_, ?_, ?_, trivial⟩
    · intro a w hG hout hpre K hK
      have q1 := ev_of ((hout 1 rfl).trans (show _ = .pointer (some ⟨x, 0, none⟩) from rfl))
      clear hout hpre
      go_step
      exact hK _ _ rfl hG (Lay.refl _)
    · intro a w hG hout hpre K hK
      obtain ⟨p0, _⟩ := hpre
      have q19 := ev_of (show a.eval (.tmp 19) = .pointer (some ⟨x, 0, none⟩) from p0)
      clear hout
      have hc : w.cell? ⟨x, 0, none⟩ = some (.int .u8 91) := (cell_of_row w x 0 _ _ _ (hF.below hG).2.1).trans tag0
      go_step
      exact hK _ _ rfl hG (Lay.refl _)
    · intro a w hG hout hpre K hK
      obtain ⟨p0, _⟩ := hpre
      have q20 := ev_of (show a.eval (.tmp 20) = .int .u8 91 from p0)
      clear hout
      go_step
      exact hK _ _ rfl hG (Lay.refl _)
    · intro a w hG hout hpre K hK
      obtain ⟨p0, _⟩ := hpre
      have q21 := ev_of (show a.eval (.tmp 21) = .bool true from p0)
      clear hout
      go_step
      exact hK _ _ rfl hG (Lay.refl _)
    · intro a w hG hout hpre K hK
      have q1 := ev_of ((hout 1 rfl).trans (show _ = .pointer (some ⟨x, 0, none⟩) from rfl))
      clear hout hpre
      go_step
      exact hK _ _ rfl hG (Lay.refl _)
    · intro a w hG hout hpre K hK
      obtain ⟨p0, _⟩ := hpre
      have q23 := ev_of (show a.eval (.tmp 23) = .pointer (some ⟨x, 31, none⟩) from p0)
      clear hout
      have hc : w.cell? ⟨x, 31, none⟩ = some (.int .u8 67) := (cell_of_row w x 31 _ _ _ (hF.below hG).2.1).trans tag31
      go_step
      exact hK _ _ rfl hG (Lay.refl _)
    · intro a w hG hout hpre K hK
      obtain ⟨p0, _⟩ := hpre
      have q24 := ev_of (show a.eval (.tmp 24) = .int .u8 67 from p0)
      clear hout
      go_step
      exact hK _ _ rfl hG (Lay.refl _)
    · intro a w hG hout hpre K hK
      obtain ⟨p0, p1, _⟩ := hpre
      have q22 := ev_of (show a.eval (.tmp 22) = .bool true from p0)
      have q25 := ev_of (show a.eval (.tmp 25) = .bool true from p1)
      clear hout
      go_step
      exact hK _ _ rfl hG (Lay.refl _)
    · intro a w hG hout hpre K hK
      obtain ⟨p0, _⟩ := hpre
      have q26 := ev_of (show a.eval (.tmp 26) = .bool true from p0)
      clear hout
      go_step
      exact hK _ _ rfl hG (Lay.refl _)
    · intro a w hG hout hpre K hK
      have q3 := ev_of ((hout 3 rfl).trans (show _ = .int .i64 28 from rfl))
      clear hout hpre
      go_step
      exact hK _ _ rfl hG (Lay.refl _)
    · intro a w hG hout hpre K hK
      obtain ⟨p0, _⟩ := hpre
      have q28 := ev_of (show a.eval (.tmp 28) = .int .i64 28 from p0)
      clear hout
      go_step
      exact hK _ _ rfl hG (Lay.refl _)
    · intro a w hG hout hpre K hK
      obtain ⟨p0, p1, _⟩ := hpre
      have q27 := ev_of (show a.eval (.tmp 27) = .bool true from p0)
      have q29 := ev_of (show a.eval (.tmp 29) = .bool true from p1)
      clear hout
      go_step
      exact hK _ _ rfl hG (Lay.refl _)
    · intro a w hG hout hpre K hK
      obtain ⟨p0, _⟩ := hpre
      have q30 := ev_of (show a.eval (.tmp 30) = .bool true from p0)
      clear hout
      go_step
      exact hK _ _ rfl hG (Lay.refl _)
    · intro a w hG hout hpre K hK
      have q2 := ev_of ((hout 2 rfl).trans (show _ = .pointer (some ⟨b, 0, none⟩) from rfl))
      clear hout hpre
      go_step
      exact hK _ _ rfl hG (Lay.refl _)
    · intro a w hG hout hpre K hK
      obtain ⟨p0, _⟩ := hpre
      have q32 := ev_of (show a.eval (.tmp 32) = .pointer (some ⟨b, 0, none⟩) from p0)
      obtain ⟨hM, hx, hT, hgl⟩ := hF.below hG
      have HS := Lib.hid (msum_any w B0 b (ipad jefe) (opad jefe) msg hM hT hgl (by rw [ipad_length]; decide) (by rw [opad_length]; decide))
      clear hout hM hx hT hgl
      go_step
      refine HS.out.mono ?_
      rintro e w1 ⟨rfl, hB⟩
      exact hK _ _ rfl (hG.trans (hB.mono hG.size)) (Lay.below hB)
    · intro a w hG hout hpre K hK
      refine wp_load_row _ _ rfl x ((hout 1 rfl).trans rfl) 25 (ShaA (macL jefe msg)) (0, 0) _ (hF.below hG).2.1 Tryd.underlying25 rfl hi ?_
      exact hK _ _ rfl hG (Lay.refl _)
    · intro a w hG hout hpre K hK
      obtain ⟨p0, p1, _⟩ := hpre
      have q33 := ev_of (show a.eval (.tmp 33) = .agg (ShaA (macL jefe msg)) from p0)
      have q34 := ev_of (show a.eval (.tmp 34) = .agg (ShaA (macL jefe msg)) from p1)
      clear hout
      obtain ⟨e1, e2, e3⟩ := HE.out
      go_step
      exact hK _ _ rfl hG (Lay.refl _)
    · intro a w hG hout hpre K hK
      obtain ⟨p0, p1, _⟩ := hpre
      have q31 := ev_of (show a.eval (.tmp 31) = .bool true from p0)
      have q35 := ev_of (show a.eval (.tmp 35) = .bool true from p1)
      clear hout
      go_step
      exact hK _ _ rfl hG (Lay.refl _)
    · intro a w hG hout hpre K hK
      obtain ⟨p0, _⟩ := hpre
      have q36 := ev_of (show a.eval (.tmp 36) = .bool true from p0)
      clear hout
      go_step
      exact hK _ _ rfl hG (Lay.refl _)
    · intro a w hG hout hpre K hK
      refine wp_bytesLit 4 _ rfl jefe rfl (by decide) (by decide) (by kernel_rfl) ?_
      exact hK _ _ ⟨w.heap.size, (0, 0), rfl, hG.size, heap_alloc_new w _⟩ (hG.alloc hG.size _) (Lay.below ((Below.refl _ w).alloc (Nat.le_refl _) _))
    · intro a w hG hout hpre K hK
      obtain ⟨p0, _⟩ := hpre
      obtain ⟨g, fr, hv, hb, hg⟩ := show (stBytes W0.heap.size 4 jefe).p w (a.eval (.tmp 38)) from p0
      refine wp_convBytes (.tmp 38) rfl g 4 4 _ _ _ hv hg ?_
      exact hK _ _ ((stBytes W0.heap.size 4 jefe).st _ _ _ (Lay.freeze w g _) ⟨g, fr, rfl, hb, hg⟩) (hG.trans (below_freeze w g _ hb)) (Lay.freeze w g _)
    · intro a w hG hout hpre K hK
      have q1 := ev_of ((hout 1 rfl).trans (show _ = .pointer (some ⟨x, 0, none⟩) from rfl))
      clear hout hpre
      go_step
      exact hK _ _ rfl hG (Lay.refl _)
    · intro a w hG hout hpre K hK
      refine wp_bytesLit 28 _ rfl msg rfl (by decide) (by decide) (by kernel_rfl) ?_
      exact hK _ _ ⟨w.heap.size, (0, 0), rfl, hG.size, heap_alloc_new w _⟩ (hG.alloc hG.size _) (Lay.below ((Below.refl _ w).alloc (Nat.le_refl _) _))
    · intro a w hG hout hpre K hK
      obtain ⟨p0, _⟩ := hpre
      obtain ⟨g, fr, hv, hb, hg⟩ := show (stBytes W0.heap.size 28 msg).p w (a.eval (.tmp 41)) from p0
      refine wp_convBytes (.tmp 41) rfl g 28 28 _ _ _ hv hg ?_
      exact hK _ _ ((stBytes W0.heap.size 28 msg).st _ _ _ (Lay.freeze w g _) ⟨g, fr, rfl, hb, hg⟩) (hG.trans (below_freeze w g _ hb)) (Lay.freeze w g _)
    · intro a w hG hout hpre K hK
      obtain ⟨p0, _⟩ := hpre
      obtain ⟨g, fr, hv, _, hg⟩ := show (stBytes W0.heap.size 28 msg).p w (a.eval (.tmp 42)) from p0
      have q := ev_of hv
      have k1 : SrcP w (some ⟨g, 0, none⟩) 28 msg := src_row hg
      clear hout hv hg
      go_step
      have hB : Below w.heap.size w (w.alloc (.cells #[.slice (some ⟨g, 0, none⟩) 28 28] 22)) := (Below.refl _ w).alloc (Nat.le_refl _) _
      refine hK _ _ ⟨w.heap.size, [⟨some ⟨g, 0, none⟩, 28, msg⟩], rfl, rfl, by simp [flat], parts_one _ (heap_alloc_new w _), fun p hp => ?_⟩ (hG.alloc hG.size _) (Lay.below hB)
      obtain rfl := List.mem_singleton.1 hp
      exact ⟨show 28 ≤ 28 by decide, show 28 ≤ 9223372036854775807 by decide, k1.below hB⟩
    · intro a w hG hout hpre K hK
      obtain ⟨p0, p1, p2, _⟩ := hpre
      obtain ⟨g1, f1, hv1, _, hg1⟩ := show (stBytes W0.heap.size 4 jefe).p w (a.eval (.tmp 39)) from p0
      obtain ⟨g3, ps, hv3, hn3, hm3, hP3, hok3⟩ := show (stParts 1 msg).p w (a.eval (.tmp 43)) from p2
      have q1 := ev_of hv1
      have q2 := ev_of (show a.eval (.tmp 40) = .slice (some ⟨x, 0, none⟩) 32 32 from p1)
      have q3 := ev_of hv3
      obtain ⟨_, hx, hT, hgl⟩ := hF.below hG
      have ht : SrcP w (some ⟨x, 0, none⟩) tagL.length tagL := src_row (e := 25) (fr := (0, 0)) (by rw [hx, ShaA_is]; rfl)
      have hs := hgood_any w (some ⟨g1, 0, none⟩) (some ⟨g3, 0, none⟩) (some ⟨x, 0, none⟩) 4 1 32 jefe tagL ps (src_row hg1) (by decide) (by decide) (by decide) hP3 hok3 (by omega) (by rw [hm3]; decide) ht (by rw [tagL_length]; decide) hT hgl
      rw [hn3, hm3, tag_yes, tagL_length] at hs
      have HS := Lib.hid hs
      clear hout hs hn3 hm3 hP3 hok3 hv1 hv3 hg1 ht hx hT hgl
      go_step
      refine HS.out.mono ?_
      rintro e w1 ⟨rfl, hB⟩
      exact hK _ _ rfl (hG.trans (hB.mono hG.size)) (Lay.below hB)
    · intro a w hG hout hpre K hK
      obtain ⟨p0, p1, _⟩ := hpre
      have q37 := ev_of (show a.eval (.tmp 37) = .bool true from p0)
      have q44 := ev_of (show a.eval (.tmp 44) = .bool true from p1)
      clear hout
      go_step
      exact hK _ _ rfl hG (Lay.refl _)
    · intro a w hG hout hpre K hK
      obtain ⟨p0, _⟩ := hpre
      have q45 := ev_of (show a.eval (.tmp 45) = .bool true from p0)
      clear hout
      go_step
      exact hK _ _ rfl hG (Lay.refl _)
    · intro a w hG hout hpre K hK
      refine wp_bytesLit 4 _ rfl jefx rfl (by decide) (by decide) (by kernel_rfl) ?_
      exact hK _ _ ⟨w.heap.size, (0, 0), rfl, hG.size, heap_alloc_new w _⟩ (hG.alloc hG.size _) (Lay.below ((Below.refl _ w).alloc (Nat.le_refl _) _))
    · intro a w hG hout hpre K hK
      obtain ⟨p0, _⟩ := hpre
      obtain ⟨g, fr, hv, hb, hg⟩ := show (stBytes W0.heap.size 4 jefx).p w (a.eval (.tmp 47)) from p0
      refine wp_convBytes (.tmp 47) rfl g 4 4 _ _ _ hv hg ?_
      exact hK _ _ ((stBytes W0.heap.size 4 jefx).st _ _ _ (Lay.freeze w g _) ⟨g, fr, rfl, hb, hg⟩) (hG.trans (below_freeze w g _ hb)) (Lay.freeze w g _)
    · intro a w hG hout hpre K hK
      have q1 := ev_of ((hout 1 rfl).trans (show _ = .pointer (some ⟨x, 0, none⟩) from rfl))
      clear hout hpre
      go_step
      exact hK _ _ rfl hG (Lay.refl _)
    · intro a w hG hout hpre K hK
      refine wp_bytesLit 28 _ rfl msg rfl (by decide) (by decide) (by kernel_rfl) ?_
      exact hK _ _ ⟨w.heap.size, (0, 0), rfl, hG.size, heap_alloc_new w _⟩ (hG.alloc hG.size _) (Lay.below ((Below.refl _ w).alloc (Nat.le_refl _) _))
    · intro a w hG hout hpre K hK
      obtain ⟨p0, _⟩ := hpre
      obtain ⟨g, fr, hv, hb, hg⟩ := show (stBytes W0.heap.size 28 msg).p w (a.eval (.tmp 50)) from p0
      refine wp_convBytes (.tmp 50) rfl g 28 28 _ _ _ hv hg ?_
      exact hK _ _ ((stBytes W0.heap.size 28 msg).st _ _ _ (Lay.freeze w g _) ⟨g, fr, rfl, hb, hg⟩) (hG.trans (below_freeze w g _ hb)) (Lay.freeze w g _)
    · intro a w hG hout hpre K hK
      obtain ⟨p0, _⟩ := hpre
      obtain ⟨g, fr, hv, _, hg⟩ := show (stBytes W0.heap.size 28 msg).p w (a.eval (.tmp 51)) from p0
      have q := ev_of hv
      have k1 : SrcP w (some ⟨g, 0, none⟩) 28 msg := src_row hg
      clear hout hv hg
      go_step
      have hB : Below w.heap.size w (w.alloc (.cells #[.slice (some ⟨g, 0, none⟩) 28 28] 22)) := (Below.refl _ w).alloc (Nat.le_refl _) _
      refine hK _ _ ⟨w.heap.size, [⟨some ⟨g, 0, none⟩, 28, msg⟩], rfl, rfl, by simp [flat], parts_one _ (heap_alloc_new w _), fun p hp => ?_⟩ (hG.alloc hG.size _) (Lay.below hB)
      obtain rfl := List.mem_singleton.1 hp
      exact ⟨show 28 ≤ 28 by decide, show 28 ≤ 9223372036854775807 by decide, k1.below hB⟩
    · intro a w hG hout hpre K hK
      obtain ⟨p0, p1, p2, _⟩ := hpre
      obtain ⟨g1, f1, hv1, _, hg1⟩ := show (stBytes W0.heap.size 4 jefx).p w (a.eval (.tmp 48)) from p0
      obtain ⟨g3, ps, hv3, hn3, hm3, hP3, hok3⟩ := show (stParts 1 msg).p w (a.eval (.tmp 52)) from p2
      have q1 := ev_of hv1
      have q2 := ev_of (show a.eval (.tmp 49) = .slice (some ⟨x, 0, none⟩) 32 32 from p1)
      have q3 := ev_of hv3
      obtain ⟨_, hx, hT, hgl⟩ := hF.below hG
      have ht : SrcP w (some ⟨x, 0, none⟩) tagL.length tagL := src_row (e := 25) (fr := (0, 0)) (by rw [hx, ShaA_is]; rfl)
      have hs := hgood_any w (some ⟨g1, 0, none⟩) (some ⟨g3, 0, none⟩) (some ⟨x, 0, none⟩) 4 1 32 jefx tagL ps (src_row hg1) (by decide) (by decide) (by decide) hP3 hok3 (by omega) (by rw [hm3]; decide) ht (by rw [tagL_length]; decide) hT hgl
      rw [hn3, hm3, tag_no, tagL_length] at hs
      have HS := Lib.hid hs
      clear hout hs hn3 hm3 hP3 hok3 hv1 hv3 hg1 ht hx hT hgl
      go_step
      refine HS.out.mono ?_
      rintro e w1 ⟨rfl, hB⟩
      exact hK _ _ rfl (hG.trans (hB.mono hG.size)) (Lay.below hB)
    · intro a w hG hout hpre K hK
      obtain ⟨p0, _⟩ := hpre
      have q53 := ev_of (show a.eval (.tmp 53) = .bool false from p0)
      clear hout
      go_step
      exact hK _ _ rfl hG (Lay.refl _)
    · intro a w hG hout hpre K hK
      obtain ⟨p0, p1, _⟩ := hpre
      have q46 := ev_of (show a.eval (.tmp 46) = .bool true from p0)
      have q54 := ev_of (show a.eval (.tmp 54) = .bool true from p1)
      clear hout
      go_step
      exact hK _ _ rfl hG (Lay.refl _)
    · intro a w hG hout hpre K hK
      obtain ⟨p0, _⟩ := hpre
      have q55 := ev_of (show a.eval (.tmp 55) = .bool true from p0)
      clear hout
      go_step
      exact hK _ _ rfl hG (Lay.refl _)
  · intro a w' hG hd hsz hout hleft
    have hr : a.eval (.tmp 0) = .bool true := hleft 37 0 rfl
    clear hout hleft
    go_wp2_with (fail)
    refine bodyPost_ret (v := .bool true) ?_ (hd.trans rfl) ⟨rfl, HF.out.2.trans (hG.mono HF.out.2.size)⟩
    rw [results_tmp rfl, ← hr]
    rfl
--ENDREGION
end Go.Proofs.YtmdacfbhfacniaaDoor
