/-
  WinsOrder, whatever windows, query and time it is called with.
-/
import Derived.Test.YtkgmcjeficgciaaDoorWinsFirst
import Derived.Test.YtkgmcjeficgciaaDoorRefWCmp
import Derived.Test.YtkgmcjeficgciaaDoorRefWText
import Derived.Test.YtkgmcjeficgciaaDoorHeld
import Derived.Test.YtkgmcjeficgciaaDoorSkip
namespace Go.Proofs.YtkgmcjeficgciaaDoor
open Go Go.RowKit

def roomsO (ak bk : List (BitVec 8)) (al ah bl bh kind size slide late agg tk : Int) : List Room := [⟨8, 11, 3, #[.string ⟨#[]⟩, .int .i64 0, .int .i64 0], #[Sv ak, .int .i64 al, .int .i64 ah], 31⟩, ⟨9, 12, 4, #[.string ⟨#[]⟩, .int .i64 0, .int .i64 0], #[Sv bk, .int .i64 bl, .int .i64 bh], 31⟩, ⟨10, 13, 5, #[.int .i64 0, .int .i64 0, .int .i64 0, .int .i64 0, .int .i64 0, .int .i64 0], #[.int .i64 kind, .int .i64 size, .int .i64 slide, .int .i64 late, .int .i64 agg, .int .i64 tk], 23⟩]
theorem roomsO_ok (ak bk : List (BitVec 8)) (al ah bl bh kind size slide late agg tk : Int) : roomsB (roomsO ak bk al ah bl bh kind size slide late agg tk) = true ∧ ∀ x ∈ roomsO ak bk al ah bl bh kind size slide late agg tk, ∀ y ∈ roomsO ak bk al ah bl bh kind size slide late agg tk, x.ai = y.ai → x = y := by
  refine ⟨rfl, fun x hx y hy h => ?_⟩
  simp only [roomsO, List.mem_cons, List.not_mem_nil, or_false] at hx hy
  rcases hx with rfl | rfl | rfl <;> rcases hy with rfl | rfl | rfl <;> first | rfl | (simp at h)
set_option maxRecDepth 100000 in
set_option maxHeartbeats 8000000 in
theorem winsOrder_any (w : World) (ak bk : List (BitVec 8)) (al ah bl bh : Int) (x : QueryL) (t : Int) (hI : WinsIn w) (hl : ak.length + bk.length ≤ 4611686018427387904) :
    Calls Tryd.prog 4 #[.agg #[Sv ak, .int .i64 al, .int .i64 ah, Sv bk, .int .i64 bl, .int .i64 bh, .int .i64 x.kind, .int .i64 x.size, .int .i64 x.slide, .int .i64 x.late, .int .i64 x.agg, .int .i64 x.k, .int .i64 t]] w (Below0 w (.bool true)) := by
  obtain ⟨kind, size, slide, late, agg, tk⟩ := x
  simp only
  obtain ⟨w1, hw1⟩ : ∃ W, W = w.alloc (.cells #[Sv ak, .int .i64 al, .int .i64 ah, Sv bk, .int .i64 bl, .int .i64 bh, .int .i64 kind, .int .i64 size, .int .i64 slide, .int .i64 late, .int .i64 agg, .int .i64 tk, .int .i64 t] 36) := ⟨_, rfl⟩
  obtain ⟨cb, hcb⟩ : ∃ b, b = w.heap.size := ⟨_, rfl⟩
  have H1 : Hid (w1.heap[cb]? = some (.cells #[Sv ak, .int .i64 al, .int .i64 ah, Sv bk, .int .i64 bl, .int .i64 bh, .int .i64 kind, .int .i64 size, .int .i64 slide, .int .i64 late, .int .i64 agg, .int .i64 tk, .int .i64 t] 36 (0, 0)) ∧ Below w.heap.size w w1) := by
    rw [hw1, hcb]
    exact Lib.hid ⟨heap_alloc_new w _, (Below.refl _ w).alloc (Nat.le_refl _) _⟩
  have HF := Lib.hid (wfirst_any w1 (hI.below H1.out.2))
  have HIw : Hid (∀ w', Below w.heap.size w w' → WinsIn w') := Lib.hid (fun w' h => hI.below h)
  obtain ⟨M, hM⟩ : ∃ m, m = ak.length := ⟨_, rfl⟩
  obtain ⟨N, hN⟩ : ∃ m, m = bk.length := ⟨_, rfl⟩
  have HM : Hid ((M = ak.length ∧ N = bk.length) ∧ M + N ≤ 4611686018427387904) := Lib.hid ⟨⟨hM, hN⟩, by omega⟩
  have hlenA : ∀ w ty, (Builtin.len_ #[9] ty #[Sv ak]).run Tryd.prog w = .ok (.int .i64 (M : Int)) w := by
    rw [hM]
    exact fun w ty => run_len_Sv w ty ak
  have hlenB : ∀ w ty, (Builtin.len_ #[9] ty #[Sv bk]).run Tryd.prog w = .ok (.int .i64 (N : Int)) w := by
    rw [hN]
    exact fun w ty => run_len_Sv w ty bk
  clear hI hM hN hl
  go_enter Tryd.func4, Tryd.ntmps4
  go_upto_region 1 with (fail)
  rw [← hw1, ← hcb]
  clear hw1 hcb
  go_wp2_with (fail)
  refine HF.out.mono ?_
  rintro e w2 ⟨rfl, hB2⟩
  obtain ⟨B1, hB1⟩ : ∃ b, b = w2.heap.size := ⟨_, rfl⟩
  have HG3 : Hid (Held w B1 [(cb, #[Sv ak, .int .i64 al, .int .i64 ah, Sv bk, .int .i64 bl, .int .i64 bh, .int .i64 kind, .int .i64 size, .int .i64 slide, .int .i64 late, .int .i64 agg, .int .i64 tk, .int .i64 t], 36)] { w2 with drawn := w2.drawn + 1 }) := by
    have h0 : Held w w1.heap.size [(cb, #[Sv ak, .int .i64 al, .int .i64 ah, Sv bk, .int .i64 bl, .int .i64 bh, .int .i64 kind, .int .i64 size, .int .i64 slide, .int .i64 late, .int .i64 agg, .int .i64 tk, .int .i64 t], 36)] w1 := ⟨fun x hx => by
      simp only [List.mem_singleton] at hx
      subst hx
      exact H1.out.1, H1.out.2, Nat.le_refl _⟩
    have h2 := (h0.grow hB2).drew
    rw [← hB1] at h2
    exact h2
  have HLt : Hid (w.heap.size ≤ B1 ∧ ∀ x ∈ [(cb, #[Sv ak, .int .i64 al, .int .i64 ah, Sv bk, .int .i64 bl, .int .i64 bh, .int .i64 kind, .int .i64 size, .int .i64 slide, .int .i64 late, .int .i64 agg, .int .i64 tk, .int .i64 t], 36)], x.1 < B1) := by
    have := HG3.out.lt
    rw [hB1]
    exact this
  have HRm := Lib.hid (roomsO_ok ak bk al ah bl bh kind size slide late agg tk)
  clear hB2 hB1
  dsimp only
  go_upto_region 3 with (fail)
  refine wp_region_joint (by kernel_rfl) (vOpt [some (.pointer (some ⟨cb, 0, none⟩)), some (.agg #[Sv ak, .int .i64 al, .int .i64 ah]), some (.pointer (some ⟨cb, 3, none⟩)), some (.agg #[Sv bk, .int .i64 bl, .int .i64 bh]), some (.pointer (some ⟨cb, 6, none⟩)), some (.agg #[.int .i64 kind, .int .i64 size, .int .i64 slide, .int .i64 late, .int .i64 agg, .int .i64 tk]), some (.pointer (some ⟨cb, 12, none⟩)), some (.int .i64 t), none, none, none, none, none, none, some (.int .i64 t)]) (Held w B1 [(cb, #[Sv ak, .int .i64 al, .int .i64 ah, Sv bk, .int .i64 bl, .int .i64 bh, .int .i64 kind, .int .i64 size, .int .i64 slide, .int .i64 late, .int .i64 agg, .int .i64 tk, .int .i64 t], 36)]) (Rooms B1 (roomsO ak bk al ah bl bh kind size slide late agg tk)) (fun _ _ _ _ h => h) (by kernel_rfl) HG3.out (Rooms.none _ _ _ _) ⟨trivial, trivial, trivial, trivial, trivial, trivial, trivial, trivial, trivial, trivial, trivial, trivial, trivial, trivial, trivial, trivial⟩ ?_ ?_
  · refine ⟨?_, ?_, ?_, ?_, ?_, ?_, ?_, ?_, ?_, ?_, ?_, ?_, ?_, ?_, ?_, trivial⟩
    · intro L a w' hG hJ hsz hl hb hout hpre K hK
      clear hsz hl hb
      have q1 := ev_of ((hout 1 rfl).trans (show _ = .pointer (some ⟨cb, 0, none⟩) from rfl))
      clear hout hpre
      go_step
      exact hK _ _ rfl hG (hJ.pure 0 (some 11) _ rfl (Below.refl _ _))
    · intro L a w' hG hJ hsz hl hb hout hpre K hK
      clear hsz hl hb
      obtain ⟨p0, _⟩ := hpre
      have q11 := ev_of (show a.eval (.tmp 11) = .pointer (some ⟨cb, 0, none⟩) from p0)
      have hc0 : w'.cell? ⟨cb, 0, none⟩ = some (Sv ak) := (hG.cell (b := cb) (cs := #[Sv ak, .int .i64 al, .int .i64 ah, Sv bk, .int .i64 bl, .int .i64 bh, .int .i64 kind, .int .i64 size, .int .i64 slide, .int .i64 late, .int .i64 agg, .int .i64 tk, .int .i64 t]) (t := 36) (by simp) 0).trans rfl
      have hc1 : w'.cell? ⟨cb, 1, none⟩ = some (.int .i64 al) := (hG.cell (b := cb) (cs := #[Sv ak, .int .i64 al, .int .i64 ah, Sv bk, .int .i64 bl, .int .i64 bh, .int .i64 kind, .int .i64 size, .int .i64 slide, .int .i64 late, .int .i64 agg, .int .i64 tk, .int .i64 t]) (t := 36) (by simp) 1).trans rfl
      have hc2 : w'.cell? ⟨cb, 2, none⟩ = some (.int .i64 ah) := (hG.cell (b := cb) (cs := #[Sv ak, .int .i64 al, .int .i64 ah, Sv bk, .int .i64 bl, .int .i64 bh, .int .i64 kind, .int .i64 size, .int .i64 slide, .int .i64 late, .int .i64 agg, .int .i64 tk, .int .i64 t]) (t := 36) (by simp) 2).trans rfl
      clear hout p0
      go_step
      exact hK _ _ rfl hG (hJ.pure 1 (some 12) _ rfl (Below.refl _ _))
    · intro L a w' hG hJ hsz hl hb hout hpre K hK
      clear hsz hl hb
      have q1 := ev_of ((hout 1 rfl).trans (show _ = .pointer (some ⟨cb, 0, none⟩) from rfl))
      clear hout hpre
      go_step
      exact hK _ _ rfl hG (hJ.pure 2 (some 13) _ rfl (Below.refl _ _))
    · intro L a w' hG hJ hsz hl hb hout hpre K hK
      clear hsz hl hb
      obtain ⟨p0, _⟩ := hpre
      have q13 := ev_of (show a.eval (.tmp 13) = .pointer (some ⟨cb, 3, none⟩) from p0)
      have hc3 : w'.cell? ⟨cb, 3, none⟩ = some (Sv bk) := (hG.cell (b := cb) (cs := #[Sv ak, .int .i64 al, .int .i64 ah, Sv bk, .int .i64 bl, .int .i64 bh, .int .i64 kind, .int .i64 size, .int .i64 slide, .int .i64 late, .int .i64 agg, .int .i64 tk, .int .i64 t]) (t := 36) (by simp) 3).trans rfl
      have hc4 : w'.cell? ⟨cb, 4, none⟩ = some (.int .i64 bl) := (hG.cell (b := cb) (cs := #[Sv ak, .int .i64 al, .int .i64 ah, Sv bk, .int .i64 bl, .int .i64 bh, .int .i64 kind, .int .i64 size, .int .i64 slide, .int .i64 late, .int .i64 agg, .int .i64 tk, .int .i64 t]) (t := 36) (by simp) 4).trans rfl
      have hc5 : w'.cell? ⟨cb, 5, none⟩ = some (.int .i64 bh) := (hG.cell (b := cb) (cs := #[Sv ak, .int .i64 al, .int .i64 ah, Sv bk, .int .i64 bl, .int .i64 bh, .int .i64 kind, .int .i64 size, .int .i64 slide, .int .i64 late, .int .i64 agg, .int .i64 tk, .int .i64 t]) (t := 36) (by simp) 5).trans rfl
      clear hout p0
      go_step
      exact hK _ _ rfl hG (hJ.pure 3 (some 14) _ rfl (Below.refl _ _))
    · intro L a w' hG hJ hsz hl hb hout hpre K hK
      clear hsz hl hb
      have q1 := ev_of ((hout 1 rfl).trans (show _ = .pointer (some ⟨cb, 0, none⟩) from rfl))
      clear hout hpre
      go_step
      exact hK _ _ rfl hG (hJ.pure 4 (some 15) _ rfl (Below.refl _ _))
    · intro L a w' hG hJ hsz hl hb hout hpre K hK
      clear hsz hl hb
      obtain ⟨p0, _⟩ := hpre
      have q15 := ev_of (show a.eval (.tmp 15) = .pointer (some ⟨cb, 6, none⟩) from p0)
      have hc6 : w'.cell? ⟨cb, 6, none⟩ = some (.int .i64 kind) := (hG.cell (b := cb) (cs := #[Sv ak, .int .i64 al, .int .i64 ah, Sv bk, .int .i64 bl, .int .i64 bh, .int .i64 kind, .int .i64 size, .int .i64 slide, .int .i64 late, .int .i64 agg, .int .i64 tk, .int .i64 t]) (t := 36) (by simp) 6).trans rfl
      have hc7 : w'.cell? ⟨cb, 7, none⟩ = some (.int .i64 size) := (hG.cell (b := cb) (cs := #[Sv ak, .int .i64 al, .int .i64 ah, Sv bk, .int .i64 bl, .int .i64 bh, .int .i64 kind, .int .i64 size, .int .i64 slide, .int .i64 late, .int .i64 agg, .int .i64 tk, .int .i64 t]) (t := 36) (by simp) 7).trans rfl
      have hc8 : w'.cell? ⟨cb, 8, none⟩ = some (.int .i64 slide) := (hG.cell (b := cb) (cs := #[Sv ak, .int .i64 al, .int .i64 ah, Sv bk, .int .i64 bl, .int .i64 bh, .int .i64 kind, .int .i64 size, .int .i64 slide, .int .i64 late, .int .i64 agg, .int .i64 tk, .int .i64 t]) (t := 36) (by simp) 8).trans rfl
      have hc9 : w'.cell? ⟨cb, 9, none⟩ = some (.int .i64 late) := (hG.cell (b := cb) (cs := #[Sv ak, .int .i64 al, .int .i64 ah, Sv bk, .int .i64 bl, .int .i64 bh, .int .i64 kind, .int .i64 size, .int .i64 slide, .int .i64 late, .int .i64 agg, .int .i64 tk, .int .i64 t]) (t := 36) (by simp) 9).trans rfl
      have hc10 : w'.cell? ⟨cb, 10, none⟩ = some (.int .i64 agg) := (hG.cell (b := cb) (cs := #[Sv ak, .int .i64 al, .int .i64 ah, Sv bk, .int .i64 bl, .int .i64 bh, .int .i64 kind, .int .i64 size, .int .i64 slide, .int .i64 late, .int .i64 agg, .int .i64 tk, .int .i64 t]) (t := 36) (by simp) 10).trans rfl
      have hc11 : w'.cell? ⟨cb, 11, none⟩ = some (.int .i64 tk) := (hG.cell (b := cb) (cs := #[Sv ak, .int .i64 al, .int .i64 ah, Sv bk, .int .i64 bl, .int .i64 bh, .int .i64 kind, .int .i64 size, .int .i64 slide, .int .i64 late, .int .i64 agg, .int .i64 tk, .int .i64 t]) (t := 36) (by simp) 11).trans rfl
      clear hout p0
      go_step
      exact hK _ _ rfl hG (hJ.pure 5 (some 16) _ rfl (Below.refl _ _))
    · intro L a w' hG hJ hsz hl hb hout hpre K hK
      clear hsz hl hb
      have q1 := ev_of ((hout 1 rfl).trans (show _ = .pointer (some ⟨cb, 0, none⟩) from rfl))
      clear hout hpre
      go_step
      exact hK _ _ rfl hG (hJ.pure 6 (some 17) _ rfl (Below.refl _ _))
    · intro L a w' hG hJ hsz hl hb hout hpre K hK
      clear hsz hl hb
      obtain ⟨p0, _⟩ := hpre
      have q17 := ev_of (show a.eval (.tmp 17) = .pointer (some ⟨cb, 12, none⟩) from p0)
      have hc12 : w'.cell? ⟨cb, 12, none⟩ = some (.int .i64 t) := (hG.cell (b := cb) (cs := #[Sv ak, .int .i64 al, .int .i64 ah, Sv bk, .int .i64 bl, .int .i64 bh, .int .i64 kind, .int .i64 size, .int .i64 slide, .int .i64 late, .int .i64 agg, .int .i64 tk, .int .i64 t]) (t := 36) (by simp) 12).trans rfl
      clear hout p0
      go_step
      exact hK _ _ rfl hG (hJ.pure 7 (some 18) _ rfl (Below.refl _ _))
    · intro L a w' hG hJ hsz hl hb hout hpre K hK
      have HSz := Lib.hid hsz
      clear hout hpre hb hsz
      go_step
      exact hK _ _ trivial (hG.grow ((Below.refl _ w').alloc (Nat.le_refl _) _)) (hJ.alloc HRm.out.1 HRm.out.2 ⟨8, 11, 3, #[.string ⟨#[]⟩, .int .i64 0, .int .i64 0], #[Sv ak, .int .i64 al, .int .i64 ah], 31⟩ (by simp [roomsO]) hl (Nat.lt_of_lt_of_eq (show (3 : Nat) < 110 by decide) (HSz.out.trans (show _ = 110 from rfl)).symm) hG.2.2)
    · intro L a w' hG hJ hsz hl hb hout hpre K hK
      have HSz := Lib.hid hsz
      clear hout hpre hb hsz
      go_step
      exact hK _ _ trivial (hG.grow ((Below.refl _ w').alloc (Nat.le_refl _) _)) (hJ.alloc HRm.out.1 HRm.out.2 ⟨9, 12, 4, #[.string ⟨#[]⟩, .int .i64 0, .int .i64 0], #[Sv bk, .int .i64 bl, .int .i64 bh], 31⟩ (by simp [roomsO]) hl (Nat.lt_of_lt_of_eq (show (4 : Nat) < 110 by decide) (HSz.out.trans (show _ = 110 from rfl)).symm) hG.2.2)
    · intro L a w' hG hJ hsz hl hb hout hpre K hK
      have HSz := Lib.hid hsz
      clear hout hpre hb hsz
      go_step
      exact hK _ _ trivial (hG.grow ((Below.refl _ w').alloc (Nat.le_refl _) _)) (hJ.alloc HRm.out.1 HRm.out.2 ⟨10, 13, 5, #[.int .i64 0, .int .i64 0, .int .i64 0, .int .i64 0, .int .i64 0, .int .i64 0], #[.int .i64 kind, .int .i64 size, .int .i64 slide, .int .i64 late, .int .i64 agg, .int .i64 tk], 23⟩ (by simp [roomsO]) hl (Nat.lt_of_lt_of_eq (show (5 : Nat) < 110 by decide) (HSz.out.trans (show _ = 110 from rfl)).symm) hG.2.2)
    · intro L a w' hG hJ hsz hl hb hout hpre K hK
      clear hsz
      obtain ⟨p0, p1, _⟩ := hpre
      have hai : L 8 = true := hb ⟨8, .data⟩ (by simp) (by decide)
      obtain ⟨g, h1, h2, h3, hR⟩ := hJ.store HRm.out.1 HRm.out.2 ⟨8, 11, 3, #[.string ⟨#[]⟩, .int .i64 0, .int .i64 0], #[Sv ak, .int .i64 al, .int .i64 ah], 31⟩ (by simp [roomsO]) hai hl
      refine wp_store_row 31 (.tmp 3) (.tmp 12) rfl g #[Sv ak, .int .i64 al, .int .i64 ah] h1 p1 31 #[.string ⟨#[]⟩, .int .i64 0, .int .i64 0] h3 (by kernel_rfl) rfl (window_one ⟨ak, al, ah⟩) ?_
      exact hK _ _ trivial (hG.set (fun x hx => Nat.lt_of_lt_of_le (HLt.out.2 x hx) h2) (Nat.le_trans HLt.out.1 h2)) hR
    · intro L a w' hG hJ hsz hl hb hout hpre K hK
      clear hsz
      obtain ⟨p0, p1, _⟩ := hpre
      have hai : L 9 = true := hb ⟨9, .data⟩ (by simp) (by decide)
      obtain ⟨g, h1, h2, h3, hR⟩ := hJ.store HRm.out.1 HRm.out.2 ⟨9, 12, 4, #[.string ⟨#[]⟩, .int .i64 0, .int .i64 0], #[Sv bk, .int .i64 bl, .int .i64 bh], 31⟩ (by simp [roomsO]) hai hl
      refine wp_store_row 31 (.tmp 4) (.tmp 14) rfl g #[Sv bk, .int .i64 bl, .int .i64 bh] h1 p1 31 #[.string ⟨#[]⟩, .int .i64 0, .int .i64 0] h3 (by kernel_rfl) rfl (window_one ⟨bk, bl, bh⟩) ?_
      exact hK _ _ trivial (hG.set (fun x hx => Nat.lt_of_lt_of_le (HLt.out.2 x hx) h2) (Nat.le_trans HLt.out.1 h2)) hR
    · intro L a w' hG hJ hsz hl hb hout hpre K hK
      clear hsz
      obtain ⟨p0, p1, _⟩ := hpre
      have hai : L 10 = true := hb ⟨10, .data⟩ (by simp) (by decide)
      obtain ⟨g, h1, h2, h3, hR⟩ := hJ.store HRm.out.1 HRm.out.2 ⟨10, 13, 5, #[.int .i64 0, .int .i64 0, .int .i64 0, .int .i64 0, .int .i64 0, .int .i64 0], #[.int .i64 kind, .int .i64 size, .int .i64 slide, .int .i64 late, .int .i64 agg, .int .i64 tk], 23⟩ (by simp [roomsO]) hai hl
      refine wp_store_row 23 (.tmp 5) (.tmp 16) rfl g #[.int .i64 kind, .int .i64 size, .int .i64 slide, .int .i64 late, .int .i64 agg, .int .i64 tk] h1 p1 23 #[.int .i64 0, .int .i64 0, .int .i64 0, .int .i64 0, .int .i64 0, .int .i64 0] h3 (by kernel_rfl) rfl (query_one ⟨kind, size, slide, late, agg, tk⟩) ?_
      exact hK _ _ trivial (hG.set (fun x hx => Nat.lt_of_lt_of_le (HLt.out.2 x hx) h2) (Nat.le_trans HLt.out.1 h2)) hR
    · intro L a w' hG hJ hsz hl hb hout hpre K hK
      clear hsz hl hb
      obtain ⟨p0, _⟩ := hpre
      have q18 := ev_of (show a.eval (.tmp 18) = .int .i64 t from p0)
      clear hout p0
      go_step
      exact hK _ _ rfl hG (hJ.pure 14 (some 6) _ rfl (Below.refl _ _))
  · intro vs a w2 hG hlen hV hJ
    match vs, hlen, hV with
    | [v0, v1, v2, v3, v4, v5, v6, v7, v8, v9, v10, v11, v12, v13, v14], _, hV =>
      obtain ⟨L, hR, hL⟩ := hJ
      obtain ⟨ab, e1, _, abr⟩ := hR.1 ⟨8, 11, 3, #[.string ⟨#[]⟩, .int .i64 0, .int .i64 0], #[Sv ak, .int .i64 al, .int .i64 ah], 31⟩ (by simp [roomsO]) (hL 8 (by decide))
      have abr := abr
      simp only [hL 11 (by decide), if_true] at abr
      obtain rfl : v8 = .pointer (some ⟨ab, 0, none⟩) := (hV 8 3 v8 rfl rfl).2.trans e1
      clear e1
      obtain ⟨bb, e1, _, bbr⟩ := hR.1 ⟨9, 12, 4, #[.string ⟨#[]⟩, .int .i64 0, .int .i64 0], #[Sv bk, .int .i64 bl, .int .i64 bh], 31⟩ (by simp [roomsO]) (hL 9 (by decide))
      have bbr := bbr
      simp only [hL 12 (by decide), if_true] at bbr
      obtain rfl : v9 = .pointer (some ⟨bb, 0, none⟩) := (hV 9 4 v9 rfl rfl).2.trans e1
      clear e1
      obtain ⟨qb, e1, _, qbr⟩ := hR.1 ⟨10, 13, 5, #[.int .i64 0, .int .i64 0, .int .i64 0, .int .i64 0, .int .i64 0, .int .i64 0], #[.int .i64 kind, .int .i64 size, .int .i64 slide, .int .i64 late, .int .i64 agg, .int .i64 tk], 23⟩ (by simp [roomsO]) (hL 10 (by decide))
      have qbr := qbr
      simp only [hL 13 (by decide), if_true] at qbr
      obtain rfl : v10 = .pointer (some ⟨qb, 0, none⟩) := (hV 10 5 v10 rfl rfl).2.trans e1
      clear e1
      obtain rfl : v14 = .int .i64 t := (hV 14 6 v14 rfl rfl).1
      clear hV hR hL
      simp only [putsL, List.tail_cons, List.headD_cons]
      simp only [Act.put, List.setIfInBounds_toArray, List.set_cons_succ, List.set_cons_zero]
      have h4 := ((hG.more abr).more bbr).more qbr
      have HR : Hid ((RowW w2 ab ⟨ak, al, ah⟩ ∧ RowW w2 bb ⟨bk, bl, bh⟩ ∧ RowQ w2 qb ⟨kind, size, slide, late, agg, tk⟩) ∧ Below w.heap.size w w2) := Lib.hid ⟨⟨h4.1 (ab, #[Sv ak, .int .i64 al, .int .i64 ah], 31) (by simp), h4.1 (bb, #[Sv bk, .int .i64 bl, .int .i64 bh], 31) (by simp), h4.1 (qb, #[.int .i64 kind, .int .i64 size, .int .i64 slide, .int .i64 late, .int .i64 agg, .int .i64 tk], 23) (by simp)⟩, h4.2.1⟩
      clear h4 hG abr bbr qbr HLt HRm
      obtain ⟨d0, d1, d2⟩ : D3 w2 ab ak al ah := HR.out.1.1.d3
      obtain ⟨f0, f1, f2⟩ : D3 w2 bb bk bl bh := HR.out.1.2.1.d3
      have hMN : (M : Int) + (N : Int) ≤ 9223372036854775807 := by have := HM.out; omega
      by_cases hm : 100 < M + N
      · have hm' : (100 : Int) < (M : Int) + (N : Int) := by omega
        clear hm
        go_wp2_with (fail)
        go_ret
        exact ⟨rfl, HR.out.2⟩
      have hm' : ¬ (100 : Int) < (M : Int) + (N : Int) := by omega
      have HK : Hid ((WindowL.mk ak al ah).key.length ≤ 1000000) := Lib.hid (by have := HM.out; show ak.length ≤ 1000000; omega)
      clear hm
      obtain ⟨r, hr⟩ : ∃ r, r = (WindowL.mk ak al ah).rightB := ⟨_, rfl⟩
      have HRr := Lib.hid hr
      obtain ⟨tt, htt⟩ : ∃ t, t = (WindowL.mk ak al ah).told := ⟨_, rfl⟩
      have HTt := Lib.hid htt
      have HRb1 : Hid (Calls Tryd.prog 15 #[.agg #[Sv ak, .int .i64 al, .int .i64 ah]] w2 (Below0 w2 (.bool r))) := by
        rw [hr]
        exact Lib.hid (rwRight_any w2 ⟨ak, al, ah⟩ HK.out)
      clear hr htt
      go_wp2_with (fail)
      refine HRb1.out.mono ?_
      rintro e w3 ⟨rfl, hB⟩
      have H3 : Hid ((RowW w3 ab ⟨ak, al, ah⟩ ∧ RowW w3 bb ⟨bk, bl, bh⟩ ∧ RowQ w3 qb ⟨kind, size, slide, late, agg, tk⟩) ∧ Below w.heap.size w w3) := by
        obtain ⟨⟨k1, k2, k3⟩, k4⟩ := HR.out
        exact Lib.hid ⟨⟨k1.below hB, k2.below hB, k3.below hB⟩, k4.trans (hB.mono k4.size)⟩
      clear hB d0 d1 d2 f0 f1 f2 HRb1 hMN hm' hlenA hlenB
      dsimp only
      go_upto_if 29 with (fail)
      go_cut [8] from 30 to 31 (fun s8 wx => s8 = Sv tt ∧ Below w3.heap.size w3 wx)
      case first =>
        cases r with
        | false =>
          have HE : Hid (tt = []) := by
            rw [HTt.out, WindowL.told, ← HRr.out]
            exact Lib.hid rfl
          go_wp2_with (fail)
          go_meet
          exact ⟨by rw [HE.out]; rfl, Below.refl _ _⟩
        | true =>
          have HT7 : Hid (Calls Tryd.prog 16 #[.agg #[Sv ak, .int .i64 al, .int .i64 ah]] w3 (Below0 w3 (Sv tt))) := by
            rw [HTt.out, WindowL.told, ← HRr.out, if_pos rfl]
            exact Lib.hid (rwText_yes w3 ⟨ak, al, ah⟩ HRr.out.symm (HIw.out w3 H3.out.2).1)
          obtain ⟨d0, d1, d2⟩ : D3 w3 ab ak al ah := H3.out.1.1.d3
          go_wp2_with (fail)
          refine HT7.out.mono ?_
          rintro e w4 ⟨rfl, hB⟩
          have H4 := Lib.hid hB
          clear hB d0 d1 d2
          dsimp only
          go_wp2_with (fail)
          go_meet
          exact ⟨rfl, H4.out⟩
      case rest =>
        obtain ⟨rfl, hBc⟩ := hcut
        have HWc : Hid (Below w.heap.size w wc) := Lib.hid (H3.out.2.trans (hBc.mono H3.out.2.size))
        have HD : Hid (∀ w', Below wc.heap.size wc w' → D3 w' ab ak al ah ∧ D3 w' bb bk bl bh ∧ D6 w' qb kind size slide late agg tk) := by
          refine Lib.hid (fun w' h => ?_)
          obtain ⟨⟨k1, k2, k3⟩, k4⟩ := H3.out
          exact ⟨((k1.below hBc).below h).d3, ((k2.below hBc).below h).d3, ((k3.below hBc).below h).d6⟩
        clear hBc
        obtain ⟨VA, hVA⟩ : ∃ V, V = Value.agg #[Sv ak, .int .i64 al, .int .i64 ah] := ⟨_, rfl⟩
        obtain ⟨VB, hVB⟩ : ∃ V, V = Value.agg #[Sv bk, .int .i64 bl, .int .i64 bh] := ⟨_, rfl⟩
        obtain ⟨VQ, hVQ⟩ : ∃ V, V = Value.agg #[.int .i64 kind, .int .i64 size, .int .i64 slide, .int .i64 late, .int .i64 agg, .int .i64 tk] := ⟨_, rfl⟩
        have HV : Hid (VA = Value.agg #[Sv ak, .int .i64 al, .int .i64 ah] ∧ VB = Value.agg #[Sv bk, .int .i64 bl, .int .i64 bh] ∧ VQ = Value.agg #[.int .i64 kind, .int .i64 size, .int .i64 slide, .int .i64 late, .int .i64 agg, .int .i64 tk]) := Lib.hid ⟨hVA, hVB, hVQ⟩
        clear hVA hVB hVQ
        obtain ⟨cc, hcc⟩ : ∃ c, c = cmpW ⟨ak, al, ah⟩ ⟨bk, bl, bh⟩ := ⟨_, rfl⟩
        obtain ⟨pp, hpp⟩ : ∃ c, c = placeW ⟨ak, al, ah⟩ ⟨bk, bl, bh⟩ := ⟨_, rfl⟩
        have HCc : Hid ((∀ w', Calls Tryd.prog 19 #[.agg #[Sv ak, .int .i64 al, .int .i64 ah], .agg #[Sv bk, .int .i64 bl, .int .i64 bh]] w' (Below0 w' (.int .i64 cc))) ∧ (∀ w', Calls Tryd.prog 20 #[.agg #[Sv ak, .int .i64 al, .int .i64 ah], .agg #[Sv bk, .int .i64 bl, .int .i64 bh]] w' (Below0 w' (.int .i64 cc))) ∧ (∀ w', Calls Tryd.prog 21 #[.agg #[Sv ak, .int .i64 al, .int .i64 ah], .agg #[Sv bk, .int .i64 bl, .int .i64 bh]] w' (Below0 w' (.int .i64 pp))) ∧ (∀ w', Calls Tryd.prog 22 #[.agg #[Sv ak, .int .i64 al, .int .i64 ah], .agg #[Sv bk, .int .i64 bl, .int .i64 bh]] w' (Below0 w' (.int .i64 pp)))) := by
          rw [hcc, hpp]
          exact Lib.hid ⟨fun w' => wcompare_any w' ⟨ak, al, ah⟩ ⟨bk, bl, bh⟩, fun w' => rwCompare_any w' ⟨ak, al, ah⟩ ⟨bk, bl, bh⟩, fun w' => wplace_any w' ⟨ak, al, ah⟩ ⟨bk, bl, bh⟩, fun w' => rwPlace_any w' ⟨ak, al, ah⟩ ⟨bk, bl, bh⟩⟩
        have HTx : Hid (∀ w', Below wc.heap.size wc w' → Calls Tryd.prog 18 #[.agg #[Sv ak, .int .i64 al, .int .i64 ah]] w' (Below0 w' (Sv tt))) := by
          rw [HTt.out]
          exact Lib.hid (fun w' h => wtext_any w' ⟨ak, al, ah⟩ HK.out (HIw.out w' (HWc.out.trans (h.mono HWc.out.size))))
        have HTT : Hid (∀ w, (binOp .eql 9 (Sv tt) (Sv tt)).run Tryd.prog w = .ok (.bool true) w) := Lib.hid (fun w => by
          have h := run_eql_Sv w tt tt
          rwa [decide_eq_true rfl] at h)
        have HG0 : Hid (Below wc.heap.size wc wc.drew) := (Below.refl _ wc).drew
        obtain ⟨qr, hqr⟩ : ∃ r, r = (QueryL.mk kind size slide late agg tk).rightB := ⟨_, rfl⟩
        have HQr := Lib.hid hqr
        clear hcc hpp hqr
        go_upto_region 9 with (fail)
        cases r with
        | false =>
          have HCl : Hid ((∀ w', Calls Tryd.prog 17 #[VA] w' (Below0 w' (.bool false))) ∧ (∀ w', Below wc.heap.size wc w' → Calls Tryd.prog 18 #[VA] w' (Below0 w' (Sv tt))) ∧ (∀ w', Calls Tryd.prog 19 #[VA, VB] w' (Below0 w' (.int .i64 cc))) ∧ (∀ w', Calls Tryd.prog 20 #[VA, VB] w' (Below0 w' (.int .i64 cc))) ∧
            (∀ w', Calls Tryd.prog 21 #[VA, VB] w' (Below0 w' (.int .i64 pp))) ∧ (∀ w', Calls Tryd.prog 22 #[VA, VB] w' (Below0 w' (.int .i64 pp))) ∧ (∀ w', Calls Tryd.prog 23 #[VA, .int .i64 t] w' (Below0 w' (.bool false))) ∧ (∀ w', Calls Tryd.prog 12 #[VA, .int .i64 t] w' (Below0 w' (.bool false))) ∧
            (∀ w', Calls Tryd.prog 13 #[VQ, VA, .int .i64 t] w' (Below0 w' (.bool false))) ∧ (∀ w', Calls Tryd.prog 24 #[VQ] w' (Below0 w' (.bool qr))) ∧ True) := by
            rw [HV.out.1, HV.out.2.1, HV.out.2.2]
            refine Lib.hid ⟨?_, HTx.out, fun w' => HCc.out.1 w', fun w' => HCc.out.2.1 w', fun w' => HCc.out.2.2.1 w', fun w' => HCc.out.2.2.2 w', ?_, ?_, ?_, ?_, ?_⟩
            · intro w'
              have h := wright_any w' ⟨ak, al, ah⟩ HK.out
              rw [← HRr.out] at h
              exact h
            · intro w'
              have h := whas_any w' ⟨ak, al, ah⟩ t HK.out
              rw [hasW, ← HRr.out] at h
              simp only at h
              rw [Bool.false_and] at h
              exact h
            · intro w'
              have h := wripe_any w' ⟨ak, al, ah⟩ t HK.out
              rw [ripeW, ← HRr.out] at h
              simp only at h
              rw [Bool.false_and] at h
              exact h
            · intro w'
              have h := wgone_any w' ⟨kind, size, slide, late, agg, tk⟩ ⟨ak, al, ah⟩ t HK.out
              rw [goneW, ← HRr.out, ← HQr.out] at h
              simp only at h
              rw [Bool.and_false, Bool.false_and] at h
              exact h
            · intro w'
              have h := rqRight_any w' ⟨kind, size, slide, late, agg, tk⟩
              rw [← HQr.out] at h
              exact h
            · trivial
          refine wp_region_skip_frame (fun i => ([34, 35, 36, 37, 40, 41, 42, 43, 53, 54, 55, 56, 67, 68, 71, 72, 73, 74] : List Nat).contains i) (by kernel_rfl) [none, none, none, none, none, none, none, none, none, none, none, none, none, none, none, none, none, none, none, none, none, none, none, none, none, none, none, none, none, none, none, none, none, none, none, none, none, none, none, none, none, none, none, none, none, none, none, none, none, none, none, none, none, none, none, none, none, none, none, none, none, none, none, none, none, none, none, none, none, none, none, none, none, none, none, none, none, none, none] [] (fun i_ _ _ v_ => v_ = ((VA :: (Value.bool false) :: (Value.bool false) :: (Value.bool true) :: (Value.bool true) :: VA :: Sv tt :: Sv tt :: (Value.bool true) :: (Value.bool true) :: (Value.bool true) :: VA :: VB :: (Value.int .i64 cc) :: VA :: VB :: (Value.int .i64 cc) :: (Value.bool true) :: (Value.bool true) :: (Value.bool true) :: VA :: VB :: (Value.int .i64 pp) :: VA :: VB :: (Value.int .i64 pp) :: (Value.bool true) :: (Value.bool true) :: (Value.bool true) :: VA :: (Value.int .i64 t) :: (Value.bool false) :: (Value.bool false) :: (Value.bool false) :: undef :: undef :: undef :: undef :: (Value.bool false) :: (Value.bool false) :: undef :: undef :: undef :: undef :: (Value.bool false) :: (Value.bool true) :: (Value.bool true) :: (Value.bool true) :: VA :: (Value.int .i64 t) :: (Value.bool false) :: (Value.bool false) :: (Value.bool false) :: undef :: undef :: undef :: undef :: (Value.bool false) :: (Value.bool true) :: (Value.bool true) :: (Value.bool true) :: VQ :: VA :: (Value.int .i64 t) :: (Value.bool false) :: (Value.bool false) :: (Value.bool false) :: undef :: undef :: (Value.bool false) :: (Value.bool false) :: undef :: undef :: undef :: undef :: (Value.bool false) :: (Value.bool true) :: (Value.bool true) :: (Value.bool true) :: ([] : List Value))).getD i_ undef) (fun _ w' => Below wc.heap.size wc w') (fun w w' => Below w.heap.size w w') (fun _ _ _ _ _ _ h => h) (by kernel_rfl) (by kernel_rfl) (by kernel_rfl) HG0.out (fun _ => ⟨rfl, rfl, rfl, rfl, rfl, fun _ _ h => h, fun _ _ h => h, fun _ _ h => h, fun _ _ h => h, rfl, rfl, fun _ _ h => h, fun _ _ h => h, fun _ _ h => h, fun _ _ h => h, fun _ _ h => h, fun _ _ h => h, fun _ _ h => h, rfl, rfl, fun _ _ h => h, fun _ _ h => h, fun _ _ h => h, fun _ _ h => h, fun _ _ h => h, fun _ _ h => h, fun _ _ h => h, rfl, rfl, fun _ _ h => h, fun _ _ h => h, fun _ _ h => h, fun _ _ h => h, fun _ _ h => h, fun _ _ h => h, fun _ _ h => h, fun _ _ h => h, fun _ _ h => h, fun _ _ h => h, fun _ _ h => h, fun _ _ h => h, fun _ _ h => h, fun _ _ h => h, fun _ _ h => h, fun _ _ h => h, fun _ _ h => h, rfl, rfl, fun _ _ h => h, fun _ _ h => h, fun _ _ h => h, fun _ _ h => h, fun _ _ h => h, fun _ _ h => h, fun _ _ h => h, fun _ _ h => h, fun _ _ h => h, fun _ _ h => h, fun _ _ h => h, rfl, rfl, fun _ _ h => h, fun _ _ h => h, fun _ _ h => h, fun _ _ h => h, fun _ _ h => h, fun _ _ h => h, fun _ _ h => h, fun _ _ h => h, fun _ _ h => h, fun _ _ h => h, fun _ _ h => h, fun _ _ h => h, fun _ _ h => h, fun _ _ h => h, fun _ _ h => h, fun _ _ h => h, rfl, rfl, trivial⟩) (fun i hi => by have hm := List.contains_iff_mem.1 hi; simp only [List.mem_cons, List.not_mem_nil, or_false] at hm; rcases hm with rfl | rfl | rfl | rfl | rfl | rfl | rfl | rfl | rfl | rfl | rfl | rfl | rfl | rfl | rfl | rfl | rfl | rfl <;> exact ⟨rfl, fun _ _ => rfl⟩) ?_ ?_
          · refine ⟨?_, ?_, ?_, ?_, ?_, ?_, ?_, ?_, ?_, ?_, ?_, ?_, ?_, ?_, ?_, ?_, ?_, ?_, ?_, ?_, ?_, ?_, ?_, ?_, ?_, ?_, ?_, ?_, ?_, ?_, ?_, ?_, ?_, ?_, ?_, ?_, ?_, ?_, ?_, ?_, ?_, ?_, ?_, ?_, ?_, ?_, ?_, ?_, ?_, ?_, ?_, ?_, ?_, ?_, ?_, ?_, ?_, ?_, ?_, ?_, ?_, ?_, ?_, ?_, ?_, ?_, ?_, ?_, ?_, ?_, ?_, ?_, ?_, ?_, ?_, ?_, ?_, ?_, ?_, trivial⟩
            · intro _ k a w' hG hout hpre K hK
              have q3 := ev_of ((hout 3 rfl).trans (show _ = .pointer (some ⟨ab, 0, none⟩) from rfl))
              obtain ⟨d0, d1, d2⟩ := (HD.out w' hG).1
              clear hout hpre
              go_step
              exact hK _ _ HV.out.1.symm hG (Below.refl _ _)
            · intro _ k a w' hG hout hpre K hK
              obtain ⟨p0, _⟩ := hpre
              have q32 := ev_of (show a.eval (.tmp 32) = VA from p0)
              have HS := Lib.hid (HCl.out.1 w')
              clear hout p0
              go_step
              refine HS.out.mono ?_
              rintro e w3 ⟨rfl, hB⟩
              exact hK _ _ rfl (hG.trans (hB.mono hG.size)) hB
            · intro _ k a w' hG hout hpre K hK
              have q7 := ev_of ((hout 7 rfl).trans (show _ = .bool false from rfl))
              clear hout hpre
              go_step
              exact hK _ _ rfl hG (Below.refl _ _)
            · intro _ k a w' hG hout hpre K hK
              obtain ⟨p0, p1, _⟩ := hpre
              have q33 := ev_of (show a.eval (.tmp 33) = .bool false from p0)
              have q34 := ev_of (show a.eval (.tmp 34) = .bool false from p1)
              clear hout p0 p1
              go_step
              exact hK _ _ rfl hG (Below.refl _ _)
            · intro _ k a w' hG hout hpre K hK
              obtain ⟨p0, _⟩ := hpre
              have q35 := ev_of (show a.eval (.tmp 35) = .bool true from p0)
              clear hout p0
              go_step
              exact hK _ _ rfl hG (Below.refl _ _)
            · intro _ k a w' hG hout hpre K hK
              have q3 := ev_of ((hout 3 rfl).trans (show _ = .pointer (some ⟨ab, 0, none⟩) from rfl))
              obtain ⟨d0, d1, d2⟩ := (HD.out w' hG).1
              clear hout hpre
              go_step
              exact hK _ _ HV.out.1.symm hG (Below.refl _ _)
            · intro _ k a w' hG hout hpre K hK
              obtain ⟨p0, _⟩ := hpre
              have q37 := ev_of (show a.eval (.tmp 37) = VA from p0)
              have HS := Lib.hid (HCl.out.2.1 w' hG)
              clear hout p0
              go_step
              refine HS.out.mono ?_
              rintro e w3 ⟨rfl, hB⟩
              exact hK _ _ rfl (hG.trans (hB.mono hG.size)) hB
            · intro _ k a w' hG hout hpre K hK
              have q8 := ev_of ((hout 8 rfl).trans (show _ = Sv tt from rfl))
              clear hout hpre
              go_step
              exact hK _ _ rfl hG (Below.refl _ _)
            · intro _ k a w' hG hout hpre K hK
              obtain ⟨p0, p1, _⟩ := hpre
              have q38 := ev_of (show a.eval (.tmp 38) = Sv tt from p0)
              have q39 := ev_of (show a.eval (.tmp 39) = Sv tt from p1)
              have he := HTT.out
              clear hout p0 p1
              go_step
              exact hK _ _ rfl hG (Below.refl _ _)
            · intro _ k a w' hG hout hpre K hK
              obtain ⟨p0, p1, _⟩ := hpre
              have q36 := ev_of (show a.eval (.tmp 36) = .bool true from p0)
              have q40 := ev_of (show a.eval (.tmp 40) = .bool true from p1)
              clear hout p0 p1
              go_step
              exact hK _ _ rfl hG (Below.refl _ _)
            · intro _ k a w' hG hout hpre K hK
              obtain ⟨p0, _⟩ := hpre
              have q41 := ev_of (show a.eval (.tmp 41) = .bool true from p0)
              clear hout p0
              go_step
              exact hK _ _ rfl hG (Below.refl _ _)
            · intro _ k a w' hG hout hpre K hK
              have q3 := ev_of ((hout 3 rfl).trans (show _ = .pointer (some ⟨ab, 0, none⟩) from rfl))
              obtain ⟨d0, d1, d2⟩ := (HD.out w' hG).1
              clear hout hpre
              go_step
              exact hK _ _ HV.out.1.symm hG (Below.refl _ _)
            · intro _ k a w' hG hout hpre K hK
              have q4 := ev_of ((hout 4 rfl).trans (show _ = .pointer (some ⟨bb, 0, none⟩) from rfl))
              obtain ⟨d0, d1, d2⟩ := (HD.out w' hG).2.1
              clear hout hpre
              go_step
              exact hK _ _ HV.out.2.1.symm hG (Below.refl _ _)
            · intro _ k a w' hG hout hpre K hK
              obtain ⟨p0, p1, _⟩ := hpre
              have q43 := ev_of (show a.eval (.tmp 43) = VA from p0)
              have q44 := ev_of (show a.eval (.tmp 44) = VB from p1)
              have HS := Lib.hid (HCl.out.2.2.1 w')
              clear hout p0 p1
              go_step
              refine HS.out.mono ?_
              rintro e w3 ⟨rfl, hB⟩
              exact hK _ _ rfl (hG.trans (hB.mono hG.size)) hB
            · intro _ k a w' hG hout hpre K hK
              have q3 := ev_of ((hout 3 rfl).trans (show _ = .pointer (some ⟨ab, 0, none⟩) from rfl))
              obtain ⟨d0, d1, d2⟩ := (HD.out w' hG).1
              clear hout hpre
              go_step
              exact hK _ _ HV.out.1.symm hG (Below.refl _ _)
            · intro _ k a w' hG hout hpre K hK
              have q4 := ev_of ((hout 4 rfl).trans (show _ = .pointer (some ⟨bb, 0, none⟩) from rfl))
              obtain ⟨d0, d1, d2⟩ := (HD.out w' hG).2.1
              clear hout hpre
              go_step
              exact hK _ _ HV.out.2.1.symm hG (Below.refl _ _)
            · intro _ k a w' hG hout hpre K hK
              obtain ⟨p0, p1, _⟩ := hpre
              have q46 := ev_of (show a.eval (.tmp 46) = VA from p0)
              have q47 := ev_of (show a.eval (.tmp 47) = VB from p1)
              have HS := Lib.hid (HCl.out.2.2.2.1 w')
              clear hout p0 p1
              go_step
              refine HS.out.mono ?_
              rintro e w3 ⟨rfl, hB⟩
              exact hK _ _ rfl (hG.trans (hB.mono hG.size)) hB
            · intro _ k a w' hG hout hpre K hK
              obtain ⟨p0, p1, _⟩ := hpre
              have q45 := ev_of (show a.eval (.tmp 45) = .int .i64 cc from p0)
              have q48 := ev_of (show a.eval (.tmp 48) = .int .i64 cc from p1)
              have he : (cc == cc) = true := by simp
              clear hout p0 p1
              go_step
              exact hK _ _ rfl hG (Below.refl _ _)
            · intro _ k a w' hG hout hpre K hK
              obtain ⟨p0, p1, _⟩ := hpre
              have q42 := ev_of (show a.eval (.tmp 42) = .bool true from p0)
              have q49 := ev_of (show a.eval (.tmp 49) = .bool true from p1)
              clear hout p0 p1
              go_step
              exact hK _ _ rfl hG (Below.refl _ _)
            · intro _ k a w' hG hout hpre K hK
              obtain ⟨p0, _⟩ := hpre
              have q50 := ev_of (show a.eval (.tmp 50) = .bool true from p0)
              clear hout p0
              go_step
              exact hK _ _ rfl hG (Below.refl _ _)
            · intro _ k a w' hG hout hpre K hK
              have q3 := ev_of ((hout 3 rfl).trans (show _ = .pointer (some ⟨ab, 0, none⟩) from rfl))
              obtain ⟨d0, d1, d2⟩ := (HD.out w' hG).1
              clear hout hpre
              go_step
              exact hK _ _ HV.out.1.symm hG (Below.refl _ _)
            · intro _ k a w' hG hout hpre K hK
              have q4 := ev_of ((hout 4 rfl).trans (show _ = .pointer (some ⟨bb, 0, none⟩) from rfl))
              obtain ⟨d0, d1, d2⟩ := (HD.out w' hG).2.1
              clear hout hpre
              go_step
              exact hK _ _ HV.out.2.1.symm hG (Below.refl _ _)
            · intro _ k a w' hG hout hpre K hK
              obtain ⟨p0, p1, _⟩ := hpre
              have q52 := ev_of (show a.eval (.tmp 52) = VA from p0)
              have q53 := ev_of (show a.eval (.tmp 53) = VB from p1)
              have HS := Lib.hid (HCl.out.2.2.2.2.1 w')
              clear hout p0 p1
              go_step
              refine HS.out.mono ?_
              rintro e w3 ⟨rfl, hB⟩
              exact hK _ _ rfl (hG.trans (hB.mono hG.size)) hB
            · intro _ k a w' hG hout hpre K hK
              have q3 := ev_of ((hout 3 rfl).trans (show _ = .pointer (some ⟨ab, 0, none⟩) from rfl))
              obtain ⟨d0, d1, d2⟩ := (HD.out w' hG).1
              clear hout hpre
              go_step
              exact hK _ _ HV.out.1.symm hG (Below.refl _ _)
            · intro _ k a w' hG hout hpre K hK
              have q4 := ev_of ((hout 4 rfl).trans (show _ = .pointer (some ⟨bb, 0, none⟩) from rfl))
              obtain ⟨d0, d1, d2⟩ := (HD.out w' hG).2.1
              clear hout hpre
              go_step
              exact hK _ _ HV.out.2.1.symm hG (Below.refl _ _)
            · intro _ k a w' hG hout hpre K hK
              obtain ⟨p0, p1, _⟩ := hpre
              have q55 := ev_of (show a.eval (.tmp 55) = VA from p0)
              have q56 := ev_of (show a.eval (.tmp 56) = VB from p1)
              have HS := Lib.hid (HCl.out.2.2.2.2.2.1 w')
              clear hout p0 p1
              go_step
              refine HS.out.mono ?_
              rintro e w3 ⟨rfl, hB⟩
              exact hK _ _ rfl (hG.trans (hB.mono hG.size)) hB
            · intro _ k a w' hG hout hpre K hK
              obtain ⟨p0, p1, _⟩ := hpre
              have q54 := ev_of (show a.eval (.tmp 54) = .int .i64 pp from p0)
              have q57 := ev_of (show a.eval (.tmp 57) = .int .i64 pp from p1)
              have he : (pp == pp) = true := by simp
              clear hout p0 p1
              go_step
              exact hK _ _ rfl hG (Below.refl _ _)
            · intro _ k a w' hG hout hpre K hK
              obtain ⟨p0, p1, _⟩ := hpre
              have q51 := ev_of (show a.eval (.tmp 51) = .bool true from p0)
              have q58 := ev_of (show a.eval (.tmp 58) = .bool true from p1)
              clear hout p0 p1
              go_step
              exact hK _ _ rfl hG (Below.refl _ _)
            · intro _ k a w' hG hout hpre K hK
              obtain ⟨p0, _⟩ := hpre
              have q59 := ev_of (show a.eval (.tmp 59) = .bool true from p0)
              clear hout p0
              go_step
              exact hK _ _ rfl hG (Below.refl _ _)
            · intro _ k a w' hG hout hpre K hK
              have q3 := ev_of ((hout 3 rfl).trans (show _ = .pointer (some ⟨ab, 0, none⟩) from rfl))
              obtain ⟨d0, d1, d2⟩ := (HD.out w' hG).1
              clear hout hpre
              go_step
              exact hK _ _ HV.out.1.symm hG (Below.refl _ _)
            · intro _ k a w' hG hout hpre K hK
              have q6 := ev_of ((hout 6 rfl).trans (show _ = .int .i64 t from rfl))
              clear hout hpre
              go_step
              exact hK _ _ rfl hG (Below.refl _ _)
            · intro _ k a w' hG hout hpre K hK
              obtain ⟨p0, p1, _⟩ := hpre
              have q61 := ev_of (show a.eval (.tmp 61) = VA from p0)
              have q62 := ev_of (show a.eval (.tmp 62) = .int .i64 t from p1)
              have HS := Lib.hid (HCl.out.2.2.2.2.2.2.1 w')
              clear hout p0 p1
              go_step
              refine HS.out.mono ?_
              rintro e w3 ⟨rfl, hB⟩
              exact hK _ _ rfl (hG.trans (hB.mono hG.size)) hB
            · intro _ k a w' hG hout hpre K hK
              have q7 := ev_of ((hout 7 rfl).trans (show _ = .bool false from rfl))
              clear hout hpre
              go_step
              exact hK _ _ rfl hG (Below.refl _ _)
            · intro _ k a w' hG hout hpre K hK
              obtain ⟨p0, _⟩ := hpre
              have q64 := ev_of (show a.eval (.tmp 64) = .bool false from p0)
              clear hout p0
              go_step
              exact hK _ _ rfl hG (Below.refl _ _)
            · exact fun h => absurd h (by decide)
            · exact fun h => absurd h (by decide)
            · exact fun h => absurd h (by decide)
            · exact fun h => absurd h (by decide)
            · intro _ k a w' hG hout hpre K hK
              obtain ⟨p0, p1, _⟩ := hpre
              have q65 := ev_of (show a.eval (.tmp 65) = .bool false from p0)
              have q69 := ev_of (show a.eval (.tmp 69) = undef from p1)
              clear hout p0 p1
              go_step
              exact hK _ _ rfl hG (Below.refl _ _)
            · intro _ k a w' hG hout hpre K hK
              obtain ⟨p0, _⟩ := hpre
              have q70 := ev_of (show a.eval (.tmp 70) = .bool false from p0)
              clear hout p0
              go_step
              exact hK _ _ rfl hG (Below.refl _ _)
            · exact fun h => absurd h (by decide)
            · exact fun h => absurd h (by decide)
            · exact fun h => absurd h (by decide)
            · exact fun h => absurd h (by decide)
            · intro _ k a w' hG hout hpre K hK
              obtain ⟨p0, p1, _⟩ := hpre
              have q71 := ev_of (show a.eval (.tmp 71) = .bool false from p0)
              have q75 := ev_of (show a.eval (.tmp 75) = undef from p1)
              clear hout p0 p1
              go_step
              exact hK _ _ rfl hG (Below.refl _ _)
            · intro _ k a w' hG hout hpre K hK
              obtain ⟨p0, p1, _⟩ := hpre
              have q63 := ev_of (show a.eval (.tmp 63) = .bool false from p0)
              have q76 := ev_of (show a.eval (.tmp 76) = .bool false from p1)
              clear hout p0 p1
              go_step
              exact hK _ _ rfl hG (Below.refl _ _)
            · intro _ k a w' hG hout hpre K hK
              obtain ⟨p0, p1, _⟩ := hpre
              have q60 := ev_of (show a.eval (.tmp 60) = .bool true from p0)
              have q77 := ev_of (show a.eval (.tmp 77) = .bool true from p1)
              clear hout p0 p1
              go_step
              exact hK _ _ rfl hG (Below.refl _ _)
            · intro _ k a w' hG hout hpre K hK
              obtain ⟨p0, _⟩ := hpre
              have q78 := ev_of (show a.eval (.tmp 78) = .bool true from p0)
              clear hout p0
              go_step
              exact hK _ _ rfl hG (Below.refl _ _)
            · intro _ k a w' hG hout hpre K hK
              have q3 := ev_of ((hout 3 rfl).trans (show _ = .pointer (some ⟨ab, 0, none⟩) from rfl))
              obtain ⟨d0, d1, d2⟩ := (HD.out w' hG).1
              clear hout hpre
              go_step
              exact hK _ _ HV.out.1.symm hG (Below.refl _ _)
            · intro _ k a w' hG hout hpre K hK
              have q6 := ev_of ((hout 6 rfl).trans (show _ = .int .i64 t from rfl))
              clear hout hpre
              go_step
              exact hK _ _ rfl hG (Below.refl _ _)
            · intro _ k a w' hG hout hpre K hK
              obtain ⟨p0, p1, _⟩ := hpre
              have q80 := ev_of (show a.eval (.tmp 80) = VA from p0)
              have q81 := ev_of (show a.eval (.tmp 81) = .int .i64 t from p1)
              have HS := Lib.hid (HCl.out.2.2.2.2.2.2.2.1 w')
              clear hout p0 p1
              go_step
              refine HS.out.mono ?_
              rintro e w3 ⟨rfl, hB⟩
              exact hK _ _ rfl (hG.trans (hB.mono hG.size)) hB
            · intro _ k a w' hG hout hpre K hK
              have q7 := ev_of ((hout 7 rfl).trans (show _ = .bool false from rfl))
              clear hout hpre
              go_step
              exact hK _ _ rfl hG (Below.refl _ _)
            · intro _ k a w' hG hout hpre K hK
              obtain ⟨p0, _⟩ := hpre
              have q83 := ev_of (show a.eval (.tmp 83) = .bool false from p0)
              clear hout p0
              go_step
              exact hK _ _ rfl hG (Below.refl _ _)
            · exact fun h => absurd h (by decide)
            · exact fun h => absurd h (by decide)
            · exact fun h => absurd h (by decide)
            · exact fun h => absurd h (by decide)
            · intro _ k a w' hG hout hpre K hK
              obtain ⟨p0, p1, _⟩ := hpre
              have q84 := ev_of (show a.eval (.tmp 84) = .bool false from p0)
              have q88 := ev_of (show a.eval (.tmp 88) = undef from p1)
              clear hout p0 p1
              go_step
              exact hK _ _ rfl hG (Below.refl _ _)
            · intro _ k a w' hG hout hpre K hK
              obtain ⟨p0, p1, _⟩ := hpre
              have q82 := ev_of (show a.eval (.tmp 82) = .bool false from p0)
              have q89 := ev_of (show a.eval (.tmp 89) = .bool false from p1)
              clear hout p0 p1
              go_step
              exact hK _ _ rfl hG (Below.refl _ _)
            · intro _ k a w' hG hout hpre K hK
              obtain ⟨p0, p1, _⟩ := hpre
              have q79 := ev_of (show a.eval (.tmp 79) = .bool true from p0)
              have q90 := ev_of (show a.eval (.tmp 90) = .bool true from p1)
              clear hout p0 p1
              go_step
              exact hK _ _ rfl hG (Below.refl _ _)
            · intro _ k a w' hG hout hpre K hK
              obtain ⟨p0, _⟩ := hpre
              have q91 := ev_of (show a.eval (.tmp 91) = .bool true from p0)
              clear hout p0
              go_step
              exact hK _ _ rfl hG (Below.refl _ _)
            · intro _ k a w' hG hout hpre K hK
              have q5 := ev_of ((hout 5 rfl).trans (show _ = .pointer (some ⟨qb, 0, none⟩) from rfl))
              obtain ⟨d0, d1, d2, d3, d4, d5⟩ := (HD.out w' hG).2.2
              clear hout hpre
              go_step
              exact hK _ _ HV.out.2.2.symm hG (Below.refl _ _)
            · intro _ k a w' hG hout hpre K hK
              have q3 := ev_of ((hout 3 rfl).trans (show _ = .pointer (some ⟨ab, 0, none⟩) from rfl))
              obtain ⟨d0, d1, d2⟩ := (HD.out w' hG).1
              clear hout hpre
              go_step
              exact hK _ _ HV.out.1.symm hG (Below.refl _ _)
            · intro _ k a w' hG hout hpre K hK
              have q6 := ev_of ((hout 6 rfl).trans (show _ = .int .i64 t from rfl))
              clear hout hpre
              go_step
              exact hK _ _ rfl hG (Below.refl _ _)
            · intro _ k a w' hG hout hpre K hK
              obtain ⟨p0, p1, p2, _⟩ := hpre
              have q93 := ev_of (show a.eval (.tmp 93) = VQ from p0)
              have q94 := ev_of (show a.eval (.tmp 94) = VA from p1)
              have q95 := ev_of (show a.eval (.tmp 95) = .int .i64 t from p2)
              have HS := Lib.hid (HCl.out.2.2.2.2.2.2.2.2.1 w')
              clear hout p0 p1 p2
              go_step
              refine HS.out.mono ?_
              rintro e w3 ⟨rfl, hB⟩
              exact hK _ _ rfl (hG.trans (hB.mono hG.size)) hB
            · intro _ k a w' hG hout hpre K hK
              have q7 := ev_of ((hout 7 rfl).trans (show _ = .bool false from rfl))
              clear hout hpre
              go_step
              exact hK _ _ rfl hG (Below.refl _ _)
            · intro _ k a w' hG hout hpre K hK
              obtain ⟨p0, _⟩ := hpre
              have q97 := ev_of (show a.eval (.tmp 97) = .bool false from p0)
              clear hout p0
              go_step
              exact hK _ _ rfl hG (Below.refl _ _)
            · exact fun h => absurd h (by decide)
            · exact fun h => absurd h (by decide)
            · intro _ k a w' hG hout hpre K hK
              obtain ⟨p0, p1, _⟩ := hpre
              have q98 := ev_of (show a.eval (.tmp 98) = .bool false from p0)
              have q100 := ev_of (show a.eval (.tmp 100) = undef from p1)
              clear hout p0 p1
              go_step
              exact hK _ _ rfl hG (Below.refl _ _)
            · intro _ k a w' hG hout hpre K hK
              obtain ⟨p0, _⟩ := hpre
              have q101 := ev_of (show a.eval (.tmp 101) = .bool false from p0)
              clear hout p0
              go_step
              exact hK _ _ rfl hG (Below.refl _ _)
            · exact fun h => absurd h (by decide)
            · exact fun h => absurd h (by decide)
            · exact fun h => absurd h (by decide)
            · exact fun h => absurd h (by decide)
            · intro _ k a w' hG hout hpre K hK
              obtain ⟨p0, p1, _⟩ := hpre
              have q102 := ev_of (show a.eval (.tmp 102) = .bool false from p0)
              have q106 := ev_of (show a.eval (.tmp 106) = undef from p1)
              clear hout p0 p1
              go_step
              exact hK _ _ rfl hG (Below.refl _ _)
            · intro _ k a w' hG hout hpre K hK
              obtain ⟨p0, p1, _⟩ := hpre
              have q96 := ev_of (show a.eval (.tmp 96) = .bool false from p0)
              have q107 := ev_of (show a.eval (.tmp 107) = .bool false from p1)
              clear hout p0 p1
              go_step
              exact hK _ _ rfl hG (Below.refl _ _)
            · intro _ k a w' hG hout hpre K hK
              obtain ⟨p0, p1, _⟩ := hpre
              have q92 := ev_of (show a.eval (.tmp 92) = .bool true from p0)
              have q108 := ev_of (show a.eval (.tmp 108) = .bool true from p1)
              clear hout p0 p1
              go_step
              exact hK _ _ rfl hG (Below.refl _ _)
            · intro _ k a w' hG hout hpre K hK
              obtain ⟨p0, _⟩ := hpre
              have q109 := ev_of (show a.eval (.tmp 109) = .bool true from p0)
              clear hout p0
              go_step
              exact hK _ _ rfl hG (Below.refl _ _)
          · intro vs w2 hG hlen hV
            match vs, hlen, hV with
            | v0 :: v1 :: v2 :: v3 :: v4 :: v5 :: v6 :: v7 :: v8 :: v9 :: v10 :: v11 :: v12 :: v13 :: v14 :: v15 :: v16 :: v17 :: v18 :: v19 :: v20 :: v21 :: v22 :: v23 :: v24 :: v25 :: v26 :: v27 :: v28 :: v29 :: v30 :: v31 :: v32 :: v33 :: v34 :: v35 :: v36 :: v37 :: v38 :: v39 :: v40 :: v41 :: v42 :: v43 :: v44 :: v45 :: v46 :: v47 :: v48 :: v49 :: v50 :: v51 :: v52 :: v53 :: v54 :: v55 :: v56 :: v57 :: v58 :: v59 :: v60 :: v61 :: v62 :: v63 :: v64 :: v65 :: v66 :: v67 :: v68 :: v69 :: v70 :: v71 :: v72 :: v73 :: v74 :: v75 :: v76 :: v77 :: v78 :: [], _, hV =>
              obtain rfl : v78 = .bool true := (hV 78 2 v78 rfl rfl)
              clear hV
              simp only [putsL, List.append_eq, List.cons_append, List.nil_append, List.tail_cons, List.headD_cons]
              simp only [Act.put, List.setIfInBounds_toArray, List.set_cons_succ, List.set_cons_zero]
              have HZ : Hid (Below w.heap.size w w2) := HWc.out.trans (hG.mono HWc.out.size)
              clear hG
              go_wp2_with (fail)
              go_ret
              exact ⟨rfl, HZ.out⟩
        | true =>
          by_cases hc1 : al ≤ t
          · have HY1 := Lib.hid hc1
            clear hc1
            cases qr with
            | false =>
              obtain ⟨hs, hhs⟩ : ∃ b, b = decide (t < ah) := ⟨_, rfl⟩
              have HC2 : Hid (decide (t < ah) = hs) := Lib.hid hhs.symm
              have HHs : Hid (decide (al ≤ t ∧ t < ah) = hs) := by
                rw [hhs]
                exact Lib.hid (by have h1 := HY1.out; by_cases h2 : t < ah <;> simp [h1, h2])
              clear hhs
              obtain ⟨rp, hrp⟩ : ∃ b, b = decide (ah ≤ t) := ⟨_, rfl⟩
              have HRp : Hid (decide (ah ≤ t) = rp) := Lib.hid hrp.symm
              clear hrp
              have HC1 : Hid (decide (al ≤ t) = true) := Lib.hid (decide_eq_true HY1.out)
              have HCl : Hid ((∀ w', Calls Tryd.prog 17 #[VA] w' (Below0 w' (.bool true))) ∧ (∀ w', Below wc.heap.size wc w' → Calls Tryd.prog 18 #[VA] w' (Below0 w' (Sv tt))) ∧ (∀ w', Calls Tryd.prog 19 #[VA, VB] w' (Below0 w' (.int .i64 cc))) ∧ (∀ w', Calls Tryd.prog 20 #[VA, VB] w' (Below0 w' (.int .i64 cc))) ∧
                (∀ w', Calls Tryd.prog 21 #[VA, VB] w' (Below0 w' (.int .i64 pp))) ∧ (∀ w', Calls Tryd.prog 22 #[VA, VB] w' (Below0 w' (.int .i64 pp))) ∧ (∀ w', Calls Tryd.prog 23 #[VA, .int .i64 t] w' (Below0 w' (.bool hs))) ∧ (∀ w', Calls Tryd.prog 12 #[VA, .int .i64 t] w' (Below0 w' (.bool rp))) ∧
                (∀ w', Calls Tryd.prog 13 #[VQ, VA, .int .i64 t] w' (Below0 w' (.bool false))) ∧ (∀ w', Calls Tryd.prog 24 #[VQ] w' (Below0 w' (.bool false))) ∧ True) := by
                rw [HV.out.1, HV.out.2.1, HV.out.2.2]
                refine Lib.hid ⟨?_, HTx.out, fun w' => HCc.out.1 w', fun w' => HCc.out.2.1 w', fun w' => HCc.out.2.2.1 w', fun w' => HCc.out.2.2.2 w', ?_, ?_, ?_, ?_, ?_⟩
                · intro w'
                  have h := wright_any w' ⟨ak, al, ah⟩ HK.out
                  rw [← HRr.out] at h
                  exact h
                · intro w'
                  have h := whas_any w' ⟨ak, al, ah⟩ t HK.out
                  rw [hasW, ← HRr.out] at h
                  simp only at h
                  rw [Bool.true_and, show decide (al ≤ t ∧ t < ah) = hs from HHs.out] at h
                  exact h
                · intro w'
                  have h := wripe_any w' ⟨ak, al, ah⟩ t HK.out
                  rw [ripeW, ← HRr.out] at h
                  simp only at h
                  rw [Bool.true_and, HRp.out] at h
                  exact h
                · intro w'
                  have h := wgone_any w' ⟨kind, size, slide, late, agg, tk⟩ ⟨ak, al, ah⟩ t HK.out
                  rw [goneW, ← HRr.out, ← HQr.out] at h
                  simp only at h
                  rw [Bool.false_and, Bool.false_and] at h
                  exact h
                · intro w'
                  have h := rqRight_any w' ⟨kind, size, slide, late, agg, tk⟩
                  rw [← HQr.out] at h
                  exact h
                · trivial
              refine wp_region_skip_frame (fun i => ([71, 72, 73, 74] : List Nat).contains i) (by kernel_rfl) [none, none, none, none, none, none, none, none, none, none, none, none, none, none, none, none, none, none, none, none, none, none, none, none, none, none, none, none, none, none, none, none, none, none, none, none, none, none, none, none, none, none, none, none, none, none, none, none, none, none, none, none, none, none, none, none, none, none, none, none, none, none, none, none, none, none, none, none, none, none, none, none, none, none, none, none, none, none, none] [] (fun i_ _ _ v_ => v_ = ((VA :: (Value.bool true) :: (Value.bool true) :: (Value.bool true) :: (Value.bool true) :: VA :: Sv tt :: Sv tt :: (Value.bool true) :: (Value.bool true) :: (Value.bool true) :: VA :: VB :: (Value.int .i64 cc) :: VA :: VB :: (Value.int .i64 cc) :: (Value.bool true) :: (Value.bool true) :: (Value.bool true) :: VA :: VB :: (Value.int .i64 pp) :: VA :: VB :: (Value.int .i64 pp) :: (Value.bool true) :: (Value.bool true) :: (Value.bool true) :: VA :: (Value.int .i64 t) :: (Value.bool hs) :: (Value.bool true) :: (Value.bool true) :: (Value.int .i64 t) :: (Value.pointer (some ⟨ab, 1, none⟩)) :: (Value.int .i64 al) :: (Value.bool true) :: (Value.bool true) :: (Value.bool true) :: (Value.int .i64 t) :: (Value.pointer (some ⟨ab, 2, none⟩)) :: (Value.int .i64 ah) :: (Value.bool hs) :: (Value.bool hs) :: (Value.bool true) :: (Value.bool true) :: (Value.bool true) :: VA :: (Value.int .i64 t) :: (Value.bool rp) :: (Value.bool true) :: (Value.bool true) :: (Value.pointer (some ⟨ab, 2, none⟩)) :: (Value.int .i64 ah) :: (Value.int .i64 t) :: (Value.bool rp) :: (Value.bool rp) :: (Value.bool true) :: (Value.bool true) :: (Value.bool true) :: VQ :: VA :: (Value.int .i64 t) :: (Value.bool false) :: (Value.bool true) :: (Value.bool true) :: VQ :: (Value.bool false) :: (Value.bool false) :: (Value.bool false) :: undef :: undef :: undef :: undef :: (Value.bool false) :: (Value.bool true) :: (Value.bool true) :: (Value.bool true) :: ([] : List Value))).getD i_ undef) (fun _ w' => Below wc.heap.size wc w') (fun w w' => Below w.heap.size w w') (fun _ _ _ _ _ _ h => h) (by kernel_rfl) (by kernel_rfl) (by kernel_rfl) HG0.out (fun _ => ⟨rfl, rfl, rfl, rfl, rfl, fun _ _ h => h, fun _ _ h => h, fun _ _ h => h, fun _ _ h => h, rfl, rfl, fun _ _ h => h, fun _ _ h => h, fun _ _ h => h, fun _ _ h => h, fun _ _ h => h, fun _ _ h => h, fun _ _ h => h, rfl, rfl, fun _ _ h => h, fun _ _ h => h, fun _ _ h => h, fun _ _ h => h, fun _ _ h => h, fun _ _ h => h, fun _ _ h => h, rfl, rfl, fun _ _ h => h, fun _ _ h => h, fun _ _ h => h, fun _ _ h => h, fun _ _ h => h, fun _ _ h => h, fun _ _ h => h, fun _ _ h => h, fun _ _ h => h, fun _ _ h => h, fun _ _ h => h, fun _ _ h => h, fun _ _ h => h, fun _ _ h => h, fun _ _ h => h, fun _ _ h => h, fun _ _ h => h, rfl, rfl, fun _ _ h => h, fun _ _ h => h, fun _ _ h => h, fun _ _ h => h, fun _ _ h => h, fun _ _ h => h, fun _ _ h => h, fun _ _ h => h, fun _ _ h => h, fun _ _ h => h, fun _ _ h => h, rfl, rfl, fun _ _ h => h, fun _ _ h => h, fun _ _ h => h, fun _ _ h => h, fun _ _ h => h, fun _ _ h => h, fun _ _ h => h, fun _ _ h => h, fun _ _ h => h, fun _ _ h => h, fun _ _ h => h, fun _ _ h => h, fun _ _ h => h, fun _ _ h => h, fun _ _ h => h, fun _ _ h => h, rfl, rfl, trivial⟩) (fun i hi => by have hm := List.contains_iff_mem.1 hi; simp only [List.mem_cons, List.not_mem_nil, or_false] at hm; rcases hm with rfl | rfl | rfl | rfl <;> exact ⟨rfl, fun _ _ => rfl⟩) ?_ ?_
              · refine ⟨?_, ?_, ?_, ?_, ?_, ?_, ?_, ?_, ?_, ?_, ?_, ?_, ?_, ?_, ?_, ?_, ?_, ?_, ?_, ?_, ?_, ?_, ?_, ?_, ?_, ?_, ?_, ?_, ?_, ?_, ?_, ?_, ?_, ?_, ?_, ?_, ?_, ?_, ?_, ?_, ?_, ?_, ?_, ?_, ?_, ?_, ?_, ?_, ?_, ?_, ?_, ?_, ?_, ?_, ?_, ?_, ?_, ?_, ?_, ?_, ?_, ?_, ?_, ?_, ?_, ?_, ?_, ?_, ?_, ?_, ?_, ?_, ?_, ?_, ?_, ?_, ?_, ?_, ?_, trivial⟩
                · intro _ k a w' hG hout hpre K hK
                  have q3 := ev_of ((hout 3 rfl).trans (show _ = .pointer (some ⟨ab, 0, none⟩) from rfl))
                  obtain ⟨d0, d1, d2⟩ := (HD.out w' hG).1
                  clear hout hpre
                  go_step
                  exact hK _ _ HV.out.1.symm hG (Below.refl _ _)
                · intro _ k a w' hG hout hpre K hK
                  obtain ⟨p0, _⟩ := hpre
                  have q32 := ev_of (show a.eval (.tmp 32) = VA from p0)
                  have HS := Lib.hid (HCl.out.1 w')
                  clear hout p0
                  go_step
                  refine HS.out.mono ?_
                  rintro e w3 ⟨rfl, hB⟩
                  exact hK _ _ rfl (hG.trans (hB.mono hG.size)) hB
                · intro _ k a w' hG hout hpre K hK
                  have q7 := ev_of ((hout 7 rfl).trans (show _ = .bool true from rfl))
                  clear hout hpre
                  go_step
                  exact hK _ _ rfl hG (Below.refl _ _)
                · intro _ k a w' hG hout hpre K hK
                  obtain ⟨p0, p1, _⟩ := hpre
                  have q33 := ev_of (show a.eval (.tmp 33) = .bool true from p0)
                  have q34 := ev_of (show a.eval (.tmp 34) = .bool true from p1)
                  clear hout p0 p1
                  go_step
                  exact hK _ _ rfl hG (Below.refl _ _)
                · intro _ k a w' hG hout hpre K hK
                  obtain ⟨p0, _⟩ := hpre
                  have q35 := ev_of (show a.eval (.tmp 35) = .bool true from p0)
                  clear hout p0
                  go_step
                  exact hK _ _ rfl hG (Below.refl _ _)
                · intro _ k a w' hG hout hpre K hK
                  have q3 := ev_of ((hout 3 rfl).trans (show _ = .pointer (some ⟨ab, 0, none⟩) from rfl))
                  obtain ⟨d0, d1, d2⟩ := (HD.out w' hG).1
                  clear hout hpre
                  go_step
                  exact hK _ _ HV.out.1.symm hG (Below.refl _ _)
                · intro _ k a w' hG hout hpre K hK
                  obtain ⟨p0, _⟩ := hpre
                  have q37 := ev_of (show a.eval (.tmp 37) = VA from p0)
                  have HS := Lib.hid (HCl.out.2.1 w' hG)
                  clear hout p0
                  go_step
                  refine HS.out.mono ?_
                  rintro e w3 ⟨rfl, hB⟩
                  exact hK _ _ rfl (hG.trans (hB.mono hG.size)) hB
                · intro _ k a w' hG hout hpre K hK
                  have q8 := ev_of ((hout 8 rfl).trans (show _ = Sv tt from rfl))
                  clear hout hpre
                  go_step
                  exact hK _ _ rfl hG (Below.refl _ _)
                · intro _ k a w' hG hout hpre K hK
                  obtain ⟨p0, p1, _⟩ := hpre
                  have q38 := ev_of (show a.eval (.tmp 38) = Sv tt from p0)
                  have q39 := ev_of (show a.eval (.tmp 39) = Sv tt from p1)
                  have he := HTT.out
                  clear hout p0 p1
                  go_step
                  exact hK _ _ rfl hG (Below.refl _ _)
                · intro _ k a w' hG hout hpre K hK
                  obtain ⟨p0, p1, _⟩ := hpre
                  have q36 := ev_of (show a.eval (.tmp 36) = .bool true from p0)
                  have q40 := ev_of (show a.eval (.tmp 40) = .bool true from p1)
                  clear hout p0 p1
                  go_step
                  exact hK _ _ rfl hG (Below.refl _ _)
                · intro _ k a w' hG hout hpre K hK
                  obtain ⟨p0, _⟩ := hpre
                  have q41 := ev_of (show a.eval (.tmp 41) = .bool true from p0)
                  clear hout p0
                  go_step
                  exact hK _ _ rfl hG (Below.refl _ _)
                · intro _ k a w' hG hout hpre K hK
                  have q3 := ev_of ((hout 3 rfl).trans (show _ = .pointer (some ⟨ab, 0, none⟩) from rfl))
                  obtain ⟨d0, d1, d2⟩ := (HD.out w' hG).1
                  clear hout hpre
                  go_step
                  exact hK _ _ HV.out.1.symm hG (Below.refl _ _)
                · intro _ k a w' hG hout hpre K hK
                  have q4 := ev_of ((hout 4 rfl).trans (show _ = .pointer (some ⟨bb, 0, none⟩) from rfl))
                  obtain ⟨d0, d1, d2⟩ := (HD.out w' hG).2.1
                  clear hout hpre
                  go_step
                  exact hK _ _ HV.out.2.1.symm hG (Below.refl _ _)
                · intro _ k a w' hG hout hpre K hK
                  obtain ⟨p0, p1, _⟩ := hpre
                  have q43 := ev_of (show a.eval (.tmp 43) = VA from p0)
                  have q44 := ev_of (show a.eval (.tmp 44) = VB from p1)
                  have HS := Lib.hid (HCl.out.2.2.1 w')
                  clear hout p0 p1
                  go_step
                  refine HS.out.mono ?_
                  rintro e w3 ⟨rfl, hB⟩
                  exact hK _ _ rfl (hG.trans (hB.mono hG.size)) hB
                · intro _ k a w' hG hout hpre K hK
                  have q3 := ev_of ((hout 3 rfl).trans (show _ = .pointer (some ⟨ab, 0, none⟩) from rfl))
                  obtain ⟨d0, d1, d2⟩ := (HD.out w' hG).1
                  clear hout hpre
                  go_step
                  exact hK _ _ HV.out.1.symm hG (Below.refl _ _)
                · intro _ k a w' hG hout hpre K hK
                  have q4 := ev_of ((hout 4 rfl).trans (show _ = .pointer (some ⟨bb, 0, none⟩) from rfl))
                  obtain ⟨d0, d1, d2⟩ := (HD.out w' hG).2.1
                  clear hout hpre
                  go_step
                  exact hK _ _ HV.out.2.1.symm hG (Below.refl _ _)
                · intro _ k a w' hG hout hpre K hK
                  obtain ⟨p0, p1, _⟩ := hpre
                  have q46 := ev_of (show a.eval (.tmp 46) = VA from p0)
                  have q47 := ev_of (show a.eval (.tmp 47) = VB from p1)
                  have HS := Lib.hid (HCl.out.2.2.2.1 w')
                  clear hout p0 p1
                  go_step
                  refine HS.out.mono ?_
                  rintro e w3 ⟨rfl, hB⟩
                  exact hK _ _ rfl (hG.trans (hB.mono hG.size)) hB
                · intro _ k a w' hG hout hpre K hK
                  obtain ⟨p0, p1, _⟩ := hpre
                  have q45 := ev_of (show a.eval (.tmp 45) = .int .i64 cc from p0)
                  have q48 := ev_of (show a.eval (.tmp 48) = .int .i64 cc from p1)
                  have he : (cc == cc) = true := by simp
                  clear hout p0 p1
                  go_step
                  exact hK _ _ rfl hG (Below.refl _ _)
                · intro _ k a w' hG hout hpre K hK
                  obtain ⟨p0, p1, _⟩ := hpre
                  have q42 := ev_of (show a.eval (.tmp 42) = .bool true from p0)
                  have q49 := ev_of (show a.eval (.tmp 49) = .bool true from p1)
                  clear hout p0 p1
                  go_step
                  exact hK _ _ rfl hG (Below.refl _ _)
                · intro _ k a w' hG hout hpre K hK
                  obtain ⟨p0, _⟩ := hpre
                  have q50 := ev_of (show a.eval (.tmp 50) = .bool true from p0)
                  clear hout p0
                  go_step
                  exact hK _ _ rfl hG (Below.refl _ _)
                · intro _ k a w' hG hout hpre K hK
                  have q3 := ev_of ((hout 3 rfl).trans (show _ = .pointer (some ⟨ab, 0, none⟩) from rfl))
                  obtain ⟨d0, d1, d2⟩ := (HD.out w' hG).1
                  clear hout hpre
                  go_step
                  exact hK _ _ HV.out.1.symm hG (Below.refl _ _)
                · intro _ k a w' hG hout hpre K hK
                  have q4 := ev_of ((hout 4 rfl).trans (show _ = .pointer (some ⟨bb, 0, none⟩) from rfl))
                  obtain ⟨d0, d1, d2⟩ := (HD.out w' hG).2.1
                  clear hout hpre
                  go_step
                  exact hK _ _ HV.out.2.1.symm hG (Below.refl _ _)
                · intro _ k a w' hG hout hpre K hK
                  obtain ⟨p0, p1, _⟩ := hpre
                  have q52 := ev_of (show a.eval (.tmp 52) = VA from p0)
                  have q53 := ev_of (show a.eval (.tmp 53) = VB from p1)
                  have HS := Lib.hid (HCl.out.2.2.2.2.1 w')
                  clear hout p0 p1
                  go_step
                  refine HS.out.mono ?_
                  rintro e w3 ⟨rfl, hB⟩
                  exact hK _ _ rfl (hG.trans (hB.mono hG.size)) hB
                · intro _ k a w' hG hout hpre K hK
                  have q3 := ev_of ((hout 3 rfl).trans (show _ = .pointer (some ⟨ab, 0, none⟩) from rfl))
                  obtain ⟨d0, d1, d2⟩ := (HD.out w' hG).1
                  clear hout hpre
                  go_step
                  exact hK _ _ HV.out.1.symm hG (Below.refl _ _)
                · intro _ k a w' hG hout hpre K hK
                  have q4 := ev_of ((hout 4 rfl).trans (show _ = .pointer (some ⟨bb, 0, none⟩) from rfl))
                  obtain ⟨d0, d1, d2⟩ := (HD.out w' hG).2.1
                  clear hout hpre
                  go_step
                  exact hK _ _ HV.out.2.1.symm hG (Below.refl _ _)
                · intro _ k a w' hG hout hpre K hK
                  obtain ⟨p0, p1, _⟩ := hpre
                  have q55 := ev_of (show a.eval (.tmp 55) = VA from p0)
                  have q56 := ev_of (show a.eval (.tmp 56) = VB from p1)
                  have HS := Lib.hid (HCl.out.2.2.2.2.2.1 w')
                  clear hout p0 p1
                  go_step
                  refine HS.out.mono ?_
                  rintro e w3 ⟨rfl, hB⟩
                  exact hK _ _ rfl (hG.trans (hB.mono hG.size)) hB
                · intro _ k a w' hG hout hpre K hK
                  obtain ⟨p0, p1, _⟩ := hpre
                  have q54 := ev_of (show a.eval (.tmp 54) = .int .i64 pp from p0)
                  have q57 := ev_of (show a.eval (.tmp 57) = .int .i64 pp from p1)
                  have he : (pp == pp) = true := by simp
                  clear hout p0 p1
                  go_step
                  exact hK _ _ rfl hG (Below.refl _ _)
                · intro _ k a w' hG hout hpre K hK
                  obtain ⟨p0, p1, _⟩ := hpre
                  have q51 := ev_of (show a.eval (.tmp 51) = .bool true from p0)
                  have q58 := ev_of (show a.eval (.tmp 58) = .bool true from p1)
                  clear hout p0 p1
                  go_step
                  exact hK _ _ rfl hG (Below.refl _ _)
                · intro _ k a w' hG hout hpre K hK
                  obtain ⟨p0, _⟩ := hpre
                  have q59 := ev_of (show a.eval (.tmp 59) = .bool true from p0)
                  clear hout p0
                  go_step
                  exact hK _ _ rfl hG (Below.refl _ _)
                · intro _ k a w' hG hout hpre K hK
                  have q3 := ev_of ((hout 3 rfl).trans (show _ = .pointer (some ⟨ab, 0, none⟩) from rfl))
                  obtain ⟨d0, d1, d2⟩ := (HD.out w' hG).1
                  clear hout hpre
                  go_step
                  exact hK _ _ HV.out.1.symm hG (Below.refl _ _)
                · intro _ k a w' hG hout hpre K hK
                  have q6 := ev_of ((hout 6 rfl).trans (show _ = .int .i64 t from rfl))
                  clear hout hpre
                  go_step
                  exact hK _ _ rfl hG (Below.refl _ _)
                · intro _ k a w' hG hout hpre K hK
                  obtain ⟨p0, p1, _⟩ := hpre
                  have q61 := ev_of (show a.eval (.tmp 61) = VA from p0)
                  have q62 := ev_of (show a.eval (.tmp 62) = .int .i64 t from p1)
                  have HS := Lib.hid (HCl.out.2.2.2.2.2.2.1 w')
                  clear hout p0 p1
                  go_step
                  refine HS.out.mono ?_
                  rintro e w3 ⟨rfl, hB⟩
                  exact hK _ _ rfl (hG.trans (hB.mono hG.size)) hB
                · intro _ k a w' hG hout hpre K hK
                  have q7 := ev_of ((hout 7 rfl).trans (show _ = .bool true from rfl))
                  clear hout hpre
                  go_step
                  exact hK _ _ rfl hG (Below.refl _ _)
                · intro _ k a w' hG hout hpre K hK
                  obtain ⟨p0, _⟩ := hpre
                  have q64 := ev_of (show a.eval (.tmp 64) = .bool true from p0)
                  clear hout p0
                  go_step
                  exact hK _ _ rfl hG (Below.refl _ _)
                · intro _ k a w' hG hout hpre K hK
                  have q6 := ev_of ((hout 6 rfl).trans (show _ = .int .i64 t from rfl))
                  clear hout hpre
                  go_step
                  exact hK _ _ rfl hG (Below.refl _ _)
                · intro _ k a w' hG hout hpre K hK
                  have q3 := ev_of ((hout 3 rfl).trans (show _ = .pointer (some ⟨ab, 0, none⟩) from rfl))
                  clear hout hpre
                  go_step
                  exact hK _ _ rfl hG (Below.refl _ _)
                · intro _ k a w' hG hout hpre K hK
                  obtain ⟨p0, _⟩ := hpre
                  have q67 := ev_of (show a.eval (.tmp 67) = .pointer (some ⟨ab, 1, none⟩) from p0)
                  obtain ⟨d0, d1, d2⟩ := (HD.out w' hG).1
                  clear hout p0
                  go_step
                  exact hK _ _ rfl hG (Below.refl _ _)
                · intro _ k a w' hG hout hpre K hK
                  obtain ⟨p0, p1, _⟩ := hpre
                  have q66 := ev_of (show a.eval (.tmp 66) = .int .i64 t from p0)
                  have q68 := ev_of (show a.eval (.tmp 68) = .int .i64 al from p1)
                  have hd := HC1.out
                  clear hout p0 p1
                  go_step
                  exact hK _ _ rfl hG (Below.refl _ _)
                · intro _ k a w' hG hout hpre K hK
                  obtain ⟨p0, p1, _⟩ := hpre
                  have q65 := ev_of (show a.eval (.tmp 65) = .bool true from p0)
                  have q69 := ev_of (show a.eval (.tmp 69) = .bool true from p1)
                  clear hout p0 p1
                  go_step
                  exact hK _ _ rfl hG (Below.refl _ _)
                · intro _ k a w' hG hout hpre K hK
                  obtain ⟨p0, _⟩ := hpre
                  have q70 := ev_of (show a.eval (.tmp 70) = .bool true from p0)
                  clear hout p0
                  go_step
                  exact hK _ _ rfl hG (Below.refl _ _)
                · intro _ k a w' hG hout hpre K hK
                  have q6 := ev_of ((hout 6 rfl).trans (show _ = .int .i64 t from rfl))
                  clear hout hpre
                  go_step
                  exact hK _ _ rfl hG (Below.refl _ _)
                · intro _ k a w' hG hout hpre K hK
                  have q3 := ev_of ((hout 3 rfl).trans (show _ = .pointer (some ⟨ab, 0, none⟩) from rfl))
                  clear hout hpre
                  go_step
                  exact hK _ _ rfl hG (Below.refl _ _)
                · intro _ k a w' hG hout hpre K hK
                  obtain ⟨p0, _⟩ := hpre
                  have q73 := ev_of (show a.eval (.tmp 73) = .pointer (some ⟨ab, 2, none⟩) from p0)
                  obtain ⟨d0, d1, d2⟩ := (HD.out w' hG).1
                  clear hout p0
                  go_step
                  exact hK _ _ rfl hG (Below.refl _ _)
                · intro _ k a w' hG hout hpre K hK
                  obtain ⟨p0, p1, _⟩ := hpre
                  have q72 := ev_of (show a.eval (.tmp 72) = .int .i64 t from p0)
                  have q74 := ev_of (show a.eval (.tmp 74) = .int .i64 ah from p1)
                  have hd := HC2.out
                  clear hout p0 p1
                  go_step
                  exact hK _ _ rfl hG (Below.refl _ _)
                · intro _ k a w' hG hout hpre K hK
                  obtain ⟨p0, p1, _⟩ := hpre
                  have q71 := ev_of (show a.eval (.tmp 71) = .bool true from p0)
                  have q75 := ev_of (show a.eval (.tmp 75) = .bool hs from p1)
                  clear hout p0 p1
                  go_step
                  exact hK _ _ rfl hG (Below.refl _ _)
                · intro _ k a w' hG hout hpre K hK
                  obtain ⟨p0, p1, _⟩ := hpre
                  have q63 := ev_of (show a.eval (.tmp 63) = .bool hs from p0)
                  have q76 := ev_of (show a.eval (.tmp 76) = .bool hs from p1)
                  have he : (hs == hs) = true := by simp
                  clear hout p0 p1
                  go_step
                  exact hK _ _ rfl hG (Below.refl _ _)
                · intro _ k a w' hG hout hpre K hK
                  obtain ⟨p0, p1, _⟩ := hpre
                  have q60 := ev_of (show a.eval (.tmp 60) = .bool true from p0)
                  have q77 := ev_of (show a.eval (.tmp 77) = .bool true from p1)
                  clear hout p0 p1
                  go_step
                  exact hK _ _ rfl hG (Below.refl _ _)
                · intro _ k a w' hG hout hpre K hK
                  obtain ⟨p0, _⟩ := hpre
                  have q78 := ev_of (show a.eval (.tmp 78) = .bool true from p0)
                  clear hout p0
                  go_step
                  exact hK _ _ rfl hG (Below.refl _ _)
                · intro _ k a w' hG hout hpre K hK
                  have q3 := ev_of ((hout 3 rfl).trans (show _ = .pointer (some ⟨ab, 0, none⟩) from rfl))
                  obtain ⟨d0, d1, d2⟩ := (HD.out w' hG).1
                  clear hout hpre
                  go_step
                  exact hK _ _ HV.out.1.symm hG (Below.refl _ _)
                · intro _ k a w' hG hout hpre K hK
                  have q6 := ev_of ((hout 6 rfl).trans (show _ = .int .i64 t from rfl))
                  clear hout hpre
                  go_step
                  exact hK _ _ rfl hG (Below.refl _ _)
                · intro _ k a w' hG hout hpre K hK
                  obtain ⟨p0, p1, _⟩ := hpre
                  have q80 := ev_of (show a.eval (.tmp 80) = VA from p0)
                  have q81 := ev_of (show a.eval (.tmp 81) = .int .i64 t from p1)
                  have HS := Lib.hid (HCl.out.2.2.2.2.2.2.2.1 w')
                  clear hout p0 p1
                  go_step
                  refine HS.out.mono ?_
                  rintro e w3 ⟨rfl, hB⟩
                  exact hK _ _ rfl (hG.trans (hB.mono hG.size)) hB
                · intro _ k a w' hG hout hpre K hK
                  have q7 := ev_of ((hout 7 rfl).trans (show _ = .bool true from rfl))
                  clear hout hpre
                  go_step
                  exact hK _ _ rfl hG (Below.refl _ _)
                · intro _ k a w' hG hout hpre K hK
                  obtain ⟨p0, _⟩ := hpre
                  have q83 := ev_of (show a.eval (.tmp 83) = .bool true from p0)
                  clear hout p0
                  go_step
                  exact hK _ _ rfl hG (Below.refl _ _)
                · intro _ k a w' hG hout hpre K hK
                  have q3 := ev_of ((hout 3 rfl).trans (show _ = .pointer (some ⟨ab, 0, none⟩) from rfl))
                  clear hout hpre
                  go_step
                  exact hK _ _ rfl hG (Below.refl _ _)
                · intro _ k a w' hG hout hpre K hK
                  obtain ⟨p0, _⟩ := hpre
                  have q85 := ev_of (show a.eval (.tmp 85) = .pointer (some ⟨ab, 2, none⟩) from p0)
                  obtain ⟨d0, d1, d2⟩ := (HD.out w' hG).1
                  clear hout p0
                  go_step
                  exact hK _ _ rfl hG (Below.refl _ _)
                · intro _ k a w' hG hout hpre K hK
                  have q6 := ev_of ((hout 6 rfl).trans (show _ = .int .i64 t from rfl))
                  clear hout hpre
                  go_step
                  exact hK _ _ rfl hG (Below.refl _ _)
                · intro _ k a w' hG hout hpre K hK
                  obtain ⟨p0, p1, _⟩ := hpre
                  have q86 := ev_of (show a.eval (.tmp 86) = .int .i64 ah from p0)
                  have q87 := ev_of (show a.eval (.tmp 87) = .int .i64 t from p1)
                  have hd := HRp.out
                  clear hout p0 p1
                  go_step
                  exact hK _ _ rfl hG (Below.refl _ _)
                · intro _ k a w' hG hout hpre K hK
                  obtain ⟨p0, p1, _⟩ := hpre
                  have q84 := ev_of (show a.eval (.tmp 84) = .bool true from p0)
                  have q88 := ev_of (show a.eval (.tmp 88) = .bool rp from p1)
                  clear hout p0 p1
                  go_step
                  exact hK _ _ rfl hG (Below.refl _ _)
                · intro _ k a w' hG hout hpre K hK
                  obtain ⟨p0, p1, _⟩ := hpre
                  have q82 := ev_of (show a.eval (.tmp 82) = .bool rp from p0)
                  have q89 := ev_of (show a.eval (.tmp 89) = .bool rp from p1)
                  have he : (rp == rp) = true := by simp
                  clear hout p0 p1
                  go_step
                  exact hK _ _ rfl hG (Below.refl _ _)
                · intro _ k a w' hG hout hpre K hK
                  obtain ⟨p0, p1, _⟩ := hpre
                  have q79 := ev_of (show a.eval (.tmp 79) = .bool true from p0)
                  have q90 := ev_of (show a.eval (.tmp 90) = .bool true from p1)
                  clear hout p0 p1
                  go_step
                  exact hK _ _ rfl hG (Below.refl _ _)
                · intro _ k a w' hG hout hpre K hK
                  obtain ⟨p0, _⟩ := hpre
                  have q91 := ev_of (show a.eval (.tmp 91) = .bool true from p0)
                  clear hout p0
                  go_step
                  exact hK _ _ rfl hG (Below.refl _ _)
                · intro _ k a w' hG hout hpre K hK
                  have q5 := ev_of ((hout 5 rfl).trans (show _ = .pointer (some ⟨qb, 0, none⟩) from rfl))
                  obtain ⟨d0, d1, d2, d3, d4, d5⟩ := (HD.out w' hG).2.2
                  clear hout hpre
                  go_step
                  exact hK _ _ HV.out.2.2.symm hG (Below.refl _ _)
                · intro _ k a w' hG hout hpre K hK
                  have q3 := ev_of ((hout 3 rfl).trans (show _ = .pointer (some ⟨ab, 0, none⟩) from rfl))
                  obtain ⟨d0, d1, d2⟩ := (HD.out w' hG).1
                  clear hout hpre
                  go_step
                  exact hK _ _ HV.out.1.symm hG (Below.refl _ _)
                · intro _ k a w' hG hout hpre K hK
                  have q6 := ev_of ((hout 6 rfl).trans (show _ = .int .i64 t from rfl))
                  clear hout hpre
                  go_step
                  exact hK _ _ rfl hG (Below.refl _ _)
                · intro _ k a w' hG hout hpre K hK
                  obtain ⟨p0, p1, p2, _⟩ := hpre
                  have q93 := ev_of (show a.eval (.tmp 93) = VQ from p0)
                  have q94 := ev_of (show a.eval (.tmp 94) = VA from p1)
                  have q95 := ev_of (show a.eval (.tmp 95) = .int .i64 t from p2)
                  have HS := Lib.hid (HCl.out.2.2.2.2.2.2.2.2.1 w')
                  clear hout p0 p1 p2
                  go_step
                  refine HS.out.mono ?_
                  rintro e w3 ⟨rfl, hB⟩
                  exact hK _ _ rfl (hG.trans (hB.mono hG.size)) hB
                · intro _ k a w' hG hout hpre K hK
                  have q7 := ev_of ((hout 7 rfl).trans (show _ = .bool true from rfl))
                  clear hout hpre
                  go_step
                  exact hK _ _ rfl hG (Below.refl _ _)
                · intro _ k a w' hG hout hpre K hK
                  obtain ⟨p0, _⟩ := hpre
                  have q97 := ev_of (show a.eval (.tmp 97) = .bool true from p0)
                  clear hout p0
                  go_step
                  exact hK _ _ rfl hG (Below.refl _ _)
                · intro _ k a w' hG hout hpre K hK
                  have q5 := ev_of ((hout 5 rfl).trans (show _ = .pointer (some ⟨qb, 0, none⟩) from rfl))
                  obtain ⟨d0, d1, d2, d3, d4, d5⟩ := (HD.out w' hG).2.2
                  clear hout hpre
                  go_step
                  exact hK _ _ HV.out.2.2.symm hG (Below.refl _ _)
                · intro _ k a w' hG hout hpre K hK
                  obtain ⟨p0, _⟩ := hpre
                  have q99 := ev_of (show a.eval (.tmp 99) = VQ from p0)
                  have HS := Lib.hid (HCl.out.2.2.2.2.2.2.2.2.2.1 w')
                  clear hout p0
                  go_step
                  refine HS.out.mono ?_
                  rintro e w3 ⟨rfl, hB⟩
                  exact hK _ _ rfl (hG.trans (hB.mono hG.size)) hB
                · intro _ k a w' hG hout hpre K hK
                  obtain ⟨p0, p1, _⟩ := hpre
                  have q98 := ev_of (show a.eval (.tmp 98) = .bool true from p0)
                  have q100 := ev_of (show a.eval (.tmp 100) = .bool false from p1)
                  clear hout p0 p1
                  go_step
                  exact hK _ _ rfl hG (Below.refl _ _)
                · intro _ k a w' hG hout hpre K hK
                  obtain ⟨p0, _⟩ := hpre
                  have q101 := ev_of (show a.eval (.tmp 101) = .bool false from p0)
                  clear hout p0
                  go_step
                  exact hK _ _ rfl hG (Below.refl _ _)
                · exact fun h => absurd h (by decide)
                · exact fun h => absurd h (by decide)
                · exact fun h => absurd h (by decide)
                · exact fun h => absurd h (by decide)
                · intro _ k a w' hG hout hpre K hK
                  obtain ⟨p0, p1, _⟩ := hpre
                  have q102 := ev_of (show a.eval (.tmp 102) = .bool false from p0)
                  have q106 := ev_of (show a.eval (.tmp 106) = undef from p1)
                  clear hout p0 p1
                  go_step
                  exact hK _ _ rfl hG (Below.refl _ _)
                · intro _ k a w' hG hout hpre K hK
                  obtain ⟨p0, p1, _⟩ := hpre
                  have q96 := ev_of (show a.eval (.tmp 96) = .bool false from p0)
                  have q107 := ev_of (show a.eval (.tmp 107) = .bool false from p1)
                  clear hout p0 p1
                  go_step
                  exact hK _ _ rfl hG (Below.refl _ _)
                · intro _ k a w' hG hout hpre K hK
                  obtain ⟨p0, p1, _⟩ := hpre
                  have q92 := ev_of (show a.eval (.tmp 92) = .bool true from p0)
                  have q108 := ev_of (show a.eval (.tmp 108) = .bool true from p1)
                  clear hout p0 p1
                  go_step
                  exact hK _ _ rfl hG (Below.refl _ _)
                · intro _ k a w' hG hout hpre K hK
                  obtain ⟨p0, _⟩ := hpre
                  have q109 := ev_of (show a.eval (.tmp 109) = .bool true from p0)
                  clear hout p0
                  go_step
                  exact hK _ _ rfl hG (Below.refl _ _)
              · intro vs w2 hG hlen hV
                match vs, hlen, hV with
                | v0 :: v1 :: v2 :: v3 :: v4 :: v5 :: v6 :: v7 :: v8 :: v9 :: v10 :: v11 :: v12 :: v13 :: v14 :: v15 :: v16 :: v17 :: v18 :: v19 :: v20 :: v21 :: v22 :: v23 :: v24 :: v25 :: v26 :: v27 :: v28 :: v29 :: v30 :: v31 :: v32 :: v33 :: v34 :: v35 :: v36 :: v37 :: v38 :: v39 :: v40 :: v41 :: v42 :: v43 :: v44 :: v45 :: v46 :: v47 :: v48 :: v49 :: v50 :: v51 :: v52 :: v53 :: v54 :: v55 :: v56 :: v57 :: v58 :: v59 :: v60 :: v61 :: v62 :: v63 :: v64 :: v65 :: v66 :: v67 :: v68 :: v69 :: v70 :: v71 :: v72 :: v73 :: v74 :: v75 :: v76 :: v77 :: v78 :: [], _, hV =>
                  obtain rfl : v78 = .bool true := (hV 78 2 v78 rfl rfl)
                  clear hV
                  simp only [putsL, List.append_eq, List.cons_append, List.nil_append, List.tail_cons, List.headD_cons]
                  simp only [Act.put, List.setIfInBounds_toArray, List.set_cons_succ, List.set_cons_zero]
                  have HZ : Hid (Below w.heap.size w w2) := HWc.out.trans (hG.mono HWc.out.size)
                  clear hG
                  go_wp2_with (fail)
                  go_ret
                  exact ⟨rfl, HZ.out⟩
            | true =>
              obtain ⟨hs, hhs⟩ : ∃ b, b = decide (t < ah) := ⟨_, rfl⟩
              have HC2 : Hid (decide (t < ah) = hs) := Lib.hid hhs.symm
              have HHs : Hid (decide (al ≤ t ∧ t < ah) = hs) := by
                rw [hhs]
                exact Lib.hid (by have h1 := HY1.out; by_cases h2 : t < ah <;> simp [h1, h2])
              clear hhs
              obtain ⟨rp, hrp⟩ : ∃ b, b = decide (ah ≤ t) := ⟨_, rfl⟩
              have HRp : Hid (decide (ah ≤ t) = rp) := Lib.hid hrp.symm
              clear hrp
              have HC1 : Hid (decide (al ≤ t) = true) := Lib.hid (decide_eq_true HY1.out)
              have HGb : Hid ((0 ≤ ah ∧ ah ≤ 4398046511104) ∧ (0 ≤ late ∧ late ≤ 1073741824)) := by
                have g1 := rightW_cases (x := ⟨ak, al, ah⟩) HRr.out.symm
                have g2 := rightQ_bd (q := ⟨kind, size, slide, late, agg, tk⟩) HQr.out.symm
                simp only at g1 g2
                exact Lib.hid (by omega)
              have HCl : Hid ((∀ w', Calls Tryd.prog 17 #[VA] w' (Below0 w' (.bool true))) ∧ (∀ w', Below wc.heap.size wc w' → Calls Tryd.prog 18 #[VA] w' (Below0 w' (Sv tt))) ∧ (∀ w', Calls Tryd.prog 19 #[VA, VB] w' (Below0 w' (.int .i64 cc))) ∧ (∀ w', Calls Tryd.prog 20 #[VA, VB] w' (Below0 w' (.int .i64 cc))) ∧
                (∀ w', Calls Tryd.prog 21 #[VA, VB] w' (Below0 w' (.int .i64 pp))) ∧ (∀ w', Calls Tryd.prog 22 #[VA, VB] w' (Below0 w' (.int .i64 pp))) ∧ (∀ w', Calls Tryd.prog 23 #[VA, .int .i64 t] w' (Below0 w' (.bool hs))) ∧ (∀ w', Calls Tryd.prog 12 #[VA, .int .i64 t] w' (Below0 w' (.bool rp))) ∧
                (∀ w', Calls Tryd.prog 13 #[VQ, VA, .int .i64 t] w' (Below0 w' (.bool (decide (ah + late ≤ t))))) ∧ (∀ w', Calls Tryd.prog 24 #[VQ] w' (Below0 w' (.bool true))) ∧ (∀ w', Calls Tryd.prog 14 #[VQ, VA, .int .i64 t] w' (Below0 w' (.bool (decide (ah + late ≤ t)))))) := by
                rw [HV.out.1, HV.out.2.1, HV.out.2.2]
                refine Lib.hid ⟨?_, HTx.out, fun w' => HCc.out.1 w', fun w' => HCc.out.2.1 w', fun w' => HCc.out.2.2.1 w', fun w' => HCc.out.2.2.2 w', ?_, ?_, ?_, ?_, ?_⟩
                · intro w'
                  have h := wright_any w' ⟨ak, al, ah⟩ HK.out
                  rw [← HRr.out] at h
                  exact h
                · intro w'
                  have h := whas_any w' ⟨ak, al, ah⟩ t HK.out
                  rw [hasW, ← HRr.out] at h
                  simp only at h
                  rw [Bool.true_and, show decide (al ≤ t ∧ t < ah) = hs from HHs.out] at h
                  exact h
                · intro w'
                  have h := wripe_any w' ⟨ak, al, ah⟩ t HK.out
                  rw [ripeW, ← HRr.out] at h
                  simp only at h
                  rw [Bool.true_and, HRp.out] at h
                  exact h
                · intro w'
                  have h := wgone_any w' ⟨kind, size, slide, late, agg, tk⟩ ⟨ak, al, ah⟩ t HK.out
                  rw [goneW, ← HRr.out, ← HQr.out] at h
                  simp only at h
                  rw [Bool.true_and, Bool.true_and] at h
                  exact h
                · intro w'
                  have h := rqRight_any w' ⟨kind, size, slide, late, agg, tk⟩
                  rw [← HQr.out] at h
                  exact h
                · exact fun w' => rwGone_any w' ⟨kind, size, slide, late, agg, tk⟩ ⟨ak, al, ah⟩ t HGb.out.1 HGb.out.2
              obtain ⟨gn, hgn⟩ : ∃ b, b = decide (ah + late ≤ t) := ⟨_, rfl⟩
              rw [← hgn] at HCl
              clear hgn
              refine wp_region_skip_frame (fun i => ([] : List Nat).contains i) (by kernel_rfl) [none, none, none, none, none, none, none, none, none, none, none, none, none, none, none, none, none, none, none, none, none, none, none, none, none, none, none, none, none, none, none, none, none, none, none, none, none, none, none, none, none, none, none, none, none, none, none, none, none, none, none, none, none, none, none, none, none, none, none, none, none, none, none, none, none, none, none, none, none, none, none, none, none, none, none, none, none, none, none] [] (fun i_ _ _ v_ => v_ = ((VA :: (Value.bool true) :: (Value.bool true) :: (Value.bool true) :: (Value.bool true) :: VA :: Sv tt :: Sv tt :: (Value.bool true) :: (Value.bool true) :: (Value.bool true) :: VA :: VB :: (Value.int .i64 cc) :: VA :: VB :: (Value.int .i64 cc) :: (Value.bool true) :: (Value.bool true) :: (Value.bool true) :: VA :: VB :: (Value.int .i64 pp) :: VA :: VB :: (Value.int .i64 pp) :: (Value.bool true) :: (Value.bool true) :: (Value.bool true) :: VA :: (Value.int .i64 t) :: (Value.bool hs) :: (Value.bool true) :: (Value.bool true) :: (Value.int .i64 t) :: (Value.pointer (some ⟨ab, 1, none⟩)) :: (Value.int .i64 al) :: (Value.bool true) :: (Value.bool true) :: (Value.bool true) :: (Value.int .i64 t) :: (Value.pointer (some ⟨ab, 2, none⟩)) :: (Value.int .i64 ah) :: (Value.bool hs) :: (Value.bool hs) :: (Value.bool true) :: (Value.bool true) :: (Value.bool true) :: VA :: (Value.int .i64 t) :: (Value.bool rp) :: (Value.bool true) :: (Value.bool true) :: (Value.pointer (some ⟨ab, 2, none⟩)) :: (Value.int .i64 ah) :: (Value.int .i64 t) :: (Value.bool rp) :: (Value.bool rp) :: (Value.bool true) :: (Value.bool true) :: (Value.bool true) :: VQ :: VA :: (Value.int .i64 t) :: (Value.bool gn) :: (Value.bool true) :: (Value.bool true) :: VQ :: (Value.bool true) :: (Value.bool true) :: (Value.bool true) :: VQ :: VA :: (Value.int .i64 t) :: (Value.bool gn) :: (Value.bool gn) :: (Value.bool true) :: (Value.bool true) :: (Value.bool true) :: ([] : List Value))).getD i_ undef) (fun _ w' => Below wc.heap.size wc w') (fun w w' => Below w.heap.size w w') (fun _ _ _ _ _ _ h => h) (by kernel_rfl) (by kernel_rfl) (by kernel_rfl) HG0.out (fun _ => ⟨rfl, rfl, rfl, rfl, rfl, fun _ _ h => h, fun _ _ h => h, fun _ _ h => h, fun _ _ h => h, rfl, rfl, fun _ _ h => h, fun _ _ h => h, fun _ _ h => h, fun _ _ h => h, fun _ _ h => h, fun _ _ h => h, fun _ _ h => h, rfl, rfl, fun _ _ h => h, fun _ _ h => h, fun _ _ h => h, fun _ _ h => h, fun _ _ h => h, fun _ _ h => h, fun _ _ h => h, rfl, rfl, fun _ _ h => h, fun _ _ h => h, fun _ _ h => h, fun _ _ h => h, fun _ _ h => h, fun _ _ h => h, fun _ _ h => h, fun _ _ h => h, fun _ _ h => h, fun _ _ h => h, fun _ _ h => h, fun _ _ h => h, fun _ _ h => h, fun _ _ h => h, fun _ _ h => h, fun _ _ h => h, fun _ _ h => h, rfl, rfl, fun _ _ h => h, fun _ _ h => h, fun _ _ h => h, fun _ _ h => h, fun _ _ h => h, fun _ _ h => h, fun _ _ h => h, fun _ _ h => h, fun _ _ h => h, fun _ _ h => h, fun _ _ h => h, rfl, rfl, fun _ _ h => h, fun _ _ h => h, fun _ _ h => h, fun _ _ h => h, fun _ _ h => h, fun _ _ h => h, fun _ _ h => h, fun _ _ h => h, fun _ _ h => h, fun _ _ h => h, fun _ _ h => h, fun _ _ h => h, fun _ _ h => h, fun _ _ h => h, fun _ _ h => h, fun _ _ h => h, rfl, rfl, trivial⟩) (fun _ h => by simp at h) ?_ ?_
              · refine ⟨?_, ?_, ?_, ?_, ?_, ?_, ?_, ?_, ?_, ?_, ?_, ?_, ?_, ?_, ?_, ?_, ?_, ?_, ?_, ?_, ?_, ?_, ?_, ?_, ?_, ?_, ?_, ?_, ?_, ?_, ?_, ?_, ?_, ?_, ?_, ?_, ?_, ?_, ?_, ?_, ?_, ?_, ?_, ?_, ?_, ?_, ?_, ?_, ?_, ?_, ?_, ?_, ?_, ?_, ?_, ?_, ?_, ?_, ?_, ?_, ?_, ?_, ?_, ?_, ?_, ?_, ?_, ?_, ?_, ?_, ?_, ?_, ?_, ?_, ?_, ?_, ?_, ?_, ?_, trivial⟩
                · intro _ k a w' hG hout hpre K hK
                  have q3 := ev_of ((hout 3 rfl).trans (show _ = .pointer (some ⟨ab, 0, none⟩) from rfl))
                  obtain ⟨d0, d1, d2⟩ := (HD.out w' hG).1
                  clear hout hpre
                  go_step
                  exact hK _ _ HV.out.1.symm hG (Below.refl _ _)
                · intro _ k a w' hG hout hpre K hK
                  obtain ⟨p0, _⟩ := hpre
                  have q32 := ev_of (show a.eval (.tmp 32) = VA from p0)
                  have HS := Lib.hid (HCl.out.1 w')
                  clear hout p0
                  go_step
                  refine HS.out.mono ?_
                  rintro e w3 ⟨rfl, hB⟩
                  exact hK _ _ rfl (hG.trans (hB.mono hG.size)) hB
                · intro _ k a w' hG hout hpre K hK
                  have q7 := ev_of ((hout 7 rfl).trans (show _ = .bool true from rfl))
                  clear hout hpre
                  go_step
                  exact hK _ _ rfl hG (Below.refl _ _)
                · intro _ k a w' hG hout hpre K hK
                  obtain ⟨p0, p1, _⟩ := hpre
                  have q33 := ev_of (show a.eval (.tmp 33) = .bool true from p0)
                  have q34 := ev_of (show a.eval (.tmp 34) = .bool true from p1)
                  clear hout p0 p1
                  go_step
                  exact hK _ _ rfl hG (Below.refl _ _)
                · intro _ k a w' hG hout hpre K hK
                  obtain ⟨p0, _⟩ := hpre
                  have q35 := ev_of (show a.eval (.tmp 35) = .bool true from p0)
                  clear hout p0
                  go_step
                  exact hK _ _ rfl hG (Below.refl _ _)
                · intro _ k a w' hG hout hpre K hK
                  have q3 := ev_of ((hout 3 rfl).trans (show _ = .pointer (some ⟨ab, 0, none⟩) from rfl))
                  obtain ⟨d0, d1, d2⟩ := (HD.out w' hG).1
                  clear hout hpre
                  go_step
                  exact hK _ _ HV.out.1.symm hG (Below.refl _ _)
                · intro _ k a w' hG hout hpre K hK
                  obtain ⟨p0, _⟩ := hpre
                  have q37 := ev_of (show a.eval (.tmp 37) = VA from p0)
                  have HS := Lib.hid (HCl.out.2.1 w' hG)
                  clear hout p0
                  go_step
                  refine HS.out.mono ?_
                  rintro e w3 ⟨rfl, hB⟩
                  exact hK _ _ rfl (hG.trans (hB.mono hG.size)) hB
                · intro _ k a w' hG hout hpre K hK
                  have q8 := ev_of ((hout 8 rfl).trans (show _ = Sv tt from rfl))
                  clear hout hpre
                  go_step
                  exact hK _ _ rfl hG (Below.refl _ _)
                · intro _ k a w' hG hout hpre K hK
                  obtain ⟨p0, p1, _⟩ := hpre
                  have q38 := ev_of (show a.eval (.tmp 38) = Sv tt from p0)
                  have q39 := ev_of (show a.eval (.tmp 39) = Sv tt from p1)
                  have he := HTT.out
                  clear hout p0 p1
                  go_step
                  exact hK _ _ rfl hG (Below.refl _ _)
                · intro _ k a w' hG hout hpre K hK
                  obtain ⟨p0, p1, _⟩ := hpre
                  have q36 := ev_of (show a.eval (.tmp 36) = .bool true from p0)
                  have q40 := ev_of (show a.eval (.tmp 40) = .bool true from p1)
                  clear hout p0 p1
                  go_step
                  exact hK _ _ rfl hG (Below.refl _ _)
                · intro _ k a w' hG hout hpre K hK
                  obtain ⟨p0, _⟩ := hpre
                  have q41 := ev_of (show a.eval (.tmp 41) = .bool true from p0)
                  clear hout p0
                  go_step
                  exact hK _ _ rfl hG (Below.refl _ _)
                · intro _ k a w' hG hout hpre K hK
                  have q3 := ev_of ((hout 3 rfl).trans (show _ = .pointer (some ⟨ab, 0, none⟩) from rfl))
                  obtain ⟨d0, d1, d2⟩ := (HD.out w' hG).1
                  clear hout hpre
                  go_step
                  exact hK _ _ HV.out.1.symm hG (Below.refl _ _)
                · intro _ k a w' hG hout hpre K hK
                  have q4 := ev_of ((hout 4 rfl).trans (show _ = .pointer (some ⟨bb, 0, none⟩) from rfl))
                  obtain ⟨d0, d1, d2⟩ := (HD.out w' hG).2.1
                  clear hout hpre
                  go_step
                  exact hK _ _ HV.out.2.1.symm hG (Below.refl _ _)
                · intro _ k a w' hG hout hpre K hK
                  obtain ⟨p0, p1, _⟩ := hpre
                  have q43 := ev_of (show a.eval (.tmp 43) = VA from p0)
                  have q44 := ev_of (show a.eval (.tmp 44) = VB from p1)
                  have HS := Lib.hid (HCl.out.2.2.1 w')
                  clear hout p0 p1
                  go_step
                  refine HS.out.mono ?_
                  rintro e w3 ⟨rfl, hB⟩
                  exact hK _ _ rfl (hG.trans (hB.mono hG.size)) hB
                · intro _ k a w' hG hout hpre K hK
                  have q3 := ev_of ((hout 3 rfl).trans (show _ = .pointer (some ⟨ab, 0, none⟩) from rfl))
                  obtain ⟨d0, d1, d2⟩ := (HD.out w' hG).1
                  clear hout hpre
                  go_step
                  exact hK _ _ HV.out.1.symm hG (Below.refl _ _)
                · intro _ k a w' hG hout hpre K hK
                  have q4 := ev_of ((hout 4 rfl).trans (show _ = .pointer (some ⟨bb, 0, none⟩) from rfl))
                  obtain ⟨d0, d1, d2⟩ := (HD.out w' hG).2.1
                  clear hout hpre
                  go_step
                  exact hK _ _ HV.out.2.1.symm hG (Below.refl _ _)
                · intro _ k a w' hG hout hpre K hK
                  obtain ⟨p0, p1, _⟩ := hpre
                  have q46 := ev_of (show a.eval (.tmp 46) = VA from p0)
                  have q47 := ev_of (show a.eval (.tmp 47) = VB from p1)
                  have HS := Lib.hid (HCl.out.2.2.2.1 w')
                  clear hout p0 p1
                  go_step
                  refine HS.out.mono ?_
                  rintro e w3 ⟨rfl, hB⟩
                  exact hK _ _ rfl (hG.trans (hB.mono hG.size)) hB
                · intro _ k a w' hG hout hpre K hK
                  obtain ⟨p0, p1, _⟩ := hpre
                  have q45 := ev_of (show a.eval (.tmp 45) = .int .i64 cc from p0)
                  have q48 := ev_of (show a.eval (.tmp 48) = .int .i64 cc from p1)
                  have he : (cc == cc) = true := by simp
                  clear hout p0 p1
                  go_step
                  exact hK _ _ rfl hG (Below.refl _ _)
                · intro _ k a w' hG hout hpre K hK
                  obtain ⟨p0, p1, _⟩ := hpre
                  have q42 := ev_of (show a.eval (.tmp 42) = .bool true from p0)
                  have q49 := ev_of (show a.eval (.tmp 49) = .bool true from p1)
                  clear hout p0 p1
                  go_step
                  exact hK _ _ rfl hG (Below.refl _ _)
                · intro _ k a w' hG hout hpre K hK
                  obtain ⟨p0, _⟩ := hpre
                  have q50 := ev_of (show a.eval (.tmp 50) = .bool true from p0)
                  clear hout p0
                  go_step
                  exact hK _ _ rfl hG (Below.refl _ _)
                · intro _ k a w' hG hout hpre K hK
                  have q3 := ev_of ((hout 3 rfl).trans (show _ = .pointer (some ⟨ab, 0, none⟩) from rfl))
                  obtain ⟨d0, d1, d2⟩ := (HD.out w' hG).1
                  clear hout hpre
                  go_step
                  exact hK _ _ HV.out.1.symm hG (Below.refl _ _)
                · intro _ k a w' hG hout hpre K hK
                  have q4 := ev_of ((hout 4 rfl).trans (show _ = .pointer (some ⟨bb, 0, none⟩) from rfl))
                  obtain ⟨d0, d1, d2⟩ := (HD.out w' hG).2.1
                  clear hout hpre
                  go_step
                  exact hK _ _ HV.out.2.1.symm hG (Below.refl _ _)
                · intro _ k a w' hG hout hpre K hK
                  obtain ⟨p0, p1, _⟩ := hpre
                  have q52 := ev_of (show a.eval (.tmp 52) = VA from p0)
                  have q53 := ev_of (show a.eval (.tmp 53) = VB from p1)
                  have HS := Lib.hid (HCl.out.2.2.2.2.1 w')
                  clear hout p0 p1
                  go_step
                  refine HS.out.mono ?_
                  rintro e w3 ⟨rfl, hB⟩
                  exact hK _ _ rfl (hG.trans (hB.mono hG.size)) hB
                · intro _ k a w' hG hout hpre K hK
                  have q3 := ev_of ((hout 3 rfl).trans (show _ = .pointer (some ⟨ab, 0, none⟩) from rfl))
                  obtain ⟨d0, d1, d2⟩ := (HD.out w' hG).1
                  clear hout hpre
                  go_step
                  exact hK _ _ HV.out.1.symm hG (Below.refl _ _)
                · intro _ k a w' hG hout hpre K hK
                  have q4 := ev_of ((hout 4 rfl).trans (show _ = .pointer (some ⟨bb, 0, none⟩) from rfl))
                  obtain ⟨d0, d1, d2⟩ := (HD.out w' hG).2.1
                  clear hout hpre
                  go_step
                  exact hK _ _ HV.out.2.1.symm hG (Below.refl _ _)
                · intro _ k a w' hG hout hpre K hK
                  obtain ⟨p0, p1, _⟩ := hpre
                  have q55 := ev_of (show a.eval (.tmp 55) = VA from p0)
                  have q56 := ev_of (show a.eval (.tmp 56) = VB from p1)
                  have HS := Lib.hid (HCl.out.2.2.2.2.2.1 w')
                  clear hout p0 p1
                  go_step
                  refine HS.out.mono ?_
                  rintro e w3 ⟨rfl, hB⟩
                  exact hK _ _ rfl (hG.trans (hB.mono hG.size)) hB
                · intro _ k a w' hG hout hpre K hK
                  obtain ⟨p0, p1, _⟩ := hpre
                  have q54 := ev_of (show a.eval (.tmp 54) = .int .i64 pp from p0)
                  have q57 := ev_of (show a.eval (.tmp 57) = .int .i64 pp from p1)
                  have he : (pp == pp) = true := by simp
                  clear hout p0 p1
                  go_step
                  exact hK _ _ rfl hG (Below.refl _ _)
                · intro _ k a w' hG hout hpre K hK
                  obtain ⟨p0, p1, _⟩ := hpre
                  have q51 := ev_of (show a.eval (.tmp 51) = .bool true from p0)
                  have q58 := ev_of (show a.eval (.tmp 58) = .bool true from p1)
                  clear hout p0 p1
                  go_step
                  exact hK _ _ rfl hG (Below.refl _ _)
                · intro _ k a w' hG hout hpre K hK
                  obtain ⟨p0, _⟩ := hpre
                  have q59 := ev_of (show a.eval (.tmp 59) = .bool true from p0)
                  clear hout p0
                  go_step
                  exact hK _ _ rfl hG (Below.refl _ _)
                · intro _ k a w' hG hout hpre K hK
                  have q3 := ev_of ((hout 3 rfl).trans (show _ = .pointer (some ⟨ab, 0, none⟩) from rfl))
                  obtain ⟨d0, d1, d2⟩ := (HD.out w' hG).1
                  clear hout hpre
                  go_step
                  exact hK _ _ HV.out.1.symm hG (Below.refl _ _)
                · intro _ k a w' hG hout hpre K hK
                  have q6 := ev_of ((hout 6 rfl).trans (show _ = .int .i64 t from rfl))
                  clear hout hpre
                  go_step
                  exact hK _ _ rfl hG (Below.refl _ _)
                · intro _ k a w' hG hout hpre K hK
                  obtain ⟨p0, p1, _⟩ := hpre
                  have q61 := ev_of (show a.eval (.tmp 61) = VA from p0)
                  have q62 := ev_of (show a.eval (.tmp 62) = .int .i64 t from p1)
                  have HS := Lib.hid (HCl.out.2.2.2.2.2.2.1 w')
                  clear hout p0 p1
                  go_step
                  refine HS.out.mono ?_
                  rintro e w3 ⟨rfl, hB⟩
                  exact hK _ _ rfl (hG.trans (hB.mono hG.size)) hB
                · intro _ k a w' hG hout hpre K hK
                  have q7 := ev_of ((hout 7 rfl).trans (show _ = .bool true from rfl))
                  clear hout hpre
                  go_step
                  exact hK _ _ rfl hG (Below.refl _ _)
                · intro _ k a w' hG hout hpre K hK
                  obtain ⟨p0, _⟩ := hpre
                  have q64 := ev_of (show a.eval (.tmp 64) = .bool true from p0)
                  clear hout p0
                  go_step
                  exact hK _ _ rfl hG (Below.refl _ _)
                · intro _ k a w' hG hout hpre K hK
                  have q6 := ev_of ((hout 6 rfl).trans (show _ = .int .i64 t from rfl))
                  clear hout hpre
                  go_step
                  exact hK _ _ rfl hG (Below.refl _ _)
                · intro _ k a w' hG hout hpre K hK
                  have q3 := ev_of ((hout 3 rfl).trans (show _ = .pointer (some ⟨ab, 0, none⟩) from rfl))
                  clear hout hpre
                  go_step
                  exact hK _ _ rfl hG (Below.refl _ _)
                · intro _ k a w' hG hout hpre K hK
                  obtain ⟨p0, _⟩ := hpre
                  have q67 := ev_of (show a.eval (.tmp 67) = .pointer (some ⟨ab, 1, none⟩) from p0)
                  obtain ⟨d0, d1, d2⟩ := (HD.out w' hG).1
                  clear hout p0
                  go_step
                  exact hK _ _ rfl hG (Below.refl _ _)
                · intro _ k a w' hG hout hpre K hK
                  obtain ⟨p0, p1, _⟩ := hpre
                  have q66 := ev_of (show a.eval (.tmp 66) = .int .i64 t from p0)
                  have q68 := ev_of (show a.eval (.tmp 68) = .int .i64 al from p1)
                  have hd := HC1.out
                  clear hout p0 p1
                  go_step
                  exact hK _ _ rfl hG (Below.refl _ _)
                · intro _ k a w' hG hout hpre K hK
                  obtain ⟨p0, p1, _⟩ := hpre
                  have q65 := ev_of (show a.eval (.tmp 65) = .bool true from p0)
                  have q69 := ev_of (show a.eval (.tmp 69) = .bool true from p1)
                  clear hout p0 p1
                  go_step
                  exact hK _ _ rfl hG (Below.refl _ _)
                · intro _ k a w' hG hout hpre K hK
                  obtain ⟨p0, _⟩ := hpre
                  have q70 := ev_of (show a.eval (.tmp 70) = .bool true from p0)
                  clear hout p0
                  go_step
                  exact hK _ _ rfl hG (Below.refl _ _)
                · intro _ k a w' hG hout hpre K hK
                  have q6 := ev_of ((hout 6 rfl).trans (show _ = .int .i64 t from rfl))
                  clear hout hpre
                  go_step
                  exact hK _ _ rfl hG (Below.refl _ _)
                · intro _ k a w' hG hout hpre K hK
                  have q3 := ev_of ((hout 3 rfl).trans (show _ = .pointer (some ⟨ab, 0, none⟩) from rfl))
                  clear hout hpre
                  go_step
                  exact hK _ _ rfl hG (Below.refl _ _)
                · intro _ k a w' hG hout hpre K hK
                  obtain ⟨p0, _⟩ := hpre
                  have q73 := ev_of (show a.eval (.tmp 73) = .pointer (some ⟨ab, 2, none⟩) from p0)
                  obtain ⟨d0, d1, d2⟩ := (HD.out w' hG).1
                  clear hout p0
                  go_step
                  exact hK _ _ rfl hG (Below.refl _ _)
                · intro _ k a w' hG hout hpre K hK
                  obtain ⟨p0, p1, _⟩ := hpre
                  have q72 := ev_of (show a.eval (.tmp 72) = .int .i64 t from p0)
                  have q74 := ev_of (show a.eval (.tmp 74) = .int .i64 ah from p1)
                  have hd := HC2.out
                  clear hout p0 p1
                  go_step
                  exact hK _ _ rfl hG (Below.refl _ _)
                · intro _ k a w' hG hout hpre K hK
                  obtain ⟨p0, p1, _⟩ := hpre
                  have q71 := ev_of (show a.eval (.tmp 71) = .bool true from p0)
                  have q75 := ev_of (show a.eval (.tmp 75) = .bool hs from p1)
                  clear hout p0 p1
                  go_step
                  exact hK _ _ rfl hG (Below.refl _ _)
                · intro _ k a w' hG hout hpre K hK
                  obtain ⟨p0, p1, _⟩ := hpre
                  have q63 := ev_of (show a.eval (.tmp 63) = .bool hs from p0)
                  have q76 := ev_of (show a.eval (.tmp 76) = .bool hs from p1)
                  have he : (hs == hs) = true := by simp
                  clear hout p0 p1
                  go_step
                  exact hK _ _ rfl hG (Below.refl _ _)
                · intro _ k a w' hG hout hpre K hK
                  obtain ⟨p0, p1, _⟩ := hpre
                  have q60 := ev_of (show a.eval (.tmp 60) = .bool true from p0)
                  have q77 := ev_of (show a.eval (.tmp 77) = .bool true from p1)
                  clear hout p0 p1
                  go_step
                  exact hK _ _ rfl hG (Below.refl _ _)
                · intro _ k a w' hG hout hpre K hK
                  obtain ⟨p0, _⟩ := hpre
                  have q78 := ev_of (show a.eval (.tmp 78) = .bool true from p0)
                  clear hout p0
                  go_step
                  exact hK _ _ rfl hG (Below.refl _ _)
                · intro _ k a w' hG hout hpre K hK
                  have q3 := ev_of ((hout 3 rfl).trans (show _ = .pointer (some ⟨ab, 0, none⟩) from rfl))
                  obtain ⟨d0, d1, d2⟩ := (HD.out w' hG).1
                  clear hout hpre
                  go_step
                  exact hK _ _ HV.out.1.symm hG (Below.refl _ _)
                · intro _ k a w' hG hout hpre K hK
                  have q6 := ev_of ((hout 6 rfl).trans (show _ = .int .i64 t from rfl))
                  clear hout hpre
                  go_step
                  exact hK _ _ rfl hG (Below.refl _ _)
                · intro _ k a w' hG hout hpre K hK
                  obtain ⟨p0, p1, _⟩ := hpre
                  have q80 := ev_of (show a.eval (.tmp 80) = VA from p0)
                  have q81 := ev_of (show a.eval (.tmp 81) = .int .i64 t from p1)
                  have HS := Lib.hid (HCl.out.2.2.2.2.2.2.2.1 w')
                  clear hout p0 p1
                  go_step
                  refine HS.out.mono ?_
                  rintro e w3 ⟨rfl, hB⟩
                  exact hK _ _ rfl (hG.trans (hB.mono hG.size)) hB
                · intro _ k a w' hG hout hpre K hK
                  have q7 := ev_of ((hout 7 rfl).trans (show _ = .bool true from rfl))
                  clear hout hpre
                  go_step
                  exact hK _ _ rfl hG (Below.refl _ _)
                · intro _ k a w' hG hout hpre K hK
                  obtain ⟨p0, _⟩ := hpre
                  have q83 := ev_of (show a.eval (.tmp 83) = .bool true from p0)
                  clear hout p0
                  go_step
                  exact hK _ _ rfl hG (Below.refl _ _)
                · intro _ k a w' hG hout hpre K hK
                  have q3 := ev_of ((hout 3 rfl).trans (show _ = .pointer (some ⟨ab, 0, none⟩) from rfl))
                  clear hout hpre
                  go_step
                  exact hK _ _ rfl hG (Below.refl _ _)
                · intro _ k a w' hG hout hpre K hK
                  obtain ⟨p0, _⟩ := hpre
                  have q85 := ev_of (show a.eval (.tmp 85) = .pointer (some ⟨ab, 2, none⟩) from p0)
                  obtain ⟨d0, d1, d2⟩ := (HD.out w' hG).1
                  clear hout p0
                  go_step
                  exact hK _ _ rfl hG (Below.refl _ _)
                · intro _ k a w' hG hout hpre K hK
                  have q6 := ev_of ((hout 6 rfl).trans (show _ = .int .i64 t from rfl))
                  clear hout hpre
                  go_step
                  exact hK _ _ rfl hG (Below.refl _ _)
                · intro _ k a w' hG hout hpre K hK
                  obtain ⟨p0, p1, _⟩ := hpre
                  have q86 := ev_of (show a.eval (.tmp 86) = .int .i64 ah from p0)
                  have q87 := ev_of (show a.eval (.tmp 87) = .int .i64 t from p1)
                  have hd := HRp.out
                  clear hout p0 p1
                  go_step
                  exact hK _ _ rfl hG (Below.refl _ _)
                · intro _ k a w' hG hout hpre K hK
                  obtain ⟨p0, p1, _⟩ := hpre
                  have q84 := ev_of (show a.eval (.tmp 84) = .bool true from p0)
                  have q88 := ev_of (show a.eval (.tmp 88) = .bool rp from p1)
                  clear hout p0 p1
                  go_step
                  exact hK _ _ rfl hG (Below.refl _ _)
                · intro _ k a w' hG hout hpre K hK
                  obtain ⟨p0, p1, _⟩ := hpre
                  have q82 := ev_of (show a.eval (.tmp 82) = .bool rp from p0)
                  have q89 := ev_of (show a.eval (.tmp 89) = .bool rp from p1)
                  have he : (rp == rp) = true := by simp
                  clear hout p0 p1
                  go_step
                  exact hK _ _ rfl hG (Below.refl _ _)
                · intro _ k a w' hG hout hpre K hK
                  obtain ⟨p0, p1, _⟩ := hpre
                  have q79 := ev_of (show a.eval (.tmp 79) = .bool true from p0)
                  have q90 := ev_of (show a.eval (.tmp 90) = .bool true from p1)
                  clear hout p0 p1
                  go_step
                  exact hK _ _ rfl hG (Below.refl _ _)
                · intro _ k a w' hG hout hpre K hK
                  obtain ⟨p0, _⟩ := hpre
                  have q91 := ev_of (show a.eval (.tmp 91) = .bool true from p0)
                  clear hout p0
                  go_step
                  exact hK _ _ rfl hG (Below.refl _ _)
                · intro _ k a w' hG hout hpre K hK
                  have q5 := ev_of ((hout 5 rfl).trans (show _ = .pointer (some ⟨qb, 0, none⟩) from rfl))
                  obtain ⟨d0, d1, d2, d3, d4, d5⟩ := (HD.out w' hG).2.2
                  clear hout hpre
                  go_step
                  exact hK _ _ HV.out.2.2.symm hG (Below.refl _ _)
                · intro _ k a w' hG hout hpre K hK
                  have q3 := ev_of ((hout 3 rfl).trans (show _ = .pointer (some ⟨ab, 0, none⟩) from rfl))
                  obtain ⟨d0, d1, d2⟩ := (HD.out w' hG).1
                  clear hout hpre
                  go_step
                  exact hK _ _ HV.out.1.symm hG (Below.refl _ _)
                · intro _ k a w' hG hout hpre K hK
                  have q6 := ev_of ((hout 6 rfl).trans (show _ = .int .i64 t from rfl))
                  clear hout hpre
                  go_step
                  exact hK _ _ rfl hG (Below.refl _ _)
                · intro _ k a w' hG hout hpre K hK
                  obtain ⟨p0, p1, p2, _⟩ := hpre
                  have q93 := ev_of (show a.eval (.tmp 93) = VQ from p0)
                  have q94 := ev_of (show a.eval (.tmp 94) = VA from p1)
                  have q95 := ev_of (show a.eval (.tmp 95) = .int .i64 t from p2)
                  have HS := Lib.hid (HCl.out.2.2.2.2.2.2.2.2.1 w')
                  clear hout p0 p1 p2
                  go_step
                  refine HS.out.mono ?_
                  rintro e w3 ⟨rfl, hB⟩
                  exact hK _ _ rfl (hG.trans (hB.mono hG.size)) hB
                · intro _ k a w' hG hout hpre K hK
                  have q7 := ev_of ((hout 7 rfl).trans (show _ = .bool true from rfl))
                  clear hout hpre
                  go_step
                  exact hK _ _ rfl hG (Below.refl _ _)
                · intro _ k a w' hG hout hpre K hK
                  obtain ⟨p0, _⟩ := hpre
                  have q97 := ev_of (show a.eval (.tmp 97) = .bool true from p0)
                  clear hout p0
                  go_step
                  exact hK _ _ rfl hG (Below.refl _ _)
                · intro _ k a w' hG hout hpre K hK
                  have q5 := ev_of ((hout 5 rfl).trans (show _ = .pointer (some ⟨qb, 0, none⟩) from rfl))
                  obtain ⟨d0, d1, d2, d3, d4, d5⟩ := (HD.out w' hG).2.2
                  clear hout hpre
                  go_step
                  exact hK _ _ HV.out.2.2.symm hG (Below.refl _ _)
                · intro _ k a w' hG hout hpre K hK
                  obtain ⟨p0, _⟩ := hpre
                  have q99 := ev_of (show a.eval (.tmp 99) = VQ from p0)
                  have HS := Lib.hid (HCl.out.2.2.2.2.2.2.2.2.2.1 w')
                  clear hout p0
                  go_step
                  refine HS.out.mono ?_
                  rintro e w3 ⟨rfl, hB⟩
                  exact hK _ _ rfl (hG.trans (hB.mono hG.size)) hB
                · intro _ k a w' hG hout hpre K hK
                  obtain ⟨p0, p1, _⟩ := hpre
                  have q98 := ev_of (show a.eval (.tmp 98) = .bool true from p0)
                  have q100 := ev_of (show a.eval (.tmp 100) = .bool true from p1)
                  clear hout p0 p1
                  go_step
                  exact hK _ _ rfl hG (Below.refl _ _)
                · intro _ k a w' hG hout hpre K hK
                  obtain ⟨p0, _⟩ := hpre
                  have q101 := ev_of (show a.eval (.tmp 101) = .bool true from p0)
                  clear hout p0
                  go_step
                  exact hK _ _ rfl hG (Below.refl _ _)
                · intro _ k a w' hG hout hpre K hK
                  have q5 := ev_of ((hout 5 rfl).trans (show _ = .pointer (some ⟨qb, 0, none⟩) from rfl))
                  obtain ⟨d0, d1, d2, d3, d4, d5⟩ := (HD.out w' hG).2.2
                  clear hout hpre
                  go_step
                  exact hK _ _ HV.out.2.2.symm hG (Below.refl _ _)
                · intro _ k a w' hG hout hpre K hK
                  have q3 := ev_of ((hout 3 rfl).trans (show _ = .pointer (some ⟨ab, 0, none⟩) from rfl))
                  obtain ⟨d0, d1, d2⟩ := (HD.out w' hG).1
                  clear hout hpre
                  go_step
                  exact hK _ _ HV.out.1.symm hG (Below.refl _ _)
                · intro _ k a w' hG hout hpre K hK
                  have q6 := ev_of ((hout 6 rfl).trans (show _ = .int .i64 t from rfl))
                  clear hout hpre
                  go_step
                  exact hK _ _ rfl hG (Below.refl _ _)
                · intro _ k a w' hG hout hpre K hK
                  obtain ⟨p0, p1, p2, _⟩ := hpre
                  have q103 := ev_of (show a.eval (.tmp 103) = VQ from p0)
                  have q104 := ev_of (show a.eval (.tmp 104) = VA from p1)
                  have q105 := ev_of (show a.eval (.tmp 105) = .int .i64 t from p2)
                  have HS := Lib.hid (HCl.out.2.2.2.2.2.2.2.2.2.2 w')
                  clear hout p0 p1 p2
                  go_step
                  refine HS.out.mono ?_
                  rintro e w3 ⟨rfl, hB⟩
                  exact hK _ _ rfl (hG.trans (hB.mono hG.size)) hB
                · intro _ k a w' hG hout hpre K hK
                  obtain ⟨p0, p1, _⟩ := hpre
                  have q102 := ev_of (show a.eval (.tmp 102) = .bool true from p0)
                  have q106 := ev_of (show a.eval (.tmp 106) = .bool gn from p1)
                  clear hout p0 p1
                  go_step
                  exact hK _ _ rfl hG (Below.refl _ _)
                · intro _ k a w' hG hout hpre K hK
                  obtain ⟨p0, p1, _⟩ := hpre
                  have q96 := ev_of (show a.eval (.tmp 96) = .bool gn from p0)
                  have q107 := ev_of (show a.eval (.tmp 107) = .bool gn from p1)
                  have he : (gn == gn) = true := by simp
                  clear hout p0 p1
                  go_step
                  exact hK _ _ rfl hG (Below.refl _ _)
                · intro _ k a w' hG hout hpre K hK
                  obtain ⟨p0, p1, _⟩ := hpre
                  have q92 := ev_of (show a.eval (.tmp 92) = .bool true from p0)
                  have q108 := ev_of (show a.eval (.tmp 108) = .bool true from p1)
                  clear hout p0 p1
                  go_step
                  exact hK _ _ rfl hG (Below.refl _ _)
                · intro _ k a w' hG hout hpre K hK
                  obtain ⟨p0, _⟩ := hpre
                  have q109 := ev_of (show a.eval (.tmp 109) = .bool true from p0)
                  clear hout p0
                  go_step
                  exact hK _ _ rfl hG (Below.refl _ _)
              · intro vs w2 hG hlen hV
                match vs, hlen, hV with
                | v0 :: v1 :: v2 :: v3 :: v4 :: v5 :: v6 :: v7 :: v8 :: v9 :: v10 :: v11 :: v12 :: v13 :: v14 :: v15 :: v16 :: v17 :: v18 :: v19 :: v20 :: v21 :: v22 :: v23 :: v24 :: v25 :: v26 :: v27 :: v28 :: v29 :: v30 :: v31 :: v32 :: v33 :: v34 :: v35 :: v36 :: v37 :: v38 :: v39 :: v40 :: v41 :: v42 :: v43 :: v44 :: v45 :: v46 :: v47 :: v48 :: v49 :: v50 :: v51 :: v52 :: v53 :: v54 :: v55 :: v56 :: v57 :: v58 :: v59 :: v60 :: v61 :: v62 :: v63 :: v64 :: v65 :: v66 :: v67 :: v68 :: v69 :: v70 :: v71 :: v72 :: v73 :: v74 :: v75 :: v76 :: v77 :: v78 :: [], _, hV =>
                  obtain rfl : v78 = .bool true := (hV 78 2 v78 rfl rfl)
                  clear hV
                  simp only [putsL, List.append_eq, List.cons_append, List.nil_append, List.tail_cons, List.headD_cons]
                  simp only [Act.put, List.setIfInBounds_toArray, List.set_cons_succ, List.set_cons_zero]
                  have HZ : Hid (Below w.heap.size w w2) := HWc.out.trans (hG.mono HWc.out.size)
                  clear hG
                  go_wp2_with (fail)
                  go_ret
                  exact ⟨rfl, HZ.out⟩
          · have HN1 := Lib.hid hc1
            clear hc1
            cases qr with
            | false =>
              obtain ⟨rp, hrp⟩ : ∃ b, b = decide (ah ≤ t) := ⟨_, rfl⟩
              have HRp : Hid (decide (ah ≤ t) = rp) := Lib.hid hrp.symm
              clear hrp
              have HC1 : Hid (decide (al ≤ t) = false) := Lib.hid (decide_eq_false HN1.out)
              have HCl : Hid ((∀ w', Calls Tryd.prog 17 #[VA] w' (Below0 w' (.bool true))) ∧ (∀ w', Below wc.heap.size wc w' → Calls Tryd.prog 18 #[VA] w' (Below0 w' (Sv tt))) ∧ (∀ w', Calls Tryd.prog 19 #[VA, VB] w' (Below0 w' (.int .i64 cc))) ∧ (∀ w', Calls Tryd.prog 20 #[VA, VB] w' (Below0 w' (.int .i64 cc))) ∧
                (∀ w', Calls Tryd.prog 21 #[VA, VB] w' (Below0 w' (.int .i64 pp))) ∧ (∀ w', Calls Tryd.prog 22 #[VA, VB] w' (Below0 w' (.int .i64 pp))) ∧ (∀ w', Calls Tryd.prog 23 #[VA, .int .i64 t] w' (Below0 w' (.bool false))) ∧ (∀ w', Calls Tryd.prog 12 #[VA, .int .i64 t] w' (Below0 w' (.bool rp))) ∧
                (∀ w', Calls Tryd.prog 13 #[VQ, VA, .int .i64 t] w' (Below0 w' (.bool false))) ∧ (∀ w', Calls Tryd.prog 24 #[VQ] w' (Below0 w' (.bool false))) ∧ True) := by
                rw [HV.out.1, HV.out.2.1, HV.out.2.2]
                refine Lib.hid ⟨?_, HTx.out, fun w' => HCc.out.1 w', fun w' => HCc.out.2.1 w', fun w' => HCc.out.2.2.1 w', fun w' => HCc.out.2.2.2 w', ?_, ?_, ?_, ?_, ?_⟩
                · intro w'
                  have h := wright_any w' ⟨ak, al, ah⟩ HK.out
                  rw [← HRr.out] at h
                  exact h
                · intro w'
                  have h := whas_any w' ⟨ak, al, ah⟩ t HK.out
                  rw [hasW, ← HRr.out] at h
                  simp only at h
                  rw [Bool.true_and, decide_eq_false (fun hh => HN1.out hh.1)] at h
                  exact h
                · intro w'
                  have h := wripe_any w' ⟨ak, al, ah⟩ t HK.out
                  rw [ripeW, ← HRr.out] at h
                  simp only at h
                  rw [Bool.true_and, HRp.out] at h
                  exact h
                · intro w'
                  have h := wgone_any w' ⟨kind, size, slide, late, agg, tk⟩ ⟨ak, al, ah⟩ t HK.out
                  rw [goneW, ← HRr.out, ← HQr.out] at h
                  simp only at h
                  rw [Bool.false_and, Bool.false_and] at h
                  exact h
                · intro w'
                  have h := rqRight_any w' ⟨kind, size, slide, late, agg, tk⟩
                  rw [← HQr.out] at h
                  exact h
                · trivial
              refine wp_region_skip_frame (fun i => ([40, 41, 42, 43, 71, 72, 73, 74] : List Nat).contains i) (by kernel_rfl) [none, none, none, none, none, none, none, none, none, none, none, none, none, none, none, none, none, none, none, none, none, none, none, none, none, none, none, none, none, none, none, none, none, none, none, none, none, none, none, none, none, none, none, none, none, none, none, none, none, none, none, none, none, none, none, none, none, none, none, none, none, none, none, none, none, none, none, none, none, none, none, none, none, none, none, none, none, none, none] [] (fun i_ _ _ v_ => v_ = ((VA :: (Value.bool true) :: (Value.bool true) :: (Value.bool true) :: (Value.bool true) :: VA :: Sv tt :: Sv tt :: (Value.bool true) :: (Value.bool true) :: (Value.bool true) :: VA :: VB :: (Value.int .i64 cc) :: VA :: VB :: (Value.int .i64 cc) :: (Value.bool true) :: (Value.bool true) :: (Value.bool true) :: VA :: VB :: (Value.int .i64 pp) :: VA :: VB :: (Value.int .i64 pp) :: (Value.bool true) :: (Value.bool true) :: (Value.bool true) :: VA :: (Value.int .i64 t) :: (Value.bool false) :: (Value.bool true) :: (Value.bool true) :: (Value.int .i64 t) :: (Value.pointer (some ⟨ab, 1, none⟩)) :: (Value.int .i64 al) :: (Value.bool false) :: (Value.bool false) :: (Value.bool false) :: undef :: undef :: undef :: undef :: (Value.bool false) :: (Value.bool true) :: (Value.bool true) :: (Value.bool true) :: VA :: (Value.int .i64 t) :: (Value.bool rp) :: (Value.bool true) :: (Value.bool true) :: (Value.pointer (some ⟨ab, 2, none⟩)) :: (Value.int .i64 ah) :: (Value.int .i64 t) :: (Value.bool rp) :: (Value.bool rp) :: (Value.bool true) :: (Value.bool true) :: (Value.bool true) :: VQ :: VA :: (Value.int .i64 t) :: (Value.bool false) :: (Value.bool true) :: (Value.bool true) :: VQ :: (Value.bool false) :: (Value.bool false) :: (Value.bool false) :: undef :: undef :: undef :: undef :: (Value.bool false) :: (Value.bool true) :: (Value.bool true) :: (Value.bool true) :: ([] : List Value))).getD i_ undef) (fun _ w' => Below wc.heap.size wc w') (fun w w' => Below w.heap.size w w') (fun _ _ _ _ _ _ h => h) (by kernel_rfl) (by kernel_rfl) (by kernel_rfl) HG0.out (fun _ => ⟨rfl, rfl, rfl, rfl, rfl, fun _ _ h => h, fun _ _ h => h, fun _ _ h => h, fun _ _ h => h, rfl, rfl, fun _ _ h => h, fun _ _ h => h, fun _ _ h => h, fun _ _ h => h, fun _ _ h => h, fun _ _ h => h, fun _ _ h => h, rfl, rfl, fun _ _ h => h, fun _ _ h => h, fun _ _ h => h, fun _ _ h => h, fun _ _ h => h, fun _ _ h => h, fun _ _ h => h, rfl, rfl, fun _ _ h => h, fun _ _ h => h, fun _ _ h => h, fun _ _ h => h, fun _ _ h => h, fun _ _ h => h, fun _ _ h => h, fun _ _ h => h, fun _ _ h => h, fun _ _ h => h, fun _ _ h => h, fun _ _ h => h, fun _ _ h => h, fun _ _ h => h, fun _ _ h => h, fun _ _ h => h, fun _ _ h => h, rfl, rfl, fun _ _ h => h, fun _ _ h => h, fun _ _ h => h, fun _ _ h => h, fun _ _ h => h, fun _ _ h => h, fun _ _ h => h, fun _ _ h => h, fun _ _ h => h, fun _ _ h => h, fun _ _ h => h, rfl, rfl, fun _ _ h => h, fun _ _ h => h, fun _ _ h => h, fun _ _ h => h, fun _ _ h => h, fun _ _ h => h, fun _ _ h => h, fun _ _ h => h, fun _ _ h => h, fun _ _ h => h, fun _ _ h => h, fun _ _ h => h, fun _ _ h => h, fun _ _ h => h, fun _ _ h => h, fun _ _ h => h, rfl, rfl, trivial⟩) (fun i hi => by have hm := List.contains_iff_mem.1 hi; simp only [List.mem_cons, List.not_mem_nil, or_false] at hm; rcases hm with rfl | rfl | rfl | rfl | rfl | rfl | rfl | rfl <;> exact ⟨rfl, fun _ _ => rfl⟩) ?_ ?_
              · refine ⟨?_, ?_, ?_, ?_, ?_, ?_, ?_, ?_, ?_, ?_, ?_, ?_, ?_, ?_, ?_, ?_, ?_, ?_, ?_, ?_, ?_, ?_, ?_, ?_, ?_, ?_, ?_, ?_, ?_, ?_, ?_, ?_, ?_, ?_, ?_, ?_, ?_, ?_, ?_, ?_, ?_, ?_, ?_, ?_, ?_, ?_, ?_, ?_, ?_, ?_, ?_, ?_, ?_, ?_, ?_, ?_, ?_, ?_, ?_, ?_, ?_, ?_, ?_, ?_, ?_, ?_, ?_, ?_, ?_, ?_, ?_, ?_, ?_, ?_, ?_, ?_, ?_, ?_, ?_, trivial⟩
                · intro _ k a w' hG hout hpre K hK
                  have q3 := ev_of ((hout 3 rfl).trans (show _ = .pointer (some ⟨ab, 0, none⟩) from rfl))
                  obtain ⟨d0, d1, d2⟩ := (HD.out w' hG).1
                  clear hout hpre
                  go_step
                  exact hK _ _ HV.out.1.symm hG (Below.refl _ _)
                · intro _ k a w' hG hout hpre K hK
                  obtain ⟨p0, _⟩ := hpre
                  have q32 := ev_of (show a.eval (.tmp 32) = VA from p0)
                  have HS := Lib.hid (HCl.out.1 w')
                  clear hout p0
                  go_step
                  refine HS.out.mono ?_
                  rintro e w3 ⟨rfl, hB⟩
                  exact hK _ _ rfl (hG.trans (hB.mono hG.size)) hB
                · intro _ k a w' hG hout hpre K hK
                  have q7 := ev_of ((hout 7 rfl).trans (show _ = .bool true from rfl))
                  clear hout hpre
                  go_step
                  exact hK _ _ rfl hG (Below.refl _ _)
                · intro _ k a w' hG hout hpre K hK
                  obtain ⟨p0, p1, _⟩ := hpre
                  have q33 := ev_of (show a.eval (.tmp 33) = .bool true from p0)
                  have q34 := ev_of (show a.eval (.tmp 34) = .bool true from p1)
                  clear hout p0 p1
                  go_step
                  exact hK _ _ rfl hG (Below.refl _ _)
                · intro _ k a w' hG hout hpre K hK
                  obtain ⟨p0, _⟩ := hpre
                  have q35 := ev_of (show a.eval (.tmp 35) = .bool true from p0)
                  clear hout p0
                  go_step
                  exact hK _ _ rfl hG (Below.refl _ _)
                · intro _ k a w' hG hout hpre K hK
                  have q3 := ev_of ((hout 3 rfl).trans (show _ = .pointer (some ⟨ab, 0, none⟩) from rfl))
                  obtain ⟨d0, d1, d2⟩ := (HD.out w' hG).1
                  clear hout hpre
                  go_step
                  exact hK _ _ HV.out.1.symm hG (Below.refl _ _)
                · intro _ k a w' hG hout hpre K hK
                  obtain ⟨p0, _⟩ := hpre
                  have q37 := ev_of (show a.eval (.tmp 37) = VA from p0)
                  have HS := Lib.hid (HCl.out.2.1 w' hG)
                  clear hout p0
                  go_step
                  refine HS.out.mono ?_
                  rintro e w3 ⟨rfl, hB⟩
                  exact hK _ _ rfl (hG.trans (hB.mono hG.size)) hB
                · intro _ k a w' hG hout hpre K hK
                  have q8 := ev_of ((hout 8 rfl).trans (show _ = Sv tt from rfl))
                  clear hout hpre
                  go_step
                  exact hK _ _ rfl hG (Below.refl _ _)
                · intro _ k a w' hG hout hpre K hK
                  obtain ⟨p0, p1, _⟩ := hpre
                  have q38 := ev_of (show a.eval (.tmp 38) = Sv tt from p0)
                  have q39 := ev_of (show a.eval (.tmp 39) = Sv tt from p1)
                  have he := HTT.out
                  clear hout p0 p1
                  go_step
                  exact hK _ _ rfl hG (Below.refl _ _)
                · intro _ k a w' hG hout hpre K hK
                  obtain ⟨p0, p1, _⟩ := hpre
                  have q36 := ev_of (show a.eval (.tmp 36) = .bool true from p0)
                  have q40 := ev_of (show a.eval (.tmp 40) = .bool true from p1)
                  clear hout p0 p1
                  go_step
                  exact hK _ _ rfl hG (Below.refl _ _)
                · intro _ k a w' hG hout hpre K hK
                  obtain ⟨p0, _⟩ := hpre
                  have q41 := ev_of (show a.eval (.tmp 41) = .bool true from p0)
                  clear hout p0
                  go_step
                  exact hK _ _ rfl hG (Below.refl _ _)
                · intro _ k a w' hG hout hpre K hK
                  have q3 := ev_of ((hout 3 rfl).trans (show _ = .pointer (some ⟨ab, 0, none⟩) from rfl))
                  obtain ⟨d0, d1, d2⟩ := (HD.out w' hG).1
                  clear hout hpre
                  go_step
                  exact hK _ _ HV.out.1.symm hG (Below.refl _ _)
                · intro _ k a w' hG hout hpre K hK
                  have q4 := ev_of ((hout 4 rfl).trans (show _ = .pointer (some ⟨bb, 0, none⟩) from rfl))
                  obtain ⟨d0, d1, d2⟩ := (HD.out w' hG).2.1
                  clear hout hpre
                  go_step
                  exact hK _ _ HV.out.2.1.symm hG (Below.refl _ _)
                · intro _ k a w' hG hout hpre K hK
                  obtain ⟨p0, p1, _⟩ := hpre
                  have q43 := ev_of (show a.eval (.tmp 43) = VA from p0)
                  have q44 := ev_of (show a.eval (.tmp 44) = VB from p1)
                  have HS := Lib.hid (HCl.out.2.2.1 w')
                  clear hout p0 p1
                  go_step
                  refine HS.out.mono ?_
                  rintro e w3 ⟨rfl, hB⟩
                  exact hK _ _ rfl (hG.trans (hB.mono hG.size)) hB
                · intro _ k a w' hG hout hpre K hK
                  have q3 := ev_of ((hout 3 rfl).trans (show _ = .pointer (some ⟨ab, 0, none⟩) from rfl))
                  obtain ⟨d0, d1, d2⟩ := (HD.out w' hG).1
                  clear hout hpre
                  go_step
                  exact hK _ _ HV.out.1.symm hG (Below.refl _ _)
                · intro _ k a w' hG hout hpre K hK
                  have q4 := ev_of ((hout 4 rfl).trans (show _ = .pointer (some ⟨bb, 0, none⟩) from rfl))
                  obtain ⟨d0, d1, d2⟩ := (HD.out w' hG).2.1
                  clear hout hpre
                  go_step
                  exact hK _ _ HV.out.2.1.symm hG (Below.refl _ _)
                · intro _ k a w' hG hout hpre K hK
                  obtain ⟨p0, p1, _⟩ := hpre
                  have q46 := ev_of (show a.eval (.tmp 46) = VA from p0)
                  have q47 := ev_of (show a.eval (.tmp 47) = VB from p1)
                  have HS := Lib.hid (HCl.out.2.2.2.1 w')
                  clear hout p0 p1
                  go_step
                  refine HS.out.mono ?_
                  rintro e w3 ⟨rfl, hB⟩
                  exact hK _ _ rfl (hG.trans (hB.mono hG.size)) hB
                · intro _ k a w' hG hout hpre K hK
                  obtain ⟨p0, p1, _⟩ := hpre
                  have q45 := ev_of (show a.eval (.tmp 45) = .int .i64 cc from p0)
                  have q48 := ev_of (show a.eval (.tmp 48) = .int .i64 cc from p1)
                  have he : (cc == cc) = true := by simp
                  clear hout p0 p1
                  go_step
                  exact hK _ _ rfl hG (Below.refl _ _)
                · intro _ k a w' hG hout hpre K hK
                  obtain ⟨p0, p1, _⟩ := hpre
                  have q42 := ev_of (show a.eval (.tmp 42) = .bool true from p0)
                  have q49 := ev_of (show a.eval (.tmp 49) = .bool true from p1)
                  clear hout p0 p1
                  go_step
                  exact hK _ _ rfl hG (Below.refl _ _)
                · intro _ k a w' hG hout hpre K hK
                  obtain ⟨p0, _⟩ := hpre
                  have q50 := ev_of (show a.eval (.tmp 50) = .bool true from p0)
                  clear hout p0
                  go_step
                  exact hK _ _ rfl hG (Below.refl _ _)
                · intro _ k a w' hG hout hpre K hK
                  have q3 := ev_of ((hout 3 rfl).trans (show _ = .pointer (some ⟨ab, 0, none⟩) from rfl))
                  obtain ⟨d0, d1, d2⟩ := (HD.out w' hG).1
                  clear hout hpre
                  go_step
                  exact hK _ _ HV.out.1.symm hG (Below.refl _ _)
                · intro _ k a w' hG hout hpre K hK
                  have q4 := ev_of ((hout 4 rfl).trans (show _ = .pointer (some ⟨bb, 0, none⟩) from rfl))
                  obtain ⟨d0, d1, d2⟩ := (HD.out w' hG).2.1
                  clear hout hpre
                  go_step
                  exact hK _ _ HV.out.2.1.symm hG (Below.refl _ _)
                · intro _ k a w' hG hout hpre K hK
                  obtain ⟨p0, p1, _⟩ := hpre
                  have q52 := ev_of (show a.eval (.tmp 52) = VA from p0)
                  have q53 := ev_of (show a.eval (.tmp 53) = VB from p1)
                  have HS := Lib.hid (HCl.out.2.2.2.2.1 w')
                  clear hout p0 p1
                  go_step
                  refine HS.out.mono ?_
                  rintro e w3 ⟨rfl, hB⟩
                  exact hK _ _ rfl (hG.trans (hB.mono hG.size)) hB
                · intro _ k a w' hG hout hpre K hK
                  have q3 := ev_of ((hout 3 rfl).trans (show _ = .pointer (some ⟨ab, 0, none⟩) from rfl))
                  obtain ⟨d0, d1, d2⟩ := (HD.out w' hG).1
                  clear hout hpre
                  go_step
                  exact hK _ _ HV.out.1.symm hG (Below.refl _ _)
                · intro _ k a w' hG hout hpre K hK
                  have q4 := ev_of ((hout 4 rfl).trans (show _ = .pointer (some ⟨bb, 0, none⟩) from rfl))
                  obtain ⟨d0, d1, d2⟩ := (HD.out w' hG).2.1
                  clear hout hpre
                  go_step
                  exact hK _ _ HV.out.2.1.symm hG (Below.refl _ _)
                · intro _ k a w' hG hout hpre K hK
                  obtain ⟨p0, p1, _⟩ := hpre
                  have q55 := ev_of (show a.eval (.tmp 55) = VA from p0)
                  have q56 := ev_of (show a.eval (.tmp 56) = VB from p1)
                  have HS := Lib.hid (HCl.out.2.2.2.2.2.1 w')
                  clear hout p0 p1
                  go_step
                  refine HS.out.mono ?_
                  rintro e w3 ⟨rfl, hB⟩
                  exact hK _ _ rfl (hG.trans (hB.mono hG.size)) hB
                · intro _ k a w' hG hout hpre K hK
                  obtain ⟨p0, p1, _⟩ := hpre
                  have q54 := ev_of (show a.eval (.tmp 54) = .int .i64 pp from p0)
                  have q57 := ev_of (show a.eval (.tmp 57) = .int .i64 pp from p1)
                  have he : (pp == pp) = true := by simp
                  clear hout p0 p1
                  go_step
                  exact hK _ _ rfl hG (Below.refl _ _)
                · intro _ k a w' hG hout hpre K hK
                  obtain ⟨p0, p1, _⟩ := hpre
                  have q51 := ev_of (show a.eval (.tmp 51) = .bool true from p0)
                  have q58 := ev_of (show a.eval (.tmp 58) = .bool true from p1)
                  clear hout p0 p1
                  go_step
                  exact hK _ _ rfl hG (Below.refl _ _)
                · intro _ k a w' hG hout hpre K hK
                  obtain ⟨p0, _⟩ := hpre
                  have q59 := ev_of (show a.eval (.tmp 59) = .bool true from p0)
                  clear hout p0
                  go_step
                  exact hK _ _ rfl hG (Below.refl _ _)
                · intro _ k a w' hG hout hpre K hK
                  have q3 := ev_of ((hout 3 rfl).trans (show _ = .pointer (some ⟨ab, 0, none⟩) from rfl))
                  obtain ⟨d0, d1, d2⟩ := (HD.out w' hG).1
                  clear hout hpre
                  go_step
                  exact hK _ _ HV.out.1.symm hG (Below.refl _ _)
                · intro _ k a w' hG hout hpre K hK
                  have q6 := ev_of ((hout 6 rfl).trans (show _ = .int .i64 t from rfl))
                  clear hout hpre
                  go_step
                  exact hK _ _ rfl hG (Below.refl _ _)
                · intro _ k a w' hG hout hpre K hK
                  obtain ⟨p0, p1, _⟩ := hpre
                  have q61 := ev_of (show a.eval (.tmp 61) = VA from p0)
                  have q62 := ev_of (show a.eval (.tmp 62) = .int .i64 t from p1)
                  have HS := Lib.hid (HCl.out.2.2.2.2.2.2.1 w')
                  clear hout p0 p1
                  go_step
                  refine HS.out.mono ?_
                  rintro e w3 ⟨rfl, hB⟩
                  exact hK _ _ rfl (hG.trans (hB.mono hG.size)) hB
                · intro _ k a w' hG hout hpre K hK
                  have q7 := ev_of ((hout 7 rfl).trans (show _ = .bool true from rfl))
                  clear hout hpre
                  go_step
                  exact hK _ _ rfl hG (Below.refl _ _)
                · intro _ k a w' hG hout hpre K hK
                  obtain ⟨p0, _⟩ := hpre
                  have q64 := ev_of (show a.eval (.tmp 64) = .bool true from p0)
                  clear hout p0
                  go_step
                  exact hK _ _ rfl hG (Below.refl _ _)
                · intro _ k a w' hG hout hpre K hK
                  have q6 := ev_of ((hout 6 rfl).trans (show _ = .int .i64 t from rfl))
                  clear hout hpre
                  go_step
                  exact hK _ _ rfl hG (Below.refl _ _)
                · intro _ k a w' hG hout hpre K hK
                  have q3 := ev_of ((hout 3 rfl).trans (show _ = .pointer (some ⟨ab, 0, none⟩) from rfl))
                  clear hout hpre
                  go_step
                  exact hK _ _ rfl hG (Below.refl _ _)
                · intro _ k a w' hG hout hpre K hK
                  obtain ⟨p0, _⟩ := hpre
                  have q67 := ev_of (show a.eval (.tmp 67) = .pointer (some ⟨ab, 1, none⟩) from p0)
                  obtain ⟨d0, d1, d2⟩ := (HD.out w' hG).1
                  clear hout p0
                  go_step
                  exact hK _ _ rfl hG (Below.refl _ _)
                · intro _ k a w' hG hout hpre K hK
                  obtain ⟨p0, p1, _⟩ := hpre
                  have q66 := ev_of (show a.eval (.tmp 66) = .int .i64 t from p0)
                  have q68 := ev_of (show a.eval (.tmp 68) = .int .i64 al from p1)
                  have hd := HC1.out
                  clear hout p0 p1
                  go_step
                  exact hK _ _ rfl hG (Below.refl _ _)
                · intro _ k a w' hG hout hpre K hK
                  obtain ⟨p0, p1, _⟩ := hpre
                  have q65 := ev_of (show a.eval (.tmp 65) = .bool true from p0)
                  have q69 := ev_of (show a.eval (.tmp 69) = .bool false from p1)
                  clear hout p0 p1
                  go_step
                  exact hK _ _ rfl hG (Below.refl _ _)
                · intro _ k a w' hG hout hpre K hK
                  obtain ⟨p0, _⟩ := hpre
                  have q70 := ev_of (show a.eval (.tmp 70) = .bool false from p0)
                  clear hout p0
                  go_step
                  exact hK _ _ rfl hG (Below.refl _ _)
                · exact fun h => absurd h (by decide)
                · exact fun h => absurd h (by decide)
                · exact fun h => absurd h (by decide)
                · exact fun h => absurd h (by decide)
                · intro _ k a w' hG hout hpre K hK
                  obtain ⟨p0, p1, _⟩ := hpre
                  have q71 := ev_of (show a.eval (.tmp 71) = .bool false from p0)
                  have q75 := ev_of (show a.eval (.tmp 75) = undef from p1)
                  clear hout p0 p1
                  go_step
                  exact hK _ _ rfl hG (Below.refl _ _)
                · intro _ k a w' hG hout hpre K hK
                  obtain ⟨p0, p1, _⟩ := hpre
                  have q63 := ev_of (show a.eval (.tmp 63) = .bool false from p0)
                  have q76 := ev_of (show a.eval (.tmp 76) = .bool false from p1)
                  clear hout p0 p1
                  go_step
                  exact hK _ _ rfl hG (Below.refl _ _)
                · intro _ k a w' hG hout hpre K hK
                  obtain ⟨p0, p1, _⟩ := hpre
                  have q60 := ev_of (show a.eval (.tmp 60) = .bool true from p0)
                  have q77 := ev_of (show a.eval (.tmp 77) = .bool true from p1)
                  clear hout p0 p1
                  go_step
                  exact hK _ _ rfl hG (Below.refl _ _)
                · intro _ k a w' hG hout hpre K hK
                  obtain ⟨p0, _⟩ := hpre
                  have q78 := ev_of (show a.eval (.tmp 78) = .bool true from p0)
                  clear hout p0
                  go_step
                  exact hK _ _ rfl hG (Below.refl _ _)
                · intro _ k a w' hG hout hpre K hK
                  have q3 := ev_of ((hout 3 rfl).trans (show _ = .pointer (some ⟨ab, 0, none⟩) from rfl))
                  obtain ⟨d0, d1, d2⟩ := (HD.out w' hG).1
                  clear hout hpre
                  go_step
                  exact hK _ _ HV.out.1.symm hG (Below.refl _ _)
                · intro _ k a w' hG hout hpre K hK
                  have q6 := ev_of ((hout 6 rfl).trans (show _ = .int .i64 t from rfl))
                  clear hout hpre
                  go_step
                  exact hK _ _ rfl hG (Below.refl _ _)
                · intro _ k a w' hG hout hpre K hK
                  obtain ⟨p0, p1, _⟩ := hpre
                  have q80 := ev_of (show a.eval (.tmp 80) = VA from p0)
                  have q81 := ev_of (show a.eval (.tmp 81) = .int .i64 t from p1)
                  have HS := Lib.hid (HCl.out.2.2.2.2.2.2.2.1 w')
                  clear hout p0 p1
                  go_step
                  refine HS.out.mono ?_
                  rintro e w3 ⟨rfl, hB⟩
                  exact hK _ _ rfl (hG.trans (hB.mono hG.size)) hB
                · intro _ k a w' hG hout hpre K hK
                  have q7 := ev_of ((hout 7 rfl).trans (show _ = .bool true from rfl))
                  clear hout hpre
                  go_step
                  exact hK _ _ rfl hG (Below.refl _ _)
                · intro _ k a w' hG hout hpre K hK
                  obtain ⟨p0, _⟩ := hpre
                  have q83 := ev_of (show a.eval (.tmp 83) = .bool true from p0)
                  clear hout p0
                  go_step
                  exact hK _ _ rfl hG (Below.refl _ _)
                · intro _ k a w' hG hout hpre K hK
                  have q3 := ev_of ((hout 3 rfl).trans (show _ = .pointer (some ⟨ab, 0, none⟩) from rfl))
                  clear hout hpre
                  go_step
                  exact hK _ _ rfl hG (Below.refl _ _)
                · intro _ k a w' hG hout hpre K hK
                  obtain ⟨p0, _⟩ := hpre
                  have q85 := ev_of (show a.eval (.tmp 85) = .pointer (some ⟨ab, 2, none⟩) from p0)
                  obtain ⟨d0, d1, d2⟩ := (HD.out w' hG).1
                  clear hout p0
                  go_step
                  exact hK _ _ rfl hG (Below.refl _ _)
                · intro _ k a w' hG hout hpre K hK
                  have q6 := ev_of ((hout 6 rfl).trans (show _ = .int .i64 t from rfl))
                  clear hout hpre
                  go_step
                  exact hK _ _ rfl hG (Below.refl _ _)
                · intro _ k a w' hG hout hpre K hK
                  obtain ⟨p0, p1, _⟩ := hpre
                  have q86 := ev_of (show a.eval (.tmp 86) = .int .i64 ah from p0)
                  have q87 := ev_of (show a.eval (.tmp 87) = .int .i64 t from p1)
                  have hd := HRp.out
                  clear hout p0 p1
                  go_step
                  exact hK _ _ rfl hG (Below.refl _ _)
                · intro _ k a w' hG hout hpre K hK
                  obtain ⟨p0, p1, _⟩ := hpre
                  have q84 := ev_of (show a.eval (.tmp 84) = .bool true from p0)
                  have q88 := ev_of (show a.eval (.tmp 88) = .bool rp from p1)
                  clear hout p0 p1
                  go_step
                  exact hK _ _ rfl hG (Below.refl _ _)
                · intro _ k a w' hG hout hpre K hK
                  obtain ⟨p0, p1, _⟩ := hpre
                  have q82 := ev_of (show a.eval (.tmp 82) = .bool rp from p0)
                  have q89 := ev_of (show a.eval (.tmp 89) = .bool rp from p1)
                  have he : (rp == rp) = true := by simp
                  clear hout p0 p1
                  go_step
                  exact hK _ _ rfl hG (Below.refl _ _)
                · intro _ k a w' hG hout hpre K hK
                  obtain ⟨p0, p1, _⟩ := hpre
                  have q79 := ev_of (show a.eval (.tmp 79) = .bool true from p0)
                  have q90 := ev_of (show a.eval (.tmp 90) = .bool true from p1)
                  clear hout p0 p1
                  go_step
                  exact hK _ _ rfl hG (Below.refl _ _)
                · intro _ k a w' hG hout hpre K hK
                  obtain ⟨p0, _⟩ := hpre
                  have q91 := ev_of (show a.eval (.tmp 91) = .bool true from p0)
                  clear hout p0
                  go_step
                  exact hK _ _ rfl hG (Below.refl _ _)
                · intro _ k a w' hG hout hpre K hK
                  have q5 := ev_of ((hout 5 rfl).trans (show _ = .pointer (some ⟨qb, 0, none⟩) from rfl))
                  obtain ⟨d0, d1, d2, d3, d4, d5⟩ := (HD.out w' hG).2.2
                  clear hout hpre
                  go_step
                  exact hK _ _ HV.out.2.2.symm hG (Below.refl _ _)
                · intro _ k a w' hG hout hpre K hK
                  have q3 := ev_of ((hout 3 rfl).trans (show _ = .pointer (some ⟨ab, 0, none⟩) from rfl))
                  obtain ⟨d0, d1, d2⟩ := (HD.out w' hG).1
                  clear hout hpre
                  go_step
                  exact hK _ _ HV.out.1.symm hG (Below.refl _ _)
                · intro _ k a w' hG hout hpre K hK
                  have q6 := ev_of ((hout 6 rfl).trans (show _ = .int .i64 t from rfl))
                  clear hout hpre
                  go_step
                  exact hK _ _ rfl hG (Below.refl _ _)
                · intro _ k a w' hG hout hpre K hK
                  obtain ⟨p0, p1, p2, _⟩ := hpre
                  have q93 := ev_of (show a.eval (.tmp 93) = VQ from p0)
                  have q94 := ev_of (show a.eval (.tmp 94) = VA from p1)
                  have q95 := ev_of (show a.eval (.tmp 95) = .int .i64 t from p2)
                  have HS := Lib.hid (HCl.out.2.2.2.2.2.2.2.2.1 w')
                  clear hout p0 p1 p2
                  go_step
                  refine HS.out.mono ?_
                  rintro e w3 ⟨rfl, hB⟩
                  exact hK _ _ rfl (hG.trans (hB.mono hG.size)) hB
                · intro _ k a w' hG hout hpre K hK
                  have q7 := ev_of ((hout 7 rfl).trans (show _ = .bool true from rfl))
                  clear hout hpre
                  go_step
                  exact hK _ _ rfl hG (Below.refl _ _)
                · intro _ k a w' hG hout hpre K hK
                  obtain ⟨p0, _⟩ := hpre
                  have q97 := ev_of (show a.eval (.tmp 97) = .bool true from p0)
                  clear hout p0
                  go_step
                  exact hK _ _ rfl hG (Below.refl _ _)
                · intro _ k a w' hG hout hpre K hK
                  have q5 := ev_of ((hout 5 rfl).trans (show _ = .pointer (some ⟨qb, 0, none⟩) from rfl))
                  obtain ⟨d0, d1, d2, d3, d4, d5⟩ := (HD.out w' hG).2.2
                  clear hout hpre
                  go_step
                  exact hK _ _ HV.out.2.2.symm hG (Below.refl _ _)
                · intro _ k a w' hG hout hpre K hK
                  obtain ⟨p0, _⟩ := hpre
                  have q99 := ev_of (show a.eval (.tmp 99) = VQ from p0)
                  have HS := Lib.hid (HCl.out.2.2.2.2.2.2.2.2.2.1 w')
                  clear hout p0
                  go_step
                  refine HS.out.mono ?_
                  rintro e w3 ⟨rfl, hB⟩
                  exact hK _ _ rfl (hG.trans (hB.mono hG.size)) hB
                · intro _ k a w' hG hout hpre K hK
                  obtain ⟨p0, p1, _⟩ := hpre
                  have q98 := ev_of (show a.eval (.tmp 98) = .bool true from p0)
                  have q100 := ev_of (show a.eval (.tmp 100) = .bool false from p1)
                  clear hout p0 p1
                  go_step
                  exact hK _ _ rfl hG (Below.refl _ _)
                · intro _ k a w' hG hout hpre K hK
                  obtain ⟨p0, _⟩ := hpre
                  have q101 := ev_of (show a.eval (.tmp 101) = .bool false from p0)
                  clear hout p0
                  go_step
                  exact hK _ _ rfl hG (Below.refl _ _)
                · exact fun h => absurd h (by decide)
                · exact fun h => absurd h (by decide)
                · exact fun h => absurd h (by decide)
                · exact fun h => absurd h (by decide)
                · intro _ k a w' hG hout hpre K hK
                  obtain ⟨p0, p1, _⟩ := hpre
                  have q102 := ev_of (show a.eval (.tmp 102) = .bool false from p0)
                  have q106 := ev_of (show a.eval (.tmp 106) = undef from p1)
                  clear hout p0 p1
                  go_step
                  exact hK _ _ rfl hG (Below.refl _ _)
                · intro _ k a w' hG hout hpre K hK
                  obtain ⟨p0, p1, _⟩ := hpre
                  have q96 := ev_of (show a.eval (.tmp 96) = .bool false from p0)
                  have q107 := ev_of (show a.eval (.tmp 107) = .bool false from p1)
                  clear hout p0 p1
                  go_step
                  exact hK _ _ rfl hG (Below.refl _ _)
                · intro _ k a w' hG hout hpre K hK
                  obtain ⟨p0, p1, _⟩ := hpre
                  have q92 := ev_of (show a.eval (.tmp 92) = .bool true from p0)
                  have q108 := ev_of (show a.eval (.tmp 108) = .bool true from p1)
                  clear hout p0 p1
                  go_step
                  exact hK _ _ rfl hG (Below.refl _ _)
                · intro _ k a w' hG hout hpre K hK
                  obtain ⟨p0, _⟩ := hpre
                  have q109 := ev_of (show a.eval (.tmp 109) = .bool true from p0)
                  clear hout p0
                  go_step
                  exact hK _ _ rfl hG (Below.refl _ _)
              · intro vs w2 hG hlen hV
                match vs, hlen, hV with
                | v0 :: v1 :: v2 :: v3 :: v4 :: v5 :: v6 :: v7 :: v8 :: v9 :: v10 :: v11 :: v12 :: v13 :: v14 :: v15 :: v16 :: v17 :: v18 :: v19 :: v20 :: v21 :: v22 :: v23 :: v24 :: v25 :: v26 :: v27 :: v28 :: v29 :: v30 :: v31 :: v32 :: v33 :: v34 :: v35 :: v36 :: v37 :: v38 :: v39 :: v40 :: v41 :: v42 :: v43 :: v44 :: v45 :: v46 :: v47 :: v48 :: v49 :: v50 :: v51 :: v52 :: v53 :: v54 :: v55 :: v56 :: v57 :: v58 :: v59 :: v60 :: v61 :: v62 :: v63 :: v64 :: v65 :: v66 :: v67 :: v68 :: v69 :: v70 :: v71 :: v72 :: v73 :: v74 :: v75 :: v76 :: v77 :: v78 :: [], _, hV =>
                  obtain rfl : v78 = .bool true := (hV 78 2 v78 rfl rfl)
                  clear hV
                  simp only [putsL, List.append_eq, List.cons_append, List.nil_append, List.tail_cons, List.headD_cons]
                  simp only [Act.put, List.setIfInBounds_toArray, List.set_cons_succ, List.set_cons_zero]
                  have HZ : Hid (Below w.heap.size w w2) := HWc.out.trans (hG.mono HWc.out.size)
                  clear hG
                  go_wp2_with (fail)
                  go_ret
                  exact ⟨rfl, HZ.out⟩
            | true =>
              obtain ⟨rp, hrp⟩ : ∃ b, b = decide (ah ≤ t) := ⟨_, rfl⟩
              have HRp : Hid (decide (ah ≤ t) = rp) := Lib.hid hrp.symm
              clear hrp
              have HC1 : Hid (decide (al ≤ t) = false) := Lib.hid (decide_eq_false HN1.out)
              have HGb : Hid ((0 ≤ ah ∧ ah ≤ 4398046511104) ∧ (0 ≤ late ∧ late ≤ 1073741824)) := by
                have g1 := rightW_cases (x := ⟨ak, al, ah⟩) HRr.out.symm
                have g2 := rightQ_bd (q := ⟨kind, size, slide, late, agg, tk⟩) HQr.out.symm
                simp only at g1 g2
                exact Lib.hid (by omega)
              have HCl : Hid ((∀ w', Calls Tryd.prog 17 #[VA] w' (Below0 w' (.bool true))) ∧ (∀ w', Below wc.heap.size wc w' → Calls Tryd.prog 18 #[VA] w' (Below0 w' (Sv tt))) ∧ (∀ w', Calls Tryd.prog 19 #[VA, VB] w' (Below0 w' (.int .i64 cc))) ∧ (∀ w', Calls Tryd.prog 20 #[VA, VB] w' (Below0 w' (.int .i64 cc))) ∧
                (∀ w', Calls Tryd.prog 21 #[VA, VB] w' (Below0 w' (.int .i64 pp))) ∧ (∀ w', Calls Tryd.prog 22 #[VA, VB] w' (Below0 w' (.int .i64 pp))) ∧ (∀ w', Calls Tryd.prog 23 #[VA, .int .i64 t] w' (Below0 w' (.bool false))) ∧ (∀ w', Calls Tryd.prog 12 #[VA, .int .i64 t] w' (Below0 w' (.bool rp))) ∧
                (∀ w', Calls Tryd.prog 13 #[VQ, VA, .int .i64 t] w' (Below0 w' (.bool (decide (ah + late ≤ t))))) ∧ (∀ w', Calls Tryd.prog 24 #[VQ] w' (Below0 w' (.bool true))) ∧ (∀ w', Calls Tryd.prog 14 #[VQ, VA, .int .i64 t] w' (Below0 w' (.bool (decide (ah + late ≤ t)))))) := by
                rw [HV.out.1, HV.out.2.1, HV.out.2.2]
                refine Lib.hid ⟨?_, HTx.out, fun w' => HCc.out.1 w', fun w' => HCc.out.2.1 w', fun w' => HCc.out.2.2.1 w', fun w' => HCc.out.2.2.2 w', ?_, ?_, ?_, ?_, ?_⟩
                · intro w'
                  have h := wright_any w' ⟨ak, al, ah⟩ HK.out
                  rw [← HRr.out] at h
                  exact h
                · intro w'
                  have h := whas_any w' ⟨ak, al, ah⟩ t HK.out
                  rw [hasW, ← HRr.out] at h
                  simp only at h
                  rw [Bool.true_and, decide_eq_false (fun hh => HN1.out hh.1)] at h
                  exact h
                · intro w'
                  have h := wripe_any w' ⟨ak, al, ah⟩ t HK.out
                  rw [ripeW, ← HRr.out] at h
                  simp only at h
                  rw [Bool.true_and, HRp.out] at h
                  exact h
                · intro w'
                  have h := wgone_any w' ⟨kind, size, slide, late, agg, tk⟩ ⟨ak, al, ah⟩ t HK.out
                  rw [goneW, ← HRr.out, ← HQr.out] at h
                  simp only at h
                  rw [Bool.true_and, Bool.true_and] at h
                  exact h
                · intro w'
                  have h := rqRight_any w' ⟨kind, size, slide, late, agg, tk⟩
                  rw [← HQr.out] at h
                  exact h
                · exact fun w' => rwGone_any w' ⟨kind, size, slide, late, agg, tk⟩ ⟨ak, al, ah⟩ t HGb.out.1 HGb.out.2
              obtain ⟨gn, hgn⟩ : ∃ b, b = decide (ah + late ≤ t) := ⟨_, rfl⟩
              rw [← hgn] at HCl
              clear hgn
              refine wp_region_skip_frame (fun i => ([40, 41, 42, 43] : List Nat).contains i) (by kernel_rfl) [none, none, none, none, none, none, none, none, none, none, none, none, none, none, none, none, none, none, none, none, none, none, none, none, none, none, none, none, none, none, none, none, none, none, none, none, none, none, none, none, none, none, none, none, none, none, none, none, none, none, none, none, none, none, none, none, none, none, none, none, none, none, none, none, none, none, none, none, none, none, none, none, none, none, none, none, none, none, none] [] (fun i_ _ _ v_ => v_ = ((VA :: (Value.bool true) :: (Value.bool true) :: (Value.bool true) :: (Value.bool true) :: VA :: Sv tt :: Sv tt :: (Value.bool true) :: (Value.bool true) :: (Value.bool true) :: VA :: VB :: (Value.int .i64 cc) :: VA :: VB :: (Value.int .i64 cc) :: (Value.bool true) :: (Value.bool true) :: (Value.bool true) :: VA :: VB :: (Value.int .i64 pp) :: VA :: VB :: (Value.int .i64 pp) :: (Value.bool true) :: (Value.bool true) :: (Value.bool true) :: VA :: (Value.int .i64 t) :: (Value.bool false) :: (Value.bool true) :: (Value.bool true) :: (Value.int .i64 t) :: (Value.pointer (some ⟨ab, 1, none⟩)) :: (Value.int .i64 al) :: (Value.bool false) :: (Value.bool false) :: (Value.bool false) :: undef :: undef :: undef :: undef :: (Value.bool false) :: (Value.bool true) :: (Value.bool true) :: (Value.bool true) :: VA :: (Value.int .i64 t) :: (Value.bool rp) :: (Value.bool true) :: (Value.bool true) :: (Value.pointer (some ⟨ab, 2, none⟩)) :: (Value.int .i64 ah) :: (Value.int .i64 t) :: (Value.bool rp) :: (Value.bool rp) :: (Value.bool true) :: (Value.bool true) :: (Value.bool true) :: VQ :: VA :: (Value.int .i64 t) :: (Value.bool gn) :: (Value.bool true) :: (Value.bool true) :: VQ :: (Value.bool true) :: (Value.bool true) :: (Value.bool true) :: VQ :: VA :: (Value.int .i64 t) :: (Value.bool gn) :: (Value.bool gn) :: (Value.bool true) :: (Value.bool true) :: (Value.bool true) :: ([] : List Value))).getD i_ undef) (fun _ w' => Below wc.heap.size wc w') (fun w w' => Below w.heap.size w w') (fun _ _ _ _ _ _ h => h) (by kernel_rfl) (by kernel_rfl) (by kernel_rfl) HG0.out (fun _ => ⟨rfl, rfl, rfl, rfl, rfl, fun _ _ h => h, fun _ _ h => h, fun _ _ h => h, fun _ _ h => h, rfl, rfl, fun _ _ h => h, fun _ _ h => h, fun _ _ h => h, fun _ _ h => h, fun _ _ h => h, fun _ _ h => h, fun _ _ h => h, rfl, rfl, fun _ _ h => h, fun _ _ h => h, fun _ _ h => h, fun _ _ h => h, fun _ _ h => h, fun _ _ h => h, fun _ _ h => h, rfl, rfl, fun _ _ h => h, fun _ _ h => h, fun _ _ h => h, fun _ _ h => h, fun _ _ h => h, fun _ _ h => h, fun _ _ h => h, fun _ _ h => h, fun _ _ h => h, fun _ _ h => h, fun _ _ h => h, fun _ _ h => h, fun _ _ h => h, fun _ _ h => h, fun _ _ h => h, fun _ _ h => h, fun _ _ h => h, rfl, rfl, fun _ _ h => h, fun _ _ h => h, fun _ _ h => h, fun _ _ h => h, fun _ _ h => h, fun _ _ h => h, fun _ _ h => h, fun _ _ h => h, fun _ _ h => h, fun _ _ h => h, fun _ _ h => h, rfl, rfl, fun _ _ h => h, fun _ _ h => h, fun _ _ h => h, fun _ _ h => h, fun _ _ h => h, fun _ _ h => h, fun _ _ h => h, fun _ _ h => h, fun _ _ h => h, fun _ _ h => h, fun _ _ h => h, fun _ _ h => h, fun _ _ h => h, fun _ _ h => h, fun _ _ h => h, fun _ _ h => h, rfl, rfl, trivial⟩) (fun i hi => by have hm := List.contains_iff_mem.1 hi; simp only [List.mem_cons, List.not_mem_nil, or_false] at hm; rcases hm with rfl | rfl | rfl | rfl <;> exact ⟨rfl, fun _ _ => rfl⟩) ?_ ?_
              · refine ⟨?_, ?_, ?_, ?_, ?_, ?_, ?_, ?_, ?_, ?_, ?_, ?_, ?_, ?_, ?_, ?_, ?_, ?_, ?_, ?_, ?_, ?_, ?_, ?_, ?_, ?_, ?_, ?_, ?_, ?_, ?_, ?_, ?_, ?_, ?_, ?_, ?_, ?_, ?_, ?_, ?_, ?_, ?_, ?_, ?_, ?_, ?_, ?_, ?_, ?_, ?_, ?_, ?_, ?_, ?_, ?_, ?_, ?_, ?_, ?_, ?_, ?_, ?_, ?_, ?_, ?_, ?_, ?_, ?_, ?_, ?_, ?_, ?_, ?_, ?_, ?_, ?_, ?_, ?_, trivial⟩
                · intro _ k a w' hG hout hpre K hK
                  have q3 := ev_of ((hout 3 rfl).trans (show _ = .pointer (some ⟨ab, 0, none⟩) from rfl))
                  obtain ⟨d0, d1, d2⟩ := (HD.out w' hG).1
                  clear hout hpre
                  go_step
                  exact hK _ _ HV.out.1.symm hG (Below.refl _ _)
                · intro _ k a w' hG hout hpre K hK
                  obtain ⟨p0, _⟩ := hpre
                  have q32 := ev_of (show a.eval (.tmp 32) = VA from p0)
                  have HS := Lib.hid (HCl.out.1 w')
                  clear hout p0
                  go_step
                  refine HS.out.mono ?_
                  rintro e w3 ⟨rfl, hB⟩
                  exact hK _ _ rfl (hG.trans (hB.mono hG.size)) hB
                · intro _ k a w' hG hout hpre K hK
                  have q7 := ev_of ((hout 7 rfl).trans (show _ = .bool true from rfl))
                  clear hout hpre
                  go_step
                  exact hK _ _ rfl hG (Below.refl _ _)
                · intro _ k a w' hG hout hpre K hK
                  obtain ⟨p0, p1, _⟩ := hpre
                  have q33 := ev_of (show a.eval (.tmp 33) = .bool true from p0)
                  have q34 := ev_of (show a.eval (.tmp 34) = .bool true from p1)
                  clear hout p0 p1
                  go_step
                  exact hK _ _ rfl hG (Below.refl _ _)
                · intro _ k a w' hG hout hpre K hK
                  obtain ⟨p0, _⟩ := hpre
                  have q35 := ev_of (show a.eval (.tmp 35) = .bool true from p0)
                  clear hout p0
                  go_step
                  exact hK _ _ rfl hG (Below.refl _ _)
                · intro _ k a w' hG hout hpre K hK
                  have q3 := ev_of ((hout 3 rfl).trans (show _ = .pointer (some ⟨ab, 0, none⟩) from rfl))
                  obtain ⟨d0, d1, d2⟩ := (HD.out w' hG).1
                  clear hout hpre
                  go_step
                  exact hK _ _ HV.out.1.symm hG (Below.refl _ _)
                · intro _ k a w' hG hout hpre K hK
                  obtain ⟨p0, _⟩ := hpre
                  have q37 := ev_of (show a.eval (.tmp 37) = VA from p0)
                  have HS := Lib.hid (HCl.out.2.1 w' hG)
                  clear hout p0
                  go_step
                  refine HS.out.mono ?_
                  rintro e w3 ⟨rfl, hB⟩
                  exact hK _ _ rfl (hG.trans (hB.mono hG.size)) hB
                · intro _ k a w' hG hout hpre K hK
                  have q8 := ev_of ((hout 8 rfl).trans (show _ = Sv tt from rfl))
                  clear hout hpre
                  go_step
                  exact hK _ _ rfl hG (Below.refl _ _)
                · intro _ k a w' hG hout hpre K hK
                  obtain ⟨p0, p1, _⟩ := hpre
                  have q38 := ev_of (show a.eval (.tmp 38) = Sv tt from p0)
                  have q39 := ev_of (show a.eval (.tmp 39) = Sv tt from p1)
                  have he := HTT.out
                  clear hout p0 p1
                  go_step
                  exact hK _ _ rfl hG (Below.refl _ _)
                · intro _ k a w' hG hout hpre K hK
                  obtain ⟨p0, p1, _⟩ := hpre
                  have q36 := ev_of (show a.eval (.tmp 36) = .bool true from p0)
                  have q40 := ev_of (show a.eval (.tmp 40) = .bool true from p1)
                  clear hout p0 p1
                  go_step
                  exact hK _ _ rfl hG (Below.refl _ _)
                · intro _ k a w' hG hout hpre K hK
                  obtain ⟨p0, _⟩ := hpre
                  have q41 := ev_of (show a.eval (.tmp 41) = .bool true from p0)
                  clear hout p0
                  go_step
                  exact hK _ _ rfl hG (Below.refl _ _)
                · intro _ k a w' hG hout hpre K hK
                  have q3 := ev_of ((hout 3 rfl).trans (show _ = .pointer (some ⟨ab, 0, none⟩) from rfl))
                  obtain ⟨d0, d1, d2⟩ := (HD.out w' hG).1
                  clear hout hpre
                  go_step
                  exact hK _ _ HV.out.1.symm hG (Below.refl _ _)
                · intro _ k a w' hG hout hpre K hK
                  have q4 := ev_of ((hout 4 rfl).trans (show _ = .pointer (some ⟨bb, 0, none⟩) from rfl))
                  obtain ⟨d0, d1, d2⟩ := (HD.out w' hG).2.1
                  clear hout hpre
                  go_step
                  exact hK _ _ HV.out.2.1.symm hG (Below.refl _ _)
                · intro _ k a w' hG hout hpre K hK
                  obtain ⟨p0, p1, _⟩ := hpre
                  have q43 := ev_of (show a.eval (.tmp 43) = VA from p0)
                  have q44 := ev_of (show a.eval (.tmp 44) = VB from p1)
                  have HS := Lib.hid (HCl.out.2.2.1 w')
                  clear hout p0 p1
                  go_step
                  refine HS.out.mono ?_
                  rintro e w3 ⟨rfl, hB⟩
                  exact hK _ _ rfl (hG.trans (hB.mono hG.size)) hB
                · intro _ k a w' hG hout hpre K hK
                  have q3 := ev_of ((hout 3 rfl).trans (show _ = .pointer (some ⟨ab, 0, none⟩) from rfl))
                  obtain ⟨d0, d1, d2⟩ := (HD.out w' hG).1
                  clear hout hpre
                  go_step
                  exact hK _ _ HV.out.1.symm hG (Below.refl _ _)
                · intro _ k a w' hG hout hpre K hK
                  have q4 := ev_of ((hout 4 rfl).trans (show _ = .pointer (some ⟨bb, 0, none⟩) from rfl))
                  obtain ⟨d0, d1, d2⟩ := (HD.out w' hG).2.1
                  clear hout hpre
                  go_step
                  exact hK _ _ HV.out.2.1.symm hG (Below.refl _ _)
                · intro _ k a w' hG hout hpre K hK
                  obtain ⟨p0, p1, _⟩ := hpre
                  have q46 := ev_of (show a.eval (.tmp 46) = VA from p0)
                  have q47 := ev_of (show a.eval (.tmp 47) = VB from p1)
                  have HS := Lib.hid (HCl.out.2.2.2.1 w')
                  clear hout p0 p1
                  go_step
                  refine HS.out.mono ?_
                  rintro e w3 ⟨rfl, hB⟩
                  exact hK _ _ rfl (hG.trans (hB.mono hG.size)) hB
                · intro _ k a w' hG hout hpre K hK
                  obtain ⟨p0, p1, _⟩ := hpre
                  have q45 := ev_of (show a.eval (.tmp 45) = .int .i64 cc from p0)
                  have q48 := ev_of (show a.eval (.tmp 48) = .int .i64 cc from p1)
                  have he : (cc == cc) = true := by simp
                  clear hout p0 p1
                  go_step
                  exact hK _ _ rfl hG (Below.refl _ _)
                · intro _ k a w' hG hout hpre K hK
                  obtain ⟨p0, p1, _⟩ := hpre
                  have q42 := ev_of (show a.eval (.tmp 42) = .bool true from p0)
                  have q49 := ev_of (show a.eval (.tmp 49) = .bool true from p1)
                  clear hout p0 p1
                  go_step
                  exact hK _ _ rfl hG (Below.refl _ _)
                · intro _ k a w' hG hout hpre K hK
                  obtain ⟨p0, _⟩ := hpre
                  have q50 := ev_of (show a.eval (.tmp 50) = .bool true from p0)
                  clear hout p0
                  go_step
                  exact hK _ _ rfl hG (Below.refl _ _)
                · intro _ k a w' hG hout hpre K hK
                  have q3 := ev_of ((hout 3 rfl).trans (show _ = .pointer (some ⟨ab, 0, none⟩) from rfl))
                  obtain ⟨d0, d1, d2⟩ := (HD.out w' hG).1
                  clear hout hpre
                  go_step
                  exact hK _ _ HV.out.1.symm hG (Below.refl _ _)
                · intro _ k a w' hG hout hpre K hK
                  have q4 := ev_of ((hout 4 rfl).trans (show _ = .pointer (some ⟨bb, 0, none⟩) from rfl))
                  obtain ⟨d0, d1, d2⟩ := (HD.out w' hG).2.1
                  clear hout hpre
                  go_step
                  exact hK _ _ HV.out.2.1.symm hG (Below.refl _ _)
                · intro _ k a w' hG hout hpre K hK
                  obtain ⟨p0, p1, _⟩ := hpre
                  have q52 := ev_of (show a.eval (.tmp 52) = VA from p0)
                  have q53 := ev_of (show a.eval (.tmp 53) = VB from p1)
                  have HS := Lib.hid (HCl.out.2.2.2.2.1 w')
                  clear hout p0 p1
                  go_step
                  refine HS.out.mono ?_
                  rintro e w3 ⟨rfl, hB⟩
                  exact hK _ _ rfl (hG.trans (hB.mono hG.size)) hB
                · intro _ k a w' hG hout hpre K hK
                  have q3 := ev_of ((hout 3 rfl).trans (show _ = .pointer (some ⟨ab, 0, none⟩) from rfl))
                  obtain ⟨d0, d1, d2⟩ := (HD.out w' hG).1
                  clear hout hpre
                  go_step
                  exact hK _ _ HV.out.1.symm hG (Below.refl _ _)
                · intro _ k a w' hG hout hpre K hK
                  have q4 := ev_of ((hout 4 rfl).trans (show _ = .pointer (some ⟨bb, 0, none⟩) from rfl))
                  obtain ⟨d0, d1, d2⟩ := (HD.out w' hG).2.1
                  clear hout hpre
                  go_step
                  exact hK _ _ HV.out.2.1.symm hG (Below.refl _ _)
                · intro _ k a w' hG hout hpre K hK
                  obtain ⟨p0, p1, _⟩ := hpre
                  have q55 := ev_of (show a.eval (.tmp 55) = VA from p0)
                  have q56 := ev_of (show a.eval (.tmp 56) = VB from p1)
                  have HS := Lib.hid (HCl.out.2.2.2.2.2.1 w')
                  clear hout p0 p1
                  go_step
                  refine HS.out.mono ?_
                  rintro e w3 ⟨rfl, hB⟩
                  exact hK _ _ rfl (hG.trans (hB.mono hG.size)) hB
                · intro _ k a w' hG hout hpre K hK
                  obtain ⟨p0, p1, _⟩ := hpre
                  have q54 := ev_of (show a.eval (.tmp 54) = .int .i64 pp from p0)
                  have q57 := ev_of (show a.eval (.tmp 57) = .int .i64 pp from p1)
                  have he : (pp == pp) = true := by simp
                  clear hout p0 p1
                  go_step
                  exact hK _ _ rfl hG (Below.refl _ _)
                · intro _ k a w' hG hout hpre K hK
                  obtain ⟨p0, p1, _⟩ := hpre
                  have q51 := ev_of (show a.eval (.tmp 51) = .bool true from p0)
                  have q58 := ev_of (show a.eval (.tmp 58) = .bool true from p1)
                  clear hout p0 p1
                  go_step
                  exact hK _ _ rfl hG (Below.refl _ _)
                · intro _ k a w' hG hout hpre K hK
                  obtain ⟨p0, _⟩ := hpre
                  have q59 := ev_of (show a.eval (.tmp 59) = .bool true from p0)
                  clear hout p0
                  go_step
                  exact hK _ _ rfl hG (Below.refl _ _)
                · intro _ k a w' hG hout hpre K hK
                  have q3 := ev_of ((hout 3 rfl).trans (show _ = .pointer (some ⟨ab, 0, none⟩) from rfl))
                  obtain ⟨d0, d1, d2⟩ := (HD.out w' hG).1
                  clear hout hpre
                  go_step
                  exact hK _ _ HV.out.1.symm hG (Below.refl _ _)
                · intro _ k a w' hG hout hpre K hK
                  have q6 := ev_of ((hout 6 rfl).trans (show _ = .int .i64 t from rfl))
                  clear hout hpre
                  go_step
                  exact hK _ _ rfl hG (Below.refl _ _)
                · intro _ k a w' hG hout hpre K hK
                  obtain ⟨p0, p1, _⟩ := hpre
                  have q61 := ev_of (show a.eval (.tmp 61) = VA from p0)
                  have q62 := ev_of (show a.eval (.tmp 62) = .int .i64 t from p1)
                  have HS := Lib.hid (HCl.out.2.2.2.2.2.2.1 w')
                  clear hout p0 p1
                  go_step
                  refine HS.out.mono ?_
                  rintro e w3 ⟨rfl, hB⟩
                  exact hK _ _ rfl (hG.trans (hB.mono hG.size)) hB
                · intro _ k a w' hG hout hpre K hK
                  have q7 := ev_of ((hout 7 rfl).trans (show _ = .bool true from rfl))
                  clear hout hpre
                  go_step
                  exact hK _ _ rfl hG (Below.refl _ _)
                · intro _ k a w' hG hout hpre K hK
                  obtain ⟨p0, _⟩ := hpre
                  have q64 := ev_of (show a.eval (.tmp 64) = .bool true from p0)
                  clear hout p0
                  go_step
                  exact hK _ _ rfl hG (Below.refl _ _)
                · intro _ k a w' hG hout hpre K hK
                  have q6 := ev_of ((hout 6 rfl).trans (show _ = .int .i64 t from rfl))
                  clear hout hpre
                  go_step
                  exact hK _ _ rfl hG (Below.refl _ _)
                · intro _ k a w' hG hout hpre K hK
                  have q3 := ev_of ((hout 3 rfl).trans (show _ = .pointer (some ⟨ab, 0, none⟩) from rfl))
                  clear hout hpre
                  go_step
                  exact hK _ _ rfl hG (Below.refl _ _)
                · intro _ k a w' hG hout hpre K hK
                  obtain ⟨p0, _⟩ := hpre
                  have q67 := ev_of (show a.eval (.tmp 67) = .pointer (some ⟨ab, 1, none⟩) from p0)
                  obtain ⟨d0, d1, d2⟩ := (HD.out w' hG).1
                  clear hout p0
                  go_step
                  exact hK _ _ rfl hG (Below.refl _ _)
                · intro _ k a w' hG hout hpre K hK
                  obtain ⟨p0, p1, _⟩ := hpre
                  have q66 := ev_of (show a.eval (.tmp 66) = .int .i64 t from p0)
                  have q68 := ev_of (show a.eval (.tmp 68) = .int .i64 al from p1)
                  have hd := HC1.out
                  clear hout p0 p1
                  go_step
                  exact hK _ _ rfl hG (Below.refl _ _)
                · intro _ k a w' hG hout hpre K hK
                  obtain ⟨p0, p1, _⟩ := hpre
                  have q65 := ev_of (show a.eval (.tmp 65) = .bool true from p0)
                  have q69 := ev_of (show a.eval (.tmp 69) = .bool false from p1)
                  clear hout p0 p1
                  go_step
                  exact hK _ _ rfl hG (Below.refl _ _)
                · intro _ k a w' hG hout hpre K hK
                  obtain ⟨p0, _⟩ := hpre
                  have q70 := ev_of (show a.eval (.tmp 70) = .bool false from p0)
                  clear hout p0
                  go_step
                  exact hK _ _ rfl hG (Below.refl _ _)
                · exact fun h => absurd h (by decide)
                · exact fun h => absurd h (by decide)
                · exact fun h => absurd h (by decide)
                · exact fun h => absurd h (by decide)
                · intro _ k a w' hG hout hpre K hK
                  obtain ⟨p0, p1, _⟩ := hpre
                  have q71 := ev_of (show a.eval (.tmp 71) = .bool false from p0)
                  have q75 := ev_of (show a.eval (.tmp 75) = undef from p1)
                  clear hout p0 p1
                  go_step
                  exact hK _ _ rfl hG (Below.refl _ _)
                · intro _ k a w' hG hout hpre K hK
                  obtain ⟨p0, p1, _⟩ := hpre
                  have q63 := ev_of (show a.eval (.tmp 63) = .bool false from p0)
                  have q76 := ev_of (show a.eval (.tmp 76) = .bool false from p1)
                  clear hout p0 p1
                  go_step
                  exact hK _ _ rfl hG (Below.refl _ _)
                · intro _ k a w' hG hout hpre K hK
                  obtain ⟨p0, p1, _⟩ := hpre
                  have q60 := ev_of (show a.eval (.tmp 60) = .bool true from p0)
                  have q77 := ev_of (show a.eval (.tmp 77) = .bool true from p1)
                  clear hout p0 p1
                  go_step
                  exact hK _ _ rfl hG (Below.refl _ _)
                · intro _ k a w' hG hout hpre K hK
                  obtain ⟨p0, _⟩ := hpre
                  have q78 := ev_of (show a.eval (.tmp 78) = .bool true from p0)
                  clear hout p0
                  go_step
                  exact hK _ _ rfl hG (Below.refl _ _)
                · intro _ k a w' hG hout hpre K hK
                  have q3 := ev_of ((hout 3 rfl).trans (show _ = .pointer (some ⟨ab, 0, none⟩) from rfl))
                  obtain ⟨d0, d1, d2⟩ := (HD.out w' hG).1
                  clear hout hpre
                  go_step
                  exact hK _ _ HV.out.1.symm hG (Below.refl _ _)
                · intro _ k a w' hG hout hpre K hK
                  have q6 := ev_of ((hout 6 rfl).trans (show _ = .int .i64 t from rfl))
                  clear hout hpre
                  go_step
                  exact hK _ _ rfl hG (Below.refl _ _)
                · intro _ k a w' hG hout hpre K hK
                  obtain ⟨p0, p1, _⟩ := hpre
                  have q80 := ev_of (show a.eval (.tmp 80) = VA from p0)
                  have q81 := ev_of (show a.eval (.tmp 81) = .int .i64 t from p1)
                  have HS := Lib.hid (HCl.out.2.2.2.2.2.2.2.1 w')
                  clear hout p0 p1
                  go_step
                  refine HS.out.mono ?_
                  rintro e w3 ⟨rfl, hB⟩
                  exact hK _ _ rfl (hG.trans (hB.mono hG.size)) hB
                · intro _ k a w' hG hout hpre K hK
                  have q7 := ev_of ((hout 7 rfl).trans (show _ = .bool true from rfl))
                  clear hout hpre
                  go_step
                  exact hK _ _ rfl hG (Below.refl _ _)
                · intro _ k a w' hG hout hpre K hK
                  obtain ⟨p0, _⟩ := hpre
                  have q83 := ev_of (show a.eval (.tmp 83) = .bool true from p0)
                  clear hout p0
                  go_step
                  exact hK _ _ rfl hG (Below.refl _ _)
                · intro _ k a w' hG hout hpre K hK
                  have q3 := ev_of ((hout 3 rfl).trans (show _ = .pointer (some ⟨ab, 0, none⟩) from rfl))
                  clear hout hpre
                  go_step
                  exact hK _ _ rfl hG (Below.refl _ _)
                · intro _ k a w' hG hout hpre K hK
                  obtain ⟨p0, _⟩ := hpre
                  have q85 := ev_of (show a.eval (.tmp 85) = .pointer (some ⟨ab, 2, none⟩) from p0)
                  obtain ⟨d0, d1, d2⟩ := (HD.out w' hG).1
                  clear hout p0
                  go_step
                  exact hK _ _ rfl hG (Below.refl _ _)
                · intro _ k a w' hG hout hpre K hK
                  have q6 := ev_of ((hout 6 rfl).trans (show _ = .int .i64 t from rfl))
                  clear hout hpre
                  go_step
                  exact hK _ _ rfl hG (Below.refl _ _)
                · intro _ k a w' hG hout hpre K hK
                  obtain ⟨p0, p1, _⟩ := hpre
                  have q86 := ev_of (show a.eval (.tmp 86) = .int .i64 ah from p0)
                  have q87 := ev_of (show a.eval (.tmp 87) = .int .i64 t from p1)
                  have hd := HRp.out
                  clear hout p0 p1
                  go_step
                  exact hK _ _ rfl hG (Below.refl _ _)
                · intro _ k a w' hG hout hpre K hK
                  obtain ⟨p0, p1, _⟩ := hpre
                  have q84 := ev_of (show a.eval (.tmp 84) = .bool true from p0)
                  have q88 := ev_of (show a.eval (.tmp 88) = .bool rp from p1)
                  clear hout p0 p1
                  go_step
                  exact hK _ _ rfl hG (Below.refl _ _)
                · intro _ k a w' hG hout hpre K hK
                  obtain ⟨p0, p1, _⟩ := hpre
                  have q82 := ev_of (show a.eval (.tmp 82) = .bool rp from p0)
                  have q89 := ev_of (show a.eval (.tmp 89) = .bool rp from p1)
                  have he : (rp == rp) = true := by simp
                  clear hout p0 p1
                  go_step
                  exact hK _ _ rfl hG (Below.refl _ _)
                · intro _ k a w' hG hout hpre K hK
                  obtain ⟨p0, p1, _⟩ := hpre
                  have q79 := ev_of (show a.eval (.tmp 79) = .bool true from p0)
                  have q90 := ev_of (show a.eval (.tmp 90) = .bool true from p1)
                  clear hout p0 p1
                  go_step
                  exact hK _ _ rfl hG (Below.refl _ _)
                · intro _ k a w' hG hout hpre K hK
                  obtain ⟨p0, _⟩ := hpre
                  have q91 := ev_of (show a.eval (.tmp 91) = .bool true from p0)
                  clear hout p0
                  go_step
                  exact hK _ _ rfl hG (Below.refl _ _)
                · intro _ k a w' hG hout hpre K hK
                  have q5 := ev_of ((hout 5 rfl).trans (show _ = .pointer (some ⟨qb, 0, none⟩) from rfl))
                  obtain ⟨d0, d1, d2, d3, d4, d5⟩ := (HD.out w' hG).2.2
                  clear hout hpre
                  go_step
                  exact hK _ _ HV.out.2.2.symm hG (Below.refl _ _)
                · intro _ k a w' hG hout hpre K hK
                  have q3 := ev_of ((hout 3 rfl).trans (show _ = .pointer (some ⟨ab, 0, none⟩) from rfl))
                  obtain ⟨d0, d1, d2⟩ := (HD.out w' hG).1
                  clear hout hpre
                  go_step
                  exact hK _ _ HV.out.1.symm hG (Below.refl _ _)
                · intro _ k a w' hG hout hpre K hK
                  have q6 := ev_of ((hout 6 rfl).trans (show _ = .int .i64 t from rfl))
                  clear hout hpre
                  go_step
                  exact hK _ _ rfl hG (Below.refl _ _)
                · intro _ k a w' hG hout hpre K hK
                  obtain ⟨p0, p1, p2, _⟩ := hpre
                  have q93 := ev_of (show a.eval (.tmp 93) = VQ from p0)
                  have q94 := ev_of (show a.eval (.tmp 94) = VA from p1)
                  have q95 := ev_of (show a.eval (.tmp 95) = .int .i64 t from p2)
                  have HS := Lib.hid (HCl.out.2.2.2.2.2.2.2.2.1 w')
                  clear hout p0 p1 p2
                  go_step
                  refine HS.out.mono ?_
                  rintro e w3 ⟨rfl, hB⟩
                  exact hK _ _ rfl (hG.trans (hB.mono hG.size)) hB
                · intro _ k a w' hG hout hpre K hK
                  have q7 := ev_of ((hout 7 rfl).trans (show _ = .bool true from rfl))
                  clear hout hpre
                  go_step
                  exact hK _ _ rfl hG (Below.refl _ _)
                · intro _ k a w' hG hout hpre K hK
                  obtain ⟨p0, _⟩ := hpre
                  have q97 := ev_of (show a.eval (.tmp 97) = .bool true from p0)
                  clear hout p0
                  go_step
                  exact hK _ _ rfl hG (Below.refl _ _)
                · intro _ k a w' hG hout hpre K hK
                  have q5 := ev_of ((hout 5 rfl).trans (show _ = .pointer (some ⟨qb, 0, none⟩) from rfl))
                  obtain ⟨d0, d1, d2, d3, d4, d5⟩ := (HD.out w' hG).2.2
                  clear hout hpre
                  go_step
                  exact hK _ _ HV.out.2.2.symm hG (Below.refl _ _)
                · intro _ k a w' hG hout hpre K hK
                  obtain ⟨p0, _⟩ := hpre
                  have q99 := ev_of (show a.eval (.tmp 99) = VQ from p0)
                  have HS := Lib.hid (HCl.out.2.2.2.2.2.2.2.2.2.1 w')
                  clear hout p0
                  go_step
                  refine HS.out.mono ?_
                  rintro e w3 ⟨rfl, hB⟩
                  exact hK _ _ rfl (hG.trans (hB.mono hG.size)) hB
                · intro _ k a w' hG hout hpre K hK
                  obtain ⟨p0, p1, _⟩ := hpre
                  have q98 := ev_of (show a.eval (.tmp 98) = .bool true from p0)
                  have q100 := ev_of (show a.eval (.tmp 100) = .bool true from p1)
                  clear hout p0 p1
                  go_step
                  exact hK _ _ rfl hG (Below.refl _ _)
                · intro _ k a w' hG hout hpre K hK
                  obtain ⟨p0, _⟩ := hpre
                  have q101 := ev_of (show a.eval (.tmp 101) = .bool true from p0)
                  clear hout p0
                  go_step
                  exact hK _ _ rfl hG (Below.refl _ _)
                · intro _ k a w' hG hout hpre K hK
                  have q5 := ev_of ((hout 5 rfl).trans (show _ = .pointer (some ⟨qb, 0, none⟩) from rfl))
                  obtain ⟨d0, d1, d2, d3, d4, d5⟩ := (HD.out w' hG).2.2
                  clear hout hpre
                  go_step
                  exact hK _ _ HV.out.2.2.symm hG (Below.refl _ _)
                · intro _ k a w' hG hout hpre K hK
                  have q3 := ev_of ((hout 3 rfl).trans (show _ = .pointer (some ⟨ab, 0, none⟩) from rfl))
                  obtain ⟨d0, d1, d2⟩ := (HD.out w' hG).1
                  clear hout hpre
                  go_step
                  exact hK _ _ HV.out.1.symm hG (Below.refl _ _)
                · intro _ k a w' hG hout hpre K hK
                  have q6 := ev_of ((hout 6 rfl).trans (show _ = .int .i64 t from rfl))
                  clear hout hpre
                  go_step
                  exact hK _ _ rfl hG (Below.refl _ _)
                · intro _ k a w' hG hout hpre K hK
                  obtain ⟨p0, p1, p2, _⟩ := hpre
                  have q103 := ev_of (show a.eval (.tmp 103) = VQ from p0)
                  have q104 := ev_of (show a.eval (.tmp 104) = VA from p1)
                  have q105 := ev_of (show a.eval (.tmp 105) = .int .i64 t from p2)
                  have HS := Lib.hid (HCl.out.2.2.2.2.2.2.2.2.2.2 w')
                  clear hout p0 p1 p2
                  go_step
                  refine HS.out.mono ?_
                  rintro e w3 ⟨rfl, hB⟩
                  exact hK _ _ rfl (hG.trans (hB.mono hG.size)) hB
                · intro _ k a w' hG hout hpre K hK
                  obtain ⟨p0, p1, _⟩ := hpre
                  have q102 := ev_of (show a.eval (.tmp 102) = .bool true from p0)
                  have q106 := ev_of (show a.eval (.tmp 106) = .bool gn from p1)
                  clear hout p0 p1
                  go_step
                  exact hK _ _ rfl hG (Below.refl _ _)
                · intro _ k a w' hG hout hpre K hK
                  obtain ⟨p0, p1, _⟩ := hpre
                  have q96 := ev_of (show a.eval (.tmp 96) = .bool gn from p0)
                  have q107 := ev_of (show a.eval (.tmp 107) = .bool gn from p1)
                  have he : (gn == gn) = true := by simp
                  clear hout p0 p1
                  go_step
                  exact hK _ _ rfl hG (Below.refl _ _)
                · intro _ k a w' hG hout hpre K hK
                  obtain ⟨p0, p1, _⟩ := hpre
                  have q92 := ev_of (show a.eval (.tmp 92) = .bool true from p0)
                  have q108 := ev_of (show a.eval (.tmp 108) = .bool true from p1)
                  clear hout p0 p1
                  go_step
                  exact hK _ _ rfl hG (Below.refl _ _)
                · intro _ k a w' hG hout hpre K hK
                  obtain ⟨p0, _⟩ := hpre
                  have q109 := ev_of (show a.eval (.tmp 109) = .bool true from p0)
                  clear hout p0
                  go_step
                  exact hK _ _ rfl hG (Below.refl _ _)
              · intro vs w2 hG hlen hV
                match vs, hlen, hV with
                | v0 :: v1 :: v2 :: v3 :: v4 :: v5 :: v6 :: v7 :: v8 :: v9 :: v10 :: v11 :: v12 :: v13 :: v14 :: v15 :: v16 :: v17 :: v18 :: v19 :: v20 :: v21 :: v22 :: v23 :: v24 :: v25 :: v26 :: v27 :: v28 :: v29 :: v30 :: v31 :: v32 :: v33 :: v34 :: v35 :: v36 :: v37 :: v38 :: v39 :: v40 :: v41 :: v42 :: v43 :: v44 :: v45 :: v46 :: v47 :: v48 :: v49 :: v50 :: v51 :: v52 :: v53 :: v54 :: v55 :: v56 :: v57 :: v58 :: v59 :: v60 :: v61 :: v62 :: v63 :: v64 :: v65 :: v66 :: v67 :: v68 :: v69 :: v70 :: v71 :: v72 :: v73 :: v74 :: v75 :: v76 :: v77 :: v78 :: [], _, hV =>
                  obtain rfl : v78 = .bool true := (hV 78 2 v78 rfl rfl)
                  clear hV
                  simp only [putsL, List.append_eq, List.cons_append, List.nil_append, List.tail_cons, List.headD_cons]
                  simp only [Act.put, List.setIfInBounds_toArray, List.set_cons_succ, List.set_cons_zero]
                  have HZ : Hid (Below w.heap.size w w2) := HWc.out.trans (hG.mono HWc.out.size)
                  clear hG
                  go_wp2_with (fail)
                  go_ret
                  exact ⟨rfl, HZ.out⟩
end Go.Proofs.YtkgmcjeficgciaaDoor
