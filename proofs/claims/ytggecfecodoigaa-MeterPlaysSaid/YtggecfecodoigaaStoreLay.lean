/-
  The contract of a store's Lay: what waits is left out by slices.DeleteFunc.
-/
import Derived.Test.YtggecfecodoigaaStoreLoad
namespace Go.Proofs.Ytggecfecodoigaa
open Go Go.RowKit

set_option maxRecDepth 100000 in
set_option maxHeartbeats 400000 in
theorem lay1_any {w : World} {x : Nat × List (BitVec 8)} (hx : x.2.length = 128) {bx k : Nat} (hb : w.cell? ⟨bx, 0, none⟩ = some (.int .i64 (k : Int))) :
    Calls Try.prog 39 #[.agg (waitC x).toArray, .pointer (some ⟨bx, 0, none⟩)] w fun e w' => e = .returned (.bool (x.1 == k)) ∧ Below w.heap.size w w' := by
  obtain ⟨cx, hcx⟩ : ∃ cx, cx = (waitC x).toArray := ⟨_, rfl⟩
  have h0 : cx[0]? = some (.int .i64 (x.1 : Int)) := by rw [hcx]; rfl
  have hs : cx.size = 129 := by rw [hcx]; simp [waitC_length hx]
  rw [← hcx]
  have HX := Lib.hid (And.intro hcx (And.intro h0 hs))
  obtain ⟨w1, hw1⟩ : ∃ W, W = w.alloc (.cells cx 78) := ⟨_, rfl⟩
  have b1 : w1.cell? ⟨bx, 0, none⟩ = some (.int .i64 (k : Int)) := by rw [hw1, World.cell?_alloc_some _ _ _ (by rw [hb]; rfl)]; exact hb
  have b0 : w1.cell? ⟨w.heap.size, 0, none⟩ = some (.int .i64 (x.1 : Int)) := by
    rw [hw1, cell_of_row _ _ _ _ _ _ (heap_alloc_new w _)]
    exact h0
  have hB : Below w.heap.size w w1 := by rw [hw1]; exact (Below.refl _ w).alloc (Nat.le_refl _) _
  have HB := Lib.hid (And.intro hw1 (And.intro b1 (And.intro b0 hB)))
  have he : ((x.1 : Int) == (k : Int)) = (x.1 == k) := by
    rw [Bool.eq_iff_iff, beq_iff_eq, beq_iff_eq]
    omega
  have HE := Lib.hid he
  clear h0 hs hcx hb b1 b0 hB hw1 he
  go_enter Try.func39, Try.ntmps39
  go_upto_region 1 with (fail)
  rw [← HB.out.1]
  obtain ⟨hw1, b1, b0, hB⟩ := HB.out
  clear hw1 HB
  have HB := Lib.hid hB
  clear hB
  have he := HE.out
  go_wp2_with (fail)
  go_ret
  exact ⟨rfl, HB.out⟩
/-- The first place at which a write lies that is for block k, from i on. -/
def seekK (W : List (Nat × List (BitVec 8))) (k : Nat) : Int := if _ : (W.findIdx fun x => x.1 == k) < W.length then (W.findIdx fun x => x.1 == k : Nat) else -1
theorem seekK_hit (W : List (Nat × List (BitVec 8))) (k i : Nat) (x : Nat × List (BitVec 8)) (hx : W[i]? = some x) (hk : (x.1 == k) = true) (hn : ∀ j < i, ∀ y, W[j]? = some y → (y.1 == k) = false) : seekK W k = (i : Int) := by
  have hi := (List.getElem?_eq_some_iff.1 hx).1
  have e : (W.findIdx fun x => x.1 == k) = i := by
    refine (List.findIdx_eq hi).2 ⟨?_, fun j hj => ?_⟩
    · rw [(List.getElem?_eq_some_iff.1 hx).2]
      exact hk
    · exact hn j hj _ (List.getElem?_eq_getElem (by omega))
  unfold seekK
  rw [e, dif_pos hi]
theorem seekK_miss (W : List (Nat × List (BitVec 8))) (k : Nat) (hn : ∀ j < W.length, ∀ y, W[j]? = some y → (y.1 == k) = false) : seekK W k = -1 := by
  unfold seekK
  rw [dif_neg]
  intro h
  have h2 := List.findIdx_getElem (w := h)
  have h3 := hn _ h _ (List.getElem?_eq_getElem h)
  have h4 : ((W[W.findIdx fun x => x.1 == k]).1 == k) = true := h2
  rw [h3] at h4
  cases h4
set_option maxRecDepth 100000 in
set_option maxHeartbeats 1000000 in
theorem indexW_any {w : World} {base N : Nat} {v : Value} {W : List (Nat × List (BitVec 8))} (ho : w.ownsRow base 78 129 v W.length (waitsC W)) (hW : WaitsIn N W) (hn : W.length ≤ 1000000) {bx k : Nat} (hb : w.cell? ⟨bx, 0, none⟩ = some (.int .i64 (k : Int))) :
    Calls Try.prog 49 #[v, .func (.func 39) #[] #[.pointer (some ⟨bx, 0, none⟩)]] w fun e w' => e = .returned (.int .i64 (seekK W k)) ∧ Below w.heap.size w w' := by
  obtain ⟨wa, wc, rfl⟩ : ∃ wa wc, v = .slice wa W.length wc := by
    rcases ho.2 with ⟨hv, hn⟩ | ⟨g, cap, cur, hv, _, _, h1, h2, _⟩
    · exact ⟨none, 0, by rw [hv, hn]⟩
    · exact ⟨_, _, hv⟩
  have HS := Lib.hid (And.intro ho (And.intro hW hb))
  clear ho hW hb
  go_enter Try.func49, Try.ntmps49
  go_wp2_with (fail)
  go_loopw [8] (fun u wr => ∃ i : Nat, i ≤ W.length ∧ u = .int .i64 (i : Int) ∧ Below w.heap.size w wr ∧ ∀ j < i, ∀ y, W[j]? = some y → (y.1 == k) = false) (fun u _ => W.length - (intOf u).toNat)
  case atStart => exact ⟨0, Nat.zero_le _, rfl, Below.refl _ _, fun j h => absurd h (Nat.not_lt_zero _)⟩
  case round =>
    obtain ⟨i, hi, rfl, hB, hno⟩ := hrel
    have HR := Lib.hid (And.intro hB hno)
    clear hB hno
    by_cases hlt : i < W.length
    · have hi0 : (0 : Int) ≤ (i : Int) ∧ (i : Int) < W.length := by omega
      obtain ⟨x, hx⟩ : ∃ x, W[i]? = some x := ⟨_, List.getElem?_eq_getElem hlt⟩
      have hin := HS.out.2.1 x (List.mem_of_getElem? hx)
      have hwr := own_move (w' := wr) HS.out.1 fun g hg => HR.out.1.block g (World.ownsRow.lt HS.out.1 g hg).2
      obtain ⟨q, rfl, hq⟩ := wait_range hwr HS.out.2.1 hx
      have hbr : wr.cell? ⟨bx, 0, none⟩ = some (.int .i64 (k : Int)) := by
        rw [World.cell?_of_block (w := w) (HR.out.1.block bx (block_lt_of_cell HS.out.2.2))]
        exact HS.out.2.2
      have hcall := lay1_any (w := wr) hin.2 hbr
      have HX := Lib.hid (And.intro hx (And.intro hin (And.intro hq hcall)))
      obtain ⟨cx, hcx⟩ : ∃ cx, cx = waitC x := ⟨_, rfl⟩
      obtain ⟨tf, htf⟩ : ∃ b, b = (x.1 == k) := ⟨_, rfl⟩
      have HT := Lib.hid (And.intro htf hcx)
      have hcl : cx.length = 129 := by rw [hcx]; exact waitC_length hin.2
      rw [← hcx, ← htf] at hcall
      rw [← hcx] at hq
      have HQ := Lib.hid (And.intro hq (And.intro hcl hcall))
      clear hx hin hwr hq hbr hcall hcl hcx htf hlt
      go_upto_region 4 with (fail)
      refine wp_region_lit ?_
      iterate 12 go_step
      refine wpList_load_mid rfl _ _ rfl q (i * 129) rfl cx _ HQ.out.1 Try.underlying78 rfl (by rw [info_wr, HQ.out.2.1]) ?_
      dsimp only
      go_wp2_with (fail)
      refine HQ.out.2.2.mono ?_
      rintro e w9 ⟨rfl, hB9⟩
      have hB9' := HR.out.1.trans (hB9.mono HR.out.1.size)
      have H9 := Lib.hid hB9'
      clear hB9 hB9'
      dsimp only
      cases tf
      · have hno : ∀ j < i + 1, ∀ y, W[j]? = some y → (y.1 == k) = false := fun j hj y hy => by
          rcases Nat.lt_or_ge j i with h | h
          · exact HR.out.2 j h y hy
          · obtain rfl : j = i := by omega
            rw [HX.out.1] at hy
            obtain rfl : x = y := Option.some.inj hy
            exact HT.out.1.symm
        have HN := Lib.hid hno
        clear hno
        go_wp2_with (fail)
        exact ⟨⟨i + 1, by omega, by go_num, H9.out, HN.out⟩, by simp [intOf]; omega⟩
      · have hs := seekK_hit W k i x HX.out.1 HT.out.1.symm HR.out.2
        have HS2 := Lib.hid hs
        clear hs
        go_wp2_with (fail)
        go_ret
        exact ⟨by rw [HS2.out]; rfl, H9.out⟩
    · obtain rfl : i = W.length := by omega
      have hs := seekK_miss W k HR.out.2
      have HS2 := Lib.hid hs
      clear hs
      go_wp2_with (fail)
      go_ret
      exact ⟨by rw [HS2.out]; rfl, HR.out.1⟩
end Go.Proofs.Ytggecfecodoigaa
