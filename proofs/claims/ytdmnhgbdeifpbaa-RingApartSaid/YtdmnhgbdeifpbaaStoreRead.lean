/-
  The contract of a store's Read.
-/
import Derived.Test.YtdmnhgbdeifpbaaStoreWait
import Derived.Test.YtdmnhgbdeifpbaaStoreBytes
namespace Go.Proofs.Ytdmnhgbdeifpbaa
open Go Go.RowKit

theorem i64_wrap64 (n : Int) : IntKind.i64.wrap n = wrap64 n := by
  simp [IntKind.wrap, IntKind.bits, IntKind.signed, wrap64]
  split <;> omega
theorem row_src {w : World} {g : Nat} {L : List (List (BitVec 8))} {t : TypeId} {fr : Nat × Nat} (hg : w.heap[g]? = some (.cells (rowB L) t fr)) (h : Blocks L) {k : Nat} (hk : k < L.length) :
    SrcP w (some ⟨g, k * 128, none⟩) (L.getD k []).length (L.getD k []) := by
  refine .inr ⟨g, k * 128, rfl, fun i hi => ?_⟩
  have h1 := h.at hk
  rw [cell_of_row w g _ _ t fr hg, Nat.mul_comm, rowB_at h k i hk (by omega), List.getElem?_map, List.getElem?_eq_getElem hi]
  show some (B _) = some (B (List.getD _ i 0))
  rw [List.getD_eq_getElem?_getD (l := L.getD k []), List.getElem?_eq_getElem hi]
  rfl
section
variable {w : World} {base : Nat} {f : StF} {s : StS}
theorem sread_range (h : StAt w base f s) {k : Int} (hk : k < 0 ∨ (s.L.length : Int) ≤ k) :
    Calls Try.prog 19 #[.pointer (some ⟨f.b, 0, none⟩), .int .i64 k] w fun e w' => e = .returned (.tuple #[.slice none 0 0, .int .i64 32]) ∧ w' = w := by
  have HS := Lib.hid h
  have HK := Lib.hid hk
  clear h hk
  go_enter Try.func19, Try.ntmps19
  go_wp2_with (fail)
  refine (shas_any HS.out k).mono ?_
  rintro e w1 ⟨rfl, rfl⟩
  rw [decide_eq_false (by have := HK.out; omega)]
  dsimp only
  go_wp2_with (fail)
  go_ret2
  exact ⟨rfl, rfl⟩
theorem sread_off (h : StAt w base f s) {k : Int} (hk : 0 ≤ k ∧ k < (s.L.length : Int)) (h0 : s.C = 0) :
    Calls Try.prog 19 #[.pointer (some ⟨f.b, 0, none⟩), .int .i64 k] w fun e w' => e = .returned (.tuple #[.slice none 0 0, .int .i64 31]) ∧ w' = w := by
  have HS := Lib.hid h
  have HK := Lib.hid hk
  have H0 := Lib.hid h0
  clear h hk h0
  go_enter Try.func19, Try.ntmps19
  go_wp2_with (fail)
  refine (shas_any HS.out k).mono ?_
  rintro e w1 ⟨rfl, rfl⟩
  rw [decide_eq_true HK.out]
  dsimp only
  go_wp2_with (fail)
  refine (soff_any HS.out).mono ?_
  rintro e w1 ⟨rfl, rfl⟩
  rw [decide_eq_true H0.out]
  dsimp only
  go_wp2_with (fail)
  go_ret2
  exact ⟨rfl, rfl⟩
/-- What a read leaves: bytes of its own, and one more is counted. -/
def ReadEnd (w : World) (base : Nat) (f : StF) (s : StS) (k : Nat) (e : Ending) (w' : World) : Prop :=
  ∃ a c, e = .returned (.tuple #[.slice a 128 c, .int .i64 0]) ∧ SrcN w.heap.size w' a (s.new'.getD k []) ∧ StAt w' base f (s.told k) ∧ SKept f w w'
theorem StAt.read (h : StAt w base f s) {k : Nat} : StAt (w.setCell ⟨f.r, k, none⟩ (.int .i64 (IntKind.i64.wrap (s.R.getD k 0 + 1)))) base f (s.told k) := by
  have hR : (rowR s.R).setIfInBounds k (.int .i64 (IntKind.i64.wrap (s.R.getD k 0 + 1))) = rowR (s.R.set k (IntKind.i64.wrap (s.R.getD k 0 + 1))) := by
    simp [rowR, List.map_set]
  have hn : ∀ j, j ≠ f.r → (w.setCell ⟨f.r, k, none⟩ (.int .i64 (IntKind.i64.wrap (s.R.getD k 0 + 1)))).heap[j]? = w.heap[j]? := fun j hj => heap_setCell_other _ _ _ _ hj
  refine ⟨h.ok.told k, (hn _ (row_ty h.obj h.reads (by decide))).trans h.obj, (hn _ (row_ty h.last h.reads (by decide))).trans h.last, (hn _ (row_ty h.new h.reads (by decide))).trans h.new,
    own_move h.waits fun g hg => hn g fun e => own_ty h.waits h.reads (by decide) (e ▸ hg), ?_, h.low, h.ln⟩
  rw [heap_setCell_same w f.r k _ _ _ h.reads, hR]
  rfl
set_option maxRecDepth 100000 in
theorem sread_any (h : StAt w base f s) {k : Nat} (hk : k < s.L.length) (h0 : s.C ≠ 0) :
    Calls Try.prog 19 #[.pointer (some ⟨f.b, 0, none⟩), .int .i64 (k : Int)] w (ReadEnd w base f s k) := by
  have HS := Lib.hid h
  have HK := Lib.hid hk
  have H0 := Lib.hid h0
  have d4 := h.cell4
  obtain ⟨r, hr⟩ : ∃ r, r = s.R.getD k 0 := ⟨_, rfl⟩
  have hkr : k < s.R.length := by rw [h.ok.reads]; exact hk
  have dr : w.cell? ⟨f.r, k, none⟩ = some (.int .i64 r) := by
    rw [cell_of_row _ _ _ _ _ _ h.reads, hr]
    simp [rowR, hkr]
  have fr := frozen_of_row w f.r k _ _ h.reads
  have hkn : (0 : Int) ≤ (k : Int) ∧ (k : Int) < s.L.length := by omega
  obtain ⟨w2, hw2⟩ : ∃ W, W = w.setCell ⟨f.r, k, none⟩ (.int .i64 (wrap64 (r + 1))) := ⟨_, rfl⟩
  have hA1 : StAt w2 base f (s.told k) := by
    have h1 := h.read (k := k)
    rw [← hr, i64_wrap64] at h1
    rw [hw2]
    exact h1
  have d1 : w2.cell? ⟨f.b, 1, none⟩ = some (.slice (some ⟨f.n, 0, none⟩) s.L.length s.L.length) := hA1.cell1
  have hsk : SKept f w w2 := by
    rw [hw2]
    exact SKept.cell (.inr (.inr (.inr (.inl rfl)))) _ _
  have HW := Lib.hid (And.intro hw2 hsk)
  have HA1 := Lib.hid hA1
  have HR := Lib.hid hr
  clear h hk h0 hkr hr hA1 hw2 hsk
  go_enter Try.func19, Try.ntmps19
  go_wp2_with (fail)
  refine (shas_any HS.out k).mono ?_
  rintro e w1 ⟨rfl, rfl⟩
  rw [decide_eq_true hkn]
  dsimp only
  go_wp2_with (fail)
  refine (soff_any HS.out).mono ?_
  rintro e w1 ⟨rfl, rfl⟩
  rw [decide_eq_false H0.out]
  dsimp only
  go_upto_region 8 with (fail)
  rw [← HW.out.1]
  clear d4 dr fr
  have hsl : ∀ w', (Instr.sliceAt 66 (.pointer (some ⟨f.n, k * 128, none⟩)) none none none).run Try.prog w' = .ok (.slice (some ⟨f.n, k * 128, none⟩) 128 128) w' := fun w' => by
    simp [Instr.sliceAt, run_underlying Try.underlying66, Instr.sureAddr, Instr.sliceBounds, Try.sizeOf5, addr_add]
  go_wp2_with (fail)
  obtain ⟨m, hm⟩ : ∃ m, m = s.new'.getD k [] := ⟨_, rfl⟩
  have hml : m.length = 128 := by
    rw [hm]
    exact HS.out.ok.new'.at (by rw [new'_length]; exact HK.out)
  have hsr : SrcP w2 (some ⟨f.n, k * 128, none⟩) m.length m := by
    rw [hm]
    exact row_src HA1.out.new HA1.out.ok.new' (by rw [new'_length]; exact HK.out)
  have HM := Lib.hid (And.intro hm hml)
  refine (sclone_any w2 (some ⟨f.n, k * 128, none⟩) 128 128 m hml.symm hsr (fun h => by cases h) (by omega)).mono ?_
  clear hm hml hsr d1
  rintro e w3 ⟨a, c, rfl, -, -, -, h4, h5⟩
  rw [HM.out.2]
  have HE : Hid (SrcN w1.heap.size w3 a m ∧ StAt w3 base f (s.told k) ∧ SKept f w1 w3) :=
    ⟨h4.mono HW.out.2.size, HA1.out.far h5, HW.out.2.trans (fun _ h => .inl h) (SKept.of_below h5)⟩
  clear h4 h5
  dsimp only
  go_wp2_with (fail)
  go_ret2
  obtain ⟨h1, h2, h3⟩ := HE.out
  rw [HM.out.1] at h1
  exact ⟨a, c, rfl, h1, h2, h3⟩
end
end Go.Proofs.Ytdmnhgbdeifpbaa
