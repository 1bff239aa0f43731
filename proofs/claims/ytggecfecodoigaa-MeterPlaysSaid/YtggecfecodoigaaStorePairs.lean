/-
  One act at the two stores: both answer the same, and go on to the same.
-/
import Derived.Test.YtggecfecodoigaaStoreBoth
import Derived.Test.YtggecfecodoigaaRefStCrash
import Derived.Test.YtggecfecodoigaaRefStNew
namespace Go.Proofs.Ytggecfecodoigaa
open Go Go.RowKit

section
variable {w : World} {base : Nat} {f : StF} {rf : RfF} {s : StS}
/-- What an act may do to what is held. -/
def Fits (s s1 : StS) : Prop := s1.L.length = s.L.length ∧ s1.W.length ≤ s.W.length + 1
theorem Fits.same (s : StS) : Fits s s := ⟨rfl, Nat.le_succ _⟩
theorem fits_synced (s : StS) : Fits s s.synced := ⟨newest_length _ _, Nat.zero_le _⟩
theorem fits_wrote (s : StS) (k : Nat) (m : List (BitVec 8)) : Fits s (s.wrote k m) := ⟨rfl, by simp [StS.wrote]⟩
theorem fits_layd (s : StS) (k : Nat) (m : List (BitVec 8)) : Fits s (s.layd k m) := ⟨by simp [StS.layd], by
  have := List.length_filter_le (fun x : Nat × List (BitVec 8) => !(x.1 == k)) s.W
  simp [StS.layd]
  omega⟩
theorem fits_crashed (s : StS) (keep : List Bool) (t c : Int) : Fits s (s.crashed keep t c) := ⟨laid_length _ _ _ _, Nat.zero_le _⟩
theorem fits_loaded (s : StS) (L0 : List (List (BitVec 8))) (h : L0.length = s.L.length) : Fits s (s.loaded L0) := ⟨h, Nat.zero_le _⟩
theorem pair_sync (h : Both w base f rf s) (hW : s.W.length < 1000) : ∃ (v : Int) (s1 : StS), Fits s s1 ∧
    Calls Try.prog 12 #[.pointer (some ⟨f.b, 0, none⟩)] w (fun e w' => e = .returned (.int .i64 v) ∧ SEnd w base f s1 w') ∧
    ∀ f1 w3, Mid w base f rf s s1 f1 w3 → Calls Try.prog 43 #[.pointer (some ⟨rf.b, 0, none⟩)] w3 (fun e w' => e = .returned (.int .i64 v) ∧ REnd w3 base rf s1 w') := by
  by_cases h0 : s.C = 0
  · refine ⟨31, s, Fits.same s, (ssync_off h.prog h0).mono ?_, fun f1 w3 hM => (rsync_off hM.ref h0).mono ?_⟩
    · rintro e w' ⟨rfl, rfl⟩
      exact ⟨rfl, SEnd.same h.prog⟩
    · rintro e w' ⟨rfl, rfl⟩
      exact ⟨rfl, REnd.same hM.ref⟩
  · exact ⟨0, _, fits_synced s, ssync_any h.prog h0, fun f1 w3 hM => rsync_any hM.ref h0 hW⟩
theorem pair_spend (h : Both w base f rf s) : ∃ (v : Int) (s1 : StS), Fits s s1 ∧
    Calls Try.prog 13 #[.pointer (some ⟨f.b, 0, none⟩)] w (fun e w' => e = .returned (.int .i64 v) ∧ SEnd w base f s1 w') ∧
    ∀ f1 w3, Mid w base f rf s s1 f1 w3 → Calls Try.prog 46 #[.pointer (some ⟨rf.b, 0, none⟩)] w3 (fun e w' => e = .returned (.int .i64 v) ∧ REnd w3 base rf s1 w') := by
  by_cases h0 : s.C = 0
  · refine ⟨31, s, Fits.same s, (sspend_no h.prog h0).mono ?_, fun f1 w3 hM => (rspend_no hM.ref h0).mono ?_⟩
    · rintro e w' ⟨rfl, rfl⟩
      exact ⟨rfl, SEnd.same h.prog⟩
    · rintro e w' ⟨rfl, rfl⟩
      exact ⟨rfl, REnd.same hM.ref⟩
  · refine ⟨0, s.spent, ⟨rfl, Nat.le_succ _⟩, (sspend_yes h.prog h0).mono ?_, fun f1 w3 hM => (rspend_yes hM.ref h0).mono ?_⟩
    · rintro e w' ⟨rfl, h1, h2⟩
      exact ⟨rfl, f, h1, rfl, fun _ h => .inl h, h2⟩
    · rintro e w' ⟨rfl, h1, h2⟩
      exact ⟨rfl, rf, h1, rfl, fun _ h => .inl h, h2⟩
theorem pair_read (h : Both w base f rf s) (k : Int) (hW : s.W.length < 1000) : ∃ (v : Int) (m : List (BitVec 8)) (s1 : StS), Fits s s1 ∧
    Calls Try.prog 8 #[.pointer (some ⟨f.b, 0, none⟩), .int .i64 k] w (fun e w' => ∃ a c, e = .returned (.tuple #[.slice a m.length c, .int .i64 v]) ∧ SrcN w.heap.size w' a m ∧ SEnd w base f s1 w') ∧
    ∀ f1 w3, Mid w base f rf s s1 f1 w3 → Calls Try.prog 42 #[.pointer (some ⟨rf.b, 0, none⟩), .int .i64 k] w3 (fun e w' => e = .returned (.tuple #[Sv m, .int .i64 v]) ∧ REnd w3 base rf s1 w') := by
  by_cases hk : 0 ≤ k ∧ k < (s.L.length : Int)
  · obtain ⟨n, rfl⟩ : ∃ n : Nat, k = (n : Int) := ⟨k.toNat, by omega⟩
    have hn : n < s.L.length := by omega
    by_cases h0 : s.C = 0
    · refine ⟨31, [], s, Fits.same s, (sread_off h.prog hk h0).mono ?_, fun f1 w3 hM => (rread_off hM.ref hn h0).mono ?_⟩
      · rintro e w' ⟨rfl, rfl⟩
        exact ⟨none, 0, rfl, .inl rfl, SEnd.same h.prog⟩
      · rintro e w' ⟨rfl, rfl⟩
        exact ⟨rfl, REnd.same hM.ref⟩
    · refine ⟨0, s.new'.getD n [], s.told n, ⟨rfl, Nat.le_succ _⟩, (sread_any h.prog hn h0).mono ?_, fun f1 w3 hM => (rread_any hM.ref hn h0 hW).mono ?_⟩
      · rintro e w' ⟨a, c, rfl, h1, h2, h3⟩
        exact ⟨a, c, by rw [h.prog.ok.new'.at (by rw [new'_length]; exact hn)], h1, f, h2, rfl, fun _ h => .inl h, h3⟩
      · rintro e w' ⟨rfl, h1, h2⟩
        exact ⟨rfl, rf, h1, rfl, fun _ h => .inl h, h2⟩
  · refine ⟨32, [], s, Fits.same s, (sread_range h.prog (by omega)).mono ?_, fun f1 w3 hM => (rread_range hM.ref (by omega)).mono ?_⟩
    · rintro e w' ⟨rfl, rfl⟩
      exact ⟨none, 0, rfl, .inl rfl, SEnd.same h.prog⟩
    · rintro e w' ⟨rfl, rfl⟩
      exact ⟨rfl, REnd.same hM.ref⟩
theorem pair_crash (h : Both w base f rf s) (ka : Option Addr) (kc : Nat) (keep : List Bool) (t c : Int) (hk : KeepAt w ka keep) (hka : ∀ ab, keep.length ≠ 0 → ka.map (·.block) = some ab → ¬ f.has ab) (hkr : ∀ ab, keep.length ≠ 0 → ka.map (·.block) = some ab → ¬ rf.has ab) (hW : s.W.length < 1000) :
    Calls Try.prog 10 #[.pointer (some ⟨f.b, 0, none⟩), .slice ka keep.length kc, .int .i64 t, .int .i64 c] w (fun e w' => e = .returned (.tuple #[]) ∧ SEnd w base f (s.crashed keep t c) w') ∧
    ∀ f1 w3, Mid w base f rf s (s.crashed keep t c) f1 w3 → Calls Try.prog 32 #[.pointer (some ⟨rf.b, 0, none⟩), .slice ka keep.length kc, .int .i64 t, .int .i64 c] w3 (fun e w' => e = .returned (.tuple #[]) ∧ REnd w3 base rf (s.crashed keep t c) w') := by
  refine ⟨scrash_any h.prog ka kc keep t c hk hka, fun f1 w3 hM => rcrash_any hM.ref ka kc keep t c ?_ hkr hW⟩
  rcases hk with h1 | ⟨b, off, rfl, h2⟩
  · exact .inl h1
  · by_cases h0 : keep.length = 0
    · exact .inl h0
    · refine .inr ⟨b, off, rfl, fun j hj => ?_⟩
      have hb := block_lt_of_cell (h2 j hj)
      rw [World.cell?_of_block (w := w) (hM.moved.block b hb (hka b h0 rfl))]
      exact h2 j hj
theorem pair_write (h : Both w base f rf s) (k : Int) (a : Option Addr) (c : Nat) (m : List (BitVec 8)) (hs : SrcA f w a m) (hb : base ≤ w.heap.size) (hW : s.W.length < 1000) : ∃ (v : Int) (s1 : StS), Fits s s1 ∧
    Calls Try.prog 11 #[.pointer (some ⟨f.b, 0, none⟩), .int .i64 k, .slice a m.length c] w (fun e w' => e = .returned (.int .i64 v) ∧ SEnd w base f s1 w') ∧
    ∀ f1 w3, Mid w base f rf s s1 f1 w3 → Calls Try.prog 41 #[.pointer (some ⟨rf.b, 0, none⟩), .int .i64 k, Sv m] w3 (fun e w' => e = .returned (.int .i64 v) ∧ REnd w3 base rf s1 w') := by
  by_cases hk : 0 ≤ k ∧ k < (s.L.length : Int)
  · obtain ⟨n, rfl⟩ : ∃ n : Nat, k = (n : Int) := ⟨k.toNat, by omega⟩
    have hn : n < s.L.length := by omega
    by_cases hl : m.length = 128
    · by_cases h0 : s.C = 0
      · rw [hl]
        refine ⟨31, s, Fits.same s, (swrite_off h.prog hk a c h0).mono ?_, fun f1 w3 hM => (rwrite_off hM.ref hn m hl h0).mono ?_⟩
        · rintro e w' ⟨rfl, rfl⟩
          exact ⟨rfl, SEnd.same h.prog⟩
        · rintro e w' ⟨rfl, rfl⟩
          exact ⟨rfl, REnd.same hM.ref⟩
      · refine ⟨0, s.wrote n m, fits_wrote s n m, ?_, fun f1 w3 hM => rwrite_any hM.ref hn m hl h0 (Nat.le_trans hb hM.moved.size) hW⟩
        have := swrite_any h.prog hn a c m hl hs.src h0 (hs.not (by omega)) hb (by omega)
        rw [hl]
        exact this
    · refine ⟨2, s, Fits.same s, (swrite_arg h.prog hk a m.length c hl).mono ?_, fun f1 w3 hM => (rwrite_arg hM.ref hn m hl).mono ?_⟩
      · rintro e w' ⟨rfl, rfl⟩
        exact ⟨rfl, SEnd.same h.prog⟩
      · rintro e w' ⟨rfl, rfl⟩
        exact ⟨rfl, REnd.same hM.ref⟩
  · refine ⟨32, s, Fits.same s, (swrite_range h.prog (by omega) _).mono ?_, fun f1 w3 hM => (rwrite_range hM.ref (by omega) _).mono ?_⟩
    · rintro e w' ⟨rfl, rfl⟩
      exact ⟨rfl, SEnd.same h.prog⟩
    · rintro e w' ⟨rfl, rfl⟩
      exact ⟨rfl, REnd.same hM.ref⟩
theorem SEnd.below (h : StAt w base f s) {w1 : World} (hB : Below w.heap.size w w1) : SEnd w base f s w1 := ⟨f, h.far hB, rfl, fun _ h => .inl h, SKept.of_below hB⟩
theorem pair_lay (h : Both w base f rf s) (k : Int) (a : Option Addr) (c : Nat) (m : List (BitVec 8)) (hs : SrcA f w a m) (hb : base ≤ w.heap.size) (hW : s.W.length < 1000) : ∃ (v : Bool) (s1 : StS), Fits s s1 ∧
    Calls Try.prog 19 #[.pointer (some ⟨f.b, 0, none⟩), .int .i64 k, .slice a m.length c] w (fun e w' => e = .returned (.bool v) ∧ SEnd w base f s1 w') ∧
    ∀ f1 w3, Mid w base f rf s s1 f1 w3 → Calls Try.prog 44 #[.pointer (some ⟨rf.b, 0, none⟩), .int .i64 k, Sv m] w3 (fun e w' => e = .returned (.bool v) ∧ REnd w3 base rf s1 w') := by
  by_cases hk : 0 ≤ k ∧ k < (s.L.length : Int)
  · obtain ⟨n, rfl⟩ : ∃ n : Nat, k = (n : Int) := ⟨k.toNat, by omega⟩
    have hn : n < s.L.length := by omega
    by_cases hl : m.length = 128
    · refine ⟨true, s.layd n m, fits_layd s n m, ?_, fun f1 w3 hM => rlay_any hM.ref hn m hl (Nat.le_trans hb hM.moved.size) hW⟩
      have := slay_any h.prog hn a c m hl hs (by omega)
      rw [hl]
      exact this
    · refine ⟨false, s, Fits.same s, (slay_arg h.prog hn a m.length c hl).mono ?_, fun f1 w3 hM => (rlay_arg hM.ref hn m hl).mono ?_⟩
      · rintro e w' ⟨rfl, hB⟩
        exact ⟨rfl, SEnd.below h.prog hB⟩
      · rintro e w' ⟨rfl, rfl⟩
        exact ⟨rfl, REnd.same hM.ref⟩
  · refine ⟨false, s, Fits.same s, (slay_range h.prog (by omega) _).mono ?_, fun f1 w3 hM => (rlay_range hM.ref (by omega) _).mono ?_⟩
    · rintro e w' ⟨rfl, hB⟩
      exact ⟨rfl, SEnd.below h.prog hB⟩
    · rintro e w' ⟨rfl, rfl⟩
      exact ⟨rfl, REnd.same hM.ref⟩
end
end Go.Proofs.Ytggecfecodoigaa
