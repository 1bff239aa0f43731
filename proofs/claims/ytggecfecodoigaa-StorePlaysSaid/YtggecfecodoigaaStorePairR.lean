/-
  The counts of the two stores.
-/
import Derived.Test.YtggecfecodoigaaStorePairs
namespace Go.Proofs.Ytggecfecodoigaa
open Go Go.RowKit

section
variable {w : World} {base : Nat} {f : StF} {rf : RfF} {s : StS}
theorem introw_row {g : Nat} {R : List Int} {t : TypeId} {fr : Nat × Nat} (h : w.heap[g]? = some (.cells (rowR R) t fr)) : IntRow w (some ⟨g, 0, none⟩) R := by
  refine .inr ⟨g, rfl, fun j hj => ?_⟩
  rw [cell_of_row w g j _ t fr h]
  simp [rowR, List.getD_eq_getElem?_getD, hj]
theorem pair_reads (h : Both w base f rf s) (hb : base ≤ w.heap.size) :
    Calls Try.prog 17 #[.pointer (some ⟨f.b, 0, none⟩)] w (fun e w' => e = .returned (.slice (some ⟨f.r, 0, none⟩) s.R.length s.R.length) ∧ w'.heap[f.r]? = some (.cells (rowR s.R) 3 (0, 0)) ∧ SEnd w base f s.zeroed w') ∧
    ∀ f1 w3, Mid w base f rf s s.zeroed f1 w3 → w3.heap[f.r]? = some (.cells (rowR s.R) 3 (0, 0)) → Calls Try.prog 48 #[.pointer (some ⟨rf.b, 0, none⟩)] w3
      (fun e w' => ∃ a c, e = .returned (.slice a s.R.length c) ∧ IntRow w' (some ⟨f.r, 0, none⟩) s.R ∧ IntRow w' a s.R ∧ REnd w3 base rf s.zeroed w') := by
  have hRl : s.R.length = s.L.length := h.prog.ok.reads
  refine ⟨(sreads_any h.prog hb).mono ?_, fun f1 w3 hM hr => (rreads_any hM.ref (Nat.le_trans hb hM.moved.size)).mono ?_⟩
  · rintro e w' ⟨rfl, h1, h2, _⟩
    exact ⟨by rw [hRl], h1, h2⟩
  · rintro e w' ⟨rfl, hO, rf', hR, hrb, hrf, hmv⟩
    have hr' : w'.heap[f.r]? = some (.cells (rowR s.R) 3 (0, 0)) := (hmv.block f.r (Array.getElem?_eq_some_iff.1 hr).1 fun e => h.apart f.r (.inr (.inr (.inr (.inl rfl)))) (.inl e)).trans hr
    obtain ⟨_, _, ⟨a, c, hcv⟩⟩ := hM.ref.slice
    refine ⟨a, c, by rw [hcv, hRl], introw_row hr', ?_, rf', hR, hrb, fun k hk => (hrf k hk).imp And.left id, hmv.wide fun k e => .inl e⟩
    by_cases h0 : s.R.length = 0
    · exact .inl h0
    · obtain ⟨g, gc, hgv, hcell⟩ : ∃ g gc, rf.cv = .slice (some ⟨g, 0, none⟩) s.R.length gc ∧ ∀ j < s.R.length, w'.cell? ⟨g, j, none⟩ = some (.int .i64 (s.R.getD j 0)) := by
        obtain ⟨hl, ⟨hv, hn⟩ | ⟨g, cap, cur, hv, _, hg, h1, _, h3, h4⟩⟩ := hO
        · rw [countC, List.length_map] at hn
          omega
        · refine ⟨g, cap, by rw [hv]; simp [countC], fun j hj => ?_⟩
          rw [cell_of_row w' g j _ _ _ hg]
          have h5 := congrArg (fun l => l[j]?) h4
          have hj2 : j < (countC s.R).length * 1 := by simp [countC]; exact hj
          simp only [List.getElem?_take, if_pos hj2] at h5
          rw [← Array.getElem?_toList, h5]
          simp [countC, List.getD_eq_getElem?_getD, hj]
      rw [hcv] at hgv
      injection hgv with e1 _ _
      exact .inr ⟨g, e1, hcell⟩
end
end Go.Proofs.Ytggecfecodoigaa
