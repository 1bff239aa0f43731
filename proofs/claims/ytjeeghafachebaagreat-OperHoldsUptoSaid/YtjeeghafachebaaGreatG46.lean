/-
  Part 46 of 53 of what the proof leans on.
-/
import Derived.Test.YtjeeghafachebaaGreatG44
import Derived.Test.YtjeeghafachebaaGreatG45
namespace Go.Proofs.YtjeeghafachebaaGreat
open Go Go.RowKit
theorem newS_ok (q : QueryL) : comeOk q newS.panes 256 := by
  refine ⟨?_, fun x hx => by simp [newS] at hx, by decide⟩
  unfold placedB newS wsP
  split
  · exact decide_eq_true Settled.nil
  · exact decide_eq_true List.Pairwise.nil
theorem fit_of {q : QueryL} {l : List PaneV} {s : StateL} (h : comeOk q s.panes 256) (hs : s.panes = l.map PaneV.p) : FitP l := by
  rw [hs] at h
  exact (h.sorted (by decide)).1
theorem same_of {w : World} {m1 m2 : Int} {pv1 pv2 : Value} {q1 q2 : QueryL} {s1 s2 : StateL} (h1 : HasS w (.agg #[.int .i64 m1, pv1]) s1) (h2 : HasS w (.agg #[.int .i64 m2, pv2]) s2) (c1 : comeOk q1 s1.panes 256) (c2 : comeOk q2 s2.panes 256) :
    Calls Tryz.prog 16 #[.agg #[.int .i64 m1, pv1], .agg #[.int .i64 m2, pv2]] w (Below0 w (.bool (decide (s1 = s2)))) := by
  obtain ⟨p1, l1, e1, a1, b1, d1⟩ := h1; obtain ⟨p2, l2, e2, a2, b2, d2⟩ := h2
  have f1 : m1 = s1.mark ∧ pv1 = p1 := by simpa using e1
  have f2 : m2 = s2.mark ∧ pv2 = p2 := by simpa using e2
  obtain ⟨rfl, rfl⟩ := f1; obtain ⟨rfl, rfl⟩ := f2; have h := osame_any w s1.mark pv1 l1 s2.mark pv2 l2 a1 a2 b1 b2 (fit_of c1 d1) (fit_of c2 d2); rw [← d1, ← d2] at h; exact h
theorem sameOuts_of {w : World} {v1 v2 : Value} {o1 o2 : List OutE} (h1 : HasO w v1 o1) (h2 : HasO w v2 o2) (f1 : outsFit o1) (f2 : outsFit o2) (n1 : o1.length ≤ 1000000) (n2 : o2.length ≤ 1000000) :
    Calls Tryz.prog 13 #[v1, v2] w (Below0 w (.bool (decide (o1 = o2)))) := by
  obtain ⟨a1, c1, l1, rfl, _, e1, g1, rfl⟩ := h1; obtain ⟨a2, c2, l2, rfl, _, e2, g2, rfl⟩ := h2; rw [List.length_map] at n1 n2; exact osameOuts_any w a1 a2 c1 c2 l1 l2 e1 e2 (fun x hx => ⟨g1 x hx, f1 x.o (List.mem_map.2 ⟨x, hx, rfl⟩)⟩) (fun x hx => ⟨g2 x hx, f2 x.o (List.mem_map.2 ⟨x, hx, rfl⟩)⟩) n1 n2
end Go.Proofs.YtjeeghafachebaaGreat
