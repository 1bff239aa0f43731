/-
  Worlds that keep what lies in them, and what an operation of a drawn region may leave (StV: while marks may come; StB: while the world grows).
-/
import Derived.Test.YtmjanplhgpcbeaaDoorLocal
import Derived.Test.YtmjanplhgpcbeaaDoorCoreMem
namespace Go.Proofs.YtmjanplhgpcbeaaDoor
open Go Go.RowKit

/-- What lay in a block lies there still (a mark that it may not be written may come). -/
def Lay (w w' : World) : Prop := w.heap.size ≤ w'.heap.size ∧ ∀ (k : Nat) (c : Array Value) (e : TypeId) (fr : Nat × Nat), w.heap[k]? = some (Obj.cells c e fr) → ∃ fr', w'.heap[k]? = some (Obj.cells c e fr')
theorem Lay.refl (w : World) : Lay w w := ⟨Nat.le_refl _, fun _ _ _ fr h => ⟨fr, h⟩⟩
theorem Lay.trans {a b c : World} (h : Lay a b) (k : Lay b c) : Lay a c := ⟨Nat.le_trans h.1 k.1, fun i x e fr hx => by
  obtain ⟨f1, h1⟩ := h.2 i x e fr hx
  exact k.2 i x e f1 h1⟩
theorem Lay.below {w w' : World} (h : Below w.heap.size w w') : Lay w w' := ⟨h.size, fun k _ _ fr hk => ⟨fr, (h.block k (Array.getElem?_eq_some_iff.1 hk).1).trans hk⟩⟩
theorem Lay.cell {w w' : World} (h : Lay w w') {p : Addr} {v : Value} (hv : w.cell? p = some v) : w'.cell? p = some v := by
  simp only [World.cell?] at hv ⊢
  cases hb : w.heap[p.block]? with
  | none => simp [hb] at hv
  | some o =>
    cases o with
    | cells c e fr =>
      obtain ⟨fr', h'⟩ := h.2 _ c e fr hb
      rw [hb] at hv
      rw [h']
      exact hv
    | _ => simp [hb] at hv
theorem SrcP.lay {w w' : World} {a : Option Addr} {n : Nat} {m : List (BitVec 8)} (h : SrcP w a n m) (hL : Lay w w') : SrcP w' a n m := by
  rcases h with h | ⟨ab, off, ha, hc⟩
  · exact .inl h
  · exact .inr ⟨ab, off, ha, fun i hi => hL.cell (hc i hi)⟩
theorem Part.ok.lay {w w' : World} {p : Part} (h : p.ok w) (hL : Lay w w') : p.ok w' := ⟨h.1, h.2.1, h.2.2.lay hL⟩
theorem heap_freeze (w : World) (g n k : Nat) : (w.freeze ⟨g, n, none⟩ 1).heap[k]? = (w.heap[k]?).map fun o => if k = g then (match o with | .cells c e (lo, hi) => .cells c e (if lo == hi then (n, n + 1) else (min lo n, max hi (n + 1))) | o => o) else o := by
  simp only [World.freeze, Nat.one_ne_zero, if_false, Array.getElem?_modify]
  by_cases h : g = k
  · subst h
    simp
    rfl
  · have h' : ¬ k = g := fun e => h e.symm
    simp [h, h']
theorem Lay.freeze (w : World) (g n : Nat) : Lay w (w.freeze ⟨g, n, none⟩ 1) := by
  refine ⟨by simp [World.freeze], fun k c e fr hk => ?_⟩
  rw [heap_freeze, hk]
  by_cases h : k = g
  · obtain ⟨lo, hi⟩ := fr
    refine ⟨if lo == hi then (n, n + 1) else (min lo n, max hi (n + 1)), ?_⟩
    simp only [Option.map_some, h, if_true]
  · exact ⟨fr, by simp [h]⟩
theorem below_freeze {B : Nat} (w : World) (g n : Nat) (h : B ≤ g) : Below B w (w.freeze ⟨g, n, none⟩ 1) := by
  refine ⟨rfl, rfl, rfl, by simp [World.freeze], fun k hk => ?_⟩
  rw [heap_freeze]
  cases w.heap[k]? with
  | none => rfl
  | some o => simp [show ¬ k = g by omega]
theorem run_conv_bytes {P : Program} (T e : Nat) (hT : P.underlying T = some (.slice e)) (he : P.underlying e = some (.int .u8)) (w : World) (g n c : Nat) (cs : Array Value) (ty : TypeId) (fr : Nat × Nat) (hg : w.heap[g]? = some (.cells cs ty fr)) :
    (convert T T (.slice (some ⟨g, 0, none⟩) n c)).run P w = .ok (.slice (some ⟨g, 0, none⟩) n c) (w.freeze ⟨g, cs.size, none⟩ 1) := by
  have hs : (shape g).run P w = .ok (some (ty, cs.size)) w := by
    show Result.ok (w.shape? g) w = _
    simp [World.shape?, hg]
  simp [convert, run_underlying hT, run_underlying he, markStringish, hs]
/-- What an operation leaves, told so that it stays true. -/
structure StV where
  p : World → Value → Prop
  st : ∀ w w' v, Lay w w' → p w v → p w' v
def stTrue : StV := ⟨fun _ _ => True, fun _ _ _ _ h => h⟩
def stEq (x : Value) : StV := ⟨fun _ v => v = x, fun _ _ _ _ h => h⟩
/-- A new slice over a row of its own. -/
def stSl (B0 n : Nat) (cs : Array Value) (e : TypeId) : StV := ⟨fun w v => ∃ g fr, v = .slice (some ⟨g, 0, none⟩) n n ∧ B0 ≤ g ∧ w.heap[g]? = some (.cells cs e fr), fun w w' v h ⟨g, fr, hv, hb, hg⟩ => by
  obtain ⟨fr', h'⟩ := h.2 _ _ _ _ hg
  exact ⟨g, fr', hv, hb, h'⟩⟩
/-- A new slice of slices of bytes. -/
def stParts (n : Nat) (m : List (BitVec 8)) : StV := ⟨fun w v => ∃ g ps, v = .slice (some ⟨g, 0, none⟩) n n ∧ ps.length = n ∧ flat ps = m ∧ PartsAt w (some ⟨g, 0, none⟩) ps ∧ ∀ p ∈ ps, p.ok w, fun w w' v h ⟨g, ps, hv, hn, hm, hP, hok⟩ => by
  refine ⟨g, ps, hv, hn, hm, ?_, fun p hp => (hok p hp).lay h⟩
  rcases hP with hP | ⟨b, o, ha, hc⟩
  · exact .inl hP
  · exact .inr ⟨b, o, ha, fun i p hp => h.cell (hc i p hp)⟩⟩
def vOf (Vs : List StV) : Nat → World → Value → Prop := fun i => (Vs.getD i stTrue).p
theorem vOf_st (Vs : List StV) : ∀ i w w' v, Lay w w' → vOf Vs i w v → vOf Vs i w' v := fun i => (Vs.getD i stTrue).st
theorem ev_of {a : Act} {s : Tmp} {x : Value} (h : a.eval (.tmp s) = x) : a.tmps[s]?.getD undef = x := by simpa [Act.eval] using h
/-- A new row, marked behind its end. -/
theorem conv_new (w : World) (cs : Array Value) (e : TypeId) (n : Nat) :
    Below w.heap.size w ((w.alloc (.cells cs e)).freeze ⟨w.heap.size, n, none⟩ 1) ∧ (∃ fr, ((w.alloc (.cells cs e)).freeze ⟨w.heap.size, n, none⟩ 1).heap[w.heap.size]? = some (.cells cs e fr)) ∧
    w.heap.size < ((w.alloc (.cells cs e)).freeze ⟨w.heap.size, n, none⟩ 1).heap.size := by
  have h := (Lay.freeze (w.alloc (.cells cs e)) w.heap.size n).2 _ _ _ _ (heap_alloc_new w _)
  refine ⟨((Below.refl _ w).alloc (Nat.le_refl _) _).trans (below_freeze _ _ _ (Nat.le_refl _)), h, ?_⟩
  obtain ⟨fr, h⟩ := h
  exact (Array.getElem?_eq_some_iff.1 h).1
/-- What an operation leaves, told so that it stays true while the world grows. -/
structure StB where
  p : World → Value → Prop
  st : ∀ w w' v, Below w.heap.size w w' → p w v → p w' v
def sbTrue : StB := ⟨fun _ _ => True, fun _ _ _ _ h => h⟩
def sbEq (x : Value) : StB := ⟨fun _ v => v = x, fun _ _ _ _ h => h⟩
def vOfB (Vs : List StB) : Nat → World → Value → Prop := fun i => (Vs.getD i sbTrue).p
theorem vOfB_st (Vs : List StB) : ∀ i w w' v, Below w.heap.size w w' → vOfB Vs i w v → vOfB Vs i w' v := fun i => (Vs.getD i sbTrue).st

end Go.Proofs.YtmjanplhgpcbeaaDoor
