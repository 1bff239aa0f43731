/-
  Two stores side by side, the program's and the document's: they hold the same, and share no block.
-/
import Derived.Test.YtggecfecodoigaaStoreNil
namespace Go.Proofs.Ytggecfecodoigaa
open Go Go.RowKit

structure Both (w : World) (base : Nat) (f : StF) (rf : RfF) (s : StS) : Prop where
  prog : StAt w base f s
  ref : RAt w base rf s
  apart : ∀ k, f.has k → ¬ rf.has k
/-- The program's store has gone on to s1, the document's not yet. -/
structure Mid (w : World) (base : Nat) (f : StF) (rf : RfF) (s s1 : StS) (f1 : StF) (w1 : World) : Prop where
  b : f1.b = f.b
  prog : StAt w1 base f1 s1
  ref : RAt w1 base rf s
  apart : ∀ k, f1.has k → ¬ rf.has k
  fresh : ∀ k, f1.has k → f.has k ∨ w.heap.size ≤ k
  moved : Moved f.has w w1
def BothEnd (w : World) (base : Nat) (f : StF) (rf : RfF) (s : StS) (w' : World) : Prop :=
  ∃ (f' : StF) (rf' : RfF), Both w' base f' rf' s ∧ f'.b = f.b ∧ rf'.b = rf.b ∧ (∀ k, f'.has k → f.has k ∨ w.heap.size ≤ k) ∧ (∀ k, rf'.has k → rf.has k ∨ w.heap.size ≤ k) ∧ Moved (fun k => f.has k ∨ rf.has k) w w'
section
variable {w w1 w2 : World} {base : Nat} {f f1 : StF} {rf : RfF} {s s1 : StS}
theorem Both.far (h : Both w base f rf s) (hB : Below w.heap.size w w1) : Both w1 base f rf s := ⟨h.prog.far hB, h.ref.far hB, h.apart⟩
theorem Both.step (h : Both w base f rf s) (h1 : SEnd w base f s1 w1) : ∃ f1, Mid w base f rf s s1 f1 w1 := by
  obtain ⟨f1, hA, hb, hf, hk⟩ := h1
  refine ⟨f1, hb, hA, h.ref.keep fun k hk' => hk.block k (h.ref.lt hk') fun e => h.apart k e hk', fun k h1 h2 => ?_, hf, hk.moved⟩
  rcases hf k h1 with h3 | h3
  · exact h.apart k h3 h2
  · have := h.ref.lt h2
    omega
theorem Mid.far (h : Mid w base f rf s s1 f1 w1) (hB : Below w1.heap.size w1 w2) : Mid w base f rf s s1 f1 w2 :=
  ⟨h.b, h.prog.far hB, h.ref.far hB, h.apart, h.fresh, h.moved.then_ (Moved.of_below hB)⟩
theorem Moved.wide {H H1 : Nat → Prop} {w w1 : World} (h : Moved H w w1) (hs : ∀ k, H k → H1 k) : Moved H1 w w1 := ⟨h.os, h.tape, h.output, h.size, fun k hk hn => h.block k hk fun e => hn (hs k e)⟩
theorem Mid.done (h : Mid w base f rf s s1 f1 w1) (h2 : REnd w1 base rf s1 w2) : BothEnd w base f rf s1 w2 := by
  obtain ⟨rf', hR, hb, hf, hk⟩ := h2
  refine ⟨f1, rf', ⟨h.prog.keep fun k hk' => hk.block k (h.prog.lt hk') fun e => h.apart k hk' e, hR, fun k h1 h2 => ?_⟩, h.b, hb, h.fresh, fun k hk' => (hf k hk').imp id fun h3 => Nat.le_trans h.moved.size h3,
    (h.moved.wide fun k e => .inl e).then_ (hk.wide fun k e => .inr e)⟩
  rcases hf k h2 with h3 | h3
  · exact h.apart k h1 h3
  · have := h.prog.lt h1
    omega
theorem BothEnd.far (h : BothEnd w base f rf s w1) (hB : Below w1.heap.size w1 w2) : BothEnd w base f rf s w2 := by
  obtain ⟨f', rf', h1, h2, h3, h4, h5, h6⟩ := h
  exact ⟨f', rf', h1.far hB, h2, h3, h4, h5, h6.then_ (Moved.of_below hB)⟩
theorem BothEnd.from (hB : Below w.heap.size w w1) (h : BothEnd w1 base f rf s w2) : BothEnd w base f rf s w2 := by
  obtain ⟨f', rf', h1, h2, h3, h4, h5, h6⟩ := h
  exact ⟨f', rf', h1, h2, h3, fun k hk => (h4 k hk).imp id fun h => Nat.le_trans hB.size h, fun k hk => (h5 k hk).imp id fun h => Nat.le_trans hB.size h, (Moved.of_below hB).then_ h6⟩
/-- The document's Sync where its calls are spent. -/
theorem rsync_off (h : RAt w base rf s) (h0 : s.C = 0) : Calls Try.prog 43 #[.pointer (some ⟨rf.b, 0, none⟩)] w fun e w' => e = .returned (.int .i64 31) ∧ w' = w := by
  have HS := Lib.hid (And.intro h h0)
  clear h h0
  go_enter Try.func43, Try.ntmps43
  go_wp2_with (fail)
  refine (rspend_no HS.out.1 HS.out.2).mono ?_
  rintro e w9 ⟨rfl, rfl⟩
  dsimp only
  go_wp2_with (fail)
  go_ret
  exact ⟨rfl, rfl⟩
/-- What an act leaves of the two. -/
def PEnd (w : World) (base : Nat) (f : StF) (rf : RfF) (s : StS) (e : Ending) (w' : World) : Prop :=
  e = .returned (.bool true) ∧ ∃ s' : StS, s'.L.length = s.L.length ∧ s'.W.length ≤ s.W.length + 1 ∧ BothEnd w base f rf s' w'
theorem PEnd.of (hL : s1.L.length = s.L.length) (hW : s1.W.length ≤ s.W.length + 1) (h : BothEnd w base f rf s1 w1) : PEnd w base f rf s (.returned (.bool true)) w1 := ⟨rfl, _, hL, hW, h⟩
end
theorem whole_asideR {w w5 : World} {base : Nat} {rf : RfF} {s : StS} (hA : RAt w5 base rf s) (hw : w.heap.size ≤ base) {ba a : Option Addr} {bs : List (BitVec 8)} (hb : SrcP w ba bs.length bs)
    (ha : (a = ba ∧ bs.length = 1) ∨ ∀ ab, a.map (·.block) = some ab → w5.heap.size ≤ ab) : ∀ ab, a.map (·.block) = some ab → ¬ rf.has ab := fun ab h1 hf => by
  rcases ha with ⟨e, hl⟩ | ha
  · rcases hb with h | ⟨ab', off', e', hc⟩
    · omega
    · rw [e, e'] at h1
      have h2 : ab' = ab := by injection h1
      have := block_lt_of_cell (hc 0 (by omega))
      have := hA.ge hf
      dsimp only at *
      omega
  · have := ha ab h1
    have := hA.lt hf
    omega
/-- The ninth that an act's number falls in. -/
def ninth (k : Int) : Int := (IntKind.u64.wrap k).tmod 9
theorem ninth_nine (k : Int) : ninth k = 0 ∨ ninth k = 1 ∨ ninth k = 2 ∨ ninth k = 3 ∨ ninth k = 4 ∨ ninth k = 5 ∨ ninth k = 6 ∨ ninth k = 7 ∨ ninth k = 8 := by
  have h0 : 0 ≤ IntKind.u64.wrap k := by
    rw [IntKind.wrap_u64]
    omega
  unfold ninth
  rw [Int.tmod_eq_emod_of_nonneg h0]
  omega
end Go.Proofs.Ytggecfecodoigaa
