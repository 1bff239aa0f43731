/-
  The contracts of the document's store: Write and Read.
-/
import Derived.Test.YtggecfecodoigaaRefStSmall
namespace Go.Proofs.Ytggecfecodoigaa
open Go Go.RowKit

theorem wpList_build_eq {P : Program} {ops : Array Oper} {rest : List Oper} {o : Oper} {a : Act} {w : World} {Q : Exit → Act → World → Prop} (hg : o.guard = none) (t : TypeId) (parts : Array (Nat × Operand)) (ho : o.op = .build t parts) {cs : Array Value}
    (hb : P.built t (parts.map fun (i, x) => (i, a.eval x)).toList = some cs) (h : wpList P ops Q rest (a.put o.dst (.agg cs)) w) : wpList P ops Q (o :: rest) a w :=
  wpList_build hg t parts ho (by rw [hb]; rfl) (by rw [hb]; exact h)
theorem own_two {w : World} {base base' : Nat} {e e' : TypeId} {m n m' n' : Nat} {v v' : Value} {xs xs' : List Value} (h : w.ownsRow base e m v n xs) (h' : w.ownsRow base' e' m' v' n' xs') (ht : e ≠ e') {g : Nat} (hg : v.ownBlock = some g) : v'.ownBlock ≠ some g := by
  rcases h.2 with ⟨hv, _⟩ | ⟨g1, cap, cur, hv, _, hc, _⟩
  · rw [hv] at hg
    cases hg
  · rw [hv] at hg
    injection hg with hg
    have e1 : g1 = g := hg
    subst e1
    exact own_ty h' hc ht
section
variable {w : World} {base : Nat} {f : RfF} {s : StS}
theorem rwrite_range (h : RAt w base f s) {k : Int} (hk : k < 0 ∨ (s.L.length : Int) ≤ k) (v : Value) :
    Calls Try.prog 41 #[.pointer (some ⟨f.b, 0, none⟩), .int .i64 k, v] w fun e w' => e = .returned (.int .i64 32) ∧ w' = w := by
  obtain ⟨⟨a, c, hl⟩, _⟩ := h.slice
  have d0 := h.cell0
  rw [hl] at d0
  clear h hl
  by_cases h0 : k < 0
  · clear hk
    go_enter Try.func41, Try.ntmps41
    go_wp2_with (fail)
    go_ret
    exact ⟨rfl, rfl⟩
  · have h1 : (s.L.length : Int) ≤ k := by omega
    clear hk
    go_enter Try.func41, Try.ntmps41
    go_wp2_with (fail)
    go_ret
    exact ⟨rfl, rfl⟩
theorem rwrite_arg (h : RAt w base f s) {k : Nat} (hk : k < s.L.length) (b : List (BitVec 8)) (hb : b.length ≠ 128) :
    Calls Try.prog 41 #[.pointer (some ⟨f.b, 0, none⟩), .int .i64 (k : Int), Sv b] w fun e w' => e = .returned (.int .i64 2) ∧ w' = w := by
  obtain ⟨⟨a, c, hl⟩, _⟩ := h.slice
  have d0 := h.cell0
  rw [hl] at d0
  have hk0 : (0 : Int) ≤ (k : Int) ∧ (k : Int) < s.L.length := by omega
  have hlen := fun w' => run_len_Sv w' 3 b
  have hb' : ¬ (b.length : Int) = 128 := by omega
  clear h hl hk hb
  go_enter Try.func41, Try.ntmps41
  go_wp2_with (fail)
  go_ret
  exact ⟨rfl, rfl⟩
theorem rwrite_off (h : RAt w base f s) {k : Nat} (hk : k < s.L.length) (b : List (BitVec 8)) (hb : b.length = 128) (hc : s.C = 0) :
    Calls Try.prog 41 #[.pointer (some ⟨f.b, 0, none⟩), .int .i64 (k : Int), Sv b] w fun e w' => e = .returned (.int .i64 31) ∧ w' = w := by
  have HS := Lib.hid (And.intro h hc)
  obtain ⟨⟨a, c, hl⟩, _⟩ := h.slice
  have d0 := h.cell0
  rw [hl] at d0
  have hk0 : (0 : Int) ≤ (k : Int) ∧ (k : Int) < s.L.length := by omega
  have hlen := fun w' => run_len_Sv w' 3 b
  rw [hb] at hlen
  clear h hl hk hb hc
  go_enter Try.func41, Try.ntmps41
  go_wp2_with (fail)
  refine (rspend_no HS.out.1 HS.out.2).mono ?_
  rintro e w1 ⟨rfl, rfl⟩
  dsimp only
  go_wp2_with (fail)
  go_ret
  exact ⟨rfl, rfl⟩
theorem wpList_slice_rw {ops : Array Oper} {rest : List Oper} {o : Oper} {a : Act} {w : World} {Q : Exit → Act → World → Prop} (hg : o.guard = none) (y : Operand) (ho : o.op = .buildSlice 49 1 #[(0, y)]) (x : Nat × List (BitVec 8))
    (hy : a.eval y = .agg (rwaitC x).toArray) (h : wpList Try.prog ops Q rest (a.put o.dst (.slice (some ⟨w.heap.size, 0, none⟩) 1 1)) (w.alloc (.cells (rwaitC x).toArray 53))) : wpList Try.prog ops Q (o :: rest) a w := by
  refine wpList_plain hg fun K hK => ?_
  have hF : Instr.fill (fun i => some (i * 2, 2)) ((Array.range (1 * 2)).map ((Value.agg #[.int .i64 0, .string ⟨#[]⟩]).cells[· % (Value.agg #[.int .i64 0, .string ⟨#[]⟩]).cells.size]!)) [(0, .agg (rwaitC x).toArray)] = some (rwaitC x).toArray := by kernel_rfl
  obtain ⟨i, hi, hz0, hz1, hz2⟩ := info_parts (P := Try.prog) (e := 53) (z := .agg #[.int .i64 0, .string ⟨#[]⟩]) (size := 2) (bytes := 24) (by kernel_rfl)
  refine wp_buildSlice 49 53 1 _ ho (rwaitC x).toArray i _ Try.underlying49 hi hz0 (by rw [hz1]; decide) (by rw [hz1]; decide) ?_ (hK _ _ h)
  rw [hz1]
  simp only [List.map_toArray, List.map_cons, List.map_nil, hy]
  exact hF
theorem rwrote_end {w1 w2 w3 : World} {k : Nat} {b : List (BitVec 8)} (h0 : s.Ok) (hk : k < s.L.length) (hb : b.length = 128) (hA : RAt w2 base f s.spent) (hM : Moved f.has w1 w2) {v' : Value}
    (ho : w3.ownsRow base 53 2 v' (s.W ++ [(k, b)]).length (rwaitsC (s.W ++ [(k, b)]))) (hg : w2.grownBy w3 f.wv.ownBlock) (hv : v'.ownBlock = f.wv.ownBlock ∨ v'.ownBlock = some w2.heap.size) :
    REnd w1 base f (s.wrote k b) (w3.setCell ⟨f.b, 1, none⟩ v') := by
  have keep : ∀ j, j < w2.heap.size → f.wv.ownBlock ≠ some j → w3.heap[j]? = w2.heap[j]? := fun j hj hn => hg.block j hj fun e => hn e.symm
  have hob := (keep _ (hA.lt (.inl rfl)) (own_ty hA.waits hA.obj (by decide))).trans hA.obj
  have hl : Own w3 base 9 f.lv (s.L.map Sv) := own_move hA.last fun g hg' => keep g (hA.lt (.inr (.inl hg'))) fun e => own_two hA.last hA.waits (by decide) hg' e
  have hc : Own w3 base 3 f.cv (countC s.R) := own_move hA.count fun g hg' => keep g (hA.lt (.inr (.inr (.inr hg')))) fun e => own_two hA.count hA.waits (by decide) hg' e
  refine ⟨{ f with wv := v' }, ⟨h0.wrote hk hb, ?_, own_obj hl hob (by decide) _ _, own_obj ho hob (by decide) _ _, own_obj hc hob (by decide) _ _, hA.low⟩, rfl, fun j hj => ?_, ?_⟩
  · rw [(obj_step hob 1 v').1]
    rfl
  · rcases hj with e | e | e | e
    · exact .inl (.inl e)
    · exact .inl (.inr (.inl e))
    · rcases hv with h | h
      · exact .inl (.inr (.inr (.inl (h ▸ e))))
      · right
        have e' : v'.ownBlock = some j := e
        rw [h] at e'
        injection e' with e'
        have := hM.size
        omega
    · exact .inl (.inr (.inr (.inr e)))
  · exact (hM.then_ (Moved.grown hg fun j hj => .inr (.inr (.inl hj)))).then_ (Moved.cell (.inl rfl) _ _)
set_option maxRecDepth 100000 in
theorem rwrite_any (h : RAt w base f s) {k : Nat} (hk : k < s.L.length) (b : List (BitVec 8)) (hb : b.length = 128) (hc : s.C ≠ 0) (hbase : base ≤ w.heap.size) (hW : s.W.length < 1000) :
    Calls Try.prog 41 #[.pointer (some ⟨f.b, 0, none⟩), .int .i64 (k : Int), Sv b] w fun e w' => e = .returned (.int .i64 0) ∧ REnd w base f (s.wrote k b) w' := by
  have HS := Lib.hid (And.intro h (And.intro hc (And.intro hk (And.intro hb (And.intro hbase hW)))))
  obtain ⟨⟨a, c, hl⟩, _⟩ := h.slice
  have d0 := h.cell0
  rw [hl] at d0
  have hk0 : (0 : Int) ≤ (k : Int) ∧ (k : Int) < s.L.length := by omega
  have hlen := fun w' => run_len_Sv w' 3 b
  rw [hb] at hlen
  clear h hl hk hb hc hbase hW
  go_enter Try.func41, Try.ntmps41
  go_wp2_with (fail)
  refine (rspend_yes HS.out.1 HS.out.2.1).mono ?_
  rintro e w1 ⟨rfl, hA, hM⟩
  have d1 := hA.cell1
  have HA := Lib.hid (And.intro hA hM)
  clear hA hM d0
  dsimp only
  go_upto_region 7 with (fail)
  refine wp_region_lit ?_
  iterate 21 go_step
  have hbl : Try.prog.built 53 [(0, .int .i64 (k : Int)), (1, Sv b)] = some (rwaitC (k, b)).toArray := by kernel_rfl
  refine wpList_build_eq rfl _ _ rfl (cs := (rwaitC (k, b)).toArray) (by simp only [List.map_toArray, List.map_cons, List.map_nil]; exact hbl) ?_
  refine wpList_slice_rw rfl (.tmp 33) rfl (k, b) rfl ?_
  obtain ⟨w2, hw2⟩ : ∃ W, W = w1.alloc (.cells (rwaitC (k, b)).toArray 53) := ⟨_, rfl⟩
  rw [← hw2]
  have hB2 : Below w1.heap.size w1 w2 := by rw [hw2]; exact (Below.refl _ w1).alloc (Nat.le_refl _) _
  have hz2 : w2.heap[w1.heap.size]? = some (.cells (rwaitC (k, b)).toArray 53 (0, 0)) := by rw [hw2, heap_alloc_new]
  have hA2 := HA.out.1.far hB2
  have hbs : base ≤ w2.heap.size := by have h1 := HA.out.2.size; have h2 := hB2.size; have h3 := HS.out.2.2.2.2.1; omega
  refine wpList_push_rw rfl (.tmp 30) (.tmp 34) rfl base f.wv s.W rfl hA2.waits (k, b) w1.heap.size rfl hz2 (by have := HS.out.2.2.2.2.2; omega) hbs ?_
  intro v' w3 ho hg hv
  have hE := rwrote_end HS.out.1.ok HS.out.2.2.1 HS.out.2.2.2.1 hA2 (HA.out.2.then_ (Moved.of_below hB2)) ho hg hv
  have hob : w3.heap[f.b]? = some (.cells #[f.lv, f.wv, .int .i64 (clip s.spent.C), f.cv] 51 (0, 0)) :=
    (hg.block _ (hA2.lt (.inl rfl)) fun e => own_ty hA2.waits hA2.obj (by decide) e.symm).trans hA2.obj
  have hd3 : w3.cell? ⟨f.b, 1, none⟩ = some f.wv := by rw [cell_of_row _ _ _ _ _ _ hob]; rfl
  have hf3 := frozen_of_row w3 f.b 1 _ _ hob
  have hone := own_one ho
  have HE := Lib.hid (And.intro hE (And.intro hd3 (And.intro hf3 hone)))
  clear hw2 hB2 hz2 hA2 hbs ho hg hv hE hob hd3 hf3 hone d1 hbl
  dsimp only
  iterate 6 go_step
  refine wpList_store1 rfl _ (.tmp 37) (.tmp 35) rfl ⟨f.b, 1, none⟩ v' f.wv rfl rfl HE.out.2.2.2.1 HE.out.2.2.2.2 Try.sizeOf49 HE.out.2.1 HE.out.2.2.1 ?_
  go_wp2_with (fail)
  go_ret
  exact ⟨rfl, HE.out.1⟩
end
end Go.Proofs.Ytggecfecodoigaa
