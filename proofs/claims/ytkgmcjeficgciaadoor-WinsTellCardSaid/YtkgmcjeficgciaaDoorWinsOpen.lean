/-
  What comes in by a row's reading at layer 8: the library's table of powers, its errors; the statements' arguments.
-/
import Derived.Test.YtkgmcjeficgciaaDoorWinsOwn
import Derived.Test.YtkgmcjeficgciaaDoorRows
import Derived.Test.YtkgmcjeficgciaaDoorCoreOpen
import Derived.ProofKit
import Derived.OpenShut
import Derived.ChangeOld
import Derived.LaidMore
import Derived.Lay
import Derived.Stop.Joined
import Derived.Stop.LaidErr
import Derived.Lib.LaidTab
import Derived.SizedLaws
import Derived.WideKeyPair
import Derived.Shelf.Vars
import Derived.FnData
import Derived.Deep.DeepWitnessRowRef
namespace Go.Proofs.YtkgmcjeficgciaaDoor
open Go Go.ChangeShapes Go.WideShapes Go.ChangeAt Go.WideMaps Go.WideElems Go.RowKit

def laidW : List (String × DataW Unit) := Rows.winsTellRow.laid
theorem tPow : (Tryd.prog.globals[1]?).map (·.type) = some 117 := by kernel_rfl
theorem cells64 : Tryd.prog.cellsOf 92 = 1 := by kernel_rfl
theorem cellsPow : Tryd.prog.cellsOf 117 = 20 := by kernel_rfl
theorem laidW_is : ∃ a b d e, laidW = [a, b, ("internal/strconv.uint64pow10", Lib.tabData .u64 Lib.pow10Tab), ("strconv.ErrRange", .iface "*errors.errorString" (.ptr (.agg [.lit (.string d)]))), ("strconv.ErrSyntax", .iface "*errors.errorString" (.ptr (.agg [.lit (.string e)])))] := by
  have e : (Rows.laid_internal_strconv_uint64pow10 : DataW Unit) = Lib.tabData .u64 Lib.pow10Tab := by kernel_rfl
  unfold laidW Rows.winsTellRow
  dsimp only
  rw [e]
  exact ⟨_, _, _, _, rfl⟩
theorem pow_of_laid {w : World} (h : laidMetH Tryd.prog laidW w) : PowTab w := by
  rw [MakeChecks.laidMetH_plain _ _ _ (by kernel_rfl)] at h
  obtain ⟨a, b, d, e', e⟩ := laidW_is
  rw [e] at h
  exact Lib.tabIs_of_head gPow tPow Tryd.underlying117 Tryd.underlying92 cells64 cellsPow h.tail.tail
theorem gER : Tryd.prog.globalNamed "strconv.ErrRange" = some 3 := by kernel_rfl
theorem gES : Tryd.prog.globalNamed "strconv.ErrSyntax" = some 2 := by kernel_rfl
theorem tER : (Tryd.prog.globals[3]?).map (·.type) = some 94 := by kernel_rfl
theorem tES : (Tryd.prog.globals[2]?).map (·.type) = some 94 := by kernel_rfl
theorem cellsErr : Tryd.prog.cellsOf 132 = 1 := by kernel_rfl
theorem cellsStr : Tryd.prog.cellsOf 9 = 1 := by kernel_rfl
theorem starErr : "*" ++ "errors.errorString" = "*errors.errorString" := by decide
theorem rowErr (u : TypeId) (h : Tryd.prog.typeName? 3 u = some "*errors.errorString") : u = 130 :=
  typeName_ptr_named (nm := "errors.errorString") (by rw [starErr]; kernel_rfl) (by kernel_rfl) (by decide) u (by rw [starErr]; exact h)
theorem errs_of_laid {w : World} (h : laidMetH Tryd.prog laidW w) : ErrsIn w := by
  rw [MakeChecks.laidMetH_plain _ _ _ (by kernel_rfl)] at h
  obtain ⟨a, b, d, e', e⟩ := laidW_is
  rw [e] at h
  obtain ⟨a1, s1, hv1, _⟩ := laid_sentinel h.tail.tail.tail gER tER Tryd.underlying94 rowErr Tryd.underlying130 Tryd.underlying132 rfl rfl Tryd.underlying9 cellsErr cellsStr
  obtain ⟨a2, s2, hv2, _⟩ := laid_sentinel h.tail.tail.tail.tail gES tES Tryd.underlying94 rowErr Tryd.underlying130 Tryd.underlying132 rfl rfl Tryd.underlying9 cellsErr cellsStr
  intro g hg
  rcases hg with rfl | rfl
  · exact ⟨_, World.var?_cell gES hv2 0, .inr ⟨_, _, rfl⟩⟩
  · exact ⟨_, World.var?_cell gER hv1 0, .inr ⟨_, _, rfl⟩⟩
theorem max_of_shape {w : World} (h : w.ShapedOpen Tryd.prog) : MaxIn w :=
  cell_of_shapedOpen_int (P := Tryd.prog) (g := 0) (t := 3) (zero := #[.int .i64 0]) h (of_decide_eq_true (by kernel_rfl)) (by kernel_rfl) rfl (by kernel_rfl) (by kernel_rfl) Tryd.underlying3
theorem wins_of {w : World} (h : laidMetH Tryd.prog laidW w) (hs : w.ShapedOpen Tryd.prog) : WinsIn w := ⟨pow_of_laid h, errs_of_laid h, max_of_shape hs⟩
theorem laid_met (os : Os) (args : Array Value) : laidMetH Tryd.prog laidW ((World.laidAll Tryd.prog os laidW).forCall (fun _ _ => 0) ⟨#[], args, []⟩).memory := by
  rw [MakeChecks.laidMetH_plain _ _ _ (by kernel_rfl)]
  exact laidMet_laidAll _ (by kernel_rfl) (by kernel_rfl)
theorem laid_shaped (os : Os) (args : Array Value) : ((World.laidAll Tryd.prog os laidW).forCall (fun _ _ => 0) ⟨#[], args, []⟩).Shaped Tryd.prog := World.shaped_of_ZipB (by kernel_rfl) (by kernel_rfl)
set_option maxRecDepth 100000 in
theorem cellInt {W : World} {base : Nat} {v : Value} (h : Cell.okWide Tryd.prog W .any base 3 v) : ∃ n, v = .int .i64 n := by
  simp only [Cell.okWide, Tryd.underlying3] at h
  cases v with
  | int k n =>
    simp only [Cell.ok, Tryd.underlying3] at h
    obtain ⟨rfl, _⟩ := h
    exact ⟨n, rfl⟩
  | _ => simp [Cell.ok, Tryd.underlying3] at h
set_option maxRecDepth 100000 in
theorem cellStr {W : World} {base : Nat} {v : Value} (h : Cell.okWide Tryd.prog W .any base 9 v) : ∃ k, v = Sv k := by
  simp only [Cell.okWide, Tryd.underlying9] at h
  cases v with
  | string s =>
    obtain ⟨k, hk, _⟩ := sv_of s
    exact ⟨k, hk⟩
  | _ => simp [Cell.ok, Tryd.underlying9] at h
set_option maxRecDepth 100000 in
theorem open_query {W : World} {base : Nat} {v : Value} (h : Value.okWide Tryd.prog W .any base 23 v) : ∃ x : QueryL, v = .agg x.cells := by
  simp only [Value.okWide, Tryd.underlying23] at h
  obtain ⟨cs, rfl, hsz, ts, hts, _, hc⟩ := h
  rw [show Tryd.prog.cellTypes Tryd.prog.depth 23 = some [3, 3, 3, 3, 3, 3] by kernel_rfl] at hts
  obtain rfl := Option.some.inj hts
  rw [show Tryd.prog.cellsOf 23 = 6 by kernel_rfl] at hsz
  obtain ⟨l⟩ := cs
  match l, hsz with
  | [c0, c1, c2, c3, c4, c5], _ =>
    obtain ⟨_, e, k0⟩ := hc 0 c0 rfl
    cases e
    obtain ⟨_, e, k1⟩ := hc 1 c1 rfl
    cases e
    obtain ⟨_, e, k2⟩ := hc 2 c2 rfl
    cases e
    obtain ⟨_, e, k3⟩ := hc 3 c3 rfl
    cases e
    obtain ⟨_, e, k4⟩ := hc 4 c4 rfl
    cases e
    obtain ⟨_, e, k5⟩ := hc 5 c5 rfl
    cases e
    obtain ⟨z0, rfl⟩ := cellInt k0
    obtain ⟨z1, rfl⟩ := cellInt k1
    obtain ⟨z2, rfl⟩ := cellInt k2
    obtain ⟨z3, rfl⟩ := cellInt k3
    obtain ⟨z4, rfl⟩ := cellInt k4
    obtain ⟨z5, rfl⟩ := cellInt k5
    exact ⟨⟨z0, z1, z2, z3, z4, z5⟩, rfl⟩
set_option maxRecDepth 100000 in
theorem open_window {W : World} {base : Nat} {v : Value} (h : Value.okWide Tryd.prog W .any base 31 v) : ∃ x : WindowL, v = .agg x.cells := by
  simp only [Value.okWide, Tryd.underlying31] at h
  obtain ⟨cs, rfl, hsz, ts, hts, _, hc⟩ := h
  rw [show Tryd.prog.cellTypes Tryd.prog.depth 31 = some [9, 3, 3] by kernel_rfl] at hts
  obtain rfl := Option.some.inj hts
  rw [show Tryd.prog.cellsOf 31 = 3 by kernel_rfl] at hsz
  obtain ⟨l⟩ := cs
  match l, hsz with
  | [c0, c1, c2], _ =>
    obtain ⟨_, e, k0⟩ := hc 0 c0 rfl
    cases e
    obtain ⟨_, e, k1⟩ := hc 1 c1 rfl
    cases e
    obtain ⟨_, e, k2⟩ := hc 2 c2 rfl
    cases e
    obtain ⟨z0, rfl⟩ := cellStr k0
    obtain ⟨z1, rfl⟩ := cellInt k1
    obtain ⟨z2, rfl⟩ := cellInt k2
    exact ⟨⟨z0, z1, z2⟩, rfl⟩
set_option maxRecDepth 100000 in
theorem open_ask {W : World} {base : Nat} {v : Value} (h : Value.okWide Tryd.prog W .any base 25 v) :
    ∃ (x : QueryL) (key : List (BitVec 8)) (t mark : Int), v = .agg #[.int .i64 x.kind, .int .i64 x.size, .int .i64 x.slide, .int .i64 x.late, .int .i64 x.agg, .int .i64 x.k, Sv key, .int .i64 t, .int .i64 mark] := by
  simp only [Value.okWide, Tryd.underlying25] at h
  obtain ⟨cs, rfl, hsz, ts, hts, _, hc⟩ := h
  rw [show Tryd.prog.cellTypes Tryd.prog.depth 25 = some [3, 3, 3, 3, 3, 3, 9, 3, 3] by kernel_rfl] at hts
  obtain rfl := Option.some.inj hts
  rw [show Tryd.prog.cellsOf 25 = 9 by kernel_rfl] at hsz
  obtain ⟨l⟩ := cs
  match l, hsz with
  | [c0, c1, c2, c3, c4, c5, c6, c7, c8], _ =>
    obtain ⟨_, e, k0⟩ := hc 0 c0 rfl
    cases e
    obtain ⟨_, e, k1⟩ := hc 1 c1 rfl
    cases e
    obtain ⟨_, e, k2⟩ := hc 2 c2 rfl
    cases e
    obtain ⟨_, e, k3⟩ := hc 3 c3 rfl
    cases e
    obtain ⟨_, e, k4⟩ := hc 4 c4 rfl
    cases e
    obtain ⟨_, e, k5⟩ := hc 5 c5 rfl
    cases e
    obtain ⟨_, e, k6⟩ := hc 6 c6 rfl
    cases e
    obtain ⟨_, e, k7⟩ := hc 7 c7 rfl
    cases e
    obtain ⟨_, e, k8⟩ := hc 8 c8 rfl
    cases e
    obtain ⟨z0, rfl⟩ := cellInt k0
    obtain ⟨z1, rfl⟩ := cellInt k1
    obtain ⟨z2, rfl⟩ := cellInt k2
    obtain ⟨z3, rfl⟩ := cellInt k3
    obtain ⟨z4, rfl⟩ := cellInt k4
    obtain ⟨z5, rfl⟩ := cellInt k5
    obtain ⟨z6, rfl⟩ := cellStr k6
    obtain ⟨z7, rfl⟩ := cellInt k7
    obtain ⟨z8, rfl⟩ := cellInt k8
    exact ⟨⟨z0, z1, z2, z3, z4, z5⟩, z6, z7, z8, rfl⟩
/-- A string's weight in a field of a field. -/
theorem weight_str {P : Program} {T U : TypeId} {fs gs : Array Field} (hT : P.underlying T = some (.struct fs)) (hU : P.underlying U = some (.struct gs)) {S : TypeId} (hS : P.underlying S = some .string)
    {H : Type} {enc : TypeId × Value → H} {w : World} {cs : List Value} {d : DataW H} {p : List MemPlace} {n : Nat} (h : DataW.trod enc P w 0 (fun _ => true) true n T cs = some (d, p)) {j i : Nat} {f g : Field} (hj : fs[j]? = some f) (hf : f.type = U) (hi : gs[i]? = some g) (hg : g.type = S)
    {s : ByteArray} (hc : (((cs.drop f.offset).take (P.cellsOf f.type)).drop g.offset).take (P.cellsOf g.type) = [.string s]) : s.size ∈ d.weights P T := by
  obtain ⟨xs, q, _, hxy, _, hxl, hfd⟩ := DataW.trod_struct hT h
  have hjl : j < xs.length := by rw [hxl]; exact (Array.getElem?_eq_some_iff.1 hj).1
  have g1 := hfd j f hj
  rw [List.getElem?_eq_getElem hjl, hf] at g1
  obtain ⟨ys, q2, _, hxy2, _, hyl, hfd2⟩ := DataW.trod_struct hU g1
  have hil : i < ys.length := by rw [hyl]; exact (Array.getElem?_eq_some_iff.1 hi).1
  have g2 := hfd2 i g hi
  rw [List.getElem?_eq_getElem hil, ← hf, hc, hg] at g2
  obtain ⟨s', hs', hy, _⟩ := DataW.trod_string hS g2
  simp only [List.cons.injEq, and_true] at hs'
  cases hs'
  simp only [Prod.mk.injEq] at hxy
  rw [hxy.1]
  simp only [DataW.weights, hT]
  refine DataW.weights_mem_each (j := j) (t := f.type) (d := xs[j].1) (by simp [hj]) (by simp [hjl]) _ ?_
  rw [hf, hxy2]
  simp only [DataW.weights, hU]
  refine DataW.weights_mem_each (j := i) (t := g.type) (d := ys[i].1) (by simp [hi]) (by simp [hil]) _ ?_
  rw [hy]
  simp only [DataW.weights, List.mem_singleton]
  exact (Array.length_toList).symm
set_option maxRecDepth 100000 in
theorem open_two {H : Type} {enc : TypeId × Value → H} {w W : World} {base : Nat} {v : Value} {d : DataW H} {p : List MemPlace} (h : Value.okWide Tryd.prog W .any base 36 v)
    (hd : DataW.Trod enc Tryd.prog w 0 (fun _ => true) true 36 v d p) (hw : ∀ n ∈ d.weights Tryd.prog 36, n ≤ reachBytes) :
    ∃ (ak : List (BitVec 8)) (al ah : Int) (bk : List (BitVec 8)) (bl bh : Int) (x : QueryL) (t : Int), v = .agg #[Sv ak, .int .i64 al, .int .i64 ah, Sv bk, .int .i64 bl, .int .i64 bh, .int .i64 x.kind, .int .i64 x.size, .int .i64 x.slide, .int .i64 x.late, .int .i64 x.agg, .int .i64 x.k, .int .i64 t] ∧ ak.length ≤ reachBytes ∧ bk.length ≤ reachBytes := by
  simp only [Value.okWide, Tryd.underlying36] at h
  obtain ⟨cs, rfl, hsz, ts, hts, _, hc⟩ := h
  rw [show Tryd.prog.cellTypes Tryd.prog.depth 36 = some [9, 3, 3, 9, 3, 3, 3, 3, 3, 3, 3, 3, 3] by kernel_rfl] at hts
  obtain rfl := Option.some.inj hts
  rw [show Tryd.prog.cellsOf 36 = 13 by kernel_rfl] at hsz
  obtain ⟨l⟩ := cs
  match l, hsz, hd with
  | [c0, c1, c2, c3, c4, c5, c6, c7, c8, c9, c10, c11, c12], _, hd =>
    obtain ⟨_, e, k0⟩ := hc 0 c0 rfl
    cases e
    obtain ⟨_, e, k1⟩ := hc 1 c1 rfl
    cases e
    obtain ⟨_, e, k2⟩ := hc 2 c2 rfl
    cases e
    obtain ⟨_, e, k3⟩ := hc 3 c3 rfl
    cases e
    obtain ⟨_, e, k4⟩ := hc 4 c4 rfl
    cases e
    obtain ⟨_, e, k5⟩ := hc 5 c5 rfl
    cases e
    obtain ⟨_, e, k6⟩ := hc 6 c6 rfl
    cases e
    obtain ⟨_, e, k7⟩ := hc 7 c7 rfl
    cases e
    obtain ⟨_, e, k8⟩ := hc 8 c8 rfl
    cases e
    obtain ⟨_, e, k9⟩ := hc 9 c9 rfl
    cases e
    obtain ⟨_, e, k10⟩ := hc 10 c10 rfl
    cases e
    obtain ⟨_, e, k11⟩ := hc 11 c11 rfl
    cases e
    obtain ⟨_, e, k12⟩ := hc 12 c12 rfl
    cases e
    obtain ⟨z0, rfl⟩ := cellStr k0
    obtain ⟨z1, rfl⟩ := cellInt k1
    obtain ⟨z2, rfl⟩ := cellInt k2
    obtain ⟨z3, rfl⟩ := cellStr k3
    obtain ⟨z4, rfl⟩ := cellInt k4
    obtain ⟨z5, rfl⟩ := cellInt k5
    obtain ⟨z6, rfl⟩ := cellInt k6
    obtain ⟨z7, rfl⟩ := cellInt k7
    obtain ⟨z8, rfl⟩ := cellInt k8
    obtain ⟨z9, rfl⟩ := cellInt k9
    obtain ⟨z10, rfl⟩ := cellInt k10
    obtain ⟨z11, rfl⟩ := cellInt k11
    obtain ⟨z12, rfl⟩ := cellInt k12
    obtain ⟨fuel, hf⟩ := hd
    have w0 := hw _ (weight_str Tryd.underlying36 Tryd.underlying31 Tryd.underlying9 hf (j := 0) (i := 0) (s := strOf z0) rfl rfl rfl rfl (by kernel_rfl))
    have w3 := hw _ (weight_str Tryd.underlying36 Tryd.underlying31 Tryd.underlying9 hf (j := 1) (i := 0) (s := strOf z3) rfl rfl rfl rfl (by kernel_rfl))
    rw [strOf_size] at w0 w3
    exact ⟨z0, z1, z2, z3, z4, z5, ⟨z6, z7, z8, z9, z10, z11⟩, z12, rfl, w0, w3⟩
set_option maxRecDepth 100000 in
theorem okWide_int {W : World} {base : Nat} {v : Value} (h : Value.okWide Tryd.prog W .any base 3 v) : ∃ n, v = .int .i64 n := by
  simp only [Value.okWide, Tryd.underlying3] at h
  exact cellInt h
end Go.Proofs.YtkgmcjeficgciaaDoor
