/-
  What comes in by a row's reading at layer 6: the library's table of powers, its errors, how long a needle it looks for, and the program's two tables of words; a query and bytes that came in as arguments.
-/
import Derived.Test.YteoolfifpmbkeaaDoorQueryAsked
import Derived.Test.YteoolfifpmbkeaaDoorRows
import Derived.Test.YteoolfifpmbkeaaDoorCoreOpen
import Derived.Test.YteoolfifpmbkeaaDoorReadTwo
import Derived.ProofKit
import Derived.OpenShut
import Derived.ChangeOld
import Derived.LaidMore
import Derived.Lay
import Derived.Stop.Joined
import Derived.Stop.LaidErr
import Derived.Lib.LaidTab
import Derived.SizedLaws
import Derived.WideKeyPair
import Derived.Shelf.Vars
import Derived.FnData
import Derived.Deep.DeepWitnessRowRef
namespace Go.Proofs.YteoolfifpmbkeaaDoor
open Go Go.ChangeShapes Go.WideShapes Go.ChangeAt Go.WideMaps Go.WideElems Go.RowKit

def strData {H : Type} (ss : List (List UInt8)) : DataW H := .agg (ss.map fun s => .lit (.string s))
theorem cells_of_strs {H : Type} {enc : TypeId × Value → H} {P : Program} {w : World} {base : Nat} {sp : Nat → Bool} {held : Bool} {fuel : Nat} {t e : TypeId} {n : Nat} {cs : List Value} {ss : List (List UInt8)} {p : List MemPlace}
    (ht : P.underlying t = some (.array n e)) (he : P.underlying e = some .string) (hce : P.cellsOf e = 1) (hct : P.cellsOf t = n)
    (h : DataW.trod enc P w base sp held fuel t cs = some (strData ss, p)) (i : Nat) (hi : i < ss.length) : ∃ b : ByteArray, cs[i]? = some (.string b) ∧ b.data.toList = ss.getD i [] := by
  cases fuel with
  | zero => simp [DataW.trod] at h
  | succ fuel =>
    simp only [DataW.trod, ht, hce, hct, Nat.mul_one] at h
    split at h
    · rename_i hl
      obtain ⟨xs, hm, hx⟩ := Option.map_eq_some_iff.1 h
      have hxs : xs.map (·.1) = ss.map fun s => (DataW.lit (.string s) : DataW H) := by
        have := congrArg Prod.fst hx
        simpa [strData] using this
      have hxl : xs.length = n := by simpa using Lib.mapM_length hm
      have hsl : ss.length = n := by
        have := congrArg List.length hxs
        simp at this
        omega
      obtain ⟨b, hb, hf⟩ := Lib.mapM_at hm i i (List.getElem?_range (by omega))
      obtain ⟨z, hc, rfl, _⟩ := DataW.trod_string he hf
      refine ⟨z, ?_, ?_⟩
      · have := congrArg (·[0]?) hc
        simpa [List.getElem?_take, List.getElem?_drop] using this
      · have h2 : (xs.map (·.1))[i]? = some (DataW.lit (.string z.data.toList) : DataW H) := by simp [hb]
        rw [hxs] at h2
        simp only [List.getElem?_map, Option.map_eq_some_iff, DataW.lit.injEq, Lit.string.injEq] at h2
        obtain ⟨s', hs', e⟩ := h2
        rw [List.getD_eq_getElem?_getD, hs', Option.getD_some]
        exact e.symm
    · cases h
theorem strs_of_head {P : Program} {W : World} {name : String} {ss : List (List UInt8)} {rest : List (String × DataW Unit)} {g : Nat} {t e : TypeId} {n : Nat}
    (hg : P.globalNamed name = some g) (hty : (P.globals[g]?).map (·.type) = some t) (ht : P.underlying t = some (.array n e)) (he : P.underlying e = some .string) (hce : P.cellsOf e = 1) (hct : P.cellsOf t = n)
    (h : laidMet P ((name, strData ss) :: rest) W) (i : Nat) (hi : i < ss.length) : ∃ b : ByteArray, W.cell? ⟨g, i, none⟩ = some (.string b) ∧ b.data.toList = ss.getD i [] := by
  obtain ⟨ps, ⟨g', t', cs, fuel, p, q, hg', ht', hvar, hd, _, _⟩, _⟩ := h
  obtain rfl := Option.some.inj (hg.symm.trans hg')
  obtain rfl := Option.some.inj (hty.symm.trans ht')
  obtain ⟨b, h1, h2⟩ := cells_of_strs ht he hce hct hd i hi
  refine ⟨b, ?_, h2⟩
  rw [World.var?_cell hg hvar i]
  simpa using h1
def laidQ : List (String × DataW Unit) := Rows.queryTellsRow.laid
theorem tPow : (Tryd.prog.globals[2]?).map (·.type) = some 88 := by kernel_rfl
theorem cells64 : Tryd.prog.cellsOf 71 = 1 := by kernel_rfl
theorem cellsPow : Tryd.prog.cellsOf 88 = 20 := by kernel_rfl
theorem laidQ_is : ∃ a b d e, laidQ = [a, b, ("internal/strconv.uint64pow10", Lib.tabData .u64 Lib.pow10Tab), ("strconv.ErrRange", .iface "*errors.errorString" (.ptr (.agg [.lit (.string d)]))), ("strconv.ErrSyntax", .iface "*errors.errorString" (.ptr (.agg [.lit (.string e)]))),
    ("waterclock/query.kinds", strData (kindsL.map lvB)), ("waterclock/query.aggs", strData (aggsL.map lvB))] := by
  have e1 : (Rows.laid_internal_strconv_uint64pow10 : DataW Unit) = Lib.tabData .u64 Lib.pow10Tab := by kernel_rfl
  have e2 : (Rows.laid_waterclock_query_kinds : DataW Unit) = strData (kindsL.map lvB) := by kernel_rfl
  have e3 : (Rows.laid_waterclock_query_aggs : DataW Unit) = strData (aggsL.map lvB) := by kernel_rfl
  unfold laidQ Rows.queryTellsRow
  dsimp only
  rw [e1, e2, e3]
  exact ⟨_, _, _, _, rfl⟩
theorem pow_of_laid {w : World} (h : laidMetH Tryd.prog laidQ w) : PowTab w := by
  rw [MakeChecks.laidMetH_plain _ _ _ (by kernel_rfl)] at h
  obtain ⟨a, b, d, e', e⟩ := laidQ_is
  rw [e] at h
  exact Lib.tabIs_of_head gPow tPow Tryd.underlying88 Tryd.underlying71 cells64 cellsPow h.tail.tail
theorem gER : Tryd.prog.globalNamed "strconv.ErrRange" = some 5 := by kernel_rfl
theorem gES : Tryd.prog.globalNamed "strconv.ErrSyntax" = some 4 := by kernel_rfl
theorem tER : (Tryd.prog.globals[5]?).map (·.type) = some 76 := by kernel_rfl
theorem tES : (Tryd.prog.globals[4]?).map (·.type) = some 76 := by kernel_rfl
theorem cellsErr : Tryd.prog.cellsOf 115 = 1 := by kernel_rfl
theorem cellsStr : Tryd.prog.cellsOf 9 = 1 := by kernel_rfl
theorem starErr : "*" ++ "errors.errorString" = "*errors.errorString" := by decide
theorem rowErr (u : TypeId) (h : Tryd.prog.typeName? 3 u = some "*errors.errorString") : u = 113 :=
  typeName_ptr_named (nm := "errors.errorString") (by rw [starErr]; kernel_rfl) (by kernel_rfl) (by decide) u (by rw [starErr]; exact h)
theorem errs_of_laid {w : World} (h : laidMetH Tryd.prog laidQ w) : ErrsIn w := by
  rw [MakeChecks.laidMetH_plain _ _ _ (by kernel_rfl)] at h
  obtain ⟨a, b, d, e', e⟩ := laidQ_is
  rw [e] at h
  obtain ⟨a1, s1, hv1, _⟩ := laid_sentinel h.tail.tail.tail gER tER Tryd.underlying76 rowErr Tryd.underlying113 Tryd.underlying115 rfl rfl Tryd.underlying9 cellsErr cellsStr
  obtain ⟨a2, s2, hv2, _⟩ := laid_sentinel h.tail.tail.tail.tail gES tES Tryd.underlying76 rowErr Tryd.underlying113 Tryd.underlying115 rfl rfl Tryd.underlying9 cellsErr cellsStr
  intro g hg
  rcases hg with rfl | rfl
  · exact ⟨_, World.var?_cell gES hv2 0, .inr ⟨_, _, rfl⟩⟩
  · exact ⟨_, World.var?_cell gER hv1 0, .inr ⟨_, _, rfl⟩⟩
theorem gKi : Tryd.prog.globalNamed "waterclock/query.kinds" = some 0 := by kernel_rfl
theorem gAg : Tryd.prog.globalNamed "waterclock/query.aggs" = some 1 := by kernel_rfl
theorem tKi : (Tryd.prog.globals[0]?).map (·.type) = some 55 := by kernel_rfl
theorem tAg : (Tryd.prog.globals[1]?).map (·.type) = some 56 := by kernel_rfl
theorem cellsKi : Tryd.prog.cellsOf 55 = 4 := by kernel_rfl
theorem cellsAg : Tryd.prog.cellsOf 56 = 8 := by kernel_rfl
theorem str_is {b : ByteArray} {l : List (BitVec 8)} (h : b.data.toList = lvB l) : Value.string b = Sv l := by
  rw [Sv_lv]
  cases b with
  | mk d =>
    have : d = (lvB l).toArray := by
      apply Array.ext'
      simpa using h
    rw [this]
theorem words_of_laid {w : World} (h : laidMetH Tryd.prog laidQ w) : WordTabs w := by
  rw [MakeChecks.laidMetH_plain _ _ _ (by kernel_rfl)] at h
  obtain ⟨a, b, d, e', e⟩ := laidQ_is
  rw [e] at h
  have key : ∀ (L : List (List (BitVec 8))) (i : Nat), (L.map lvB).getD i [] = lvB (L.getD i []) := by
    intro L i
    simp only [List.getD_eq_getElem?_getD, List.getElem?_map]
    cases L[i]? <;> rfl
  refine ⟨fun i hi => ?_, fun i hi => ?_⟩
  · obtain ⟨s, h1, h2⟩ := strs_of_head gKi tKi Tryd.underlying55 Tryd.underlying9 cellsStr cellsKi h.tail.tail.tail.tail.tail i hi
    rw [h1, str_is (h2.trans (key kindsL i))]
  · obtain ⟨s, h1, h2⟩ := strs_of_head gAg tAg Tryd.underlying56 Tryd.underlying9 cellsStr cellsAg h.tail.tail.tail.tail.tail.tail i hi
    rw [h1, str_is (h2.trans (key aggsL i))]
theorem max_of_shape {w : World} (h : w.ShapedOpen Tryd.prog) : MaxIn w :=
  cell_of_shapedOpen_int (P := Tryd.prog) (g := 3) (t := 3) (zero := #[.int .i64 0]) h (of_decide_eq_true (by kernel_rfl)) (by kernel_rfl) rfl (by kernel_rfl) (by kernel_rfl) Tryd.underlying3
theorem query_of {w : World} (h : laidMetH Tryd.prog laidQ w) (hs : w.ShapedOpen Tryd.prog) : QueryIn w := ⟨pow_of_laid h, errs_of_laid h, max_of_shape hs, words_of_laid h⟩
theorem laid_met (os : Os) (args : Array Value) : laidMetH Tryd.prog laidQ ((World.laidAll Tryd.prog os laidQ).forCall (fun _ _ => 0) ⟨#[], args, []⟩).memory := by
  rw [MakeChecks.laidMetH_plain _ _ _ (by kernel_rfl)]
  exact laidMet_laidAll _ (by kernel_rfl) (by kernel_rfl)
theorem laid_shaped (os : Os) (args : Array Value) : ((World.laidAll Tryd.prog os laidQ).forCall (fun _ _ => 0) ⟨#[], args, []⟩).Shaped Tryd.prog := World.shaped_of_ZipB (by kernel_rfl) (by kernel_rfl)
set_option maxRecDepth 100000 in
/-- A query that came in as an argument. -/
theorem open_query {H : Type} {enc : TypeId × Value → H} {w W : World} {base : Nat} {v : Value} {d : DataW H} {p : List MemPlace} (hv : Value.okWide Tryd.prog W .any base 23 v)
    (h : DataW.Trod enc Tryd.prog w 0 (fun _ => true) true 23 v d p) : ∃ x : QueryL, v = .agg x.cells := by
  simp only [Value.okWide, Tryd.underlying23] at hv
  obtain ⟨cs, rfl, _⟩ := hv
  obtain ⟨hsz, hr⟩ := open_rec Tryd.underlying23 (by kernel_rfl) (by kernel_rfl) h
  obtain ⟨v0, y0, n0, c0, t0, _⟩ := hr 0 _ rfl
  obtain ⟨v1, y1, n1, c1, t1, _⟩ := hr 1 _ rfl
  obtain ⟨v2, y2, n2, c2, t2, _⟩ := hr 2 _ rfl
  obtain ⟨v3, y3, n3, c3, t3, _⟩ := hr 3 _ rfl
  obtain ⟨v4, y4, n4, c4, t4, _⟩ := hr 4 _ rfl
  obtain ⟨v5, y5, n5, c5, t5, _⟩ := hr 5 _ rfl
  obtain ⟨z0, rfl, _⟩ := open_int' t0
  obtain ⟨z1, rfl, _⟩ := open_int' t1
  obtain ⟨z2, rfl, _⟩ := open_int' t2
  obtain ⟨z3, rfl, _⟩ := open_int' t3
  obtain ⟨z4, rfl, _⟩ := open_int' t4
  obtain ⟨z5, rfl, _⟩ := open_int' t5
  refine ⟨⟨z0, z1, z2, z3, z4, z5⟩, ?_⟩
  obtain ⟨l⟩ := cs
  match l, (show l.length = 6 from hsz) with
  | [a, b, c, e, f, g], _ =>
    cases c0
    cases c1
    cases c2
    cases c3
    cases c4
    cases c5
    rfl
end Go.Proofs.YteoolfifpmbkeaaDoor
