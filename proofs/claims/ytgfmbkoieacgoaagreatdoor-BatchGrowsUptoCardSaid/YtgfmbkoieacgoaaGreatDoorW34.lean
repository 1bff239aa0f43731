/- 34. -/
import Derived.Lay
import Derived.Deep.DeepWitnessRowRef
import Derived.Test.YtgfmbkoieacgoaaGreatDoorW14
namespace Go.Proofs.YtgfmbkoieacgoaaGreatDoor
open Go Go.ChangeShapes Go.WideShapes Go.ChangeAt Go.WideMaps Go.WideElems Go.RowKit Go.Proofs.Tryz
def laidB:List (String × DataW Unit):=Rows.batchGrowsUptoRow.laid
theorem XE:(prog.globals[0]?).map (·.type)=some 244:=by kernel_rfl
theorem Vr:prog.cellsOf 145=1:=by kernel_rfl
theorem SK:prog.cellsOf 244=20:=by kernel_rfl
theorem JA : ∃ a b c d e f, laidB = [a, b, ("internal/strconv.uint64pow10", Lib.tabData .u64 Lib.pow10Tab), c, ("strconv.ErrRange", .iface "*errors.errorString" (.ptr (.agg [.lit (.string d)]))), ("strconv.ErrSyntax", .iface "*errors.errorString" (.ptr (.agg [.lit (.string e)]))), f] := by
 have e:(Rows.laid_internal_strconv_uint64pow10:DataW Unit)=Lib.tabData .u64 Lib.pow10Tab:=by kernel_rfl
 unfold laidB Rows.batchGrowsUptoRow;dsimp only;rw[e];exact⟨_,_,_,_,_,_,rfl⟩
theorem zh {w:World}(h:laidMetH prog laidB w):PowTab w:=by
 rw[MakeChecks.laidMetH_plain _ _ _ (by kernel_rfl)]at h
 obtain⟨a,b,c,d,j,f,e⟩:=JA;rw[e]at h;exact Lib.tabIs_of_head WG XE underlying244 underlying145 Vr SK h.tail.tail
theorem gER : prog.globalNamed "strconv.ErrRange" = some 3 := by kernel_rfl
theorem gES : prog.globalNamed "strconv.ErrSyntax" = some 2 := by kernel_rfl
theorem XP:(prog.globals[3]?).map (·.type)=some 194:=by kernel_rfl
theorem XQ:(prog.globals[2]?).map (·.type)=some 194:=by kernel_rfl
theorem Jb:prog.cellsOf 287=1:=by kernel_rfl
theorem Jd:prog.cellsOf 9=1:=by kernel_rfl
theorem Py : "*" ++ "errors.errorString" = "*errors.errorString" := by decide
theorem TR (u : TypeId) (h : prog.typeName? 3 u = some "*errors.errorString") : u = 285 :=
 typeName_ptr_named (nm := "errors.errorString") (by rw [Py]; kernel_rfl) (by kernel_rfl) (by decide) u (by rw [Py]; exact h)
theorem wZ {w:World}(h:laidMetH prog laidB w):lL w:=by
 rw[MakeChecks.laidMetH_plain _ _ _ (by kernel_rfl)]at h
 obtain⟨a,b,c,d,m,f,e⟩:=JA;rw[e]at h;obtain⟨n,o,j,_⟩:=laid_sentinel h.tail.tail.tail.tail gER XP underlying194 TR underlying285 underlying287 rfl rfl underlying9 Jb Jd;obtain⟨p,q,k,_⟩:=laid_sentinel h.tail.tail.tail.tail.tail gES XQ underlying194 TR underlying285 underlying287 rfl rfl underlying9 Jb Jd;intro g l;rcases l with rfl | rfl
 ·exact⟨_,World.var?_cell gES k 0,.inr ⟨_,_,rfl⟩⟩
 exact⟨_,World.var?_cell gER j 0,.inr ⟨_,_,rfl⟩⟩
theorem xm {w:World}(h:w.ShapedOpen prog):∃m,w.cell? ⟨1,0,none⟩=some (.int .i64 m):=
 cell_of_shapedOpen_int (P:=prog) (g:=1) (t:=3) (zero:=#[.int .i64 0]) h (bgh (by kernel_rfl)) (by kernel_rfl) rfl (by kernel_rfl) (by kernel_rfl) underlying3
theorem WJ {w:World}(h:laidMetH prog laidB w)(a:w.ShapedOpen prog):nT w:=⟨zh h,wZ h,xm a⟩
theorem VK {w:World}(h:laidMetH prog laidB w)(a:w.ShapedOpen prog):lC w:=⟨zh h,wZ h,xm a⟩
theorem laid_met(a:Os)(args:Array Value):laidMetH prog laidB ((World.laidAll prog a laidB).forCall (λ_ _=>0) ⟨#[],args,[]⟩).memory:=by
 rw[MakeChecks.laidMetH_plain _ _ _ (by kernel_rfl)]
 exact laidMet_laidAll _ (by kernel_rfl) (by kernel_rfl)
theorem JB(a:Os)(args:Array Value):((World.laidAll prog a laidB).forCall (λ_ _=>0) ⟨#[],args,[]⟩).Shaped prog:=World.shaped_of_ZipB (by kernel_rfl) (by kernel_rfl)
end Go.Proofs.YtgfmbkoieacgoaaGreatDoor
