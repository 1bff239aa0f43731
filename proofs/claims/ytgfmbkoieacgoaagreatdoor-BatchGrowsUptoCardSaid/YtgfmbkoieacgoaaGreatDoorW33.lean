/- 33. -/
import Derived.Test.YtgfmbkoieacgoaaGreatDoorRows
import Derived.JoinedCond
namespace Go.Proofs.YtgfmbkoieacgoaaGreatDoor
open Go Go.Proofs.Tryz
theorem zt:Rows.batchGrowsUptoRow.wf (OpenSpec.ofChange (Rows.OpenSpec.upto Rows.batchGrowsSpec).bare)=true:=by kernel_rfl
theorem qo:mapsRowed prog=true:=by kernel_rfl
theorem tZ:Tryz.f6.params.all (prog.readableRec ·)=true:=by kernel_rfl
theorem xZ:namedTie prog Rows.batchGrowsUptoRow.named (Rows.OpenSpec.upto Rows.batchGrowsSpec).bare.vars=true:=by kernel_rfl
theorem rF:(Rows.batchGrowsUptoRow.inPlace==prog.inPlace 6)=true:=by kernel_rfl
theorem pK:(Rows.batchGrowsUptoRow.unfollowed==prog.unfollowed 6)=true:=by kernel_rfl
theorem qZ:(Rows.batchGrowsUptoRow.recurses==prog.recurses 6)=true:=by kernel_rfl
theorem vN:(Rows.batchGrowsUptoRow.named==prog.varsNamed 6)=true:=by kernel_rfl
theorem vM:prog.stopsHeard=true:=by kernel_rfl
theorem wR:joinedFacts prog 6 Tryz.f6 (Rows.OpenSpec.upto Rows.batchGrowsSpec).bare Rows.batchGrowsUptoRow=true:=by
 unfold joinedFacts;simp only[Bool.and_eq_true]
 repeat' apply And.intro
 all_goals first
  | with_reducible exact zt
  | with_reducible exact qo
  | with_reducible exact tZ
  | with_reducible exact xZ
  | with_reducible exact rF
  | with_reducible exact pK
  | with_reducible exact qZ
  | with_reducible exact vN
  | with_reducible exact vM
  | kernel_rfl
end Go.Proofs.YtgfmbkoieacgoaaGreatDoor
