/- 7. -/
import Derived.Test.YtgfmbkoieacgoaaGreatDoorW3
import Derived.Test.YtgfmbkoieacgoaaGreatDoorW4
namespace Go.Proofs.YtgfmbkoieacgoaaGreatDoor
open Go Go.ChangeShapes Go.WideShapes Go.ChangeAt Go.WideMaps Go.WideElems Go.RowKit
structure StT(R:World->World->Prop) where
 p:World->Value->Prop
 st:∀w w' v,R w w'->p w v->p w' v
def stE {R:World->World->Prop}(x:Value):StT R:=⟨λ_ v=>v=x,λ_ _ _ _ h=>h⟩
def vOfT {R:World->World->Prop}(Vs:List (StT R)):Nat->World->Value->Prop:=λi=>(Vs.getD i ⟨λ_ _=>True,λ_ _ _ _ h=>h⟩).p
theorem vOfT_st {R:World->World->Prop}(a:List (StT R)):∀i w w' v,R w w'->vOfT a i w v->vOfT a i w' v:=λi=>(a.getD i ⟨λ_ _=>True,λ_ _ _ _ h=>h⟩).st
open Go Go.RowKit
open Go Go.ChangeShapes Go.WideShapes Go.ChangeAt Go.WideMaps Go.WideElems Go.RowKit
open Go Go.RowKit
end Go.Proofs.YtgfmbkoieacgoaaGreatDoor
