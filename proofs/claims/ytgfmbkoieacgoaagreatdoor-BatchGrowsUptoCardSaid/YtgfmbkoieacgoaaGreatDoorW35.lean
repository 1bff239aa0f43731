/-
  BatchGrows: whatever query, items and cut it is called with, it returns true, and the arguments read afterwards as they read before; the card ties the library's listed tables and errors to the program's text.
  Conditions: those that the row prints: what is read is of bulk at most 1048576; the listed variables start as the program's text lays them; each slice and string takes at most 2^47 - 4096 bytes.
-/
import Derived.Test.YtgfmbkoieacgoaaGreatDoorCards
import Derived.Test.YtgfmbkoieacgoaaGreatDoorTie
import Derived.Test.YtgfmbkoieacgoaaGreatDoorW14
import Derived.Test.YtgfmbkoieacgoaaGreatDoorW32
import Derived.Test.YtgfmbkoieacgoaaGreatDoorW33
import Derived.Test.YtgfmbkoieacgoaaGreatDoorW34
set_option maxRecDepth 100000
namespace Go.Proofs.YtgfmbkoieacgoaaGreatDoor
open Go Go.ChangeShapes Go.WideShapes Go.ChangeAt Go.WideMaps Go.WideElems Go.RowKit Go.Proofs.Tryz
def yD:Array Value:=#[.agg #[.int .i64 0,.int .i64 0,.int .i64 0,.int .i64 0,.int .i64 0,.int .i64 0],.slice none 0 0,.int .u8 0]
theorem x8(a:Os) {H:Type}(enc:TypeId × Value->H):∃places,DataW.whole enc prog ((World.laidAll prog a laidB).forCall (λ_ _=>0) ⟨#[],yD,[]⟩).memory Tryz.f6.params.toList Rows.batchGrowsSpec.vars false yD.toList 8=some ([.agg [.lit (.int .i64 0),.lit (.int .i64 0),.lit (.int .i64 0),.lit (.int .i64 0),.lit (.int .i64 0),.lit (.int .i64 0)],.nil,.lit (.int .u8 0)],[],places):=
 ⟨[],by kernel_rfl⟩
theorem wS(o:Os)(started:o.Started)(H:Type)(enc:TypeId × Value->H)(F:Stop.Interp):
  ReturnsInHanded {} Tryz.checked o 6 .any ((Rows.OpenSpec.upto Rows.batchGrowsSpec).preRow enc prog Tryz.f6 Rows.batchGrowsUptoRow.domain false Rows.batchGrowsUptoRow.laid)
   (((Rows.OpenSpec.upto Rows.batchGrowsSpec).at F).post enc prog Tryz.f6 false true false false):=by
 obtain⟨places,hx⟩:=x8 o enc;refine returnsInHanded_of_row (C:=Tryz.checked) (s:=Rows.OpenSpec.upto Rows.batchGrowsSpec) own started (by kernel_rfl) func6
  ⟨World.laidAll prog o laidB,λ_ _=>0,⟨#[],yD,[]⟩,World.laidAll_os _ _ _,JB o _,rfl,
   (Input.okWide_of_okWideB (by kernel_rfl)).2,
   OpenSpec.preRow_of_cond 8 hx (by kernel_rfl) (λk hk=>by cases hk;kernel_rfl) (by kernel_rfl) (laid_met o _),by
    simp only[Assume.holds];exact⟨by simp,by simp,by simp,by simp,by simp⟩⟩ ?_
 intro W r args ds gs before c U _ d Y Z u _;have a:∀(j:Nat) t v,Tryz.f6.params[j]? =some t->args[j]? =some v->Value.okWide prog W .any r t v:=c;have I:=U;obtain⟨p,q,J,hV,rfl,ab,ac⟩:=U;have hA:DataW.TrodAll enc prog W 0 (λ_=>true) true Tryz.f6.params.toList args.toList ds p:=J;rw[Tryz.params6]at hA a;obtain⟨v0,ad,d0,ae,p0,q0,K,rfl,rfl,h0,r0⟩:=trodAll_cons hA;obtain⟨v1,af,d1,ag,p1,q1,rfl,rfl,rfl,h1,r1⟩:=trodAll_cons r0;obtain⟨v2,ah,d2,ai,p2,q2,rfl,rfl,rfl,h2,r2⟩:=trodAll_cons r1;obtain⟨rfl,rfl,rfl⟩:=trodAll_nil r2;obtain rfl:args=#[v0,v1,v2]:=by cases args;simp_all
 obtain⟨rfl,rfl⟩:=trodVars_none hV;obtain⟨a1,aa,z,rfl,L,M⟩:=Gj (a 1 24 v1 rfl rfl);have k0:=h0;have N:∀x∈p0,x.block<W.heap.size:=by obtain⟨m,D⟩:=k0;exact DataW.trod_lt m _ _ _ D
 have k1:=h1;have O:∀x∈p1,x.block<W.heap.size:=by obtain⟨m,D⟩:=k1;exact DataW.trod_lt m _ _ _ D
 have k2:=h2;have Q:∀x∈p2,x.block<W.heap.size:=by obtain⟨m,D⟩:=k2;exact DataW.trod_lt m _ _ _ D
 have aj:Rows.uptoBulk d0+Rows.uptoBulk d1+Rows.uptoBulk d2<=1048576:=by
  have:=bgh (d _ rfl);simp only[Rows.uptoBulkAll,bg2]at this;omega
 obtain⟨x,rfl⟩:=MN (a 0 23 v0 rfl rfl) h0;obtain⟨l,hl,hI,R,hb⟩:=open_items h1;have n:∀y∈l,y.key.length<=1048576:=λy hy=>by have:=(R y hy).2;omega
 have E:l.length<=1048576:=by omega
 subst hl;obtain⟨ct,rfl,S⟩:=QM (a 2 5 v2 rfl rfl);refine(KP W x a1 z l ct S hI n E L M (VK Z u) (WJ Z u)).mono λe W' ⟨he,b⟩=>?_;subst he;exact⟨_,rfl,_,_,_,[],_,[],I,trodAll_mk1 (shut_bool underlying4 _),(trodAll_cons_mk (Below.trod laidOut (by kernel_rfl) (bgh (by kernel_rfl)) k0 b N)
  (trodAll_cons_mk (Below.trod laidOut (by kernel_rfl) (bgh (by kernel_rfl)) k1 b O)
  (trodAll_cons_mk (Below.trod laidOut (by kernel_rfl) (bgh (by kernel_rfl)) k2 b Q)
  trodAll_mk0))),rfl,b.frame _,λh=>by cases h⟩
theorem zu:Rows.BatchGrowsUptoSaid:=
 OpenClaim.holds_of_cond 6 Tryz.f6 rfl rfl rfl rfl rfl rfl rfl ⟨rfl,rfl,rfl,rfl,rfl⟩ rfl rfl rfl rfl rfl (by kernel_rfl) func6 wR
  (bgh (by kernel_rfl)) (by unfold Func.isWrapper;first | (rw[if_pos (by decide+kernel)];kernel_rfl) | (rw[if_neg (by decide+kernel)];exact⟨rfl,rfl⟩))
  (λa started H enc _ F=>by rw[OpenClaim.pre_eq_preRow];exact wS a started H enc F)
theorem batchGrows_card:Rows.BatchGrowsUptoCardSaid:=
 Claim7.holds_tied_plain_at .later [] [.data,.data,.data,.data,.sentinel,.sentinel,.pinned] true Rows.batchGrowsUptoCard.stood.harness true
  zu (λ_ h=>by cases h) (by kernel_rfl) (λ_ h=>by cases h) batchGrowsUpto_row_tie rfl ⟨rfl,rfl⟩ (by kernel_rfl) rfl
  (λf c d a=>by
   obtain rfl : f = 6 := Option.some.inj ((show prog.funcNamed "waterclock/waterclocklaw11.BatchGrows" = some 6 by kernel_rfl).symm.trans d) |>.symm
   obtain rfl:c=Tryz.f6:=(Option.some.inj (func6.symm.trans a)).symm;exact⟨by kernel_rfl,λj t b=>by
    rw[Tryz.params6]at b;have:=Array.mem_of_getElem? b;simp only[List.mem_toArray,bf2,bf9,or_false]at this;rcases this with rfl | rfl | rfl
    ·exact(show prog.wantsStandIn 23=false by kernel_rfl)
    ·exact(show prog.wantsStandIn 24=false by kernel_rfl)
    exact(show prog.wantsStandIn 5=false by kernel_rfl)⟩)
  (by kernel_rfl)
#print axioms batchGrows_card
end Go.Proofs.YtgfmbkoieacgoaaGreatDoor
