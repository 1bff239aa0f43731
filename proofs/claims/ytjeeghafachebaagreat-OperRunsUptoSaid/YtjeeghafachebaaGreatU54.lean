/-
  OperRuns: whatever query and items it is called with, it returns true, and the arguments read afterwards as they read before.
  Conditions: those that the row prints: what is read is of bulk at most 1048576; each slice and string takes at most 2^47 - 4096 bytes.
-/
import Derived.Test.YtjeeghafachebaaGreatU52
import Derived.Test.YtjeeghafachebaaGreatU53
set_option maxRecDepth 100000
namespace Go.Proofs.YtjeeghafachebaaGreat
open Go Go.ChangeShapes Go.WideShapes Go.ChangeAt Go.WideMaps Go.WideElems Go.RowKit Go.Proofs.Tryz
theorem zh(os:Os)(started:os.Started)(H:Type)(enc:TypeId × Value->H)(F:Stop.Interp):
  ReturnsInHanded {} Tryz.checked os 3 .any ((Rows.OpenSpec.upto Rows.operRunsSpec).pre6 enc prog Tryz.f3 Rows.operRunsUptoRow.domain false) (((Rows.OpenSpec.upto Rows.operRunsSpec).at F).post enc prog Tryz.f3 false true false false):=by
 refine returnsInHanded_of_cond (C:=Tryz.checked) (s:=Rows.OpenSpec.upto Rows.operRunsSpec) (k:=Rows.uptoSmall) rfl own started (by kernel_rfl) func3
  (OpenSpec.witness (enc:=enc) (C:=Tryz.checked) (s:=Rows.OpenSpec.upto Rows.operRunsSpec) (k:=Rows.uptoSmall) rfl false ⟨#[],#[.agg #[.int .i64 0,.int .i64 0,.int .i64 0,.int .i64 0,.int .i64 0,.int .i64 0],.slice none 0 0],[]⟩ 8 (by kernel_rfl) (by kernel_rfl) (by kernel_rfl)
   (x:=([.agg [.lit (.int .i64 0),.lit (.int .i64 0),.lit (.int .i64 0),.lit (.int .i64 0),.lit (.int .i64 0),.lit (.int .i64 0)],.nil],[],[])) (by kernel_rfl) rfl (by kernel_rfl)) ?_
 intro W base args ds gs before hval0 hW _ hcond _;have hval:∀(j:Nat) t v,Tryz.f3.params[j]? =some t->args[j]? =some v->Value.okWide prog W .any base t v:=hval0;have hW':=hW;obtain⟨p,q,hA0,hV,rfl,hfz,hnd⟩:=hW;have hA:DataW.TrodAll enc prog W 0 (λ_=>true) true Tryz.f3.params.toList args.toList ds p:=hA0;rw[Tryz.params3]at hA hval;obtain⟨v0,vs0,d0,ds0,p0,q0,hargs,rfl,rfl,h0,r0⟩:=trodAll_cons hA;obtain⟨v1,vs1,d1,ds1,p1,q1,rfl,rfl,rfl,h1,r1⟩:=trodAll_cons r0;obtain⟨rfl,rfl,rfl⟩:=trodAll_nil r1;obtain rfl:args=#[v0,v1]:=by cases args;simp_all
 obtain⟨rfl,rfl⟩:=trodVars_none hV;obtain⟨a1,len1,Om,rfl,_,_⟩:=Fv (hval 1 24 v1 rfl rfl);have k0:=h0;have lt0:∀x∈p0,x.block<W.heap.size:=by obtain⟨m,hm⟩:=k0;exact DataW.trod_lt m _ _ _ hm
 have k1:=h1;have lt1:∀x∈p1,x.block<W.heap.size:=by obtain⟨m,hm⟩:=k1;exact DataW.trod_lt m _ _ _ hm
 have hk2:Rows.uptoBulk d0+Rows.uptoBulk d1<=1048576:=by
  have:=bgh hcond;simp only[Rows.uptoBulkAll,bg2]at this;omega
 obtain⟨x,rfl⟩:=JZ (hval 0 23 v0 rfl rfl) h0;obtain⟨l,hl,hI,hok,hb⟩:=JY h1;have hkeys:∀y∈l,y.key.length<=1048576:=λy hy=>by have:=(hok y hy).2;omega
 have hlen:l.length<=1048576:=by omega
 subst hl;refine(Mm W x a1 Om l hI hkeys hlen).mono λe W' ⟨he,Oi⟩=>?_;subst he;exact⟨_,rfl,_,_,_,[],_,[],hW',trodAll_mk1 (shut_bool underlying4 _),(trodAll_cons_mk (Below.trod laidOut (by kernel_rfl) (bgh (by kernel_rfl)) k0 Oi lt0)
  (trodAll_cons_mk (Below.trod laidOut (by kernel_rfl) (bgh (by kernel_rfl)) k1 Oi lt1)
  trodAll_mk0)),rfl,Oi.frame _,λh=>by cases h⟩
theorem operRuns_said:Rows.OperRunsUptoSaid:=
 OpenClaim.holds_of_cond 3 Tryz.f3 rfl rfl rfl rfl rfl rfl rfl ⟨rfl,rfl,rfl,rfl,rfl⟩ rfl rfl rfl rfl rfl (by kernel_rfl) func3 (by kernel_rfl)
  (bgh (by kernel_rfl)) (by unfold Func.isWrapper;first | (rw[if_pos (by decide+kernel)];kernel_rfl) | (rw[if_neg (by decide+kernel)];exact⟨rfl,rfl⟩))
  (λos started H enc _ F=>zh os started H enc F)
#print axioms operRuns_said
end Go.Proofs.YtjeeghafachebaaGreat
