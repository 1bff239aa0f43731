/-
  33.
-/
import Derived.Test.YtjeeghafachebaaGreatU32
import Derived.Test.YtjeeghafachebaaGreatU31
set_option maxRecDepth 100000
set_option maxHeartbeats 4000000
namespace Go.Proofs.YtjeeghafachebaaGreat
open Go Go.RowKit Go.Proofs.Tryz
theorem QX {q:bz} {key:List (BitVec 8)} {t:Int}(hq:q.bB=true)(hk:kr key=true)(h0:0<=t)(h1:t<=1099511627776):lM q key t≠[]:=by
 have ho:jS q key t=true:=by rw[jS,hq,hk,bfr ⟨h0,h1⟩];rfl
 rw[lM,if_pos ho]
 split
 ·simp
 intro h;have hb:=p9 hq h0;have hl:=congrArg List.length h;rw[jT,List.length_nil]at hl;omega
theorem Mi(w:World)(q:bz)(x:bg)(hl:x.key.length<=1000000)(hq:q.bB=true)(hx:x.bB=true):
  Calls prog 49 #[.agg q.cells,.agg x.cells] w (bE w (.bool (yM q x))):=by
 have mixed:prog.follows .mixedOrders=true:=by kernel_rfl
 obtain⟨r,hr⟩:=Nm (yM q x);rw[<-hr];obtain⟨w1,hw1⟩:=Nm ((w.alloc (.cells q.cells 23)).alloc (.cells x.cells 47));obtain⟨qb,Sm⟩:=Nm (w.heap.size);obtain⟨xb,hxb⟩:=Nm (w.heap.size+1);have H1:Hid (dn w1 qb q/\bZ w1 xb x/\Bw w w1):=by rw[hw1,Sm,hxb];exact Lh (Jm w q x)
 obtain⟨l,hL⟩:=Nm (lM q x.key x.lo);obtain⟨c1,c2,c3,c4,c5,c6,c7⟩:=cu hx;have hne:l≠[]:=by rw[hL];exact QX hq c1 (by omega) (by omega)
 have hlen:l.length<=1000000:=by
  have:=wS q x.key x.lo;rw[hL];omega
 obtain⟨VQ,SS⟩:=Nm (Value.agg q.cells);obtain⟨VW,Vv⟩:=Nm (Value.agg x.cells);obtain⟨rc,hrc⟩:=Nm (decide (x∈l));have Xj:Hid (∀w',Calls prog 62 #[VQ,Sv x.key,.int .i64 x.lo] w' (qI w' l)):=by
  rw[hL,SS];exact Lh (λw'=>Qh w' q x.key x.lo hl)
 have aj:Hid (∀w' a c,dF w' a l->Calls prog 87 #[.slice a l.length c,VW] w' (bE w' (.bool rc))):=by
  rw[hrc,Vv];exact Lh (λw' a c h=>Cm w' a c l x h hne hlen)
 have HR:Hid (r=if q.kind=3 then decide (q.size<=x.hi-x.lo)else rc):=by
  rw[hr,yM,hrc,hL];exact Lh rfl
 have hsz:=tT hq;clear hr hrc hL hne hlen hl hq hx c1 c2 c3;obtain⟨kind,size,slide,late,agg,kq⟩:=q;obtain⟨xk,xl,xh⟩:=x;have VF:Hid (VQ=.agg #[.int .i64 kind,.int .i64 size,.int .i64 slide,.int .i64 late,.int .i64 agg,.int .i64 kq]):=Lh SS;have Xk:Hid (VW=.agg #[Sv xk,.int .i64 xl,.int .i64 xh]):=Lh Vv;clear SS Vv;have HQ:Hid (∀w',Bw w1 w'->D6 w' qb kind size slide late agg kq):=Lh (λw' h=>(H1.out.1.below h).d6);have HW:Hid (∀w',Bw w1 w'->D3 w' xb xk xl xh):=Lh (λw' h=>(H1.out.2.1.below h).d3);have HB1:=Lh H1.out.2.2;have hs1:(w.alloc (.cells #[.int .i64 kind,.int .i64 size,.int .i64 slide,.int .i64 late,.int .i64 agg,.int .i64 kq] 23)).heap.size=w.heap.size+1:=bq w _;unfold bz.cells bg.cells at hw1 ⊢;simp only at hw1 Xj HR c4 c5 c6 c7 hsz;clear H1;obtain⟨d0,d1,d2,d3,d4,d5⟩:=HQ.out w1 Br;obtain⟨e0,e1,e2⟩:=HW.out w1 Br;by_cases hk:kind=3
 ·subst hk;obtain rfl:r=decide (size<=xh - xl):=by rw[HR.out,if_pos rfl]
  go_enter func49,ntmps49;go_upto_region 1 with(fail);rw[<-hw1,<-hxb,<-Sm];clear hw1 hxb Sm hs1;go_wp2_with(fail);go_ret;exact⟨rfl,HB1.out⟩
 have hk':(kind==3)=false:=by simpa using hk
 obtain rfl:r=rc:=by rw[HR.out,if_neg hk]
 clear hk HR;go_enter func49,ntmps49;go_upto_region 1 with(fail);rw[<-hw1,<-hxb,<-Sm];clear hw1 hxb Sm hs1;go_upto_region 3 with(fail);clear d0 d1 d2 d3 d4 d5 e0 e1 e2 hk';have SB:Hid (Bw w1 w1.drew):=Lh (Below.refl _ w1).drew;refine bD (λi=>([]:List Nat).contains i) (by kernel_rfl) (NoF [none,none,none,none]) [] (V4 (VQ::(Value.pointer (some ⟨xb,0,none⟩))::Sv xk::(Value.pointer (some ⟨xb,1,none⟩))::(Value.int .i64 xl)::undef::VW::([.bool r,.bool r]:List Value)) 5 (λ_ w' v=>∃sa sc,v=.slice sa l.length sc/\l.length<=sc/\dF w' sa l) 99 (λ_ _ _=>True) 99 (λ_ _ _=>True) 99 (λ_ _ _=>True)) (λ_ w'=>Bw w1 w') (λw w'=>Bw w w') (qm _ (λk w w' v h ha=>by obtain⟨sa,sc,h1,h2,h3⟩:=ha;exact⟨sa,sc,h1,h2,h3.below h⟩) (λ_ _ _ _ _ h=>h) (λ_ _ _ _ _ h=>h) (λ_ _ _ _ _ h=>h)) (by kernel_rfl) (by kernel_rfl) (by kernel_rfl) SB.out (λ_=>⟨rfl,rfl,rfl,rfl,rfl,rfl,rfl,rfl,rfl,trivial⟩) (λ_ h=>by simp at h) ?_ ?_
 ·refine ⟨?_,?_,?_,?_,?_,?_,?_,?_,?_,trivial⟩<;>intro _ _ a w' hG Si Sj K hK<;>replace Si:=Lh Si<;>replace Sj:=Lh Sj
  ·have q2:=FaA Si 2 qb 0;obtain⟨d0,d1,d2,d3,d4,d5⟩:=HQ.out _ hG;go_step;exact hK _ _ VF.out.symm hG Br
  have q3:=FaA Si 3 xb 0;rotate_left;have Wx:=Pa a 17 xb 0 Sj.out.1;obtain⟨e0,e1,e2⟩:=HW.out _ hG;rotate_left;have q3:=FaA Si 3 xb 0;rotate_left;have VV:=Pa a 19 xb 1 Sj.out.1;obtain⟨e0,e1,e2⟩:=HW.out _ hG;rotate_left
  ·have q16:=Ep a 16 VQ Sj.out.1;have Vn:=Ep a 18 (Sv xk) Sj.out.2.1;have Wy:=Pi a 20 xl Sj.out.2.2.1;go_step;refine(Xj.out w').mono ?_;rintro e w3 ⟨sa,sc,rfl,hc,hA,hB⟩;exact hK _ _ ⟨sa,sc,rfl,hc,hA⟩ (Tb hG hB) hB
  ·have q3:=FaA Si 3 xb 0;obtain⟨e0,e1,e2⟩:=HW.out _ hG;go_step;exact hK _ _ Xk.out.symm hG Br
  ·obtain ⟨p0,_,_⟩:=Sj.out;obtain⟨sa,sc,hv,hc,hA⟩:=(show ∃sa sc,a.eval (.tmp 21)=.slice sa l.length sc/\l.length<=sc/\dF w' sa l from p0);have VZ:=bf hv;have q22:=Ep a 22 VW Sj.out.2.1;have HS:=aj.out w' sa sc hA;clear hA hv hc;go_step;refine HS.mono ?_;rintro e w3 ⟨rfl,hB⟩;exact hK _ _ rfl (Tb hG hB) hB
  have Wi:=Ep a 23 (.bool r) Sj.out.1;rotate_left
  all_goals(go_step;exact hK _ _ rfl hG Br)
 intro vs w2 hG hlen hV
 match vs,hlen,hV with
 | [v0,v1,v2,v3,v4,v5,v6,v7,v8],_,hV=>
  obtain rfl:v8=.bool r:=(hV 8 4 v8 rfl rfl);clear hV;simp only[dG,bf7,bf1];simp only[Act.put,bfw,bfu,bfv];have HZ:=Lh (Tb HB1.out hG);clear hG;go_wp2_with(fail);go_ret;exact⟨rfl,HZ.out⟩
theorem J4(w:World)(q:bz)(x:bn)(hg:bR w x)(hl:x.p.w.key.length<=1000000)(hn:x.p.a.top.length<=1000000)(hq:q.bB=true):
  Calls prog 29 #[.agg q.cells,.agg x.cells] w (bE w (.bool (jY q x.p))):=by
 obtain⟨r,hr⟩:=Nm (jY q x.p);rw[<-hr];obtain⟨w1,hw1⟩:=Nm ((w.alloc (.cells q.cells 23)).alloc (.cells x.cells 55));obtain⟨qb,Sm⟩:=Nm (w.heap.size);obtain⟨pb,hpb⟩:=Nm (w.heap.size+1);have H1:Hid (dn w1 qb q/\cz w1 pb x/\Bw w w1):=by rw[hw1,Sm,hpb];exact Lh (Jl w q x)
 have HB1:=Lh H1.out.2.2;obtain⟨ra,hra⟩:=Nm (x.p.w.bB);obtain⟨rb,hrb⟩:=Nm (yM q x.p.w);obtain⟨rc,hrc⟩:=Nm (x.p.a.bB q);have Vk:Hid (∀w',Bw w1 w'->Calls prog 48 #[.agg x.p.w.cells] w' (bE w' (.bool ra))):=by
  rw[hra];exact Lh (λw' _=>nT w' x.p.w hl)
 have Yg:Hid (ra=true->∀w',Bw w1 w'->Calls prog 49 #[.agg q.cells,.agg x.p.w.cells] w' (bE w' (.bool rb))):=by
  rw[hra,hrb];exact Lh (λh w' _=>Mi w' q x.p.w hl hq h)
 have Wm:Hid (∀w',Bw w1 w'->Calls prog 32 #[.agg q.cells,.agg (bI x.p.a.n x.p.a.a x.tv x.z)] w' (bE w' (.bool rc))):=by
  rw[hrc];exact Lh (λw' hB=>nk w' q x.p.a x.tv x.z ((hg.1.below H1.out.2.2).below (hB.mono (bfx _))) hg.2 hn)
 have HR:Hid (r=(ra && (rb && (decide (0<x.p.a.n) && rc)))):=by
  rw[hr,jY,hra,hrb,hrc];exact Lh rfl
 clear hr hra hrb hrc hg hl hn hq;obtain⟨kind,size,slide,late,agg,kq⟩:=q;obtain⟨⟨⟨xk,xl,xh⟩,⟨n,a,top,u,v⟩,rd⟩,tv,z,ht,hz⟩:=x;have HQ:Hid (∀w',Bw w1 w'->D6 w' qb kind size slide late agg kq):=Lh (λw' h=>(H1.out.1.below h).d6);have HP:Hid (∀w',Bw w1 w'->D8 w' pb ⟨⟨⟨xk,xl,xh⟩,⟨n,a,top,u,v⟩,rd⟩,tv,z,ht,hz⟩):=Lh (λw' h=>(H1.out.2.1.below h).d8);have hs1:(w.alloc (.cells #[.int .i64 kind,.int .i64 size,.int .i64 slide,.int .i64 late,.int .i64 agg,.int .i64 kq] 23)).heap.size=w.heap.size+1:=bq w _;unfold bz.cells bn.cells at hw1 ⊢;unfold bz.cells bg.cells at Yg;unfold bg.cells at Vk;unfold bz.cells bI at Wm;simp only at hw1 Vk Yg Wm HR;clear H1
 cases ra with
 | false=>
  obtain rfl:r=false:=HR.out;clear HR Yg Wm;go_enter func29,ntmps29;go_upto_region 1 with(fail);rw[<-hw1,<-hpb,<-Sm];clear hw1 hpb Sm hs1;obtain⟨d0,d1,d2,d3,d4,d5⟩:=HQ.out w1 Br;obtain⟨e0,e1,e2,e3,e4,e5,e6,e7⟩:=HP.out w1 Br;go_wp2_with(fail);refine(Vk.out w1 Br).mono ?_;rintro e w2 ⟨rfl,hB⟩;have SH:=Lh hB;clear hB d0 d1 d2 d3 d4 d5 e0 e1 e2 e3 e4 e5 e6 e7;dsimp only;go_wp2_with(fail);go_ret;exact⟨rfl,Tb HB1.out SH.out⟩
 | true=>
 have Vz:=Lh (Yg.out rfl);clear Yg
 cases rb with
 | false=>
  obtain rfl:r=false:=HR.out;clear HR Wm;go_enter func29,ntmps29;go_upto_region 1 with(fail);rw[<-hw1,<-hpb,<-Sm];clear hw1 hpb Sm hs1;obtain⟨d0,d1,d2,d3,d4,d5⟩:=HQ.out w1 Br;obtain⟨e0,e1,e2,e3,e4,e5,e6,e7⟩:=HP.out w1 Br;go_wp2_with(fail);refine(Vk.out w1 Br).mono ?_;rintro e w2 ⟨rfl,hB⟩;have SH:=Lh hB;clear hB d0 d1 d2 d3 d4 d5 e0 e1 e2 e3 e4 e5 e6 e7;obtain⟨d0,d1,d2,d3,d4,d5⟩:=HQ.out w2 SH.out;obtain⟨e0,e1,e2,e3,e4,e5,e6,e7⟩:=HP.out w2 SH.out;dsimp only;go_wp2_with(fail);refine(Vz.out w2 SH.out).mono ?_;rintro e w3 ⟨rfl,hB⟩;have Ve:=Lh (Tb SH.out hB);clear hB d0 d1 d2 d3 d4 d5 e0 e1 e2 e3 e4 e5 e6 e7;dsimp only;go_wp2_with(fail);go_ret;exact⟨rfl,Tb HB1.out Ve.out⟩
 | true=>
 by_cases h0:0<n
 ·obtain rfl:r=rc:=by rw[HR.out,bfr h0];rfl
  clear HR;go_enter func29,ntmps29;go_upto_region 1 with(fail);rw[<-hw1,<-hpb,<-Sm];clear hw1 hpb Sm hs1;obtain⟨d0,d1,d2,d3,d4,d5⟩:=HQ.out w1 Br;obtain⟨e0,e1,e2,e3,e4,e5,e6,e7⟩:=HP.out w1 Br;go_wp2_with(fail);refine(Vk.out w1 Br).mono ?_;rintro e w2 ⟨rfl,hB⟩;have SH:=Lh hB;clear hB d0 d1 d2 d3 d4 d5 e0 e1 e2 e3 e4 e5 e6 e7;obtain⟨d0,d1,d2,d3,d4,d5⟩:=HQ.out w2 SH.out;obtain⟨e0,e1,e2,e3,e4,e5,e6,e7⟩:=HP.out w2 SH.out;dsimp only;go_wp2_with(fail);refine(Vz.out w2 SH.out).mono ?_;rintro e w3 ⟨rfl,hB⟩;have Ve:=Lh (Tb SH.out hB);clear hB d0 d1 d2 d3 d4 d5 e0 e1 e2 e3 e4 e5 e6 e7;obtain⟨d0,d1,d2,d3,d4,d5⟩:=HQ.out w3 Ve.out;obtain⟨e0,e1,e2,e3,e4,e5,e6,e7⟩:=HP.out w3 Ve.out;dsimp only;go_wp2_with(fail);refine(Wm.out w3 Ve.out).mono ?_;rintro e w4 ⟨rfl,hB⟩;have YG:=Lh (Tb Ve.out hB);clear hB d0 d1 d2 d3 d4 d5 e0 e1 e2 e3 e4 e5 e6 e7;dsimp only;go_wp2_with(fail);go_ret;exact⟨rfl,Tb HB1.out YG.out⟩
 have h0':decide (0<n)=false:=bfq h0;obtain rfl:r=false:=by rw[HR.out,h0'];rfl
 clear HR Wm h0;go_enter func29,ntmps29;go_upto_region 1 with(fail);rw[<-hw1,<-hpb,<-Sm];clear hw1 hpb Sm hs1;obtain⟨d0,d1,d2,d3,d4,d5⟩:=HQ.out w1 Br;obtain⟨e0,e1,e2,e3,e4,e5,e6,e7⟩:=HP.out w1 Br;go_wp2_with(fail);refine(Vk.out w1 Br).mono ?_;rintro e w2 ⟨rfl,hB⟩;have SH:=Lh hB;clear hB d0 d1 d2 d3 d4 d5 e0 e1 e2 e3 e4 e5 e6 e7;obtain⟨d0,d1,d2,d3,d4,d5⟩:=HQ.out w2 SH.out;obtain⟨e0,e1,e2,e3,e4,e5,e6,e7⟩:=HP.out w2 SH.out;dsimp only;go_wp2_with(fail);refine(Vz.out w2 SH.out).mono ?_;rintro e w3 ⟨rfl,hB⟩;have Ve:=Lh (Tb SH.out hB);clear hB d0 d1 d2 d3 d4 d5 e0 e1 e2 e3 e4 e5 e6 e7;obtain⟨d0,d1,d2,d3,d4,d5⟩:=HQ.out w3 Ve.out;obtain⟨e0,e1,e2,e3,e4,e5,e6,e7⟩:=HP.out w3 Ve.out;dsimp only;go_wp2_with(fail);go_ret;exact⟨rfl,Tb HB1.out Ve.out⟩
theorem Mk(w:World)(q:bz)(x:bn)(mark:Int)(hl:x.p.w.key.length<=1000000):
  Calls prog 30 #[.agg q.cells,.agg x.cells,.int .i64 mark] w (bE w (.bool (kY q x.p mark))):=by
 have mixed:prog.follows .mixedOrders=true:=by kernel_rfl
 obtain⟨r,hr⟩:=Nm (kY q x.p mark);rw[<-hr];obtain⟨w1,hw1⟩:=Nm ((w.alloc (.cells q.cells 23)).alloc (.cells x.cells 55));obtain⟨qb,Sm⟩:=Nm (w.heap.size);obtain⟨pb,hpb⟩:=Nm (w.heap.size+1);have H1:Hid (dn w1 qb q/\cz w1 pb x/\Bw w w1):=by rw[hw1,Sm,hpb];exact Lh (Jl w q x)
 have HB1:=Lh H1.out.2.2;obtain⟨ra,hra⟩:=Nm (gy q x.p.w mark);obtain⟨rb,hrb⟩:=Nm (ji x.p.w mark);have Vk:Hid (∀w',Bw w1 w'->Calls prog 50 #[.agg q.cells,.agg x.p.w.cells,.int .i64 mark] w' (bE w' (.bool ra))):=by
  rw[hra];exact Lh (λw' _=>x8 w' q x.p.w mark hl)
 obtain⟨VW,Vv⟩:=Nm (Value.agg x.p.w.cells);have Vz:Hid (∀w',Bw w1 w'->Calls prog 51 #[VW,.int .i64 mark] w' (bE w' (.bool rb))):=by
  rw[hrb,Vv];exact Lh (λw' _=>x9 w' x.p.w mark hl)
 have HR:Hid (r=(!ra && (decide (0<=x.p.r/\x.p.r<=1073741824) && (rb==decide (0<x.p.r))))):=by
  rw[hr,kY,hra,hrb];exact Lh rfl
 clear hr hra hrb hl;obtain⟨kind,size,slide,late,agg,kq⟩:=q;obtain⟨⟨⟨xk,xl,xh⟩,⟨n,a,top,u,v⟩,rd⟩,tv,z,ht,hz⟩:=x;have HQ:Hid (∀w',Bw w1 w'->D6 w' qb kind size slide late agg kq):=Lh (λw' h=>(H1.out.1.below h).d6);have HP:Hid (∀w',Bw w1 w'->D8 w' pb ⟨⟨⟨xk,xl,xh⟩,⟨n,a,top,u,v⟩,rd⟩,tv,z,ht,hz⟩):=Lh (λw' h=>(H1.out.2.1.below h).d8);have hs1:(w.alloc (.cells #[.int .i64 kind,.int .i64 size,.int .i64 slide,.int .i64 late,.int .i64 agg,.int .i64 kq] 23)).heap.size=w.heap.size+1:=bq w _;unfold bz.cells bn.cells at hw1 ⊢;unfold bz.cells bg.cells at Vk;have Xk:Hid (VW=.agg #[Sv xk,.int .i64 xl,.int .i64 xh]):=Lh Vv;clear Vv;simp only at hw1 Vk HR;clear H1
 cases ra with
 | true=>
  obtain rfl:r=false:=HR.out;clear HR Vz;go_enter func30,ntmps30;go_upto_region 1 with(fail);rw[<-hw1,<-hpb,<-Sm];clear hw1 hpb Sm hs1;obtain⟨d0,d1,d2,d3,d4,d5⟩:=HQ.out w1 Br;obtain⟨e0,e1,e2,e3,e4,e5,e6,e7⟩:=HP.out w1 Br;go_wp2_with(fail);refine(Vk.out w1 Br).mono ?_;rintro e w2 ⟨rfl,hB⟩;have SH:=Lh hB;clear hB d0 d1 d2 d3 d4 d5 e0 e1 e2 e3 e4 e5 e6 e7;dsimp only;go_wp2_with(fail);go_ret;exact⟨rfl,Tb HB1.out SH.out⟩
 | false=>
 by_cases h0:rd<0
 ·obtain rfl:r=false:=by rw[HR.out,bfq (by omega)];rfl
  clear HR Vz;go_enter func30,ntmps30;go_upto_region 1 with(fail);rw[<-hw1,<-hpb,<-Sm];clear hw1 hpb Sm hs1;obtain⟨d0,d1,d2,d3,d4,d5⟩:=HQ.out w1 Br;obtain⟨e0,e1,e2,e3,e4,e5,e6,e7⟩:=HP.out w1 Br;go_wp2_with(fail);refine(Vk.out w1 Br).mono ?_;rintro e w2 ⟨rfl,hB⟩;have SH:=Lh hB;clear hB d0 d1 d2 d3 d4 d5 e0 e1 e2 e3 e4 e5 e6 e7;obtain⟨d0,d1,d2,d3,d4,d5⟩:=HQ.out w2 SH.out;obtain⟨e0,e1,e2,e3,e4,e5,e6,e7⟩:=HP.out w2 SH.out;dsimp only;go_wp2_with(fail);go_ret;exact⟨rfl,Tb HB1.out SH.out⟩
 have h0':decide (rd<0)=false:=bfq h0;by_cases h1:1073741824<rd
 ·obtain rfl:r=false:=by rw[HR.out,bfq (by omega)];rfl
  clear HR Vz h0;go_enter func30,ntmps30;go_upto_region 1 with(fail);rw[<-hw1,<-hpb,<-Sm];clear hw1 hpb Sm hs1;obtain⟨d0,d1,d2,d3,d4,d5⟩:=HQ.out w1 Br;obtain⟨e0,e1,e2,e3,e4,e5,e6,e7⟩:=HP.out w1 Br;go_wp2_with(fail);refine(Vk.out w1 Br).mono ?_;rintro e w2 ⟨rfl,hB⟩;have SH:=Lh hB;clear hB d0 d1 d2 d3 d4 d5 e0 e1 e2 e3 e4 e5 e6 e7;obtain⟨d0,d1,d2,d3,d4,d5⟩:=HQ.out w2 SH.out;obtain⟨e0,e1,e2,e3,e4,e5,e6,e7⟩:=HP.out w2 SH.out;dsimp only;go_wp2_with(fail);go_ret;exact⟨rfl,Tb HB1.out SH.out⟩
 have h1':decide (1073741824<rd)=false:=bfq h1;obtain⟨rp,TY⟩:=Nm (decide (0<rd));have Wn:=Lh TY;have hbr:∀w',Sem.run prog (binOp .eql 4 (.bool rb) (.bool rp)) w'=.ok (.bool (rb==rp)) w':=λw'=>by cases rb <;> cases rp <;> simp[go_sem]
 have HR:Hid (r=(rb==rp)):=by
  rw[HR.out,bfr (show 0<=rd/\rd<=1073741824 by omega),<-TY]
  exact Lh (bgw _)
 clear h0 h1 TY;go_enter func30,ntmps30;go_upto_region 1 with(fail);rw[<-hw1,<-hpb,<-Sm];clear hw1 hpb Sm hs1;obtain⟨d0,d1,d2,d3,d4,d5⟩:=HQ.out w1 Br;obtain⟨e0,e1,e2,e3,e4,e5,e6,e7⟩:=HP.out w1 Br;go_wp2_with(fail);refine(Vk.out w1 Br).mono ?_;rintro e w2 ⟨rfl,hB⟩;have SH:=Lh hB;clear hB d0 d1 d2 d3 d4 d5 e0 e1 e2 e3 e4 e5 e6 e7;obtain⟨d0,d1,d2,d3,d4,d5⟩:=HQ.out w2 SH.out;obtain⟨e0,e1,e2,e3,e4,e5,e6,e7⟩:=HP.out w2 SH.out;dsimp only;go_upto_region 3 with(fail);clear d0 d1 d2 d3 d4 d5 e0 e1 e2 e3 e4 e5 e6 e7 h0' h1';have SB:Hid (Bw w1 w2.drew):=Lh SH.out.drew;refine bD (λi=>([]:List Nat).contains i) (by kernel_rfl) (NoF [none,none,none,none]) [] (λi_ _ _ v_=>v_=(((Value.pointer (some ⟨pb,0,none⟩))::VW::([.int .i64 mark,.bool rb,.pointer (some ⟨pb,7,none⟩),.int .i64 rd,.bool rp,.bool (rb==rp),.bool (rb==rp)]:List Value))).getD i_ undef) (λ_ w'=>Bw w1 w') (λw w'=>Bw w w') (λ_ _ _ _ _ _ h=>h) (by kernel_rfl) (by kernel_rfl) (by kernel_rfl) SB.out (λ_=>⟨rfl,rfl,rfl,rfl,rfl,rfl,rfl,rfl,rfl,trivial⟩) (λ_ h=>by simp at h) ?_ ?_
 ·refine ⟨?_,?_,?_,?_,?_,?_,?_,?_,?_,trivial⟩<;>intro _ _ a w' hG Si Sj K hK<;>replace Si:=Lh Si<;>replace Sj:=Lh Sj
  have q4:=FaA Si 4 pb 0;rotate_left
  ·have q22:=Pa a 22 pb 0 Sj.out.1;obtain⟨e0,e1,e2,e3,e4,e5,e6,e7⟩:=HP.out _ hG;go_step;exact hK _ _ Xk.out.symm hG Br
  have q2:=FiA Si 2 mark;rotate_left
  ·have Wi:=Ep a 23 VW Sj.out.1;have q24:=Pi a 24 mark Sj.out.2.1;have HS:=Lh (Vz.out w' hG);go_step;refine HS.out.mono ?_;rintro e w3 ⟨rfl,hB⟩;exact hK _ _ rfl (Tb hG hB) hB
  have q4:=FaA Si 4 pb 0;rotate_left;have V5:=Pa a 26 pb 7 Sj.out.1;obtain⟨e0,e1,e2,e3,e4,e5,e6,e7⟩:=HP.out _ hG;rotate_left
  ·have Xe:=Pi a 27 rd Sj.out.1;have TY:=Wn.out;go_step;subst TY;exact hK _ _ rfl hG Br
  have V3:=Ep a 25 (.bool rb) Sj.out.1;have XW:=Ep a 28 (.bool rp) Sj.out.2.1;rotate_left;have YC:=Ep a 29 (.bool (rb==rp)) Sj.out.1;rotate_left
  all_goals(go_step;exact hK _ _ rfl hG Br)
 intro vs w2 hG hlen hV
 match vs,hlen,hV with
 | [v0,v1,v2,v3,v4,v5,v6,v7,v8],_,hV=>
  obtain rfl:v8=.bool (rb==rp):=(hV 8 6 v8 rfl rfl);clear hV;simp only[dG,bf7,bf1];simp only[Act.put,bfw,bfu,bfv];have HZ:=Lh (Tb HB1.out hG);clear hG;go_wp2_with(fail);go_ret;exact⟨by rw[HR.out];rfl,HZ.out⟩
def bT(w:World)(b:Nat)(m:Int)(pv:Value):Prop:=w.heap[b]? =some (.cells #[.int .i64 m,pv] 29 (0,0))
theorem bT.lt {w:World} {b:Nat} {m:Int} {pv:Value}(h:bT w b m pv):b<w.heap.size:=(Array.getElem?_eq_some_iff.1 h).1
theorem bT.below {w w':World} {b:Nat} {m:Int} {pv:Value}(h:bT w b m pv)(hB:Bw w w'):bT w' b m pv:=(hB.block b h.lt).trans h
theorem bT.grown {w w':World} {b:Nat} {m:Int} {pv:Value} {row:Option Nat}(h:bT w b m pv)(hg:w.grownBy w' row)(hne:some b≠row):bT w' b m pv:=(hg.block b h.lt hne).trans h
theorem bT.qi {w:World} {b:Nat} {m:Int} {pv:Value}(h:bT w b m pv)(i:Nat):w.frozen? ⟨b,i,none⟩=false:=by
 unfold bT at h;simp[World.frozen?,h]
def D2(w:World)(b:Nat)(m:Int)(pv:Value):Prop:=w.cell? ⟨b,0,none⟩=some (.int .i64 m)/\w.cell? ⟨b,1,none⟩=some pv
theorem bT.d2 {w:World} {b:Nat} {m:Int} {pv:Value}(h:bT w b m pv):D2 w b m pv:=by
 refine⟨?_,?_⟩ <;> (rw[cell_of_row _ _ _ _ _ _ h];rfl)
theorem bT.set1 {w:World} {b:Nat} {m:Int} {pv:Value}(h:bT w b m pv)(x:Value):bT (w.setCell ⟨b,1,none⟩ x) b m x:=by
 unfold bT at*;rw[setCell_eq_setRow w b 1 _ _ (0,0) _ h];exact setRow_heap w b _ _ _ _ h
theorem bT.reset {w:World} {b:Nat} {m:Int} {pv:Value}(h:bT w b m pv)(m':Int)(pv':Value):bT (w.setRow b #[.int .i64 m',pv']) b m' pv':=setRow_heap w b _ _ _ _ h
theorem bF:(prog.info? 29).map (·.size)=some 2:=by kernel_rfl
theorem cB {m:Int} {pv:Value}(h:pv.oneCell'=true):(#[Value.int .i64 m,pv]:Array Value).all (·.oneCell')=true:=by
 rw[Array.all_eq_true'];intro v hv;simp only[List.mem_toArray,bf2,bf9,or_false]at hv;rcases hv with rfl | rfl
 ·rfl
 exact h
theorem D7(w:World)(q:bz)(m:Int)(pv:Value):
  dn ((w.alloc (.cells q.cells 23)).alloc (.cells #[.int .i64 m,pv] 29)) w.heap.size q/\
   bT ((w.alloc (.cells q.cells 23)).alloc (.cells #[.int .i64 m,pv] 29)) (w.heap.size+1) m pv/\
   Bw w ((w.alloc (.cells q.cells 23)).alloc (.cells #[.int .i64 m,pv] 29)):=by
 have k1:=(Below.refl _ w).alloc (bfx _) (.cells q.cells 23);have k2:=(Below.refl _ (w.alloc (.cells q.cells 23))).alloc (bfx _) (.cells #[.int .i64 m,pv] 29);have hs:(w.alloc (.cells q.cells 23)).heap.size=w.heap.size+1:=bq w _;refine⟨dn.below (bg5 w _) k2,?_,Tb k1 k2⟩;rw[<-hs];exact bg5 _ _
def qG(l:List bn):Prop:=(∀x∈l,x.p.w.key.length<=1000000/\x.p.a.top.length<=1000000)/\l.length<=1000000
def R4(q:bz)(m:Int)(l:List bn)(j:Nat):Prop:=∀x,l[j]? =some x->jY q x.p=true/\kY q x.p m=true
def RV(w:World)(q:bz)(m:Int)(l:List bn)(v:Value)(wr:World):Prop:=∃i:Nat,i<=l.length/\v=.int .i64 (i:Int)/\(∀j<i,R4 q m l j)/\Bw w wr
theorem K3 {q:bz} {m:Int} {l:List bn}:(l.map bn.p).all (λp=>jY q p && kY q p m)=true↔∀j<l.length,R4 q m l j:=by
 rw[bgt];constructor
 ·intro h j hj x hx;have:=h x.p (List.mem_map.2 ⟨x,bf3 hx,rfl⟩);simpa using this
 intro h p hp;obtain⟨x,hx,rfl⟩:=List.mem_map.1 hp;obtain⟨j,hj,rfl⟩:=List.getElem_of_mem hx;have:=h j hj _ (bfs hj);simp[this.1,this.2]
theorem Bt(w:World)(q:bz)(m:Int)(pv:Value)(l:List bn)(hA:bO w pv l)(hG:∀x∈l,bR w x)(hF:qG l):
  Calls prog 17 #[.agg q.cells,.agg #[.int .i64 m,pv]] w (bE w (.bool (fQ q ⟨m,l.map bn.p⟩))):=by
 obtain⟨sa,sc,hpv,hcap,hAt⟩:=hA.form;obtain⟨n,hN⟩:=Nm (l.length);obtain⟨P,hP⟩:=Nm (bE w (.bool (fQ q ⟨m,l.map bn.p⟩)));rw[<-hP];have SF:Hid (∀wz,fQ q ⟨m,l.map bn.p⟩=false->Bw w wz->P (.returned (.bool false)) wz):=Lh (λwz h hB=>by rw[hP,h];exact⟨rfl,hB⟩)
 obtain⟨rp,TY⟩:=Nm (fH q (l.map bn.p));have Sl:Hid (∀wz,q.bB=true->¬m < -1->¬1099511627776<m->¬256<n->(∀j<n,R4 q m l j)->Bw w wz->P (.returned (.bool rp)) wz):=Lh (λwz h1 h2 h3 h4 h5 hB=>by
  have hr:fQ q ⟨m,l.map bn.p⟩=rp:=by
   have ha:=K3.2 (by rw[hN]at h5;exact h5)
   rw[fQ,h1,ha,<-TY,bfr (show -1<=m/\m<=1099511627776 by omega),bfr (show(di.mk m (l.map bn.p)).panes.length<=256 by simp only[bfz];omega)]
   rfl
  rw[hP,hr];exact⟨rfl,hB⟩)
 have WS:Hid (q.bB=false->fQ q ⟨m,l.map bn.p⟩=false):=Lh (λh=>by rw[fQ,h];rfl)
 have Ex:Hid (m < -1∨1099511627776<m->fQ q ⟨m,l.map bn.p⟩=false):=Lh (λh=>by rw[fQ,bfq (show ¬(-1<=m/\m<=1099511627776) by omega),Bool.false_and,Bool.and_false])
 have IJ:Hid (256<n->fQ q ⟨m,l.map bn.p⟩=false):=Lh (λh=>by
  rw[fQ,bfq (show ¬(di.mk m (l.map bn.p)).panes.length<=256 by simp only[bfz];omega),Bool.false_and,Bool.and_false,Bool.and_false])
 have YJ:Hid (∀(j:Nat) (x:bn),l[j]? =some x->(jY q x.p=false∨kY q x.p m=false)->fQ q ⟨m,l.map bn.p⟩=false):=Lh (λj x hx h=>by
  have ha:(l.map bn.p).all (λp=>jY q p && kY q p m)=false:=by
   rw[Bool.eq_false_iff];intro h';have:=K3.1 h' j (List.getElem?_eq_some_iff.1 hx).1 x hx;rcases h with h | h <;> simp[h]at this
  rw[fQ,ha,Bool.false_and,Bool.and_false,Bool.and_false,Bool.and_false])
 obtain⟨w1,hw1⟩:=Nm ((w.alloc (.cells q.cells 23)).alloc (.cells #[.int .i64 m,pv] 29));obtain⟨qb,Sm⟩:=Nm (w.heap.size);obtain⟨sb,hsb⟩:=Nm (w.heap.size+1);have H1:Hid (dn w1 qb q/\bT w1 sb m pv/\Bw w w1):=by rw[hw1,Sm,hsb];exact Lh (D7 w q m pv)
 have HB1:=Lh H1.out.2.2;have HA:Hid (dI w1 sa l):=Lh (hAt.below HB1.out);have Ya:Hid (∀x∈l,bR w1 x):=Lh (λx hx=>(hG x hx).below HB1.out);have HF:=Lh hF;have Tx:n<=1000000:=by have:=hF.2;omega
 have HN:Hid (n=l.length):=Lh hN;obtain⟨rq,hrq⟩:=Nm (q.bB);have Xy:Hid (∀w',Bw w1 w'->Calls prog 28 #[.agg q.cells] w' (bE w' (.bool rq))):=by rw[hrq];exact Lh (λw' _=>nN w' q)
 have VI:Hid (∀w',Bw w1 w'->Calls prog 31 #[.agg q.cells,.slice sa n sc] w' (bE w' (.bool rp))):=by
  rw[TY,hN];exact Lh (λw' h=>GV w' q sa sc l (HA.out.below h) (λx hx=>(HF.out.1 x hx).1) HF.out.2)
 have uB:Hid (rq=true->∀w' x,x∈l->Bw w1 w'->Calls prog 29 #[.agg q.cells,.agg x.cells] w' (bE w' (.bool (jY q x.p)))):=by
  rw[hrq];exact Lh (λh w' x hx hB=>J4 w' q x ((Ya.out x hx).below hB) (HF.out.1 x hx).1 (HF.out.1 x hx).2 h)
 have U3:Hid (∀w' x,x∈l->Calls prog 30 #[.agg q.cells,.agg x.cells,.int .i64 m] w' (bE w' (.bool (kY q x.p m)))):=Lh (λw' x hx=>Mk w' q x m (HF.out.1 x hx).1);rw[<-hrq]at Sl WS;clear hA hG hF hN hrq TY hP hcap hAt;subst hpv;rw[<-HN.out]at hw1 H1 ⊢;obtain⟨Q,hQ⟩:=Nm q;rw[<-hQ]at uB U3 SF WS Ex IJ YJ Sl;obtain⟨kind,size,slide,late,agg,kq⟩:=q;have U5:Hid (Q.cells=#[.int .i64 kind,.int .i64 size,.int .i64 slide,.int .i64 late,.int .i64 agg,.int .i64 kq]):=by rw[hQ];exact Lh rfl
 clear hQ;have hs1:(w.alloc (.cells #[.int .i64 kind,.int .i64 size,.int .i64 slide,.int .i64 late,.int .i64 agg,.int .i64 kq] 23)).heap.size=w.heap.size+1:=bq w _;unfold bz.cells at hw1 Xy VI ⊢;have HQ:Hid (∀w',Bw w1 w'->D6 w' qb kind size slide late agg kq):=Lh (λw' h=>(H1.out.1.below h).d6);have HS:Hid (∀w',Bw w1 w'->D2 w' sb m (.slice sa n sc)):=Lh (λw' h=>(H1.out.2.1.below h).d2);simp only at hw1 Xy VI;clear H1;obtain⟨d0,d1,d2,d3,d4,d5⟩:=HQ.out w1 Br;obtain⟨e0,e1⟩:=HS.out w1 Br
 cases rq with
 | false=>
  go_enter func17,ntmps17;go_upto_region 1 with(fail);rw[<-hw1,<-hsb,<-Sm];clear hw1 hsb Sm hs1;go_wp2_with(fail);refine(Xy.out w1 Br).mono ?_;rintro e w2 ⟨rfl,hB⟩;have SH:=Lh hB;clear hB d0 d1 d2 d3 d4 d5 e0 e1;obtain⟨e0,e1⟩:=HS.out w2 SH.out;dsimp only;go_wp2_with(fail);exact SF.out _ (WS.out (by simp)) (Tb HB1.out SH.out)
 | true=>
 by_cases hm1:m < -1
 ·have HM:=Lh hm1;have Ae:decide (m < -1)=true:=bfr hm1;clear hm1;go_enter func17,ntmps17;go_upto_region 1 with(fail);rw[<-hw1,<-hsb,<-Sm];clear hw1 hsb Sm hs1;go_wp2_with(fail);refine(Xy.out w1 Br).mono ?_;rintro e w2 ⟨rfl,hB⟩;have SH:=Lh hB;clear hB d0 d1 d2 d3 d4 d5 e0 e1;obtain⟨e0,e1⟩:=HS.out w2 SH.out;dsimp only;go_wp2_with(fail);exact SF.out _ (Ex.out (.inl HM.out)) (Tb HB1.out SH.out)
 have Ae:decide (m < -1)=false:=bfq hm1;by_cases hm2:1099511627776<m
 ·have HM:=Lh hm2;have Af:decide (1099511627776<m)=true:=bfr hm2;clear hm1 hm2;go_enter func17,ntmps17;go_upto_region 1 with(fail);rw[<-hw1,<-hsb,<-Sm];clear hw1 hsb Sm hs1;go_wp2_with(fail);refine(Xy.out w1 Br).mono ?_;rintro e w2 ⟨rfl,hB⟩;have SH:=Lh hB;clear hB d0 d1 d2 d3 d4 d5 e0 e1;obtain⟨e0,e1⟩:=HS.out w2 SH.out;dsimp only;go_wp2_with(fail);exact SF.out _ (Ex.out (.inr HM.out)) (Tb HB1.out SH.out)
 have Af:decide (1099511627776<m)=false:=bfq hm2;by_cases YP:256<n
 ·have HM:=Lh YP;have Ag:decide ((256:Int)<(n:Int))=true:=bfr (by omega)
  clear hm1 hm2 YP;go_enter func17,ntmps17;go_upto_region 1 with(fail);rw[<-hw1,<-hsb,<-Sm];clear hw1 hsb Sm hs1;go_wp2_with(fail);refine(Xy.out w1 Br).mono ?_;rintro e w2 ⟨rfl,hB⟩;have SH:=Lh hB;clear hB d0 d1 d2 d3 d4 d5 e0 e1;obtain⟨e0,e1⟩:=HS.out w2 SH.out;dsimp only;go_wp2_with(fail);exact SF.out _ (IJ.out HM.out) (Tb HB1.out SH.out)
 have Ag:decide ((256:Int)<(n:Int))=false:=bfq (by omega)
 have HM:=Lh (bfy hm1 (bfy hm2 YP));clear hm1 hm2 YP WS Ex IJ;go_enter func17,ntmps17;go_upto_region 1 with(fail);rw[<-hw1,<-hsb,<-Sm];clear hw1 hsb Sm hs1;go_wp2_with(fail);refine(Xy.out w1 Br).mono ?_;rintro e w2 ⟨rfl,hB⟩;have SH:=Lh hB;clear hB d0 d1 d2 d3 d4 d5 e0 e1;obtain⟨e0,e1⟩:=HS.out w2 SH.out;dsimp only;go_wp2_with(fail);clear e0 e1 Ae Af Ag;go_loopw[29] (RV w1 Q m l) (λv _=>n-(intOf v).toNat)
 case atStart=>exact⟨0,bgi _,rfl,λj h=>absurd h (Nat.not_lt_zero _),SH.out⟩
 case round=>
  obtain⟨i,hi,rfl,hok,hB⟩:=hrel;rw[<-HN.out]at hi;have HO:=Lh (bfy hok hB);clear hok hB;by_cases hlt:i<n
  ·have hi0:(0:Int)<=(i:Int)/\(i:Int)<(n:Int):=by omega
   obtain⟨x,pa,oa,hx,hsa,c0,c1,c2,c3,c4,c5,c6,c7⟩:=(HA.out.below HO.out.2).get (t:=i) (by rw[<-HN.out];exact hlt)
   subst hsa;have HX:=Lh hx;have HI:=Lh (bfy hlt hi);clear hx hi hlt;obtain⟨⟨⟨xk,xl,xh⟩,⟨xn,xa,xt,xu,xv⟩,xr⟩,Su,xz,Sw,Sz⟩:=x;simp only at c0 c1 c2 c3 c4 c5 c6 c7;go_upto_region 5 with(fail);refine bg4 ?_
   iterate 9 go_step
   refine bg6 rfl _ _ _ rfl wr.heap.size (bn.mk ⟨⟨xk,xl,xh⟩,⟨xn,xa,xt,xu,xv⟩,xr⟩ Su xz Sw Sz).cells rfl rfl 55 cO.cells (bg5 wr _) fo rfl (fG _) ?_;obtain⟨wx,hwx⟩:=Nm ((wr.alloc (Obj.cells #[.string ⟨#[]⟩,.int .i64 0,.int .i64 0,.int .i64 0,.int .i64 0,.slice none 0 0,.complex .f64 0 0,.int .i64 0] 55)).setRow wr.heap.size (bn.mk ⟨⟨xk,xl,xh⟩,⟨xn,xa,xt,xu,xv⟩,xr⟩ Su xz Sw Sz).cells);obtain⟨xb,hxb⟩:=Nm (wr.heap.size);have Sn:Hid (cz wx xb (bn.mk ⟨⟨xk,xl,xh⟩,⟨xn,xa,xt,xu,xv⟩,xr⟩ Su xz Sw Sz)/\Bw w1 wx):=by
    obtain⟨k1,k2⟩:=fO wr (bn.mk ⟨⟨xk,xl,xh⟩,⟨xn,xa,xt,xu,xv⟩,xr⟩ Su xz Sw Sz);rw[hwx,hxb];exact Lh ⟨k1,HO.out.2.trans (k2.mono HO.out.2.size)⟩
   rw[<-hwx,<-hxb];clear hwx hxb c0 c1 c2 c3 c4 c5 c6 c7;obtain⟨X,hX⟩:=Nm (bn.mk ⟨⟨xk,xl,xh⟩,⟨xn,xa,xt,xu,xv⟩,xr⟩ Su xz Sw Sz);obtain⟨ra,hra⟩:=Nm (jY Q X.p);obtain⟨rb,hrb⟩:=Nm (kY Q X.p m);have uC:Hid (∀w',Bw w1 w'->Calls prog 29 #[.agg #[.int .i64 kind,.int .i64 size,.int .i64 slide,.int .i64 late,.int .i64 agg,.int .i64 kq],.agg (bn.mk ⟨⟨xk,xl,xh⟩,⟨xn,xa,xt,xu,xv⟩,xr⟩ Su xz Sw Sz).cells] w' (bE w' (.bool ra))):=Lh (λw' h=>by
    have:=uB.out (by simp) w' (bn.mk ⟨⟨xk,xl,xh⟩,⟨xn,xa,xt,xu,xv⟩,xr⟩ Su xz Sw Sz) (bf3 HX.out) h
    rw[hra,hX,<-U5.out];exact this)
   have EA:Hid (∀w',Calls prog 30 #[.agg #[.int .i64 kind,.int .i64 size,.int .i64 slide,.int .i64 late,.int .i64 agg,.int .i64 kq],.agg (bn.mk ⟨⟨xk,xl,xh⟩,⟨xn,xa,xt,xu,xv⟩,xr⟩ Su xz Sw Sz).cells,.int .i64 m] w' (bE w' (.bool rb))):=Lh (λw'=>by
    have:=U3.out w' (bn.mk ⟨⟨xk,xl,xh⟩,⟨xn,xa,xt,xu,xv⟩,xr⟩ Su xz Sw Sz) (bf3 HX.out);rw[hrb,hX,<-U5.out];exact this)
   have SY:Hid (l[i]? =some X):=by rw[hX];exact Lh HX.out
   have Vk:=Lh hra;have Vz:=Lh hrb;clear hra hrb hX HX;unfold bn.cells at uC EA;simp only at uC EA;obtain⟨d0,d1,d2,d3,d4,d5⟩:=HQ.out wx Sn.out.2;obtain⟨f0,f1,f2,f3,f4,f5,f6,f7⟩:=Sn.out.1.d8
   cases ra with
   | false=>
    go_wp2_with(fail);refine(uC.out wx Sn.out.2).mono ?_;rintro e w3 ⟨rfl,hB⟩;have HZ:=Lh (Sn.out.2.trans (hB.mono Sn.out.2.size));clear hB d0 d1 d2 d3 d4 d5 f0 f1 f2 f3 f4 f5 f6 f7;dsimp only;go_wp2_with(fail);exact SF.out _ (YJ.out i X SY.out (.inl Vk.out.symm)) (Tb HB1.out HZ.out)
   | true=>
   cases rb with
   | false=>
    go_wp2_with(fail);refine(uC.out wx Sn.out.2).mono ?_;rintro e w3 ⟨rfl,hB⟩;have HZ:Hid (cz w3 xb (bn.mk ⟨⟨xk,xl,xh⟩,⟨xn,xa,xt,xu,xv⟩,xr⟩ Su xz Sw Sz)/\Bw w1 w3):=Lh ⟨Sn.out.1.below hB,Sn.out.2.trans (hB.mono Sn.out.2.size)⟩;clear hB d0 d1 d2 d3 d4 d5 f0 f1 f2 f3 f4 f5 f6 f7;obtain⟨d0,d1,d2,d3,d4,d5⟩:=HQ.out w3 HZ.out.2;obtain⟨f0,f1,f2,f3,f4,f5,f6,f7⟩:=HZ.out.1.d8;obtain⟨e0,e1⟩:=HS.out w3 HZ.out.2;dsimp only;go_wp2_with(fail);refine(EA.out w3).mono ?_;rintro e w4 ⟨rfl,hB⟩;have I8:=Lh (HZ.out.2.trans (hB.mono HZ.out.2.size));clear hB d0 d1 d2 d3 d4 d5 f0 f1 f2 f3 f4 f5 f6 f7 e0 e1;dsimp only;go_wp2_with(fail);exact SF.out _ (YJ.out i X SY.out (.inr Vz.out.symm)) (Tb HB1.out I8.out)
   | true=>
    go_wp2_with(fail);refine(uC.out wx Sn.out.2).mono ?_;rintro e w3 ⟨rfl,hB⟩;have HZ:Hid (cz w3 xb (bn.mk ⟨⟨xk,xl,xh⟩,⟨xn,xa,xt,xu,xv⟩,xr⟩ Su xz Sw Sz)/\Bw w1 w3):=Lh ⟨Sn.out.1.below hB,Sn.out.2.trans (hB.mono Sn.out.2.size)⟩;clear hB d0 d1 d2 d3 d4 d5 f0 f1 f2 f3 f4 f5 f6 f7;obtain⟨d0,d1,d2,d3,d4,d5⟩:=HQ.out w3 HZ.out.2;obtain⟨f0,f1,f2,f3,f4,f5,f6,f7⟩:=HZ.out.1.d8;obtain⟨e0,e1⟩:=HS.out w3 HZ.out.2;dsimp only;go_wp2_with(fail);refine(EA.out w3).mono ?_;rintro e w4 ⟨rfl,hB⟩;have I8:=Lh (HZ.out.2.trans (hB.mono HZ.out.2.size));clear hB d0 d1 d2 d3 d4 d5 f0 f1 f2 f3 f4 f5 f6 f7 e0 e1;dsimp only;go_wp2_with(fail);refine⟨⟨i+1,by rw[<-HN.out];exact HI.out.1,rfl,λj hj y hy=>?_,I8.out⟩,by rw[dU,dU];have:=HI.out.1;omega⟩
    rcases bg1 j i with hji | hji
    ·exact HO.out.1 j hji y hy
    obtain rfl:j=i:=by omega
    have e1:=hy.symm.trans SY.out;cases e1
    exact⟨Vk.out.symm,Vz.out.symm⟩
  obtain rfl:i=n:=by omega
  clear hlt;obtain⟨d0,d1,d2,d3,d4,d5⟩:=HQ.out wr HO.out.2;obtain⟨e0,e1⟩:=HS.out wr HO.out.2;go_wp2_with(fail);refine(VI.out wr HO.out.2).mono ?_;rintro e w3 ⟨rfl,hB⟩;have HZ:=Lh (HO.out.2.trans (hB.mono HO.out.2.size));clear hB d0 d1 d2 d3 d4 d5 e0 e1;dsimp only;go_wp2_with(fail);exact Sl.out _ (by simp) HM.out.1 HM.out.2.1 HM.out.2.2 HO.out.1 (Tb HB1.out HZ.out)
theorem mM(y:bn)(l:List bn):bP (y::l)=y.cells.toList++bP l:=rfl
theorem vg:∀(l:List bn) (i:Nat) (x:bn) (tv:Value) (ht:tv.oneCell'=true),l[i]? =some x->(bP l).set (i*8+5) tv=bP (l.set i ⟨x.p,tv,x.z,ht,x.hz⟩)
 | [],_,_,_,_,h=>by simp at h
 | y::l,0,x,tv,ht,h=>by
  simp only[bgp,bf5]at h;subst h;rfl
 | y::l,i+1,x,tv,ht,h=>by
  have ih:=vg l i x tv ht (by simpa using h)
  have hy:y.cells.toList.length=8:=rfl;rw[mM,bfu,mM,List.set_append_right _ _ (by omega),hy,show(i+1)*8+5-8=i*8+5 by omega,ih]
theorem bY.RF {w:World} {base g c n:Nat} {l:List bn}(h:bY w base (.slice (some ⟨g,0,none⟩) n c) l)(hn:n=l.length) {i:Nat} {x:bn}(hx:l[i]? =some x)(tv:Value)(ht:tv.oneCell'=true):
  bY (w.setCell ⟨g,i*8+5,none⟩ tv) base (.slice (some ⟨g,0,none⟩) n c) (l.set i ⟨x.p,tv,x.z,ht,x.hz⟩):=by
 subst hn;unfold bY;rw[List.length_set,<-vg l i x tv ht hx];exact(World.ownsRow.stored h _ _).1
theorem bY.cell {w:World} {base g c n:Nat} {l:List bn}(h:bY w base (.slice (some ⟨g,0,none⟩) n c) l)(hn:n=l.length) {i:Nat} {x:bn}(hx:l[i]? =some x) {j:Nat} {u:Value}(hj:x.cells[j]? =some u):w.cell? ⟨g,i*8+j,none⟩=some u:=by
 subst hn;unfold bY at h;have hi:i<l.length:=(List.getElem?_eq_some_iff.1 hx).1;have hj8:j<8:=tq hj;rw[World.ownsRow.cellAt h _ (by omega)]
 exact nu l i x j u hx hj
theorem bY.shape {w:World} {base:Nat} {v:Value} {l:List bn}(h:bY w base v l):(v=bS/\l=[])∨∃g c,v=.slice (some ⟨g,0,none⟩) l.length c/\l.length<=c:=by
 rcases h.2 with⟨h1,h2⟩ | ⟨g,cap,cur,h1,_,_,hle,_⟩
 ·exact .inl ⟨h1,bg3 h2⟩
 exact .inr ⟨g,cap,h1,hle⟩
def Off(v:Value)(sb rb:Nat)(tv:Value)(l:List Int):Prop:=∀a n c,tv=.slice (some a) n c->l≠[]->v.ownBlock≠some a.block/\a.block≠sb/\a.block≠rb
def Jf(w:World)(sb rb:Nat)(m:Int)(v:Value)(L:List bn)(wr:World):Prop:=bT wr sb m v/\bT wr rb 0 bS/\bY wr (rb+1) v L/\Bw w wr/\∀x∈L,bR wr x/\Off v sb rb x.tv x.p.a.top
theorem Jf.below {w:World} {sb rb:Nat} {m:Int} {v:Value} {L:List bn} {wr wz:World}(h:Jf w sb rb m v L wr)(hB:Bw wr wz):Jf w sb rb m v L wz:=
 ⟨h.1.below hB,h.2.1.below hB,h.2.2.1.far hB,h.2.2.2.1.trans (hB.mono h.2.2.2.1.size),λx hx=>⟨(h.2.2.2.2 x hx).1.below hB,(h.2.2.2.2 x hx).2⟩⟩
theorem Pz {L:List bn} {i:Nat} {x y:bn}(h:L[i]? =some x)(e:y.p=x.p):(L.set i y).map bn.p=L.map bn.p:=by
 apply List.ext_getElem?;intro j;rw[bgf,bgf,List.getElem?_set];by_cases hj:i=j
 ·subst hj;have hi:=(List.getElem?_eq_some_iff.1 h).1;rw[if_pos rfl,if_pos hi,h];simp[e]
 rw[if_neg hj]
def Rb(w:World)(sb rb:Nat)(m:Int)(v:Value)(ps:List bH)(i:Value)(wr:World):Prop:=∃k:Nat,k<=ps.length/\i=.int .i64 (k:Int)/\∃L,L.map bn.p=ps/\Jf w sb rb m v L wr
def zD(w:World)(s:di)(e:Ending)(w':World):Prop:=∃v,e=.returned v/\gW w' v s/\Bw w w'
def RP(w:World)(sb rb g:Nat)(m:Int)(n c i:Nat)(L:List bn)(x:bn):Nat->World->Prop
 | 0,w'=>Jf w sb rb m (.slice (some ⟨g,0,none⟩) n c) L w'
 | 1,w'=>Jf w sb rb m (.slice (some ⟨g,0,none⟩) n c) L w'
 | 2,w'=>Jf w sb rb m (.slice (some ⟨g,0,none⟩) n c) L w'
 | _+3,w'=>∃tv ht,Jf w sb rb m (.slice (some ⟨g,0,none⟩) n c) (L.set i ⟨x.p,tv,x.z,ht,x.hz⟩) w'
theorem QP(w:World)(m:Int)(pv:Value):
  bT ((w.alloc (.cells #[.int .i64 m,pv] 29)).alloc (.cells #[.int .i64 0,bS] 29)) w.heap.size m pv/\bT ((w.alloc (.cells #[.int .i64 m,pv] 29)).alloc (.cells #[.int .i64 0,bS] 29)) (w.heap.size+1) 0 bS/\
   Bw w ((w.alloc (.cells #[.int .i64 m,pv] 29)).alloc (.cells #[.int .i64 0,bS] 29))/\((w.alloc (.cells #[.int .i64 m,pv] 29)).alloc (.cells #[.int .i64 0,bS] 29)).heap.size=w.heap.size+2:=by
 have k1:=(Below.refl _ w).alloc (bfx _) (.cells #[.int .i64 m,pv] 29);have k2:=(Below.refl _ (w.alloc (.cells #[.int .i64 m,pv] 29))).alloc (bfx _) (.cells #[.int .i64 0,bS] 29);have hs:(w.alloc (.cells #[.int .i64 m,pv] 29)).heap.size=w.heap.size+1:=bq w _;refine⟨bT.below (bg5 w _) k2,?_,Tb k1 k2,by rw[bq,hs]⟩
 rw[<-hs];exact bg5 _ _
theorem GR(w:World)(m:Int)(pv:Value)(l:List bn)(hA:bO w pv l)(hG:∀x∈l,bR w x)(hF:qG l):
  Calls prog 20 #[.agg #[.int .i64 m,pv]] w (zD w ⟨m,l.map bn.p⟩):=by
 have mixed:prog.follows .mixedOrders=true:=by kernel_rfl
 obtain⟨P,hP⟩:=Nm (zD w ⟨m,l.map bn.p⟩);rw[<-hP];obtain⟨ps,hps⟩:=Nm (l.map bn.p);obtain⟨n,hN⟩:=Nm (ps.length);have Tx:n<=1000000:=by rw[hN,hps,bfz];exact hF.2
 have HP:Hid (∀wz v L,bO wz v L->(∀x∈L,bR wz x)->L.map bn.p=ps->Bw w wz->P (.returned (.agg #[.int .i64 m,v])) wz):=by
  rw[hP,<-hps];exact Lh (λwz v L h1 h2 h3 hB=>⟨_,rfl,⟨v,L,rfl,h1,h2,h3.symm⟩,hB⟩)
 obtain⟨w1,hw1⟩:=Nm ((w.alloc (.cells #[.int .i64 m,pv] 29)).alloc (.cells #[.int .i64 0,.slice none 0 0] 29));obtain⟨sb,hsb⟩:=Nm (w.heap.size);obtain⟨rb,hrb⟩:=Nm (w.heap.size+1);have H1:Hid (bT w1 sb m pv/\bT w1 rb 0 bS/\Bw w w1/\w1.heap.size=rb+1):=by rw[hw1,hsb,hrb];exact Lh (QP w m pv)
 have HL:Hid (∀x∈l,bR w1 x/\∀a n c,x.tv=.slice (some a) n c->x.p.a.top≠[]->a.block<w.heap.size):=Lh (λx hx=>by
  have h:=hG x hx;refine⟨h.below H1.out.2.2.1,λa n c e hne=>?_⟩;obtain⟨a',c',e',_,h'⟩:=h.1;rcases h' with⟨_,h'⟩ | ⟨b,o,ha,_,h'⟩
  ·exact absurd h' hne
  rw[e']at e;cases e
  cases ha
  cases ht:x.p.a.top with
  | nil=>exact absurd ht hne
  | cons y t=>exact block_lt_of_cell (h' 0 y (by rw[ht];rfl)))
 have WM:Hid (Calls prog 36 #[pv] w1 (λe w'=>∃v',e=.returned v'/\bY w' w1.heap.size v' l/\Bw w1 w')):=Lh (yD w1 pv l (hA.below H1.out.2.2.1) hF.2);have HT:Hid (∀x:bn,x.p∈ps->x.p.a.top.length<=1000000):=Lh (λx hx=>by
  rw[hps]at hx;obtain⟨y,hy,e⟩:=List.mem_map.1 hx;rw[<-e];exact(hF.1 y hy).2)
 have HN:Hid (n=ps.length/\l.map bn.p=ps/\l.length=n):=Lh ⟨hN,hps.symm,by rw[hN,hps,bfz]⟩
 have HB0:Hid (w.heap.size<=sb/\sb<rb/\rb+1=w1.heap.size):=Lh ⟨by omega,by omega,H1.out.2.2.2.symm⟩
 clear hN hps hG hF hP;obtain⟨sa,sn,sc,hpv⟩:∃a n c,pv=.slice a n c:=by
  obtain⟨a,c,h,_⟩:=hA;exact⟨_,_,_,h⟩
 clear hA;subst hpv;obtain⟨e0,e1⟩:=H1.out.1.d2;have hs1:(w.alloc (.cells #[.int .i64 m,.slice sa sn sc] 29)).heap.size=w.heap.size+1:=bq w _;go_enter func20,ntmps20;go_upto_region 1 with(fail);rw[<-hw1,<-hrb,<-hsb];clear hw1 hrb hsb hs1;refine bg4 ?_
 iterate 6 go_step
 refine wpList_plain rfl λK hK=>?_;go_step;refine WM.out.mono ?_;rintro e w2 ⟨v2,rfl,hO,hB⟩;refine hK _ _ ?_;clear hK;have H2:Hid (bT w2 sb m (.slice sa sn sc)/\bT w2 rb 0 bS/\bY w2 (rb+1) v2 l/\Bw w w2/\∀x∈l,bR w2 x/\Off v2 sb rb x.tv x.p.a.top):=by
  obtain⟨j1,j2,j3,j4⟩:=H1.out;rw[<-j4];refine Lh ⟨j1.below hB,j2.below hB,hO,Tb j3 hB,λx hx=>⟨(HL.out x hx).1.below hB,λa n c e hne=>?_⟩⟩;have h1:=(HL.out x hx).2 a n c e hne;have hb:=HB0.out;refine⟨λhe=>?_,by omega,by omega⟩
  have h2:=(hO.lt he).1;omega
 have hsh:=hO.shape;rw[HN.out.2.2]at hsh;clear hO hB H1 WM HL e0 e1;have hv2:v2.oneCell'=true/\v2.cells=#[v2]:=by
  rcases hsh with⟨rfl,_⟩ | ⟨g,c,rfl,_⟩ <;> exact⟨rfl,rfl⟩
 obtain⟨e0,e1⟩:=H2.out.1.d2
 iterate 3 go_step
 refine bU rfl _ (.tmp 7) (.tmp 6) rfl ⟨sb,1,none⟩ v2 (.slice sa sn sc) rfl rfl hv2.2 hv2.1 sizeOf27 e1 (bT.qi H2.out.1 1) ?_;obtain⟨w3,hw3⟩:=Nm (w2.setCell ⟨sb,1,none⟩ v2);have H3:Hid (Jf w sb rb m v2 l w3):=by
  have hg:w2.grownBy w3 (some sb):=by rw[hw3];exact bL _ _ _ _
  obtain⟨j1,j2,j3,j4,j5⟩:=H2.out;have hb:=HB0.out;refine Lh ⟨by rw[hw3];exact j1.set1 v2,j2.grown hg (by simp;omega),j3.kept hg (.inr (λe=>by have:=j3.lt e;omega)),j4.trans (bG hg hb.1 j4.size),λx hx=>⟨⟨(j5 x hx).1.1.grown hg (λa n' c e hne=>?_),(j5 x hx).1.2⟩,(j5 x hx).2⟩⟩
  exact((j5 x hx).2 a n' c e hne).2.1
 rw[<-hw3];clear hw3 e0 e1 H2;rcases hsh with⟨rfl,hl⟩ | ⟨g,c,rfl,hc⟩
 ·have h0:n=0:=by rw[<-HN.out.2.2,hl];rfl
  subst h0;obtain⟨e0,e1⟩:=H3.out.1.d2;unfold bS at e1;go_wp2_with(fail);go_loopg [11] 0 (λ_ s11 wr=>s11=.int .i64 0/\wr=w3)
  case atStart=>exact⟨rfl,rfl⟩
  case round=>
   obtain⟨rfl,hw⟩:=hrel;subst hw;go_upto_region 7 with(fail);refine bg4 ?_
   iterate 3 go_step
   refine bg6 rfl _ _ _ rfl rb #[.int .i64 m,(.slice none 0 0)] rfl rfl 29 #[.int .i64 0,bS] H3.out.2.1 bF rfl (cB (by rfl)) ?_
   obtain⟨w9,SI⟩:=Nm (wr.setRow rb #[.int .i64 m,(.slice none 0 0)]);have H9:Hid (bT w9 rb m (.slice none 0 0)/\P (.returned (.agg #[.int .i64 m,(.slice none 0 0)])) w9):=by
    have hg:wr.grownBy w9 (some rb):=by rw[SI];exact bC _ _ _
    obtain⟨j1,j2,j3,j4,j5⟩:=H3.out;have hb:=HB0.out;have hO:=j3.kept hg (.inr (λe=>by have:=j3.lt e;omega))
    refine Lh ⟨by rw[SI];exact j2.reset m (.slice none 0 0),HP.out w9 (.slice none 0 0) l hO.ins (λx hx=>⟨(j5 x hx).1.1.grown hg (λa n' c e hne=>?_),(j5 x hx).1.2⟩) HN.out.2.1 (j4.trans (bG hg (by omega) j4.size))⟩
    exact((j5 x hx).2 a n' c e hne).2.2
   rw[<-SI];clear SI;go_wp2_with(fail);exact bodyPost_ret (v:=.agg #[.int .i64 m,(.slice none 0 0)]) (results_cell_row (p:=2) (ty:=29) rfl _ _ rb 29 #[.int .i64 m,(.slice none 0 0)] (0,0) _ rfl H9.out.1 underlying29 rfl bF) rfl H9.out.2
 obtain⟨e0,e1⟩:=H3.out.1.d2;have HNl:=Lh HN.out.2.2;go_wp2_with(fail);clear hc e0 e1;go_loopw[11] (Rb w sb rb m (.slice (some ⟨g,0,none⟩) n c) ps) (λv _=>n-(intOf v).toNat)
 case atStart=>exact⟨0,bgi _,rfl,l,HN.out.2.1,H3.out⟩
 case round=>
  obtain⟨i,hi,rfl,L,Oz,hI⟩:=hrel;rw[<-HN.out.1]at hi;have HO:=Lh hI;have hLn:L.length=n:=by rw[HN.out.1,<-Oz,bfz]
  have VD:Hid (L.length=n/\L.map bn.p=ps):=Lh ⟨hLn,Oz⟩;clear hI;by_cases hlt:i<n
  ·have hi0:(0:Int)<=(i:Int)/\(i:Int)<(n:Int):=by omega
   obtain⟨x,hx⟩:∃x,L[i]? =some x:=⟨_,bfs (by omega)⟩
   have HX:Hid (L[i]? =some x/\i<n/\x∈L):=Lh ⟨hx,hlt,bf3 hx⟩;obtain⟨tv,XR⟩:=Nm (x.tv);have HTI:Hid (∀w',Jf w sb rb m (.slice (some ⟨g,0,none⟩) n c) L w'->Calls prog 34 #[tv] w' (λe w''=>∃v',e=.returned v'/\bA w'' v' x.p.a.top/\Bw w' w''/\∀a n c,v'=.slice (some a) n c->w'.heap.size<=a.block)):=by
    rw[XR];exact Lh (λw' h=>zO w' x.tv x.p.a.top (h.2.2.2.2 x HX.out.2.2).1.1 (HT.out x (by rw[<-VD.out.2];exact List.mem_map.2 ⟨x,HX.out.2.2,rfl⟩)))
   have UL:Hid (∀w',Jf w sb rb m (.slice (some ⟨g,0,none⟩) n c) L w'->w'.cell? ⟨g,i*8+5,none⟩=some tv):=by
    rw[XR];exact Lh (λw' h=>h.2.2.1.cell VD.out.1.symm HX.out.1 (j:=5) rfl)
   have HI0:=Lh hi0;clear hx XR hi hlt hLn Oz;go_wp2_with(fail);go_upto_region 5 with(fail);have SB:Hid (RP w sb rb g m n c i L x 0 wr.drew):=Lh (HO.out.below (Below.refl wr.heap.size wr).drew)
   have UR:Hid (∀k w',RP w sb rb g m n c i L x k w'->bT w' sb m (.slice (some ⟨g,0,none⟩) n c)):=Lh (λk w' h=>match k,h with
    | 0,h=>h.1
    | 1,h=>h.1
    | 2,h=>h.1
    | _+3,⟨_,_,h⟩=>h.1)
   refine bD (λi=>([]:List Nat).contains i) (by kernel_rfl) (NoF [none,none,none,none,some 0,some 1,none,none,none,some 2]) [9,10,14] (V4 ((Value.pointer (some ⟨sb,1,none⟩))::(Value.slice (some ⟨g,0,none⟩) n c)::(Value.int .i64 (i:Int))::(Value.pointer (some ⟨sb,1,none⟩))::(Value.slice (some ⟨g,0,none⟩) n c)::(Value.int .i64 (i:Int))::(Value.pointer (some ⟨g,i*8,none⟩))::(Value.pointer (some ⟨g,i*8+3,none⟩))::(Value.pointer (some ⟨g,i*8+3+2,none⟩))::tv::([undef,.pointer (some ⟨g,i*8,none⟩),.pointer (some ⟨g,i*8+3,none⟩),.pointer (some ⟨g,i*8+3+2,none⟩),undef]:List Value)) 10 (λk w' v=>k=2->∃a_ n_ c_,v=.slice a_ n_ c_/\bA w' (.slice a_ n_ c_) x.p.a.top/\∀ad,a_=some ad->ad.block≠g/\ad.block≠sb/\ad.block≠rb) 99 (λ_ _ _=>True) 99 (λ_ _ _=>True) 99 (λ_ _ _=>True)) (RP w sb rb g m n c i L x) (λw w'=>Bw w w') (qm _ (λk w_ w' v h ha hk=>by obtain⟨a,n,c,h1,h2,h3⟩:=ha hk;exact⟨a,n,c,h1,h2.below h,h3⟩) (λ_ _ _ _ _ h=>h) (λ_ _ _ _ _ h=>h) (λ_ _ _ _ _ h=>h)) (by kernel_rfl) (by kernel_rfl) (by kernel_rfl) SB.out (λ_=>⟨rfl,rfl,rfl,rfl,rfl,rfl,rfl,rfl,rfl,rfl,rfl,rfl,rfl,rfl,rfl,trivial⟩) (λ_ h=>by simp at h) ?_ ?_
   ·refine ⟨?_,?_,?_,?_,?_,?_,?_,?_,?_,?_,?_,?_,?_,?_,?_,trivial⟩<;>(first|(intro _ _ a w' hG Si Sj K hK;guard_hyp w':World)|intro _ a w' hG Si Sj K hK)<;>replace Si:=Lh Si<;>replace Sj:=Lh Sj
    have q1:=FaA Si 1 sb 0;rotate_left;have Ww:=Pa a 14 sb 1 Sj.out.1;obtain⟨e0,e1⟩:=(UR.out _ _ hG).d2;rotate_left;have q3:=FiA Si 3 i;rotate_left;have q1:=FaA Si 1 sb 0;rotate_left;have Wx:=Pa a 17 sb 1 Sj.out.1;obtain⟨e0,e1⟩:=(UR.out _ _ hG).d2;rotate_left;have q3:=FiA Si 3 i;rotate_left;have Vn:=Ep a 18 (.slice (some ⟨g,0,none⟩) n c) Sj.out.1;have VV:=Pi a 19 i Sj.out.2.1;have hi0:=HI0.out;rotate_left;have Wy:=Ep a 20 (.pointer (some ⟨g,i*8,none⟩)) Sj.out.1;rotate_left;have VZ:=Ep a 21 (.pointer (some ⟨g,i*8+3,none⟩)) Sj.out.1;rotate_left
    ·have q22:=Ep a 22 (.pointer (some ⟨g,i*8+3+2,none⟩)) Sj.out.1;have hG1:Jf w sb rb m (.slice (some ⟨g,0,none⟩) n c) L w':=hG;have hc:=UL.out w' hG1;go_step;exact hK _ _ rfl hG1 (jq (.inr λu h e=>absurd e (by decide)) (.inr λ_ h=>h) (.inr λ_ h=>h) (.inr λ_ h=>h))
    ·have Wi:=Ep a 23 tv Sj.out.1;have hG1:Jf w sb rb m (.slice (some ⟨g,0,none⟩) n c) L w':=hG;have WN:=Lh hG1;clear hG hG1;go_step;refine(HTI.out w' WN.out).mono ?_;rintro e w3 ⟨v',rfl,hI,hB,hN⟩;obtain⟨sa',oq,rfl,_⟩:=id hI;exact hK _ _ (λ_=>⟨sa',_,oq,rfl,hI,λad h=>by have h1:=hN ad _ _ (by rw[h]);have h2:=WN.out.2.1.lt;have h3:=WN.out.1.lt;have h4:=(WN.out.2.2.1.lt (k:=g) rfl).2;omega⟩) (WN.out.below hB) (jq (.inl rfl) (.inr λ_ h=>h) (.inr λ_ h=>h) (.inr λ_ h=>h))
    have Xv:=Ep a 15 (.slice (some ⟨g,0,none⟩) n c) Sj.out.1;have q16:=Pi a 16 i Sj.out.2.1;have hi0:=HI0.out;rotate_left;have V3:=Ep a 25 (.pointer (some ⟨g,i*8,none⟩)) Sj.out.1;rotate_left;have V5:=Ep a 26 (.pointer (some ⟨g,i*8+3,none⟩)) Sj.out.1;rotate_left
    ·obtain ⟨p0,p1,_⟩:=Sj.out;have r27:=(show a.eval (.tmp 27)=.pointer (some ⟨g,i*8+3+2,none⟩)from p0);obtain hp:=(show 2=2->∃a_ n_ c_,a.eval (.tmp 24)=.slice a_ n_ c_/\bA w' (.slice a_ n_ c_) x.p.a.top/\∀ad,a_=some ad->ad.block≠g/\ad.block≠sb/\ad.block≠rb from p1);obtain⟨sa',Ic,oq,hv,hI,hN⟩:=hp rfl;have hG1:Jf w sb rb m (.slice (some ⟨g,0,none⟩) n c) L w':=hG;refine M3 (.tmp 27) (.tmp 24) rfl ⟨g,i*8+3+2,none⟩ (.slice sa' Ic oq) tv r27 hv rfl rfl sizeOf48 (UL.out w' hG1) (hG1.2.2.1.qi VD.out.1.symm _) ?_;obtain⟨w4,hw4⟩:=Nm (w'.setCell ⟨g,i*8+3+2,none⟩ (.slice sa' Ic oq));rw[<-hw4];have hg:w'.grownBy w4 (some g):=by rw[hw4];exact bL _ _ _ _
     obtain⟨j1,j2,j3,j4,j5⟩:=hG1;have hbg:=j3.lt (k:=g) rfl;have hb:=HB0.out;have hlb:=j2.lt;have hO:bY w4 (rb+1) (.slice (some ⟨g,0,none⟩) n c) (L.set i ⟨x.p,.slice sa' Ic oq,x.z,rfl,x.hz⟩):=by rw[hw4];exact j3.RF VD.out.1.symm HX.out.1 _ rfl
     have hx5:=j5 x HX.out.2.2;exact hK _ _ rfl ⟨.slice sa' Ic oq,rfl,j1.grown hg (by simp;omega),j2.grown hg (by simp;omega),hO,j4.trans (bG hg (by omega) j4.size),λy hy=>by
      rcases List.mem_or_eq_of_mem_set hy with hy | rfl
      ·exact⟨⟨(j5 y hy).1.1.grown hg (λa n' c' e hne he=>(((j5 y hy).2 a n' c' e hne).1 (by simp[Value.ownBlock,he]))),(j5 y hy).1.2⟩,(j5 y hy).2⟩
      exact⟨⟨hI.grown hg (λa n' c' e _=>by cases e;exact(hN _ rfl).1),hx5.1.2⟩,λa n' c' e _=>by cases e;have:=hN _ rfl;exact⟨by simp[Value.ownBlock];omega,this.2⟩⟩⟩ (jq (.inr λu h e=>absurd e (by decide)) (.inr λ_ h=>h) (.inr λ_ h=>h) (.inr λ_ h=>h))
    all_goals(go_step;exact hK _ _ rfl hG Br)
   intro vs w2_ hG hlen hV
   match vs,hlen,hV with
   | [v0,v1,v2,v3,v4,v5,v6,v7,v8,v9,v10,v11,v12,v13,v14],_,hV=>
    clear hV;have hG1:∃tv ht,Jf w sb rb m (.slice (some ⟨g,0,none⟩) n c) (L.set i ⟨x.p,tv,x.z,ht,x.hz⟩) w2_:=hG;obtain⟨tv',ht',hI⟩:=hG1;have HZ:=Lh hI;clear hI hG;simp only[dG,bf7,bf1];simp only[Act.put,bfw,bfu,bfv];go_wp2_with(fail);refine⟨⟨i+1,by rw[<-HN.out.1];exact HX.out.2.1,rfl,_,?_,HZ.out⟩,by rw[dU,dU];have:=HX.out.2.1;omega⟩
    rw[<-VD.out.2];exact Pz HX.out.1 rfl
  obtain rfl:i=n:=by omega
  clear hlt;obtain⟨e0,e1⟩:=HO.out.1.d2;go_upto_region 7 with(fail);refine bg4 ?_
  iterate 3 go_step
  refine bg6 rfl _ _ _ rfl rb #[.int .i64 m,(.slice (some ⟨g,0,none⟩) i c)] rfl rfl 29 #[.int .i64 0,bS] HO.out.2.1 bF rfl (cB (by rfl)) ?_
  obtain⟨w9,SI⟩:=Nm (wr.setRow rb #[.int .i64 m,(.slice (some ⟨g,0,none⟩) i c)]);have H9:Hid (bT w9 rb m (.slice (some ⟨g,0,none⟩) i c)/\P (.returned (.agg #[.int .i64 m,(.slice (some ⟨g,0,none⟩) i c)])) w9):=by
   have hg:wr.grownBy w9 (some rb):=by rw[SI];exact bC _ _ _
   obtain⟨j1,j2,j3,j4,j5⟩:=HO.out;have hb:=HB0.out;have hO:=j3.kept hg (.inr (λe=>by have:=j3.lt e;omega))
   refine Lh ⟨by rw[SI];exact j2.reset m (.slice (some ⟨g,0,none⟩) i c),HP.out w9 (.slice (some ⟨g,0,none⟩) i c) L hO.ins (λx hx=>⟨(j5 x hx).1.1.grown hg (λa n' c e hne=>?_),(j5 x hx).1.2⟩) VD.out.2 (j4.trans (bG hg (by omega) j4.size))⟩
   exact((j5 x hx).2 a n' c e hne).2.2
  rw[<-SI];clear SI;go_wp2_with(fail);exact bodyPost_ret (v:=.agg #[.int .i64 m,(.slice (some ⟨g,0,none⟩) i c)]) (results_cell_row (p:=2) (ty:=29) rfl _ _ rb 29 #[.int .i64 m,(.slice (some ⟨g,0,none⟩) i c)] (0,0) _ rfl H9.out.1 underlying29 rfl bF) rfl H9.out.2
theorem Bp(w:World):Calls prog 9 #[] w (λe w'=>e=.returned (.agg #[.int .i64 (-1),bS])/\Bw w w'):=by
 obtain⟨w1,hw1⟩:=Nm (w.alloc (.cells #[.int .i64 0,.slice none 0 0] 29));obtain⟨rb,hrb⟩:=Nm (w.heap.size);have H1:Hid (bT w1 rb 0 bS/\Bw w w1):=by
  rw[hw1,hrb];exact Lh ⟨bg5 w _,(Below.refl _ w).alloc (bfx _) _⟩
 have HB:Hid (w.heap.size<=rb):=Lh (by omega)
 go_enter func9,ntmps9;go_upto_region 1 with(fail);rw[<-hw1,<-hrb];clear hw1 hrb;refine bg4 ?_
 iterate 3 go_step
 refine bg6 rfl _ _ _ rfl rb #[.int .i64 (-1),bS] rfl rfl 29 #[.int .i64 0,bS] H1.out.1 bF rfl (cB rfl) ?_;obtain⟨w9,SI⟩:=Nm (w1.setRow rb #[.int .i64 (-1),bS]);have H9:Hid (bT w9 rb (-1) bS/\Bw w w9):=by
  have hg:w1.grownBy w9 (some rb):=by rw[SI];exact bC _ _ _
  exact Lh ⟨by rw[SI];exact H1.out.1.reset _ _,H1.out.2.trans (bG hg HB.out H1.out.2.size)⟩
 rw[<-SI];clear SI;go_wp2_with(fail);exact bodyPost_ret (v:=.agg #[.int .i64 (-1),bS]) (results_cell_row (p:=0) (ty:=29) rfl _ _ rb 29 #[.int .i64 (-1),bS] (0,0) _ rfl H9.out.1 underlying29 rfl bF) rfl ⟨rfl,H9.out.2⟩
theorem xL(k:List (BitVec 8))(a b r:Int)(s:Option Addr)(n c:Nat):prog.built 50 [(2,.agg #[Sv k,.int .i64 a,.int .i64 b]),(3,.int .i64 r),(4,.slice s n c)]=some #[.bool false,.int .i64 0,.string ⟨#[]⟩,.int .i64 0,.int .i64 0,Sv k,.int .i64 a,.int .i64 b,.int .i64 r,.slice s n c]:=by kernel_rfl
def xI(w:World)(o:dB)(e:Ending)(w':World):Prop:=∃tv ht,e=.returned (.agg (bM.mk o tv ht).cells)/\bA w' tv o.v/\Bw w w'/\∀a n c,tv=.slice (some a) n c->w.heap.size<=a.block
theorem dn.below' {w w':World} {b r:Nat} {q:bz}(h:dn w b q)(hg:w.grownBy w' (some r))(hne:b≠r):dn w' b q:=(hg.block b h.lt (by simpa using hne)).trans h
def RN(w w1:World)(qb pb:Nat)(Q:bz)(X:bn)(w':World):Prop:=dn w' qb Q/\cz w' pb X/\Bw w w'/\w1.heap.size<=w'.heap.size
def RO(ob:Nat)(xk:List (BitVec 8))(xl xh rd:Int)(lv:List Int):Nat->World->Prop
 | 0,w'=>jN w' ob sK
 | _+1,w'=>∃a n c,w'.heap[ob]? =some (.cells #[.bool false,.int .i64 0,.string ⟨#[]⟩,.int .i64 0,.int .i64 0,Sv xk,.int .i64 xl,.int .i64 xh,.int .i64 rd,.slice a n c] 50 (0,0))/\bA w' (.slice a n c) lv/\∀ad,a=some ad->ob<ad.block
def Sc(w w1:World)(qb pb ob:Nat)(Q:bz)(X:bn)(xk:List (BitVec 8))(xl xh rd:Int)(lv:List Int)(k:Nat)(w':World):Prop:=RN w w1 qb pb Q X w'/\RO ob xk xl xh rd lv k w'
theorem RN.below {w w1:World} {qb pb:Nat} {Q:bz} {X:bn} {w' w'':World}(h:RN w w1 qb pb Q X w')(hB:Bw w' w''):RN w w1 qb pb Q X w'':=⟨h.1.below hB,h.2.1.below hB,h.2.2.1.trans (hB.mono h.2.2.1.size),bgn h.2.2.2 hB.size⟩
theorem RO.below {ob:Nat} {xk:List (BitVec 8)} {xl xh rd:Int} {lv:List Int} {k:Nat} {w' w'':World}(h:RO ob xk xl xh rd lv k w')(hB:Bw w' w''):RO ob xk xl xh rd lv k w'':=match k,h with
 | 0,h=>jN.below h hB
 | _+1,⟨a,n,c,h,hI,hN⟩=>⟨a,n,c,(hB.block ob (Array.getElem?_eq_some_iff.1 h).1).trans h,hI.below hB,hN⟩
theorem Dl(w:World)(q:bz)(x:bn)(hg:bR w x)(hn:x.p.a.top.length<=1000000):
  Calls prog 65 #[.agg q.cells,.agg x.cells] w (xI w (kS q x.p)):=by
 have mixed:prog.follows .mixedOrders=true:=by kernel_rfl
 obtain⟨P,hP⟩:=Nm (xI w (kS q x.p));rw[<-hP];obtain⟨lv,hlv⟩:=Nm (dV q x.p.a);have HP:Hid (∀wz a n c,bA wz (.slice a n c) lv->Bw w wz->(∀ad,a=some ad->w.heap.size<=ad.block)->P (.returned (.agg #[.bool false,.int .i64 0,.string ⟨#[]⟩,.int .i64 0,.int .i64 0,Sv x.p.w.key,.int .i64 x.p.w.lo,.int .i64 x.p.w.hi,.int .i64 x.p.r,.slice a n c])) wz):=by
  rw[hP,hlv];exact Lh (λwz a n c h hB hN=>⟨.slice a n c,rfl,rfl,h,hB,λa' n' c' e=>by cases e;exact hN _ rfl⟩)
 obtain⟨w1,hw1⟩:=Nm (((w.alloc (.cells q.cells 23)).alloc (.cells x.cells 55)).alloc (.cells #[.bool false,.int .i64 0,.string ⟨#[]⟩,.int .i64 0,.int .i64 0,.string ⟨#[]⟩,.int .i64 0,.int .i64 0,.int .i64 0,.slice none 0 0] 50));obtain⟨qb,Sm⟩:=Nm (w.heap.size);obtain⟨pb,hpb⟩:=Nm (w.heap.size+1);obtain⟨ob,Vm⟩:=Nm (w.heap.size+2);have hs1:(w.alloc (.cells q.cells 23)).heap.size=w.heap.size+1:=bq w _;have hs2:((w.alloc (.cells q.cells 23)).alloc (.cells x.cells 55)).heap.size=w.heap.size+2:=by rw[bq,bq]
 have H1:Hid (dn w1 qb q/\cz w1 pb x/\jN w1 ob sK/\Bw w w1):=by
  have h:=Jl w q x;have hB:=(Below.refl _ ((w.alloc (.cells q.cells 23)).alloc (.cells x.cells 55))).alloc (bfx _) (.cells #[.bool false,.int .i64 0,.string ⟨#[]⟩,.int .i64 0,.int .i64 0,.string ⟨#[]⟩,.int .i64 0,.int .i64 0,.int .i64 0,.slice none 0 0] 50);have hz:=bg5 ((w.alloc (.cells q.cells 23)).alloc (.cells x.cells 55)) (.cells #[.bool false,.int .i64 0,.string ⟨#[]⟩,.int .i64 0,.int .i64 0,.string ⟨#[]⟩,.int .i64 0,.int .i64 0,.int .i64 0,.slice none 0 0] 50);rw[hs2,<-Vm]at hz;rw[<-hw1]at hB hz;rw[Sm,hpb];exact Lh ⟨h.1.below hB,h.2.1.below hB,hz,h.2.2.trans (hB.mono h.2.2.size)⟩
 have Ir:Hid (w.heap.size<=ob/\pb<ob/\qb<ob/\ob<w1.heap.size):=Lh ⟨by omega,by omega,by omega,H1.out.2.2.1.lt⟩
 obtain⟨VQ,SS⟩:=Nm (Value.agg q.cells);obtain⟨VA,Xo⟩:=Nm (Value.agg (bI x.p.a.n x.p.a.a x.tv x.z));obtain⟨VW,Vv⟩:=Nm (Value.agg x.p.w.cells);have HC:Hid (∀w',Bw w w'->Calls prog 19 #[VQ,VA] w' (DJ w' lv)):=by
  rw[SS,Xo,hlv];exact Lh (λw' hB=>Jj w' q x.p.a x.tv x.z (hg.1.below hB) hg.2 hn)
 clear hlv hg hn hP;obtain⟨kind,size,slide,late,agg,kq⟩:=q;obtain⟨⟨⟨xk,xl,xh⟩,⟨n,a,top,u,v⟩,rd⟩,tv,z,ht,hz⟩:=x;have VF:Hid (VQ=.agg #[.int .i64 kind,.int .i64 size,.int .i64 slide,.int .i64 late,.int .i64 agg,.int .i64 kq]):=Lh SS;have I1:Hid (VA=.agg #[.int .i64 n,.int .i64 a,tv,z]):=Lh Xo;have Xk:Hid (VW=.agg #[Sv xk,.int .i64 xl,.int .i64 xh]):=Lh Vv;clear SS Xo Vv;have HQ:Hid (∀w',dn w' qb ⟨kind,size,slide,late,agg,kq⟩->D6 w' qb kind size slide late agg kq):=Lh (λw' h=>h.d6);unfold bz.cells at hw1 hs1 hs2 ⊢;unfold bn.cells at hw1 hs2 ⊢;simp only at hw1 hs1 hs2 HP;go_enter func65,ntmps65;go_upto_region 1 with(fail);rw[<-hw1,<-Vm,<-hpb,<-Sm];clear hw1 Vm hpb Sm hs1 hs2;obtain⟨X,hX⟩:=Nm (bn.mk ⟨⟨xk,xl,xh⟩,⟨n,a,top,u,v⟩,rd⟩ tv z ht hz);have HD:Hid (∀w',cz w' pb X->D8 w' pb ⟨⟨⟨xk,xl,xh⟩,⟨n,a,top,u,v⟩,rd⟩,tv,z,ht,hz⟩):=by rw[hX];exact Lh (λw' h=>h.d8)
 obtain⟨Q,hQ⟩:=Nm (bz.mk kind size slide late agg kq);rw[<-hX,<-hQ]at H1;rw[<-hQ]at HQ;clear hX hQ;have SB:Hid (Sc w w1 qb pb ob Q X xk xl xh rd lv 0 w1.drew):=by
  have hd:=(Below.refl w1.heap.size w1).drew;exact Lh ⟨⟨H1.out.1.below hd,H1.out.2.1.below hd,H1.out.2.2.2.trans (hd.mono H1.out.2.2.2.size),hd.size⟩,jN.below H1.out.2.2.1 hd⟩
 refine bD (λi=>([]:List Nat).contains i) (by kernel_rfl) (NoF [none,none,none,none,some 0]) [9] (V4 ((Value.pointer (some ⟨pb,0,none⟩))::VW::(Value.pointer (some ⟨pb,7,none⟩))::(Value.int .i64 rd)::VQ::(Value.pointer (some ⟨pb,3,none⟩))::VA::([undef,undef,undef]:List Value)) 7 (λk w' v=>∃a_ n_ c_,v=.slice a_ n_ c_/\(k=0->bA w' (.slice a_ n_ c_) lv/\∀ad,a_=some ad->ob<ad.block)) 8 (λk w' v=>∃a_ n_ c_,v=.agg #[.bool false,.int .i64 0,.string ⟨#[]⟩,.int .i64 0,.int .i64 0,Sv xk,.int .i64 xl,.int .i64 xh,.int .i64 rd,.slice a_ n_ c_]/\(k=0->bA w' (.slice a_ n_ c_) lv/\∀ad,a_=some ad->ob<ad.block)) 99 (λ_ _ _=>True) 99 (λ_ _ _=>True)) (Sc w w1 qb pb ob Q X xk xl xh rd lv) (λw w'=>Bw w w') (qm _ (λk w w' v h ha=>by obtain⟨a,n,c,h1,h2⟩:=ha;exact⟨a,n,c,h1,λe=>⟨(h2 e).1.below h,(h2 e).2⟩⟩) (λk w w' v h ha=>by obtain⟨a,n,c,h1,h2⟩:=ha;exact⟨a,n,c,h1,λe=>⟨(h2 e).1.below h,(h2 e).2⟩⟩) (λ_ _ _ _ _ h=>h) (λ_ _ _ _ _ h=>h)) (by kernel_rfl) (by kernel_rfl) (by kernel_rfl) SB.out (λ_=>⟨rfl,rfl,rfl,rfl,rfl,rfl,rfl,rfl,rfl,rfl,trivial⟩) (λ_ h=>by simp at h) ?_ ?_
 ·refine ⟨?_,?_,?_,?_,?_,?_,?_,?_,?_,?_,trivial⟩<;>(first|(intro _ kk a w' hG Si Sj K hK;guard_hyp w':World)|intro _ a w' hG Si Sj K hK)<;>replace Si:=Lh Si<;>replace Sj:=Lh Sj
  have q3:=FaA Si 3 pb 0;rotate_left
  ·have q5:=Pa a 5 pb 0 Sj.out.1;obtain⟨e0,e1,e2,e3,e4,e5,e6,e7⟩:=HD.out _ hG.1.2.1;go_step;exact hK _ _ Xk.out.symm hG Br
  have q3:=FaA Si 3 pb 0;rotate_left;have q7:=Pa a 7 pb 7 Sj.out.1;obtain⟨e0,e1,e2,e3,e4,e5,e6,e7⟩:=HD.out _ hG.1.2.1;rotate_left
  ·have q2:=FaA Si 2 qb 0;obtain⟨d0,d1,d2,d3,d4,d5⟩:=HQ.out _ hG.1.1;go_step;exact hK _ _ VF.out.symm hG Br
  have q3:=FaA Si 3 pb 0;rotate_left
  ·have XV:=Pa a 10 pb 3 Sj.out.1;obtain⟨e0,e1,e2,e3,e4,e5,e6,e7⟩:=HD.out _ hG.1.2.1;go_step;exact hK _ _ I1.out.symm hG Br
  ·have q9:=Ep a 9 VQ Sj.out.1;have Zp:=Ep a 11 VA Sj.out.2.1;have HG:=Lh hG;clear hG;go_step;refine(HC.out w' HG.out.1.2.2.1).mono ?_;rintro e w3 ⟨tv,rfl,hI,hB,hN⟩;obtain⟨sa,sc,rfl,_⟩:=id hI;exact hK _ _ ⟨sa,_,sc,rfl,λe=>⟨hI,λad h=>by have:=hN ad _ _ (by rw[h]);have:=HG.out.1.2.2.2;have:=Ir.out;omega⟩⟩ ⟨HG.out.1.below hB,HG.out.2.below hB⟩ hB
  ·obtain ⟨p0,p1,p2,_⟩:=Sj.out;have r6:=(show a.eval (.tmp 6)=VW from p0);have r8:=(show a.eval (.tmp 8)=.int .i64 rd from p1);obtain⟨sa,sn,sc,hv,hh⟩:=(show ∃a_ n_ c_,a.eval (.tmp 12)=.slice a_ n_ c_/\(kk=0->bA w' (.slice a_ n_ c_) lv/\∀ad,a_=some ad->ob<ad.block)from p2);rw[Xk.out]at r6;have hb:=xL xk xl xh rd sa sn sc;have hpt:(#[(2,Operand.tmp 6),(3,Operand.tmp 8),(4,Operand.tmp 12)].map λ(i,x)=>(i,a.eval x)).toList=[(2,.agg #[Sv xk,.int .i64 xl,.int .i64 xh]),(3,.int .i64 rd),(4,.slice sa sn sc)]:=by simp only[bgb,bgc,bge,r6,r8,hv]
   refine wp_build 50 #[(2,.tmp 6),(3,.tmp 8),(4,.tmp 12)] rfl (by rw[hpt,hb];rfl) ?_
   rw[hpt,hb];exact hK _ _ ⟨sa,sn,sc,rfl,hh⟩ hG Br
  ·obtain ⟨p0,_⟩:=Sj.out;obtain⟨sa,sn,sc,hv,hh⟩:=(show ∃a_ n_ c_,a.eval (.tmp 13)=.agg #[.bool false,.int .i64 0,.string ⟨#[]⟩,.int .i64 0,.int .i64 0,Sv xk,.int .i64 xl,.int .i64 xh,.int .i64 rd,.slice a_ n_ c_]/\(0=0->bA w' (.slice a_ n_ c_) lv/\∀ad,a_=some ad->ob<ad.block)from p0);obtain⟨j1,j2⟩:=hh rfl;have q4:=((Si.out 4 rfl).trans (show _=Value.pointer (some ⟨ob,0,none⟩)from rfl));obtain⟨⟨g0,g1,g2,g3⟩,g4⟩:=hG;clear p0 hh;refine wp_store_row _ (.tmp 4) (.tmp 13) rfl ob #[.bool false,.int .i64 0,.string ⟨#[]⟩,.int .i64 0,.int .i64 0,Sv xk,.int .i64 xl,.int .i64 xh,.int .i64 rd,.slice sa sn sc] q4 hv _ sK.cells g4 wT rfl (tQ (⟨⟨false,kz,⟨xk,xl,xh⟩,rd,[]⟩,.slice sa sn sc,rfl⟩:bM)) ?_;have hg:=bC w' ob #[.bool false,.int .i64 0,.string ⟨#[]⟩,.int .i64 0,.int .i64 0,Sv xk,.int .i64 xl,.int .i64 xh,.int .i64 rd,.slice sa sn sc];have hb:=Ir.out;exact hK _ _ rfl ⟨⟨dn.below' g0 hg (by omega),g1.grown hg (by simp;omega),g2.trans (bG hg hb.1 g2.size),bgn g3 hg.size⟩,sa,sn,sc,setRow_heap _ _ _ _ _ _ g4,j1.grown hg (λa' n' c' e _=>by cases e;have:=j2 _ rfl;omega),j2⟩ (jq (.inr λu h=>h.imp λa h=>h.imp λn h=>h.imp λc h=>⟨h.1,λe=>absurd e (by decide)⟩) (.inr λu h=>h.imp λa h=>h.imp λn h=>h.imp λc h=>⟨h.1,λe=>absurd e (by decide)⟩) (.inr λ_ h=>h) (.inr λ_ h=>h))
  all_goals(go_step;exact hK _ _ rfl hG Br)
 intro vs w2_ hG hlen hV
 match vs,hlen,hV with
 | [v0,v1,v2,v3,v4,v5,v6,v7,v8,v9],_,hV=>
  clear hV;obtain⟨⟨_,_,hB9,_⟩,sa,sn,sc,hr,hI,hN⟩:=hG;have HZ:=Lh (bfy hr (HP.out w2_ sa sn sc hI hB9 (λad h=>by have:=hN ad h;have:=Ir.out;omega)))
  clear hr hI hB9 hN;simp only[dG,bf7,bf1];simp only[Act.put,bfw,bfu,bfv];go_wp2_with(fail);exact bodyPost_ret (v:=.agg #[.bool false,.int .i64 0,.string ⟨#[]⟩,.int .i64 0,.int .i64 0,Sv xk,.int .i64 xl,.int .i64 xh,.int .i64 rd,.slice sa sn sc]) (results_cell_row (p:=4) (ty:=50) rfl _ _ ob 50 _ (0,0) _ rfl HZ.out.1 underlying50 rfl wT) rfl HZ.out.2
end Go.Proofs.YtjeeghafachebaaGreat
