/-
  49.
-/
import Derived.Test.YtjeeghafachebaaGreatU48
import Derived.Test.YtjeeghafachebaaGreatU47
set_option maxRecDepth 100000
set_option maxHeartbeats 8000000
namespace Go.Proofs.YtjeeghafachebaaGreat
open Go Go.RowKit Go.Proofs.Tryz
theorem sorted_at {l:List bn} {i j:Nat} {x y:bn}(h:(fI (l.map bn.p)).Pairwise bJ)(hi:l[i]? =some x)(hj:l[j]? =some y)(hji:j<i):gG y.p.w x.p.w<0:=by
 rw[gI];have hil:i<l.length:=(List.getElem?_eq_some_iff.1 hi).1;have hp:=List.pairwise_iff_getElem.1 h j i (by simp[fI];omega) (by simp[fI];omega) hji
 have e1:l[i]=x:=(List.getElem?_eq_some_iff.1 hi).2;have e2:l[j]=y:=(List.getElem?_eq_some_iff.1 hj).2;simpa[fI,e1,e2]using hp
theorem J5 {q:bz} {m:Int} {p:bH}(hq:q.bB=true)(h1:jY q p=true)(h2:kY q p m=true):
  p.w.bB=true/\decide (p.w.hi+q.late<=m)=false/\(0<=p.r/\p.r<=1073741824)/\0<p.a.n/\p.a.bB q=true/\((p.r==0)==decide (p.w.hi<=m))=false/\(q.kind=3->q.size<=p.w.hi-p.w.lo)/\(q.kind≠3->p.w∈lM q p.w.key p.w.lo):=by
 unfold jY yM at h1;unfold kY gy ji at h2;simp only[bf8,bf0]at h1;obtain⟨k1,k2,k3,k4⟩:=h1;rw[hq,k1]at h2;simp only[bgw,bf8,bf0,Bool.not_eq_true',decide_eq_false_iff_not,beq_iff_eq]at h2;refine⟨k1,bfq h2.1,h2.2.1,k3,k4,?_,λhk=>?_,λhk=>?_⟩
 ·rw[h2.2.2];by_cases h0:p.r=0
  ·rw[h0];rfl
  have:0<p.r:=by omega
  rw[bfr this];simpa using h0
 ·rw[if_pos hk]at k2;exact bgh k2
 rw[if_neg hk]at k2;exact bgh k2
theorem G8(w:World)(q:bz)(m:Int)(pv:Value)(l:List bn)(hA:bO w pv l)(hG:∀x∈l,bR w x)(hR:q.bB=true->fQ q ⟨m,l.map bn.p⟩=true):
  Calls prog 40 #[.agg q.cells,.agg #[.int .i64 m,pv]] w (bE w (.bool q.bB)):=by
 obtain⟨sa,sc,hpv,hcap,hAt⟩:=hA.form;obtain⟨n,hN⟩:=Nm (l.length);obtain⟨P,hP⟩:=Nm (bE w (.bool q.bB));rw[<-hP];obtain⟨rq,hrq⟩:=Nm (q.bB);rw[<-hrq]at hP;have ay:Hid (∀wz b,b=rq->Bw w wz->P (.returned (.bool b)) wz):=Lh (λwz b h hB=>by rw[hP,h];exact⟨rfl,hB⟩)
 have HR:Hid (rq=true->(-1<=m/\m<=1099511627776)/\n<=256/\(∀x∈l,q.bB=true/\jY q x.p=true/\kY q x.p m=true)/\fH q (l.map bn.p)=true/\(fI (l.map bn.p)).Pairwise bJ):=Lh (λh=>by
  obtain⟨h1,h2,h3,h4,h5⟩:=kI.1 (hR (by rw[<-hrq];exact h))
  refine⟨h2,by rw[hN];simpa using h3,λx hx=>⟨h1,h4 x.p (List.mem_map.2 ⟨x,hx,rfl⟩)⟩,h5,ll.2 (jJ h5)⟩)
 obtain⟨w1,hw1⟩:=Nm ((w.alloc (.cells q.cells 23)).alloc (.cells #[.int .i64 m,pv] 29));obtain⟨qb,Sm⟩:=Nm (w.heap.size);obtain⟨sb,hsb⟩:=Nm (w.heap.size+1);have H1:Hid (dn w1 qb q/\bT w1 sb m pv/\Bw w w1):=by rw[hw1,Sm,hsb];exact Lh (D7 w q m pv)
 have HB1:=Lh H1.out.2.2;have HA:Hid (dI w1 sa l):=Lh (hAt.below HB1.out);have Ya:Hid (∀x∈l,bR w1 x):=Lh (λx hx=>(hG x hx).below HB1.out);have HN:Hid (n=l.length):=Lh hN;have Xy:Hid (∀w',Calls prog 14 #[.agg q.cells] w' (bE w' (.bool rq))):=by rw[hrq];exact Lh (λw'=>su w' q)
 clear hA hG hR hN hrq hP hcap hAt;subst hpv;rw[<-HN.out]at hw1 H1 ⊢;obtain⟨Q,hQ⟩:=Nm q;rw[<-hQ]at HR;have Vj:=Lh hQ;obtain⟨kind,size,slide,late,agg,kq⟩:=q;clear hQ;have hs1:(w.alloc (.cells #[.int .i64 kind,.int .i64 size,.int .i64 slide,.int .i64 late,.int .i64 agg,.int .i64 kq] 23)).heap.size=w.heap.size+1:=bq w _;unfold bz.cells at hw1 Xy ⊢;have HQ:Hid (∀w',Bw w1 w'->D6 w' qb kind size slide late agg kq):=Lh (λw' h=>(H1.out.1.below h).d6);have HS:Hid (∀w',Bw w1 w'->D2 w' sb m (.slice sa n sc)):=Lh (λw' h=>(H1.out.2.1.below h).d2);simp only at hw1 Xy;clear H1;obtain⟨d0,d1,d2,d3,d4,d5⟩:=HQ.out w1 Br
 cases rq with
 | false=>
  go_enter func40,ntmps40;go_upto_region 1 with(fail);rw[<-hw1,<-hsb,<-Sm];clear hw1 hsb Sm hs1;go_wp2_with(fail);refine(Xy.out w1).mono ?_;rintro e w2 ⟨rfl,hB⟩;have SH:=Lh hB;clear hB d0 d1 d2 d3 d4 d5;dsimp only;go_wp2_with(fail);exact ay.out _ false (by trivial) (Tb HB1.out SH.out)
 | true=>
 have SG:=Lh (HR.out rfl);have hm1:decide (m < -1)=false:=bfq (by have:=SG.out.1;omega)
 have hm2:decide (1099511627776<m)=false:=bfq (by have:=SG.out.1;omega)
 have YP:decide ((256:Int)<(n:Int))=false:=bfq (by have:=SG.out.2.1;omega)
 have Tx:n<=256:=SG.out.2.1;go_enter func40,ntmps40;go_upto_region 1 with(fail);rw[<-hw1,<-hsb,<-Sm];clear hw1 hsb Sm hs1;go_wp2_with(fail);refine(Xy.out w1).mono ?_;rintro e w2 ⟨rfl,hB⟩;have SH:=Lh hB;clear hB d0 d1 d2 d3 d4 d5 HR Xy;obtain⟨e0,e1⟩:=HS.out w2 SH.out;dsimp only;go_wp2_with(fail);clear e0 e1 hm1 hm2 YP;go_loopw[30] (λv wr=>∃i:Nat,i<=n/\v=.int .i64 (i:Int)/\Bw w1 wr) (λv _=>n-(intOf v).toNat)
 case atStart=>exact⟨0,bgi _,rfl,SH.out⟩
 case round=>
  obtain⟨i,hi,rfl,hB⟩:=hrel;have HO:=Lh hB;clear hB;by_cases hlt:i<n
  ·have hi0:(0:Int)<=(i:Int)/\(i:Int)<(n:Int):=by omega
   obtain⟨x,pa,oa,hx,hsa,c0,c1,c2,c3,c4,c5,c6,c7⟩:=(HA.out.below HO.out).get (t:=i) (by rw[<-HN.out];exact hlt)
   subst hsa;have HX:=Lh hx;have HI:=Lh hlt;have Ej:=Lh (bfy (J5 (SG.out.2.2.1 x (bf3 hx)).1 (SG.out.2.2.1 x (bf3 hx)).2.1 (SG.out.2.2.1 x (bf3 hx)).2.2) (bf3 hx));clear hx hi hlt;obtain⟨X,hX⟩:=Nm x;rw[<-hX]at HX Ej;obtain⟨⟨⟨xk,xl,xh⟩,⟨xn,xa,xt,xu,xv⟩,xr⟩,Su,xz,Sw,Sz⟩:=x;simp only at c0 c1 c2 c3 c4 c5 c6 c7;go_upto_region 5 with(fail);refine bg4 ?_
   iterate 15 go_step
   refine bg6 rfl _ _ _ rfl wr.heap.size (bn.mk ⟨⟨xk,xl,xh⟩,⟨xn,xa,xt,xu,xv⟩,xr⟩ Su xz Sw Sz).cells rfl rfl 55 cO.cells (bg5 wr _) fo rfl (fG _) ?_;obtain⟨wx,hwx⟩:=Nm ((wr.alloc (Obj.cells #[.string ⟨#[]⟩,.int .i64 0,.int .i64 0,.int .i64 0,.int .i64 0,.slice none 0 0,.complex .f64 0 0,.int .i64 0] 55)).setRow wr.heap.size (bn.mk ⟨⟨xk,xl,xh⟩,⟨xn,xa,xt,xu,xv⟩,xr⟩ Su xz Sw Sz).cells);obtain⟨xb,hxb⟩:=Nm (wr.heap.size);have Sn:Hid (cz wx xb (bn.mk ⟨⟨xk,xl,xh⟩,⟨xn,xa,xt,xu,xv⟩,xr⟩ Su xz Sw Sz)/\Bw w1 wx):=by
    obtain⟨k1,k2⟩:=fO wr (bn.mk ⟨⟨xk,xl,xh⟩,⟨xn,xa,xt,xu,xv⟩,xr⟩ Su xz Sw Sz);rw[hwx,hxb];exact Lh ⟨k1,Tb HO.out k2⟩
   rw[<-hwx,<-hxb];clear hwx hxb c0 c1 c2 c3 c4 c5 c6 c7;obtain⟨f0,f1,f2,_⟩:=Sn.out.1.d8;simp only at f0 f1 f2;go_upto_region 6 with(fail);refine bg4 ?_
   iterate 9 go_step
   refine bg6 rfl _ _ _ rfl wx.heap.size (bg.mk xk xl xh).cells rfl rfl 47 bX.cells (bg5 wx _) dh rfl (dH _) ?_;obtain⟨wy,Sy⟩:=Nm ((wx.alloc (Obj.cells #[.string ⟨#[]⟩,.int .i64 0,.int .i64 0] 47)).setRow wx.heap.size (bg.mk xk xl xh).cells);obtain⟨wb,hwb⟩:=Nm (wx.heap.size);have TG:Hid (cz wy xb (bn.mk ⟨⟨xk,xl,xh⟩,⟨xn,xa,xt,xu,xv⟩,xr⟩ Su xz Sw Sz)/\bZ wy wb ⟨xk,xl,xh⟩/\Bw w1 wy):=by
    obtain⟨k1,k2⟩:=dW wx ⟨xk,xl,xh⟩;rw[Sy,hwb];exact Lh ⟨Sn.out.1.below k2,k1,Sn.out.2.trans (k2.mono Sn.out.2.size)⟩
   rw[<-Sy,<-hwb];clear Sy hwb f0 f1 f2 Sn;have HC:Hid (∀w',Bw wy w'->Bw w1 w'/\D6 w' qb kind size slide late agg kq/\D2 w' sb m (.slice (some ⟨pa,oa,none⟩) n sc)/\D8 w' xb (bn.mk ⟨⟨xk,xl,xh⟩,⟨xn,xa,xt,xu,xv⟩,xr⟩ Su xz Sw Sz)/\D3 w' wb xk xl xh):=by
    refine Lh (λw' h=>?_);have hb:=TG.out.2.2.trans (h.mono TG.out.2.2.size);exact⟨hb,HQ.out w' hb,HS.out w' hb,(TG.out.1.below h).d8,(TG.out.2.1.below h).d3⟩
   have TC:Hid (bg.bB ⟨xk,xl,xh⟩=true/\decide (xh+late<=m)=false/\(0<=xr/\xr<=1073741824)/\0<xn/\dS.bB Q ⟨xn,xa,xt,xu,xv⟩=true/\((xr==0)==decide (xh<=m))=false/\(kind=3->size<=xh-xl)/\(kind≠3->(⟨xk,xl,xh⟩:bg)∈lM Q xk xl)):=by
    have h:=Ej.out.1;rw[hX]at h;rw[Vj.out]at h ⊢;exact Lh h
   have HXm:Hid (X.p.w=⟨xk,xl,xh⟩):=by rw[hX];exact Lh rfl
   have Wq:Q.bB=true:=(SG.out.2.2.1 X Ej.out.2).1;have hQb:=tT Wq;have TK:Hid (∀w',Calls prog 70 #[.agg #[Sv xk,.int .i64 xl,.int .i64 xh]] w' (bE w' (.bool true))):=by
    have h:=λw'=>pQ w' ⟨xk,xl,xh⟩ (by have:=cu TC.out.1;show xk.length<=_;simp only at this;omega)
    rw[TC.out.1]at h;exact Lh h
   have V7:Hid (∀w',Calls prog 71 #[.agg #[.int .i64 kind,.int .i64 size,.int .i64 slide,.int .i64 late,.int .i64 agg,.int .i64 kq],.agg #[Sv xk,.int .i64 xl,.int .i64 xh],.int .i64 m] w' (bE w' (.bool false))):=by
    have hc:=cu TC.out.1;simp only at hc;have h:=λw'=>BM w' Q ⟨xk,xl,xh⟩ m (by simp only;omega) (by omega)
    have e:decide ((⟨xk,xl,xh⟩:bg).hi+Q.late<=m)=false:=by rw[Vj.out];exact TC.out.2.1
    rw[e,Vj.out]at h;exact Lh h
   have Vk:Hid (∀w',Bw wy w'->Calls prog 72 #[.agg #[.int .i64 kind,.int .i64 size,.int .i64 slide,.int .i64 late,.int .i64 agg,.int .i64 kq],.agg #[.int .i64 xn,.int .i64 xa,Su,xz]] w' (bE w' (.bool true))):=by
    refine Lh (λw' hB=>?_);have hg:=(Ya.out X Ej.out.2).below (HC.out w' hB).1;rw[hX]at hg;have hz:=hg.2;unfold dw mr at hz;have hf:=fM TC.out.2.2.2.2.1;have h:=vO w' Q ⟨xn,xa,xt,xu,xv⟩ Su xz hg.1 hz.1 (by obtain⟨_,h1,h2,h3,h4⟩:=hz;simp only at h1 h2 h3 h4;refine⟨⟨?_,?_⟩,?_,?_⟩ <;> simp only <;> omega) (by omega)
    rw[TC.out.2.2.2.2.1,Vj.out]at h;exact h
   clear hX hQb;have hx0:decide (xr<0)=false:=bfq (by have:=TC.out.2.2.1;omega)
   have hx1:decide (1073741824<xr)=false:=bfq (by have:=TC.out.2.2.1;omega)
   have hx2:decide (xn<1)=false:=bfq (by have:=TC.out.2.2.2.1;omega)
   obtain⟨_,_,_,_,g0,g1,g2⟩:=HC.out wy Br;go_wp2_with(fail);refine(TK.out wy).mono ?_;rintro e w3 ⟨rfl,hB⟩;have H3:=Lh hB;clear hB g0 g1 g2;dsimp only;obtain⟨_,⟨d0,d1,d2,d3,d4,d5⟩,⟨e0,e1⟩,⟨f0,f1,f2,f3,f4,f5,f6,f7⟩,⟨g0,g1,g2⟩⟩:=HC.out w3 H3.out;simp only at f0 f1 f2 f3 f4 f5 f6 f7;go_wp2_with(fail);refine(V7.out w3).mono ?_;rintro e w4 ⟨rfl,hB⟩;have H4:=Lh (Tb H3.out hB);clear hB d0 d1 d2 d3 d4 d5 e0 e1 f0 f1 f2 f3 f4 f5 f6 f7 g0 g1 g2;dsimp only;obtain⟨_,⟨d0,d1,d2,d3,d4,d5⟩,⟨e0,e1⟩,⟨f0,f1,f2,f3,f4,f5,f6,f7⟩,⟨g0,g1,g2⟩⟩:=HC.out w4 H4.out;simp only at f0 f1 f2 f3 f4 f5 f6 f7;go_wp2_with(fail);refine(Vk.out w4 H4.out).mono ?_;rintro e w5 ⟨rfl,hB⟩;have H5:=Lh (Tb H4.out hB);clear hB d0 d1 d2 d3 d4 d5 e0 e1 f0 f1 f2 f3 f4 f5 f6 f7 g0 g1 g2 hx0 hx1 hx2;dsimp only;have Wl:Hid (∀w',Bw w5 w'->Bw w1 w'/\D6 w' qb kind size slide late agg kq/\D2 w' sb m (.slice (some ⟨pa,oa,none⟩) n sc)/\D8 w' xb (bn.mk ⟨⟨xk,xl,xh⟩,⟨xn,xa,xt,xu,xv⟩,xr⟩ Su xz Sw Sz)/\D3 w' wb xk xl xh):=Lh (λw' h=>HC.out w' (Tb H5.out h));have SB:Hid (Bw w5 w5.drew):=Lh (Below.refl _ w5).drew;have SX:=Lh HI.out;have UH:Hid (((xr==0)==decide (xh<=m))=false):=Lh TC.out.2.2.2.2.2.1;have Xj:Hid (∀w',Calls prog 75 #[.agg #[.int .i64 kind,.int .i64 size,.int .i64 slide,.int .i64 late,.int .i64 agg,.int .i64 kq],Sv xk,.int .i64 xl] w' (qI w' (lM Q xk xl))):=by
    have hc:=cu TC.out.1;simp only at hc;have h:=λw'=>Hf w' Q xk xl (by omega)
    refine Lh (λw'=>?_);have h2:=h w';rw[Vj.out]at h2 ⊢;exact h2
   have ZF:Hid (kind≠3->∀w' a c,dF w' a (lM Q xk xl)->Calls prog 74 #[.slice a (lM Q xk xl).length c,.agg #[Sv xk,.int .i64 xl,.int .i64 xh]] w' (bE w' (.bool true))):=by
    refine Lh (λhk w' a c h=>?_);have h2:=tX w' a c (lM Q xk xl) ⟨xk,xl,xh⟩ h (by have:=wS Q xk xl;omega)
    rw[bfr (TC.out.2.2.2.2.2.2.2 hk)]at h2;exact h2
   have Et:Hid (∀w',Bw w5 w'->∃j:Nat,j<=n/\Value.int .i64 ((i:Int)+1)=.int .i64 (j:Int)/\Bw w1 w'):=Lh (λw' h=>⟨i+1,HI.out,by go_num,(Wl.out w' h).1⟩)
   obtain⟨ws,hws⟩:=Nm (lM Q xk xl);rw[<-hws]at Xj ZF;clear hws;by_cases hi1:i=0
   ·subst hi1;go_upto_region 9 with(fail);refine bD (λi=>([13,14,15,16,17,18,19,20,21,22]:List Nat).contains i) (by kernel_rfl) (NoF (NoF (NoF (NoF [none,none,none,none,none])))) [] (λi_ _ _ v_=>v_=((([.pointer (some ⟨xb,7,none⟩),.int .i64 xr,.bool (xr==0),.pointer (some ⟨wb,2,none⟩),.int .i64 xh,.pointer (some ⟨sb,0,none⟩),.int .i64 m,.bool (decide (xh<=m)),.bool false,.bool false,.int .i64 ((0:Nat):Int),.bool false,.bool false,undef,undef,undef,undef,undef,undef,undef,undef,undef,undef,.bool false,.bool false]:List Value))).getD i_ undef) (λ_ w'=>Bw w5 w') (λw w'=>Bw w w') (λ_ _ _ _ _ _ h=>h) (by kernel_rfl) (by kernel_rfl) (by kernel_rfl) SB.out (λ_=>⟨rfl,rfl,rfl,rfl,rfl,rfl,rfl,rfl,rfl,rfl,IlA,IlA,IlA,IlA,IlA,IlA,IlA,IlA,IlA,IlA,IlA,IlA,IlA,IlA,rfl,trivial⟩) (λi hi=>by have hm:=List.contains_iff_mem.1 hi;simp only[bf2,bf9,or_false]at hm;rcases hm with rfl | rfl | rfl | rfl | rfl | rfl | rfl | rfl | rfl | rfl <;> exact⟨rfl,λ_ _=>rfl⟩) ?_ ?_
    ·refine ⟨?_,?_,?_,?_,?_,?_,?_,?_,?_,?_,?_,?_,?_,?_,?_,?_,?_,?_,?_,?_,?_,?_,?_,?_,?_,trivial⟩<;>(first|exact λh=>absurd h (by decide)|intro _ _ a w' hG Si Sj K hK)<;>replace Si:=Lh Si<;>replace Sj:=Lh Sj
     have q6:=FaA Si 6 xb 0;rotate_left;have E5:=Pa a 70 xb 7 Sj.out.1;obtain⟨_,⟨d0,d1,d2,d3,d4,d5⟩,⟨e0,e1⟩,⟨f0,f1,f2,f3,f4,f5,f6,f7⟩,⟨g0,g1,g2⟩⟩:=Wl.out w' hG;rotate_left;have AX:=Pi a 71 xr Sj.out.1;rotate_left;have q7:=FaA Si 7 wb 0;rotate_left;have iG:=Pa a 73 wb 2 Sj.out.1;obtain⟨_,⟨d0,d1,d2,d3,d4,d5⟩,⟨e0,e1⟩,⟨f0,f1,f2,f3,f4,f5,f6,f7⟩,⟨g0,g1,g2⟩⟩:=Wl.out w' hG;rotate_left;have q3:=FaA Si 3 sb 0;rotate_left;have A7:=Pa a 75 sb 0 Sj.out.1;obtain⟨_,⟨d0,d1,d2,d3,d4,d5⟩,⟨e0,e1⟩,⟨f0,f1,f2,f3,f4,f5,f6,f7⟩,⟨g0,g1,g2⟩⟩:=Wl.out w' hG;rotate_left;have AZ:=Pi a 74 xh Sj.out.1;have iH:=Pi a 76 m Sj.out.2.1;rotate_left;have AY:=Ep a 72 (.bool (xr==0)) Sj.out.1;have q77:=Ep a 77 (.bool (decide (xh<=m))) Sj.out.2.1;have hbo:=UH.out;rotate_left;have q78:=Ep a 78 (.bool false) Sj.out.1;rotate_left;have q5:=FoA Si 5 (.int .i64 ((0:Nat):Int));rotate_left;have E8:=Ep a 80 (.int .i64 ((0:Nat):Int)) Sj.out.1;rotate_left;have Us:=Ep a 81 (.bool false) Sj.out.1;rotate_left;have q82:=Ep a 82 (.bool false) Sj.out.1;have Ut:=Ep a 92 undef Sj.out.2.1;rotate_left;have Ur:=Ep a 79 (.bool false) Sj.out.1;have q93:=Ep a 93 (.bool false) Sj.out.2.1;rotate_left
     all_goals(go_step;exact hK _ _ rfl hG Br)
    intro vs w6 hG hlen hV
    match vs,hlen,hV with
    | [v0,v1,v2,v3,v4,v5,v6,v7,v8,v9,v10,v11,v12,v13,v14,v15,v16,v17,v18,v19,v20,v21,v22,v23,v24],_,hV=>
     obtain rfl:v24=.bool false:=(hV 24 94 v24 rfl rfl);clear hV;simp only[dG,bf7,bf1];simp only[Act.put,bfw,bfu,bfv];clear hV hlen;have H6:=Lh hG;clear hG;have Vi:Hid (∀w',Bw w6 w'->Bw w1 w'/\D6 w' qb kind size slide late agg kq/\D2 w' sb m (.slice (some ⟨pa,oa,none⟩) n sc)/\D8 w' xb (bn.mk ⟨⟨xk,xl,xh⟩,⟨xn,xa,xt,xu,xv⟩,xr⟩ Su xz Sw Sz)/\D3 w' wb xk xl xh):=Lh (λw' h=>Wl.out w' (Tb H6.out h));have oQ:Hid (Bw w6 w6.drew):=Lh (Below.refl _ w6).drew;by_cases hk:kind=3
     ·subst hk;have aM:Hid (IntKind.i64.wrap (xh-xl)=xh-xl):=Lh (by have hc:=cu TC.out.1;simp only at hc;exact IntWalk.i64_in _ (by omega))
      have aN:Hid (decide (xh-xl<size)=false):=Lh (bfq (by have:=TC.out.2.2.2.2.2.2.1 rfl;omega))
      go_upto_region 11 with(fail);refine bD (λi=>([18,19,20,21,22,23,24,25,26]:List Nat).contains i) (by kernel_rfl) (NoF (NoF (NoF (NoF (NoF [none,none,none,none]))))) [] (λi_ _ _ v_=>v_=((([.pointer (some ⟨qb,0,none⟩),.int .i64 3,.bool true,.bool true,.pointer (some ⟨wb,2,none⟩),.int .i64 xh,.pointer (some ⟨wb,1,none⟩),.int .i64 xl,.int .i64 (xh - xl),.pointer (some ⟨qb,1,none⟩),.int .i64 size,.bool false,.bool false,.bool false,.pointer (some ⟨qb,0,none⟩),.int .i64 3,.bool false,.bool false,undef,undef,undef,undef,undef,undef,undef,undef,undef,.bool false,.bool false]:List Value))).getD i_ undef) (λ_ w'=>Bw w6 w') (λw w'=>Bw w w') (λ_ _ _ _ _ _ h=>h) (by kernel_rfl) (by kernel_rfl) (by kernel_rfl) oQ.out (λ_=>⟨rfl,rfl,rfl,rfl,IlA,IlA,IlA,IlA,IlA,IlA,IlA,IlA,rfl,rfl,IlA,IlA,IlA,IlA,IlA,IlA,IlA,IlA,IlA,IlA,IlA,IlA,IlA,IlA,rfl,trivial⟩) (λi hi=>by have hm:=List.contains_iff_mem.1 hi;simp only[bf2,bf9,or_false]at hm;rcases hm with rfl | rfl | rfl | rfl | rfl | rfl | rfl | rfl | rfl <;> exact⟨rfl,λ_ _=>rfl⟩) ?_ ?_
      ·refine ⟨?_,?_,?_,?_,?_,?_,?_,?_,?_,?_,?_,?_,?_,?_,?_,?_,?_,?_,?_,?_,?_,?_,?_,?_,?_,?_,?_,?_,?_,trivial⟩<;>(first|exact λh=>absurd h (by decide)|intro _ _ a w' hG Si Sj K hK)<;>replace Si:=Lh Si<;>replace Sj:=Lh Sj
       have q2:=FaA Si 2 qb 0;rotate_left;have E9:=Pa a 95 qb 0 Sj.out.1;obtain⟨_,⟨d0,d1,d2,d3,d4,d5⟩,⟨e0,e1⟩,⟨f0,f1,f2,f3,f4,f5,f6,f7⟩,⟨g0,g1,g2⟩⟩:=Vi.out w' hG;rotate_left;have Ia:=Ep a 96 (.int .i64 3) Sj.out.1;rotate_left;have Ib:=Ep a 97 (.bool true) Sj.out.1;rotate_left;have q7:=FaA Si 7 wb 0;rotate_left;have Uu:=Pa a 99 wb 2 Sj.out.1;obtain⟨_,⟨d0,d1,d2,d3,d4,d5⟩,⟨e0,e1⟩,⟨f0,f1,f2,f3,f4,f5,f6,f7⟩,⟨g0,g1,g2⟩⟩:=Vi.out w' hG;rotate_left;have q7:=FaA Si 7 wb 0;rotate_left;have iB:=Pa a 101 wb 1 Sj.out.1;obtain⟨_,⟨d0,d1,d2,d3,d4,d5⟩,⟨e0,e1⟩,⟨f0,f1,f2,f3,f4,f5,f6,f7⟩,⟨g0,g1,g2⟩⟩:=Vi.out w' hG;rotate_left;have iA:=Pi a 100 xh Sj.out.1;have iC:=Pi a 102 xl Sj.out.2.1;have hsb:=aM.out;rotate_left;have q2:=FaA Si 2 qb 0;rotate_left;have iD:=Pa a 104 qb 1 Sj.out.1;obtain⟨_,⟨d0,d1,d2,d3,d4,d5⟩,⟨e0,e1⟩,⟨f0,f1,f2,f3,f4,f5,f6,f7⟩,⟨g0,g1,g2⟩⟩:=Vi.out w' hG;rotate_left;have AB:=Ep a 103 (.int .i64 (xh-xl)) Sj.out.1;have iE:=Pi a 105 size Sj.out.2.1;have hsb:=aN.out;rotate_left;have A8:=Ep a 98 (.bool true) Sj.out.1;have Zl:=Ep a 106 (.bool false) Sj.out.2.1;rotate_left;have Zm:=Ep a 107 (.bool false) Sj.out.1;rotate_left;have q2:=FaA Si 2 qb 0;rotate_left;have Zo:=Pa a 109 qb 0 Sj.out.1;obtain⟨_,⟨d0,d1,d2,d3,d4,d5⟩,⟨e0,e1⟩,⟨f0,f1,f2,f3,f4,f5,f6,f7⟩,⟨g0,g1,g2⟩⟩:=Vi.out w' hG;rotate_left;have Zq:=Ep a 110 (.int .i64 3) Sj.out.1;rotate_left;have Zt:=Ep a 111 (.bool false) Sj.out.1;rotate_left;have Zu:=Ep a 112 (.bool false) Sj.out.1;have Zv:=Ep a 121 undef Sj.out.2.1;rotate_left;have Zn:=Ep a 108 (.bool false) Sj.out.1;have Zw:=Ep a 122 (.bool false) Sj.out.2.1;rotate_left
       all_goals(go_step;exact hK _ _ rfl hG Br)
      intro vs w7 hG hlen hV
      match vs,hlen,hV with
      | [v0,v1,v2,v3,v4,v5,v6,v7,v8,v9,v10,v11,v12,v13,v14,v15,v16,v17,v18,v19,v20,v21,v22,v23,v24,v25,v26,v27,v28],_,hV=>
       obtain rfl:v28=.bool false:=(hV 28 123 v28 rfl rfl);clear hV;simp only[dG,bf7,bf1];simp only[Act.put,bfw,bfu,bfv];have ax:=Lh (Et.out w7 (Tb H6.out hG));clear hG;go_wp2_with(fail);go_roundw
       case rel=>exact ax.out
       case measure=>have:=SX.out;simp[intOf];omega
     have o7:Hid ((kind==3)=false/\(kind !=3)=true):=Lh ⟨by simpa using hk,by simpa using hk⟩
     have aH:=Lh hk;clear hk;go_upto_region 11 with(fail);refine bD (λi=>([4,5,6,7,8,9,10,11]:List Nat).contains i) (by kernel_rfl) (NoF (NoF (NoF (NoF (NoF [none,none,none,none]))))) [] (V4 ((Value.pointer (some ⟨qb,0,none⟩))::(Value.int .i64 kind)::(Value.bool false)::(Value.bool false)::undef::undef::undef::undef::undef::undef::undef::undef::(Value.bool false)::(Value.bool false)::(Value.pointer (some ⟨qb,0,none⟩))::(Value.int .i64 kind)::(Value.bool true)::(Value.bool true)::(Value.agg #[.int .i64 kind,.int .i64 size,.int .i64 slide,.int .i64 late,.int .i64 agg,.int .i64 kq])::(Value.pointer (some ⟨wb,0,none⟩))::Sv xk::([.pointer (some ⟨wb,1,none⟩),.int .i64 xl,undef,.agg #[Sv xk,.int .i64 xl,.int .i64 xh],.bool true,.bool false,.bool false,.bool false]:List Value)) 23 (λ_ w v=>ql w v ws) 99 (λ_ _ _=>True) 99 (λ_ _ _=>True) 99 (λ_ _ _=>True)) (λ_ w'=>Bw w6 w') (λw w'=>Bw w w') (qm _ (λ_ _ _ _ hB h=>ql.below h hB) (λ_ _ _ _ _ h=>h) (λ_ _ _ _ _ h=>h) (λ_ _ _ _ _ h=>h)) (by kernel_rfl) (by kernel_rfl) (by kernel_rfl) oQ.out (λ_=>⟨rfl,rfl,rfl,rfl,IlA,IlA,IlA,IlA,IlA,IlA,IlA,IlA,rfl,rfl,IlA,IlA,IlA,IlA,IlA,IlA,IlA,IlA,IlA,IlA,IlA,IlA,IlA,IlA,rfl,trivial⟩) (λi hi=>by have hm:=List.contains_iff_mem.1 hi;simp only[bf2,bf9,or_false]at hm;rcases hm with rfl | rfl | rfl | rfl | rfl | rfl | rfl | rfl <;> exact⟨rfl,λ_ _=>rfl⟩) ?_ ?_
     ·refine ⟨?_,?_,?_,?_,?_,?_,?_,?_,?_,?_,?_,?_,?_,?_,?_,?_,?_,?_,?_,?_,?_,?_,?_,?_,?_,?_,?_,?_,?_,trivial⟩<;>(first|exact λh=>absurd h (by decide)|intro _ _ a w' hG Si Sj K hK)<;>replace Si:=Lh Si<;>replace Sj:=Lh Sj
      have q2:=FaA Si 2 qb 0;rotate_left;have E9:=Pa a 95 qb 0 Sj.out.1;obtain⟨_,⟨d0,d1,d2,d3,d4,d5⟩,⟨e0,e1⟩,⟨f0,f1,f2,f3,f4,f5,f6,f7⟩,⟨g0,g1,g2⟩⟩:=Vi.out w' hG;rotate_left;have Ia:=Pi a 96 kind Sj.out.1;have hk2:=o7.out.1;rotate_left;have Ib:=Ep a 97 (.bool false) Sj.out.1;rotate_left;have A8:=Ep a 98 (.bool false) Sj.out.1;have Zl:=Ep a 106 undef Sj.out.2.1;rotate_left;have Zm:=Ep a 107 (.bool false) Sj.out.1;rotate_left;have q2:=FaA Si 2 qb 0;rotate_left;have Zo:=Pa a 109 qb 0 Sj.out.1;obtain⟨_,⟨d0,d1,d2,d3,d4,d5⟩,⟨e0,e1⟩,⟨f0,f1,f2,f3,f4,f5,f6,f7⟩,⟨g0,g1,g2⟩⟩:=Vi.out w' hG;rotate_left;have Zq:=Pi a 110 kind Sj.out.1;have hk2:=o7.out.2;rotate_left;have Zt:=Ep a 111 (.bool true) Sj.out.1;rotate_left;have q2:=FaA Si 2 qb 0;obtain⟨d0,d1,d2,d3,d4,d5⟩:=(Vi.out w' hG).2.1;rotate_left;have q7:=FaA Si 7 wb 0;rotate_left;have AJ:=Pa a 114 wb 0 Sj.out.1;obtain⟨_,⟨d0,d1,d2,d3,d4,d5⟩,⟨e0,e1⟩,⟨f0,f1,f2,f3,f4,f5,f6,f7⟩,⟨g0,g1,g2⟩⟩:=Vi.out w' hG;rotate_left;have q7:=FaA Si 7 wb 0;rotate_left;have AO:=Pa a 116 wb 1 Sj.out.1;obtain⟨_,⟨d0,d1,d2,d3,d4,d5⟩,⟨e0,e1⟩,⟨f0,f1,f2,f3,f4,f5,f6,f7⟩,⟨g0,g1,g2⟩⟩:=Vi.out w' hG;rotate_left
      ·have AC:=Ep a 113 (.agg #[.int .i64 kind,.int .i64 size,.int .i64 slide,.int .i64 late,.int .i64 agg,.int .i64 kq]) Sj.out.1;have AL:=Ep a 115 (Sv xk) Sj.out.2.1;have AP:=Pi a 117 xl Sj.out.2.2.1;have HS:=Lh (Xj.out w');go_step;refine HS.out.mono ?_;rintro e w3 ⟨a',c',rfl,hc,hA,hB⟩;exact hK _ _ ⟨a',c',rfl,hc,hA⟩ (Tb hG hB) hB
      have q7:=FaA Si 7 wb 0;obtain⟨_,⟨d0,d1,d2,d3,d4,d5⟩,⟨e0,e1⟩,⟨f0,f1,f2,f3,f4,f5,f6,f7⟩,⟨g0,g1,g2⟩⟩:=Vi.out w' hG;rotate_left
      ·obtain ⟨p0,_,_⟩:=Sj.out;obtain⟨a1,c1,hv,hc1,hA1⟩:=(show ql w' (a.eval (.tmp 118)) ws from p0);have AR:=Ep a 119 (.agg #[Sv xk,.int .i64 xl,.int .i64 xh]) Sj.out.2.1;have AQ:=bf hv;have HS:=Lh (ZF.out aH.out w' a1 c1 hA1);clear hA1 hv hc1;go_step;refine HS.out.mono ?_;rintro e w3 ⟨rfl,hB⟩;exact hK _ _ rfl (Tb hG hB) hB
      have AU:=Ep a 120 (.bool true) Sj.out.1;rotate_left;have Zu:=Ep a 112 (.bool true) Sj.out.1;have Zv:=Ep a 121 (.bool false) Sj.out.2.1;rotate_left;have Zn:=Ep a 108 (.bool false) Sj.out.1;have Zw:=Ep a 122 (.bool false) Sj.out.2.1;rotate_left
      all_goals(go_step;exact hK _ _ rfl hG Br)
     intro vs w7 hG hlen hV
     match vs,hlen,hV with
     | [v0,v1,v2,v3,v4,v5,v6,v7,v8,v9,v10,v11,v12,v13,v14,v15,v16,v17,v18,v19,v20,v21,v22,v23,v24,v25,v26,v27,v28],_,hV=>
      obtain rfl:v28=.bool false:=(hV 28 123 v28 rfl rfl);clear hV;simp only[dG,bf7,bf1];simp only[Act.put,bfw,bfu,bfv];have ax:=Lh (Et.out w7 (Tb H6.out hG));clear hG;go_wp2_with(fail);go_roundw
      case rel=>exact ax.out
      case measure=>have:=SX.out;simp[intOf];omega
   obtain⟨j,hj⟩:∃j,i=j+1:=⟨i - 1,by omega⟩
   obtain⟨y,pa2,XI,hy,Yr,_⟩:=(HA.out.below (Wl.out w5 Br).1).get (t:=j) (by rw[<-HN.out];have:=HI.out;omega)
   cases Yr
   obtain⟨Y,hY⟩:=Nm y;have iV:Hid (∀w',Bw w5 w'->w'.cell? ⟨pa,oa+j*8,none⟩=some (Sv Y.p.w.key)/\w'.cell? ⟨pa,oa+j*8+1,none⟩=some (.int .i64 Y.p.w.lo)/\w'.cell? ⟨pa,oa+j*8+2,none⟩=some (.int .i64 Y.p.w.hi)):=by
    refine Lh (λw' h=>?_);obtain⟨z,pa3,oa3,hz,O5,k0,k1,k2,_⟩:=(HA.out.below (Wl.out w' h).1).get (t:=j) (by rw[<-HN.out];have:=HI.out;omega)
    cases O5
    have e:=hy.symm.trans hz;cases e
    rw[hY];exact⟨k0,k1,k2⟩
   obtain⟨pl,hpl⟩:=Nm (gG Y.p.w ⟨xk,xl,xh⟩);have hpn:pl<0:=by
    rw[hpl,<-HXm.out];exact sorted_at SG.out.2.2.2.2 HX.out (by rw[hY];exact hy) (by omega)
   have Tz:Hid (decide (0<=pl)=false):=Lh (bfq (by omega))
   obtain⟨⟨⟨yk,yl,yh⟩,ya,yr⟩,Vd,yz,Tv,VC⟩:=Y;simp only at iV hpl;have VI:Hid (∀w',Calls prog 73 #[.agg #[Sv yk,.int .i64 yl,.int .i64 yh],.agg #[Sv xk,.int .i64 xl,.int .i64 xh]] w' (bE w' (.int .i64 pl))):=by
    rw[hpl];exact Lh (λw'=>pO w' ⟨yk,yl,yh⟩ ⟨xk,xl,xh⟩)
   have hii:decide ((0:Int)<(i:Int))=true:=bfr (by omega)
   have UU:Hid (decide ((0:Int)<(i:Int))=true/\decide (0<i)=true):=Lh ⟨hii,bfr (by omega)⟩
   have UW:Hid ((0:Int)<=(j:Int)/\(j:Int)<(n:Int)):=Lh (by have:=HI.out;omega)
   have HSub:Hid (IntKind.i64.wrap ((i:Int)-1)=(j:Int)):=Lh (by
    have hii2:(i:Int)-1=(j:Int):=by omega
    rw[hii2];have:=UW.out;exact IntWalk.i64_in _ (by omega))
   clear hy hY hpl hpn hii hj hi1;go_upto_region 9 with(fail);refine bD (λi=>([]:List Nat).contains i) (by kernel_rfl) (NoF (NoF (NoF (NoF [none,none,none,none,none])))) [] (λi_ _ _ v_=>v_=((([.pointer (some ⟨xb,7,none⟩),.int .i64 xr,.bool (xr==0),.pointer (some ⟨wb,2,none⟩),.int .i64 xh,.pointer (some ⟨sb,0,none⟩),.int .i64 m,.bool (decide (xh<=m)),.bool false,.bool false,.int .i64 (i:Int),.bool true,.bool true,.pointer (some ⟨sb,1,none⟩),.slice (some ⟨pa,oa,none⟩) n sc,.int .i64 (i:Int),.int .i64 (j:Int),.pointer (some ⟨pa,oa+j*8,none⟩),.pointer (some ⟨pa,oa+j*8,none⟩),.agg #[Sv yk,.int .i64 yl,.int .i64 yh],.agg #[Sv xk,.int .i64 xl,.int .i64 xh],.int .i64 pl,.bool false,.bool false,.bool false]:List Value))).getD i_ undef) (λ_ w'=>Bw w5 w') (λw w'=>Bw w w') (λ_ _ _ _ _ _ h=>h) (by kernel_rfl) (by kernel_rfl) (by kernel_rfl) SB.out (λ_=>⟨rfl,rfl,rfl,rfl,rfl,rfl,rfl,rfl,rfl,rfl,IlA,IlA,IlA,IlA,IlA,IlA,IlA,IlA,IlA,IlA,IlA,IlA,IlA,IlA,rfl,trivial⟩) (λ_ h=>by simp at h) ?_ ?_
   ·refine ⟨?_,?_,?_,?_,?_,?_,?_,?_,?_,?_,?_,?_,?_,?_,?_,?_,?_,?_,?_,?_,?_,?_,?_,?_,?_,trivial⟩<;>intro _ _ a w' hG Si Sj K hK<;>replace Si:=Lh Si<;>replace Sj:=Lh Sj
    have q6:=FaA Si 6 xb 0;rotate_left;have E5:=Pa a 70 xb 7 Sj.out.1;obtain⟨_,⟨d0,d1,d2,d3,d4,d5⟩,⟨e0,e1⟩,⟨f0,f1,f2,f3,f4,f5,f6,f7⟩,⟨g0,g1,g2⟩⟩:=Wl.out w' hG;rotate_left;have AX:=Pi a 71 xr Sj.out.1;rotate_left;have q7:=FaA Si 7 wb 0;rotate_left;have iG:=Pa a 73 wb 2 Sj.out.1;obtain⟨_,⟨d0,d1,d2,d3,d4,d5⟩,⟨e0,e1⟩,⟨f0,f1,f2,f3,f4,f5,f6,f7⟩,⟨g0,g1,g2⟩⟩:=Wl.out w' hG;rotate_left;have q3:=FaA Si 3 sb 0;rotate_left;have A7:=Pa a 75 sb 0 Sj.out.1;obtain⟨_,⟨d0,d1,d2,d3,d4,d5⟩,⟨e0,e1⟩,⟨f0,f1,f2,f3,f4,f5,f6,f7⟩,⟨g0,g1,g2⟩⟩:=Wl.out w' hG;rotate_left;have AZ:=Pi a 74 xh Sj.out.1;have iH:=Pi a 76 m Sj.out.2.1;rotate_left;have AY:=Ep a 72 (.bool (xr==0)) Sj.out.1;have q77:=Ep a 77 (.bool (decide (xh<=m))) Sj.out.2.1;have hbo:=UH.out;rotate_left;have q78:=Ep a 78 (.bool false) Sj.out.1;rotate_left;have q5:=FiA Si 5 i;rotate_left;have E8:=Pi a 80 i Sj.out.1;have hii:=UU.out.1;have hij:=UU.out.2;rotate_left;have Us:=Ep a 81 (.bool true) Sj.out.1;rotate_left;have q3:=FaA Si 3 sb 0;rotate_left;have q83:=Pa a 83 sb 1 Sj.out.1;obtain⟨_,⟨d0,d1,d2,d3,d4,d5⟩,⟨e0,e1⟩,⟨f0,f1,f2,f3,f4,f5,f6,f7⟩,⟨g0,g1,g2⟩⟩:=Wl.out w' hG;rotate_left;have q5:=FiA Si 5 i;rotate_left;have q85:=Pi a 85 i Sj.out.1;have hsb:=HSub.out;rotate_left;have q84:=Ep a 84 (.slice (some ⟨pa,oa,none⟩) n sc) Sj.out.1;have q86:=Pi a 86 j Sj.out.2.1;have hj0:=UW.out;rotate_left;have q87:=Ep a 87 (.pointer (some ⟨pa,oa+j*8,none⟩)) Sj.out.1;rotate_left;have q88:=Ep a 88 (.pointer (some ⟨pa,oa+j*8,none⟩)) Sj.out.1;obtain⟨y0,y1,y2⟩:=iV.out w' hG;rotate_left;have q7:=FaA Si 7 wb 0;obtain⟨_,⟨d0,d1,d2,d3,d4,d5⟩,⟨e0,e1⟩,⟨f0,f1,f2,f3,f4,f5,f6,f7⟩,⟨g0,g1,g2⟩⟩:=Wl.out w' hG;rotate_left
    ·have q89:=Ep a 89 (.agg #[Sv yk,.int .i64 yl,.int .i64 yh]) Sj.out.1;have q90:=Ep a 90 (.agg #[Sv xk,.int .i64 xl,.int .i64 xh]) Sj.out.2.1;have HS:=Lh (VI.out w');go_step;refine HS.out.mono ?_;rintro e w3 ⟨rfl,hB⟩;exact hK _ _ rfl (Tb hG hB) hB
    have q91:=Pi a 91 pl Sj.out.1;have hpn:=Tz.out;rotate_left;have q82:=Ep a 82 (.bool true) Sj.out.1;have Ut:=Ep a 92 (.bool false) Sj.out.2.1;rotate_left;have Ur:=Ep a 79 (.bool false) Sj.out.1;have q93:=Ep a 93 (.bool false) Sj.out.2.1;rotate_left
    all_goals(go_step;exact hK _ _ rfl hG Br)
   intro vs w6 hG hlen hV
   match vs,hlen,hV with
   | [v0,v1,v2,v3,v4,v5,v6,v7,v8,v9,v10,v11,v12,v13,v14,v15,v16,v17,v18,v19,v20,v21,v22,v23,v24],_,hV=>
    obtain rfl:v24=.bool false:=(hV 24 94 v24 rfl rfl);clear hV;simp only[dG,bf7,bf1];simp only[Act.put,bfw,bfu,bfv];clear hV hlen;have H6:=Lh hG;clear hG;have Vi:Hid (∀w',Bw w6 w'->Bw w1 w'/\D6 w' qb kind size slide late agg kq/\D2 w' sb m (.slice (some ⟨pa,oa,none⟩) n sc)/\D8 w' xb (bn.mk ⟨⟨xk,xl,xh⟩,⟨xn,xa,xt,xu,xv⟩,xr⟩ Su xz Sw Sz)/\D3 w' wb xk xl xh):=Lh (λw' h=>Wl.out w' (Tb H6.out h));have oQ:Hid (Bw w6 w6.drew):=Lh (Below.refl _ w6).drew;by_cases hk:kind=3
    ·subst hk;have aM:Hid (IntKind.i64.wrap (xh-xl)=xh-xl):=Lh (by have hc:=cu TC.out.1;simp only at hc;exact IntWalk.i64_in _ (by omega))
     have aN:Hid (decide (xh-xl<size)=false):=Lh (bfq (by have:=TC.out.2.2.2.2.2.2.1 rfl;omega))
     go_upto_region 11 with(fail);refine bD (λi=>([18,19,20,21,22,23,24,25,26]:List Nat).contains i) (by kernel_rfl) (NoF (NoF (NoF (NoF (NoF [none,none,none,none]))))) [] (λi_ _ _ v_=>v_=((([.pointer (some ⟨qb,0,none⟩),.int .i64 3,.bool true,.bool true,.pointer (some ⟨wb,2,none⟩),.int .i64 xh,.pointer (some ⟨wb,1,none⟩),.int .i64 xl,.int .i64 (xh - xl),.pointer (some ⟨qb,1,none⟩),.int .i64 size,.bool false,.bool false,.bool false,.pointer (some ⟨qb,0,none⟩),.int .i64 3,.bool false,.bool false,undef,undef,undef,undef,undef,undef,undef,undef,undef,.bool false,.bool false]:List Value))).getD i_ undef) (λ_ w'=>Bw w6 w') (λw w'=>Bw w w') (λ_ _ _ _ _ _ h=>h) (by kernel_rfl) (by kernel_rfl) (by kernel_rfl) oQ.out (λ_=>⟨rfl,rfl,rfl,rfl,IlA,IlA,IlA,IlA,IlA,IlA,IlA,IlA,rfl,rfl,IlA,IlA,IlA,IlA,IlA,IlA,IlA,IlA,IlA,IlA,IlA,IlA,IlA,IlA,rfl,trivial⟩) (λi hi=>by have hm:=List.contains_iff_mem.1 hi;simp only[bf2,bf9,or_false]at hm;rcases hm with rfl | rfl | rfl | rfl | rfl | rfl | rfl | rfl | rfl <;> exact⟨rfl,λ_ _=>rfl⟩) ?_ ?_
     ·refine ⟨?_,?_,?_,?_,?_,?_,?_,?_,?_,?_,?_,?_,?_,?_,?_,?_,?_,?_,?_,?_,?_,?_,?_,?_,?_,?_,?_,?_,?_,trivial⟩<;>(first|exact λh=>absurd h (by decide)|intro _ _ a w' hG Si Sj K hK)<;>replace Si:=Lh Si<;>replace Sj:=Lh Sj
      have q2:=FaA Si 2 qb 0;rotate_left;have E9:=Pa a 95 qb 0 Sj.out.1;obtain⟨_,⟨d0,d1,d2,d3,d4,d5⟩,⟨e0,e1⟩,⟨f0,f1,f2,f3,f4,f5,f6,f7⟩,⟨g0,g1,g2⟩⟩:=Vi.out w' hG;rotate_left;have Ia:=Ep a 96 (.int .i64 3) Sj.out.1;rotate_left;have Ib:=Ep a 97 (.bool true) Sj.out.1;rotate_left;have q7:=FaA Si 7 wb 0;rotate_left;have Uu:=Pa a 99 wb 2 Sj.out.1;obtain⟨_,⟨d0,d1,d2,d3,d4,d5⟩,⟨e0,e1⟩,⟨f0,f1,f2,f3,f4,f5,f6,f7⟩,⟨g0,g1,g2⟩⟩:=Vi.out w' hG;rotate_left;have q7:=FaA Si 7 wb 0;rotate_left;have iB:=Pa a 101 wb 1 Sj.out.1;obtain⟨_,⟨d0,d1,d2,d3,d4,d5⟩,⟨e0,e1⟩,⟨f0,f1,f2,f3,f4,f5,f6,f7⟩,⟨g0,g1,g2⟩⟩:=Vi.out w' hG;rotate_left;have iA:=Pi a 100 xh Sj.out.1;have iC:=Pi a 102 xl Sj.out.2.1;have hsb:=aM.out;rotate_left;have q2:=FaA Si 2 qb 0;rotate_left;have iD:=Pa a 104 qb 1 Sj.out.1;obtain⟨_,⟨d0,d1,d2,d3,d4,d5⟩,⟨e0,e1⟩,⟨f0,f1,f2,f3,f4,f5,f6,f7⟩,⟨g0,g1,g2⟩⟩:=Vi.out w' hG;rotate_left;have AB:=Ep a 103 (.int .i64 (xh-xl)) Sj.out.1;have iE:=Pi a 105 size Sj.out.2.1;have hsb:=aN.out;rotate_left;have A8:=Ep a 98 (.bool true) Sj.out.1;have Zl:=Ep a 106 (.bool false) Sj.out.2.1;rotate_left;have Zm:=Ep a 107 (.bool false) Sj.out.1;rotate_left;have q2:=FaA Si 2 qb 0;rotate_left;have Zo:=Pa a 109 qb 0 Sj.out.1;obtain⟨_,⟨d0,d1,d2,d3,d4,d5⟩,⟨e0,e1⟩,⟨f0,f1,f2,f3,f4,f5,f6,f7⟩,⟨g0,g1,g2⟩⟩:=Vi.out w' hG;rotate_left;have Zq:=Ep a 110 (.int .i64 3) Sj.out.1;rotate_left;have Zt:=Ep a 111 (.bool false) Sj.out.1;rotate_left;have Zu:=Ep a 112 (.bool false) Sj.out.1;have Zv:=Ep a 121 undef Sj.out.2.1;rotate_left;have Zn:=Ep a 108 (.bool false) Sj.out.1;have Zw:=Ep a 122 (.bool false) Sj.out.2.1;rotate_left
      all_goals(go_step;exact hK _ _ rfl hG Br)
     intro vs w7 hG hlen hV
     match vs,hlen,hV with
     | [v0,v1,v2,v3,v4,v5,v6,v7,v8,v9,v10,v11,v12,v13,v14,v15,v16,v17,v18,v19,v20,v21,v22,v23,v24,v25,v26,v27,v28],_,hV=>
      obtain rfl:v28=.bool false:=(hV 28 123 v28 rfl rfl);clear hV;simp only[dG,bf7,bf1];simp only[Act.put,bfw,bfu,bfv];have ax:=Lh (Et.out w7 (Tb H6.out hG));clear hG;go_wp2_with(fail);go_roundw
      case rel=>exact ax.out
      case measure=>have:=SX.out;simp[intOf];omega
    have o7:Hid ((kind==3)=false/\(kind !=3)=true):=Lh ⟨by simpa using hk,by simpa using hk⟩
    have aH:=Lh hk;clear hk;go_upto_region 11 with(fail);refine bD (λi=>([4,5,6,7,8,9,10,11]:List Nat).contains i) (by kernel_rfl) (NoF (NoF (NoF (NoF (NoF [none,none,none,none]))))) [] (V4 ((Value.pointer (some ⟨qb,0,none⟩))::(Value.int .i64 kind)::(Value.bool false)::(Value.bool false)::undef::undef::undef::undef::undef::undef::undef::undef::(Value.bool false)::(Value.bool false)::(Value.pointer (some ⟨qb,0,none⟩))::(Value.int .i64 kind)::(Value.bool true)::(Value.bool true)::(Value.agg #[.int .i64 kind,.int .i64 size,.int .i64 slide,.int .i64 late,.int .i64 agg,.int .i64 kq])::(Value.pointer (some ⟨wb,0,none⟩))::Sv xk::([.pointer (some ⟨wb,1,none⟩),.int .i64 xl,undef,.agg #[Sv xk,.int .i64 xl,.int .i64 xh],.bool true,.bool false,.bool false,.bool false]:List Value)) 23 (λ_ w v=>ql w v ws) 99 (λ_ _ _=>True) 99 (λ_ _ _=>True) 99 (λ_ _ _=>True)) (λ_ w'=>Bw w6 w') (λw w'=>Bw w w') (qm _ (λ_ _ _ _ hB h=>ql.below h hB) (λ_ _ _ _ _ h=>h) (λ_ _ _ _ _ h=>h) (λ_ _ _ _ _ h=>h)) (by kernel_rfl) (by kernel_rfl) (by kernel_rfl) oQ.out (λ_=>⟨rfl,rfl,rfl,rfl,IlA,IlA,IlA,IlA,IlA,IlA,IlA,IlA,rfl,rfl,IlA,IlA,IlA,IlA,IlA,IlA,IlA,IlA,IlA,IlA,IlA,IlA,IlA,IlA,rfl,trivial⟩) (λi hi=>by have hm:=List.contains_iff_mem.1 hi;simp only[bf2,bf9,or_false]at hm;rcases hm with rfl | rfl | rfl | rfl | rfl | rfl | rfl | rfl <;> exact⟨rfl,λ_ _=>rfl⟩) ?_ ?_
    ·refine ⟨?_,?_,?_,?_,?_,?_,?_,?_,?_,?_,?_,?_,?_,?_,?_,?_,?_,?_,?_,?_,?_,?_,?_,?_,?_,?_,?_,?_,?_,trivial⟩<;>(first|exact λh=>absurd h (by decide)|intro _ _ a w' hG Si Sj K hK)<;>replace Si:=Lh Si<;>replace Sj:=Lh Sj
     have q2:=FaA Si 2 qb 0;rotate_left;have E9:=Pa a 95 qb 0 Sj.out.1;obtain⟨_,⟨d0,d1,d2,d3,d4,d5⟩,⟨e0,e1⟩,⟨f0,f1,f2,f3,f4,f5,f6,f7⟩,⟨g0,g1,g2⟩⟩:=Vi.out w' hG;rotate_left;have Ia:=Pi a 96 kind Sj.out.1;have hk2:=o7.out.1;rotate_left;have Ib:=Ep a 97 (.bool false) Sj.out.1;rotate_left;have A8:=Ep a 98 (.bool false) Sj.out.1;have Zl:=Ep a 106 undef Sj.out.2.1;rotate_left;have Zm:=Ep a 107 (.bool false) Sj.out.1;rotate_left;have q2:=FaA Si 2 qb 0;rotate_left;have Zo:=Pa a 109 qb 0 Sj.out.1;obtain⟨_,⟨d0,d1,d2,d3,d4,d5⟩,⟨e0,e1⟩,⟨f0,f1,f2,f3,f4,f5,f6,f7⟩,⟨g0,g1,g2⟩⟩:=Vi.out w' hG;rotate_left;have Zq:=Pi a 110 kind Sj.out.1;have hk2:=o7.out.2;rotate_left;have Zt:=Ep a 111 (.bool true) Sj.out.1;rotate_left;have q2:=FaA Si 2 qb 0;obtain⟨d0,d1,d2,d3,d4,d5⟩:=(Vi.out w' hG).2.1;rotate_left;have q7:=FaA Si 7 wb 0;rotate_left;have AJ:=Pa a 114 wb 0 Sj.out.1;obtain⟨_,⟨d0,d1,d2,d3,d4,d5⟩,⟨e0,e1⟩,⟨f0,f1,f2,f3,f4,f5,f6,f7⟩,⟨g0,g1,g2⟩⟩:=Vi.out w' hG;rotate_left;have q7:=FaA Si 7 wb 0;rotate_left;have AO:=Pa a 116 wb 1 Sj.out.1;obtain⟨_,⟨d0,d1,d2,d3,d4,d5⟩,⟨e0,e1⟩,⟨f0,f1,f2,f3,f4,f5,f6,f7⟩,⟨g0,g1,g2⟩⟩:=Vi.out w' hG;rotate_left
     ·have AC:=Ep a 113 (.agg #[.int .i64 kind,.int .i64 size,.int .i64 slide,.int .i64 late,.int .i64 agg,.int .i64 kq]) Sj.out.1;have AL:=Ep a 115 (Sv xk) Sj.out.2.1;have AP:=Pi a 117 xl Sj.out.2.2.1;have HS:=Lh (Xj.out w');go_step;refine HS.out.mono ?_;rintro e w3 ⟨a',c',rfl,hc,hA,hB⟩;exact hK _ _ ⟨a',c',rfl,hc,hA⟩ (Tb hG hB) hB
     have q7:=FaA Si 7 wb 0;obtain⟨_,⟨d0,d1,d2,d3,d4,d5⟩,⟨e0,e1⟩,⟨f0,f1,f2,f3,f4,f5,f6,f7⟩,⟨g0,g1,g2⟩⟩:=Vi.out w' hG;rotate_left
     ·obtain ⟨p0,_,_⟩:=Sj.out;obtain⟨a1,c1,hv,hc1,hA1⟩:=(show ql w' (a.eval (.tmp 118)) ws from p0);have AR:=Ep a 119 (.agg #[Sv xk,.int .i64 xl,.int .i64 xh]) Sj.out.2.1;have AQ:=bf hv;have HS:=Lh (ZF.out aH.out w' a1 c1 hA1);clear hA1 hv hc1;go_step;refine HS.out.mono ?_;rintro e w3 ⟨rfl,hB⟩;exact hK _ _ rfl (Tb hG hB) hB
     have AU:=Ep a 120 (.bool true) Sj.out.1;rotate_left;have Zu:=Ep a 112 (.bool true) Sj.out.1;have Zv:=Ep a 121 (.bool false) Sj.out.2.1;rotate_left;have Zn:=Ep a 108 (.bool false) Sj.out.1;have Zw:=Ep a 122 (.bool false) Sj.out.2.1;rotate_left
     all_goals(go_step;exact hK _ _ rfl hG Br)
    intro vs w7 hG hlen hV
    match vs,hlen,hV with
    | [v0,v1,v2,v3,v4,v5,v6,v7,v8,v9,v10,v11,v12,v13,v14,v15,v16,v17,v18,v19,v20,v21,v22,v23,v24,v25,v26,v27,v28],_,hV=>
     obtain rfl:v28=.bool false:=(hV 28 123 v28 rfl rfl);clear hV;simp only[dG,bf7,bf1];simp only[Act.put,bfw,bfu,bfv];have ax:=Lh (Et.out w7 (Tb H6.out hG));clear hG;go_wp2_with(fail);go_roundw
     case rel=>exact ax.out
     case measure=>have:=SX.out;simp[intOf];omega
  obtain rfl:i=n:=by omega
  clear hlt hi;obtain⟨d0,d1,d2,d3,d4,d5⟩:=HQ.out wr HO.out;obtain⟨e0,e1⟩:=HS.out wr HO.out;by_cases hk:kind=3
  ·subst hk;have hset:dD (l.map λx=>x.p.w):=by
    have h:=SG.out.2.2.2.1;rw[Vj.out]at h;unfold fH at h;rw[if_pos rfl]at h;have h2:=bgh h;unfold fI at h2;rw[List.map_map]at h2;exact h2
   have TA:Hid (∀w' a c,dF w' a (l.map λx=>x.p.w)->Calls prog 76 #[.slice a (l.map λx=>x.p.w).length c] w' (bE w' (.bool true))):=by
    refine Lh (λw' a c h=>?_);have h2:=Cv w' a c _ h (λz hz=>by have:=cu (hset.1 z hz);omega) (by have:=SG.out.2.1;have:=HN.out;rw[bfz];omega)
    rw[bfr hset]at h2;exact h2
   have Xl:Hid (∀w',Bw w1 w'->Calls prog 77 #[.slice sa i sc] w' (jU w' (l.map λx=>x.p.w))):=by
    rw[HN.out];exact Lh (λw' h=>qf w' sa sc l (HA.out.below h) (by have:=SG.out.2.1;have:=HN.out;omega))
   clear hset;go_wp2_with(fail);refine(Xl.out wr HO.out).mono ?_;rintro e w3 ⟨v,rfl,S9,hB⟩;obtain⟨a3,c3,rfl,hc3,hA3⟩:=S9.form;have H3:Hid (Bw w1 w3/\dF w3 a3 (l.map λx=>x.p.w)):=Lh ⟨Tb HO.out hB,hA3⟩;clear hB S9 hc3 hA3 d0 d1 d2 d3 d4 d5 e0 e1;have uu:=Lh (TA.out w3 a3 c3 H3.out.2);obtain⟨lw,hlw⟩:=Nm ((l.map λx=>x.p.w).length);rw[<-hlw]at uu ⊢;clear hlw;dsimp only;go_wp2_with(fail);refine uu.out.mono ?_;rintro e w4 ⟨rfl,hB⟩;have HZ:=Lh (H3.out.1.trans (hB.mono H3.out.1.size));clear hB;dsimp only;go_wp2_with(fail);exact ay.out _ true (by trivial) (Tb HB1.out HZ.out)
  have hk1:(kind !=3)=true:=by simpa using hk
  clear hk;go_wp2_with(fail);exact ay.out _ true (by trivial) (Tb HB1.out HO.out)
def stepT(q:bz)(s:di)(x:bN):di × List dB × Int:=if q.bB=true then Hq q s x else (s,[],2)
theorem PD {q:bz} {s:di} {x:bN}(h:q.bB=false∨x.bB=false):stepT q s x=(s,[],2):=by
 unfold stepT;by_cases hq:q.bB=true
 ·rw[if_pos hq];have hx:x.bB=false:=h.resolve_left (by rw[hq];decide)
  have e:dR q s x=(xE,[],2):=by
   unfold dR;rw[if_neg (by rw[hx];decide)]
  unfold Hq;rw[e,if_neg (by decide)]
 rw[if_neg hq]
theorem Kt {q:bz} {s:di} {x:bN}(hq:q.bB=true)(hx:x.bB=true)(hk:x.kind=1):stepT q s x=kD q s x:=by
 unfold stepT Hq dR kD;rw[if_pos hq,if_pos hx,if_pos hk]
theorem Ku {q:bz} {s:di} {x:bN}(hq:q.bB=true)(hx:x.bB=true)(hk:x.kind≠1):stepT q s x=((gY q s x.time).1,(gY q s x.time).2,0):=by
 unfold stepT Hq dR;rw[if_pos hq,if_pos hx,if_neg hk,if_pos rfl]
theorem Kb(w:World)(q:bz)(m:Int)(pv:Value)(x:bN)(l:List bn)(hA:bO w pv l)(hG:∀y∈l,bR w y)(hR:q.bB=true->fQ q ⟨m,l.map bn.p⟩=true)(hk:x.key.length<=1000000):
  Calls prog 22 #[.agg q.cells,.agg #[.int .i64 m,pv],.agg x.cells] w (jf w (stepT q ⟨m,l.map bn.p⟩ x).1 (stepT q ⟨m,l.map bn.p⟩ x).2.1 (stepT q ⟨m,l.map bn.p⟩ x).2.2):=by
 obtain⟨ps,hps⟩:=Nm (l.map bn.p);obtain⟨P,hP⟩:=Nm (jf w (stepT q ⟨m,ps⟩ x).1 (stepT q ⟨m,ps⟩ x).2.1 (stepT q ⟨m,ps⟩ x).2.2);rw[<-hps,<-hP];obtain⟨r,hr⟩:=Nm (x.bB);obtain⟨rq,hrq⟩:=Nm (q.bB);have SF:Hid ((rq=false∨r=false)->∀wz,Bw w wz->P (.returned (.tuple #[.agg #[.int .i64 m,pv],.slice none 0 0,.int .i64 2])) wz):=Lh (λh wz hB=>by
  rw[hr,hrq]at h;rw[hP,PD h];exact⟨_,_,rfl,⟨pv,l,rfl,hA.below hB,λy hy=>(hG y hy).below hB,hps⟩,fw.nil _,hB⟩)
 obtain⟨kd,hkd⟩:=Nm (x.kind);have aj:Hid (rq=true->r=true->kd=1->∀wz sv ov,gW wz sv (kD q ⟨m,ps⟩ x).1->fw wz ov (kD q ⟨m,ps⟩ x).2.1->Bw w wz->P (.returned (.tuple #[sv,ov,.int .i64 (kD q ⟨m,ps⟩ x).2.2])) wz):=Lh (λh0 h h1 wz sv ov hS hO hB=>by
  rw[hr]at h;rw[hkd]at h1;rw[hrq]at h0;rw[hP,Kt h0 h h1];exact⟨_,_,rfl,hS,hO,hB⟩)
 have uf:Hid (rq=true->r=true->kd≠1->∀wz sv ov,gW wz sv (gY q ⟨m,ps⟩ x.time).1->fw wz ov (gY q ⟨m,ps⟩ x.time).2->Bw w wz->P (.returned (.tuple #[sv,ov,.int .i64 0])) wz):=Lh (λh0 h h1 wz sv ov hS hO hB=>by
  rw[hr]at h;rw[hkd]at h1;rw[hrq]at h0;rw[hP,Ku h0 h h1];exact⟨_,_,rfl,hS,hO,hB⟩)
 have Y4:Hid (∀w',Bw w w'->Calls prog 40 #[.agg q.cells,.agg #[.int .i64 m,pv]] w' (bE w' (.bool rq))):=by
  rw[hrq];exact Lh (λw' hB=>G8 w' q m pv l (hA.below hB) (λy hy=>(hG y hy).below hB) hR)
 have SG:Hid (∀w',Calls prog 41 #[.agg x.cells] w' (bE w' (.bool r))):=by
  rw[hr];exact Lh (λw'=>Gr w' x hk)
 have YU:Hid (rq=true->r=true->kd=1->∀w',Bw w w'->Calls prog 42 #[.agg q.cells,.agg #[.int .i64 m,pv],.agg x.cells] w' (jf w' (kD q ⟨m,ps⟩ x).1 (kD q ⟨m,ps⟩ x).2.1 (kD q ⟨m,ps⟩ x).2.2)):=by
  rw[hps,hrq,hr,hkd];exact Lh (λh0 h h1 w' hB=>G7 w' q m pv x l (hA.below hB) (λy hy=>(hG y hy).below hB) (hR h0) h h1)
 have Yd:Hid (rq=true->∀w',Bw w w'->Calls prog 43 #[.agg q.cells,.agg #[.int .i64 m,pv],.int .i64 x.time] w' (sO w' (gY q ⟨m,ps⟩ x.time).1 (gY q ⟨m,ps⟩ x.time).2)):=by
  rw[hps,hrq];exact Lh (λh0 w' hB=>Ka w' q m x.time pv l (hA.below hB) (λy hy=>(hG y hy).below hB) (hR h0))
 obtain⟨sa,sc,hpv,hz1,hz2⟩:=hA.form;clear hz1 hz2;obtain⟨w1,hw1⟩:=Nm ((((w.alloc (.cells q.cells 23)).alloc (.cells #[.int .i64 m,pv] 29)).alloc (.cells x.cells 42)).alloc (.cells #[.int .i64 0,.slice none 0 0] 29));obtain⟨qb,Sm⟩:=Nm (w.heap.size);obtain⟨sb,hsb⟩:=Nm (w.heap.size+1);obtain⟨xb,hxb⟩:=Nm (w.heap.size+2);obtain⟨rb,hrb⟩:=Nm (w.heap.size+3);have H1:Hid (dn w1 qb q/\bT w1 sb m pv/\jy w1 xb x/\bT w1 rb 0 bS/\Bw w w1/\w1.heap.size=w.heap.size+4):=by rw[hw1,Sm,hsb,hxb,hrb];exact Lh (rY w q m pv x)
 have SA:Hid (w.heap.size<=rb):=Lh (by omega)
 clear hP hr hrq hA hG hR hk hps;obtain⟨S1,hS1⟩:=Nm (kD q ⟨m,ps⟩ x);obtain⟨S2,hS2⟩:=Nm (gY q ⟨m,ps⟩ x.time);rw[<-hS1]at aj YU;rw[<-hS2]at uf Yd;clear hS1 hS2;obtain⟨Q,hQ⟩:=Nm q;rw[<-hQ]at H1;obtain⟨X,hX⟩:=Nm x;rw[<-hX]at H1;obtain⟨kind,size,slide,late,agg,kq⟩:=q;obtain⟨TB,xk,xt,xv⟩:=x;simp only at hkd Yd;subst hkd;have SV:Hid (∀w',dn w' qb Q->D6 w' qb kind size slide late agg kq):=by rw[hQ];exact Lh (λw' h=>h.d6)
 have Vu:Hid (∀w',jy w' xb X->DX w' xb kd xk xt xv):=by rw[hX];exact Lh (λw' h=>h.dx)
 clear hQ hX;obtain⟨n,hn⟩:=Nm (l.length);rw[<-hn]at hpv;clear hn;subst hpv;unfold bz.cells bN.cells at hw1 YU ⊢;unfold bz.cells at Yd Y4;unfold bN.cells at SG;simp only at hw1 SG Y4 YU Yd ⊢;have hs1:(w.alloc (.cells #[.int .i64 kind,.int .i64 size,.int .i64 slide,.int .i64 late,.int .i64 agg,.int .i64 kq] 23)).heap.size=w.heap.size+1:=bq w _;have hs2:((w.alloc (.cells #[.int .i64 kind,.int .i64 size,.int .i64 slide,.int .i64 late,.int .i64 agg,.int .i64 kq] 23)).alloc (.cells #[.int .i64 m,.slice sa n sc] 29)).heap.size=w.heap.size+2:=by rw[bq,bq]
 have hs3:(((w.alloc (.cells #[.int .i64 kind,.int .i64 size,.int .i64 slide,.int .i64 late,.int .i64 agg,.int .i64 kq] 23)).alloc (.cells #[.int .i64 m,.slice sa n sc] 29)).alloc (.cells #[.int .i64 kd,Sv xk,.int .i64 xt,.int .i64 xv] 42)).heap.size=w.heap.size+3:=by rw[bq,bq,bq]
 obtain⟨x0,x1,x2,x3⟩:=Vu.out w1 H1.out.2.2.1;go_enter func22,ntmps22;go_upto_region 1 with(fail);rw[<-hw1,<-hrb,<-hxb,<-hsb,<-Sm];clear hw1 hrb hxb hsb Sm hs1 hs2 hs3;obtain⟨d0,d1,d2,d3,d4,d5⟩:=SV.out w1 H1.out.1;obtain⟨e0,e1⟩:=H1.out.2.1.d2
 cases rq with
 | false=>
  go_wp2_with(fail);refine(Y4.out w1 H1.out.2.2.2.2.1).mono ?_;rintro e w2 ⟨rfl,hB⟩;have H2:Hid (dn w2 qb Q/\bT w2 sb m (.slice sa n sc)/\jy w2 xb X/\bT w2 rb 0 bS/\Bw w w2):=Lh ⟨H1.out.1.below hB,H1.out.2.1.below hB,H1.out.2.2.1.below hB,H1.out.2.2.2.1.below hB,H1.out.2.2.2.2.1.trans (hB.mono H1.out.2.2.2.2.1.size)⟩;clear hB x0 x1 x2 x3 d0 d1 d2 d3 d4 d5 e0 e1;dsimp only;obtain⟨e0,e1⟩:=H2.out.2.1.d2;go_upto_region 2 with(fail);refine bg4 ?_
  iterate 3 go_step
  refine bg6 rfl _ _ _ rfl rb #[.int .i64 m,.slice sa n sc] rfl rfl 29 #[.int .i64 0,bS] H2.out.2.2.2.1 bF rfl (cB rfl) ?_;obtain⟨wz,hwz⟩:=Nm (w2.setRow rb #[.int .i64 m,.slice sa n sc]);have HZ:Hid (bT wz rb m (.slice sa n sc)/\P (.returned (.tuple #[.agg #[.int .i64 m,.slice sa n sc],.slice none 0 0,.int .i64 2])) wz):=by
   have hg:w2.grownBy wz (some rb):=by rw[hwz];exact bC _ _ _
   exact Lh ⟨by rw[hwz];exact bT.reset H2.out.2.2.2.1 m _,SF.out (.inl (by trivial)) wz (H2.out.2.2.2.2.trans (bG hg SA.out H2.out.2.2.2.2.size))⟩
  rw[<-hwz];clear hwz e0 e1;go_wp2_with(fail);exact bodyPost_ret (v:=.tuple #[.agg #[.int .i64 m,.slice sa n sc],.slice none 0 0,.int .i64 2]) ((bQ (p:=6) (s:=7) (u:=8) (ty:=29) rfl _ _ rb 29 #[.int .i64 m,.slice sa n sc] (0,0) _ rfl HZ.out.1 underlying29 rfl bF).trans rfl) rfl HZ.out.2
 | true=>
 cases r with
 | false=>
  go_wp2_with(fail);refine(Y4.out w1 H1.out.2.2.2.2.1).mono ?_;rintro e w2 ⟨rfl,hB⟩;have H2:Hid (dn w2 qb Q/\bT w2 sb m (.slice sa n sc)/\jy w2 xb X/\bT w2 rb 0 bS/\Bw w w2):=Lh ⟨H1.out.1.below hB,H1.out.2.1.below hB,H1.out.2.2.1.below hB,H1.out.2.2.2.1.below hB,H1.out.2.2.2.2.1.trans (hB.mono H1.out.2.2.2.2.1.size)⟩;clear hB x0 x1 x2 x3 d0 d1 d2 d3 d4 d5 e0 e1;dsimp only;obtain⟨x0,x1,x2,x3⟩:=Vu.out w2 H2.out.2.2.1;go_wp2_with(fail);refine(SG.out w2).mono ?_;rintro e w3 ⟨rfl,hB⟩;have H3:Hid (dn w3 qb Q/\bT w3 sb m (.slice sa n sc)/\jy w3 xb X/\bT w3 rb 0 bS/\Bw w w3):=Lh ⟨H2.out.1.below hB,H2.out.2.1.below hB,H2.out.2.2.1.below hB,H2.out.2.2.2.1.below hB,H2.out.2.2.2.2.trans (hB.mono H2.out.2.2.2.2.size)⟩;clear hB x0 x1 x2 x3;dsimp only;obtain⟨e0,e1⟩:=H3.out.2.1.d2;go_upto_region 2 with(fail);refine bg4 ?_
  iterate 3 go_step
  refine bg6 rfl _ _ _ rfl rb #[.int .i64 m,.slice sa n sc] rfl rfl 29 #[.int .i64 0,bS] H3.out.2.2.2.1 bF rfl (cB rfl) ?_;obtain⟨wz,hwz⟩:=Nm (w3.setRow rb #[.int .i64 m,.slice sa n sc]);have HZ:Hid (bT wz rb m (.slice sa n sc)/\P (.returned (.tuple #[.agg #[.int .i64 m,.slice sa n sc],.slice none 0 0,.int .i64 2])) wz):=by
   have hg:w3.grownBy wz (some rb):=by rw[hwz];exact bC _ _ _
   exact Lh ⟨by rw[hwz];exact bT.reset H3.out.2.2.2.1 m _,SF.out (.inr (by trivial)) wz (H3.out.2.2.2.2.trans (bG hg SA.out H3.out.2.2.2.2.size))⟩
  rw[<-hwz];clear hwz e0 e1;go_wp2_with(fail);exact bodyPost_ret (v:=.tuple #[.agg #[.int .i64 m,.slice sa n sc],.slice none 0 0,.int .i64 2]) ((bQ (p:=6) (s:=7) (u:=8) (ty:=29) rfl _ _ rb 29 #[.int .i64 m,.slice sa n sc] (0,0) _ rfl HZ.out.1 underlying29 rfl bF).trans rfl) rfl HZ.out.2
 | true=>
  go_wp2_with(fail);refine(Y4.out w1 H1.out.2.2.2.2.1).mono ?_;rintro e w1_ ⟨rfl,hB⟩;have H1_:Hid (dn w1_ qb Q/\bT w1_ sb m (.slice sa n sc)/\jy w1_ xb X/\bT w1_ rb 0 bS/\Bw w w1_):=Lh ⟨H1.out.1.below hB,H1.out.2.1.below hB,H1.out.2.2.1.below hB,H1.out.2.2.2.1.below hB,H1.out.2.2.2.2.1.trans (hB.mono H1.out.2.2.2.2.1.size)⟩;clear hB x0 x1 x2 x3 d0 d1 d2 d3 d4 d5 e0 e1;dsimp only;obtain⟨x0,x1,x2,x3⟩:=Vu.out w1_ H1_.out.2.2.1;go_wp2_with(fail);refine(SG.out w1_).mono ?_;rintro e w2 ⟨rfl,hB⟩;have H2:Hid (dn w2 qb Q/\bT w2 sb m (.slice sa n sc)/\jy w2 xb X/\bT w2 rb 0 bS/\Bw w w2):=Lh ⟨H1_.out.1.below hB,H1_.out.2.1.below hB,H1_.out.2.2.1.below hB,H1_.out.2.2.2.1.below hB,H1_.out.2.2.2.2.trans (hB.mono H1_.out.2.2.2.2.size)⟩;clear hB x0 x1 x2 x3;dsimp only;obtain⟨d0,d1,d2,d3,d4,d5⟩:=SV.out w2 H2.out.1;obtain⟨e0,e1⟩:=H2.out.2.1.d2;obtain⟨x0,x1,x2,x3⟩:=Vu.out w2 H2.out.2.2.1;by_cases hk1:kd=1
  ·subst hk1;go_upto_region 4 with(fail);refine bg4 ?_
   iterate 9 go_step
   refine wpList_plain rfl λK' hK'=>?_;go_step;refine(YU.out (by trivial) (by trivial) (by trivial) w2 H2.out.2.2.2.2).mono ?_
   rintro e w3 ⟨sv,ov,rfl,⟨pv',l',rfl,hP1,hP2,hP3⟩,hO,hB⟩;refine hK' _ _ ?_;clear hK' d0 d1 d2 d3 d4 d5 e0 e1 x0 x1 x2 x3;obtain⟨m',hm'⟩:=Nm (S1.1.mark);rw[<-hm'];have H3:Hid (bT w3 rb 0 bS/\Bw w w3/\bO w3 pv' l'/\(∀y∈l',bR w3 y)/\S1.1.panes=l'.map bn.p/\fw w3 ov S1.2.1/\m'=S1.1.mark):=Lh ⟨H2.out.2.2.2.1.below hB,H2.out.2.2.2.2.trans (hB.mono H2.out.2.2.2.2.size),hP1,hP2,hP3,hO,hm'⟩;clear hB hP1 hP2 hP3 hO hm'
   iterate 9 go_step
   refine bg6 rfl _ _ _ rfl rb #[.int .i64 m',pv'] rfl rfl 29 #[.int .i64 0,bS] H3.out.1 bF rfl (cB H3.out.2.2.1.one) ?_;obtain⟨wz,hwz⟩:=Nm (w3.setRow rb #[.int .i64 m',pv']);have HZ:Hid (bT wz rb m' pv'/\P (.returned (.tuple #[.agg #[.int .i64 m',pv'],ov,.int .i64 S1.2.2])) wz):=by
    have hg:w3.grownBy wz (some rb):=by rw[hwz];exact bC _ _ _
    obtain⟨j1,j2,j3,j4,j5,j6,j7⟩:=H3.out;exact Lh ⟨by rw[hwz];exact bT.reset j1 m' _,aj.out (by trivial) (by trivial) (by trivial) wz _ ov ⟨pv',l',by rw[j7],j3.store j1 hg,λy hy=>(j4 y hy).kJ j1 hg,j5⟩ (j6.store j1 hg) (j2.trans (bG hg SA.out j2.size))⟩
   rw[<-hwz];clear hwz;go_wp2_with(fail);exact bodyPost_ret (v:=.tuple #[.agg #[.int .i64 m',pv'],ov,.int .i64 S1.2.2]) ((bQ (p:=6) (s:=7) (u:=8) (ty:=29) rfl _ _ rb 29 #[.int .i64 m',pv'] (0,0) _ rfl HZ.out.1 underlying29 rfl bF).trans rfl) rfl HZ.out.2
  have IE:=Lh hk1;have eG:(kd==1)=false:=by simpa using hk1
  go_upto_region 5 with(fail);clear hk1 eG;refine bg4 ?_
  iterate 12 go_step
  refine wpList_plain rfl λK' hK'=>?_;go_step;refine(Yd.out (by trivial) w2 H2.out.2.2.2.2).mono ?_
  rintro e w3 ⟨sv,ov,rfl,⟨pv',l',rfl,hP1,hP2,hP3⟩,hO,hB⟩;refine hK' _ _ ?_;clear hK' d0 d1 d2 d3 d4 d5 e0 e1 x0 x1 x2 x3;obtain⟨m',hm'⟩:=Nm (S2.1.mark);rw[<-hm'];have H3:Hid (bT w3 rb 0 bS/\Bw w w3/\bO w3 pv' l'/\(∀y∈l',bR w3 y)/\S2.1.panes=l'.map bn.p/\fw w3 ov S2.2/\m'=S2.1.mark):=Lh ⟨H2.out.2.2.2.1.below hB,H2.out.2.2.2.2.trans (hB.mono H2.out.2.2.2.2.size),hP1,hP2,hP3,hO,hm'⟩;clear hB hP1 hP2 hP3 hO hm'
  iterate 12 go_step
  refine bg6 rfl _ _ _ rfl w3.heap.size #[.int .i64 m',pv'] rfl rfl 29 #[.int .i64 0,bS] (bg5 w3 _) bF rfl (cB H3.out.2.2.1.one) ?_;obtain⟨w4,hw4⟩:=Nm ((w3.alloc (Obj.cells #[.int .i64 0,.slice none 0 0] 29)).setRow w3.heap.size #[.int .i64 m',pv']);obtain⟨tb,htb⟩:=Nm (w3.heap.size);have H4:Hid (bT w4 rb 0 bS/\Bw w w4/\bO w4 pv' l'/\(∀y∈l',bR w4 y)/\S2.1.panes=l'.map bn.p/\fw w4 ov S2.2/\m'=S2.1.mark/\bT w4 tb m' pv'):=by
   obtain⟨k1,k2⟩:=jH w3 m' pv';have e:w4=(w3.alloc (Obj.cells #[.int .i64 0,bS] 29)).setRow w3.heap.size #[.int .i64 m',pv']:=hw4;rw[<-e,<-htb]at k1;rw[<-e]at k2;obtain⟨j1,j2,j3,j4,j5,j6,j7⟩:=H3.out;exact Lh ⟨j1.below k2,Tb j2 k2,j3.below k2,λy hy=>(j4 y hy).below k2,j5,j6.below k2,j7,k1⟩
  rw[<-hw4,<-htb];clear hw4 htb H3;obtain⟨e0,e1⟩:=H4.out.2.2.2.2.2.2.2.d2;go_upto_region 6 with(fail);refine bg4 ?_
  iterate 6 go_step
  refine bg6 rfl _ _ _ rfl rb #[.int .i64 m',pv'] rfl rfl 29 #[.int .i64 0,bS] H4.out.1 bF rfl (cB H4.out.2.2.1.one) ?_;obtain⟨wz,hwz⟩:=Nm (w4.setRow rb #[.int .i64 m',pv']);have HZ:Hid (bT wz rb m' pv'/\P (.returned (.tuple #[.agg #[.int .i64 m',pv'],ov,.int .i64 0])) wz):=by
   have hg:w4.grownBy wz (some rb):=by rw[hwz];exact bC _ _ _
   obtain⟨j1,j2,j3,j4,j5,j6,j7,_⟩:=H4.out;exact Lh ⟨by rw[hwz];exact bT.reset j1 m' _,uf.out (by trivial) (by trivial) IE.out wz _ ov ⟨pv',l',by rw[j7],j3.store j1 hg,λy hy=>(j4 y hy).kJ j1 hg,j5⟩ (j6.store j1 hg) (j2.trans (bG hg SA.out j2.size))⟩
  rw[<-hwz];clear hwz e0 e1;go_wp2_with(fail);exact bodyPost_ret (v:=.tuple #[.agg #[.int .i64 m',pv'],ov,.int .i64 0]) ((bQ (p:=6) (s:=7) (u:=8) (ty:=29) rfl _ _ rb 29 #[.int .i64 m',pv'] (0,0) _ rfl HZ.out.1 underlying29 rfl bF).trans rfl) rfl HZ.out.2
end Go.Proofs.YtjeeghafachebaaGreat
