/-
  42.
-/
import Derived.Test.YtjeeghafachebaaGreatU23
set_option maxRecDepth 100000
set_option maxHeartbeats 2000000
namespace Go.Proofs.YtjeeghafachebaaGreat
open Go Go.RowKit Go.Proofs.Tryz
def l7(q:bz)(x:dS):List Int:=
 if x.n=0 then []else if q.agg=1 then [x.n]else if q.agg=6 then x.top else if q.agg=7 then [x.u,x.v]else if q.agg=5 then [vk x.a x.n]else [x.a]
def ni(w:World)(l:List Int)(e:Ending)(w':World):Prop:=∃tv,e=.returned tv/\bA w' tv l/\Bw w w'
theorem FN {q:bz} {x:dS}(h:x.bB q=true):l7 q x=dV q x:=by
 rw[l7,dV];by_cases hn:x.n=0
 ·rw[if_pos hn,if_neg (λe=>e.2 hn)]
 have hc:x.bB q=true/\x.n≠0:=⟨h,hn⟩;rw[if_neg hn,if_pos hc];by_cases h1:q.agg=1
 ·rw[if_pos h1,if_pos h1]
 rw[if_neg h1,if_neg h1];by_cases h6:q.agg=6
 ·simp[h6]
 by_cases h7:q.agg=7
 ·simp[h7]
 simp[h6,h7]
theorem Jy(s n:Int)(hs: -4398046511104<=s/\s<=4398046511104)(hn:0<n):∃d M,Int.tdiv s n=d/\d*n=M/\(-4398046511104<=d/\d<=4398046511104)/\(-4398046511104<=M/\M<=4398046511104)/\(s<M->vk s n=d-1)/\(¬s<M->vk s n=d):=by
 obtain⟨t,ht⟩:=Nm (Int.tmod s n);obtain⟨d,hd⟩:=Nm (Int.tdiv s n);have hmul:n*d+t=s:=by rw[ht,hd];exact Int.mul_tdiv_add_tmod s n
 have htb: -n<t/\t<n/\(0<=s->0<=t)/\(s<=0->t<=0):=by
  rw[ht];refine⟨?_,Int.tmod_lt_of_pos s hn,λh=>Int.tmod_nonneg n h,λh=>?_⟩
  ·have:=Int.tmod_lt_of_pos (-s) hn;rw[Int.neg_tmod]at this;omega
  have:=Int.tmod_nonneg n (show 0<= -s by omega)
  rw[Int.neg_tmod]at this;omega
 have hsg:(0<=s->0<=n*d)/\(s<=0->n*d<=0):=by
  constructor
  ·intro h;exact Int.mul_nonneg (by omega) (by rw[hd];exact Int.tdiv_nonneg h (by omega))
  intro h;have h2:0<=n*Int.tdiv (-s) n:=Int.mul_nonneg (by omega) (Int.tdiv_nonneg (by omega) (by omega))
  rw[Int.neg_tdiv,<-hd,Int.mul_neg]at h2;omega
 have iZ: -4398046511104<=d/\d<=4398046511104:=by
  have h1:d.natAbs<=s.natAbs:=by rw[hd];exact Int.natAbs_tdiv_le_natAbs s n
  omega
 refine⟨d,n*d,hd.symm,Int.mul_comm _ _,iZ,by omega,λh=>?_,λh=>?_⟩
 ·refine Int.ediv_eq_iff_of_pos hn |>.2 ?_
  have e:n*(d-1)=n*d-n:=by rw[Int.mul_sub,Int.mul_one]
  have e2:(d-1)*n=n*d-n:=by rw[Int.mul_comm];exact e
  rw[e2];omega
 refine Int.ediv_eq_iff_of_pos hn |>.2 ?_
 rw[Int.mul_comm];omega
theorem Ki(w:World)(q:bz)(x:dS)(Sk z1:Value)(h1:bA w Sk x.top)(k1:dw z1 x.u x.v)(hb:0<=x.n/\x.n<=1073741824)(hab: -4398046511104<=x.a/\x.a<=4398046511104):
  Calls prog 82 #[.agg q.cells,.agg (bI x.n x.a Sk z1)] w (ni w (l7 q x)):=by
 obtain⟨P,hP⟩:=Nm (ni w (l7 q x));rw[<-hP];have Xm:Hid (∀w',Bw w w'->l7 q x=[]->P (.returned (.slice none 0 0)) w'):=by
  refine Lh (λw' hB hq=>?_);rw[hP,hq];exact⟨_,rfl,bA.nil _,hB⟩
 have TJ:Hid (∀w' n,Bw w w'->l7 q x=[n]->P (.returned (.slice (some ⟨w'.heap.size,0,none⟩) 1 1)) (w'.alloc (.cells #[.int .i64 n] 3))):=by
  refine Lh (λw' n hB hq=>?_);rw[hP,hq];exact⟨_,rfl,bA.cell1 (bg5 w' _),hB.trans (((Below.refl _ w').alloc (bfx _) _).mono hB.size)⟩
 have Yi:Hid (∀w' n m,Bw w w'->l7 q x=[n,m]->P (.returned (.slice (some ⟨w'.heap.size,0,none⟩) 2 2)) (w'.alloc (.cells #[.int .i64 n,.int .i64 m] 3))):=by
  refine Lh (λw' n m hB hq=>?_);rw[hP,hq];exact⟨_,rfl,bA.Qt (bg5 w' _),hB.trans (((Below.refl _ w').alloc (bfx _) _).mono hB.size)⟩
 have aQ:Hid (∀w',Bw w w'->l7 q x=x.top->P (.returned Sk) w'):=by
  refine Lh (λw' hB hq=>?_);rw[hP,hq];exact⟨Sk,rfl,h1.below hB,hB⟩
 have TE:Hid (l7 q x=if x.n=0 then []else if q.agg=1 then [x.n]else if q.agg=6 then x.top else if q.agg=7 then [x.u,x.v]else if q.agg=5 then [vk x.a x.n]else [x.a]):=Lh rfl
 obtain⟨n1,a1,l1,u1,v1⟩:=x;simp only at TJ aQ TE k1 h1 hb hab ⊢;obtain⟨⟨zp,zq,rfl,kh1,kh2⟩,kh3⟩:=k1;unfold mr at kh3;have hcu:∀w,(convert 91 3 (.float .f64 zp)).run prog w=.ok (.int .i64 u1) w:=λw=>gP w (by rw[underlying91];rfl) underlying3 kh1 (by simp[IntKind.min,IntKind.signed,IntKind.bits];omega) (by simp[IntKind.max,IntKind.signed,IntKind.bits];omega)
 have hcv:∀w,(convert 91 3 (.float .f64 zq)).run prog w=.ok (.int .i64 v1) w:=λw=>gP w (by rw[underlying91];rfl) underlying3 kh2 (by simp[IntKind.min,IntKind.signed,IntKind.bits];omega) (by simp[IntKind.max,IntKind.signed,IntKind.bits];omega)
 clear kh1 kh2 kh3;obtain⟨w1,hw1⟩:=Nm ((w.alloc (.cells q.cells 23)).alloc (.cells (bI n1 a1 Sk (.complex .f64 zp zq)) 53));obtain⟨qb,Sm⟩:=Nm (w.heap.size);obtain⟨b1,hb1⟩:=Nm (w.heap.size+1);have hs1:(w.alloc (.cells q.cells 23)).heap.size=w.heap.size+1:=bq w _;obtain⟨V,hV⟩:=Nm (l7 q ⟨n1,a1,l1,u1,v1⟩);rw[<-hV]at Xm TJ Yi aQ TE;have H1:Hid (dn w1 qb q/\bW w1 b1 n1 a1 Sk (.complex .f64 zp zq)/\Bw w w1):=by
  have h:=qK w q n1 a1 Sk (.complex .f64 zp zq);rw[hw1,Sm,hb1];exact Lh h
 clear hP h1 hV;obtain⟨kind,size,slide,late,agg,kq⟩:=q;obtain⟨d0,d1,d2,d3,d4,d5⟩:D6 w1 qb kind size slide late agg kq:=H1.out.1.d6;have HB:Hid (Bw w w1):=Lh H1.out.2.2;obtain⟨f0,f1,f2,f3⟩:=H1.out.2.1.d4;clear H1;unfold bz.cells at hw1 hs1 ⊢;unfold bI at hw1 ⊢;simp only at TE;go_enter func82,ntmps82;go_upto_region 1 with(fail);rw[<-hw1,<-hb1,<-Sm];clear hw1 hb1 Sm hs1;by_cases hn:n1=0
 ·subst hn;have HZ:=Lh (Xm.out w1 HB.out (by rw[TE.out];simp))
  clear hb hab;go_wp2_with(fail);exact HZ.out
 have hnb:=Lh (bfy hn (bfy hb hab));clear hb hab;by_cases e1:agg=1
 ·subst e1;have HZ:=Lh (TJ.out w1 n1 HB.out (by rw[TE.out];simp[hnb.out.1]))
  go_wp2_with(fail);exact HZ.out
 by_cases e6:agg=6
 ·subst e6;have HZ:=Lh (aQ.out w1 HB.out (by rw[TE.out];simp[hnb.out.1]))
  go_wp2_with(fail);exact HZ.out
 by_cases e7:agg=7
 ·subst e7;have HZ:=Lh (Yi.out w1 u1 v1 HB.out (by rw[TE.out];simp[hnb.out.1]))
  go_wp2_with(fail);exact HZ.out
 by_cases e5:agg=5
 ·subst e5;obtain⟨d,M,hd,hM,iZ,uS,g1,g2⟩:=Jy a1 n1 hnb.out.2.2 (by have:=hnb.out;omega)
  have hwd:IntKind.i64.wrap d=d:=IntWalk.i64_in _ (by omega)
  have hwM:IntKind.i64.wrap M=M:=IntWalk.i64_in _ (by omega)
  have hw2:IntKind.i64.wrap (d-1)=d-1:=IntWalk.i64_in _ (by omega)
  by_cases h:a1<M
  ·have HZ:=Lh (TJ.out w1 (d-1) HB.out (by rw[TE.out];simp[hnb.out.1,g1 h]))
   clear g1 g2 iZ uS;go_wp2_with(fail);exact HZ.out
  have HZ:=Lh (TJ.out w1 d HB.out (by rw[TE.out];simp[hnb.out.1,g2 h]))
  clear g1 g2 iZ uS;go_wp2_with(fail);exact HZ.out
 have HZ:=Lh (TJ.out w1 a1 HB.out (by rw[TE.out];simp[hnb.out.1,e1,e5,e6,e7]))
 go_wp2_with(fail);exact HZ.out
end Go.Proofs.YtjeeghafachebaaGreat
