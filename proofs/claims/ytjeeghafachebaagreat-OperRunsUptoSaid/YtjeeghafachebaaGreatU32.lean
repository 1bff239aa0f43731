/-
  32.
-/
import Derived.Test.YtjeeghafachebaaGreatU22
set_option maxRecDepth 100000
set_option maxHeartbeats 2000000
namespace Go.Proofs.YtjeeghafachebaaGreat
open Go Go.RowKit Go.Proofs.Tryz
def jI(q:bz)(t:Int):Int:=if q.kind=3 then t else xH q t*dM q
theorem JD {q:bz} {t:Int}(hr:q.bB=true)(ht0:0<=t)(hk:q.kind=1):jI q t=t-t % q.size:=by
 have hst:dM q=q.size:=by rw[dM,if_neg (by rw[hk];decide)]
 obtain⟨s1,s2,s3,s4,s5⟩:=jk hr;have hb:=p9 hr ht0;have hs:=λk hk=>qw hr (t:=t) k hk;rw[hst]at hb;have hm:t / q.size*q.size=t-t % q.size:=by
  have:=Int.mul_ediv_add_emod t q.size;rw[Int.mul_comm];omega
 have hlo:xH q t=t / q.size:=by
  by_cases h0:t / q.size-1<0
  ·omega
  have h:=not_congr (hs (t / q.size-1) (by omega))
  rw[hst,Int.sub_mul,Int.one_mul,hm]at h;have he:=Int.emod_nonneg t (show q.size≠0 by omega)
  have:=h.1 (by omega)
  omega
 rw[jI,if_neg (by rw[hk];decide),hst,hlo,hm]
theorem JE {q:bz} {t:Int}(hr:q.bB=true)(hk:q.kind=2):jI q t=(max (t-q.size+1) 0+q.slide-1) / q.slide*q.slide:=by
 have hst:dM q=q.slide:=by rw[dM,if_pos hk]
 obtain⟨s1,s2,s3,s4,s5⟩:=jk hr;rw[hst]at s1;rw[jI,if_neg (by rw[hk];decide),hst,xH,hst]
 congr 1
 by_cases h:t<q.size
 ·rw[if_pos h,show max (t-q.size+1) 0=0 by omega,Int.zero_add,Int.ediv_eq_zero_of_lt (by omega) (by omega)]
 rw[if_neg h,show max (t-q.size+1) 0+q.slide-1=t-q.size+1*q.slide by omega,Int.add_mul_ediv_right _ _ (by omega)]
theorem xN {q:bz} {t:Int}(hr:q.bB=true)(ht0:0<=t):0<=jI q t/\jI q t<=t:=by
 obtain⟨s1,s2,s3,s4,s5⟩:=jk hr;obtain⟨b1,b2,b3⟩:=p9 hr ht0;unfold jI
 split
 ·omega
 have h1:=Int.mul_nonneg b1 (show 0<=dM q by omega)
 have h2:xH q t*dM q<=t / dM q*dM q:=Int.mul_le_mul_of_nonneg_right b2 (by omega)
 have h3:t / dM q*dM q<=t:=Int.ediv_mul_le _ (by omega)
 omega
theorem ze(w:World)(q:bz)(t:Int)(hr:q.bB=true)(h0:0<=t)(h1:t<=1099511627776):
  Calls prog 94 #[.agg q.cells,.int .i64 t] w (bE w (.tuple #[.int .i64 (jI q t),.int .i64 (dM q)])):=by
 obtain⟨w1,hw1⟩:=Nm (w.alloc (.cells q.cells 23));obtain⟨qb,Sm⟩:=Nm (w.heap.size);have H1:Hid (Bw w w1/\dn w1 qb q):=by
  rw[hw1,Sm];exact Lh ⟨(Below.refl _ w).alloc (bfx _) _,bg5 w _⟩
 have HD:Hid (∀w',Bw w1 w'->D6 w' qb q.kind q.size q.slide q.late q.agg q.k):=Lh (λw' h=>(H1.out.2.below h).d6);have SB:Hid (Bw w1 w1.drew):=(Below.refl _ w1).drew;obtain⟨s1,s2,s3,s4,s5⟩:=jk hr;obtain⟨b1,b2⟩:=xN hr h0;obtain⟨c1,_,c3,c4,_⟩:=gU hr;have e1:=λhk=>JD hr h0 hk;have e2:=λhk=>JE (t:=t) hr hk;have e3:q.kind=3->jI q t=t:=λhk=>by rw[jI,if_pos hk]
 have e4:dM q=if q.kind=2 then q.slide else q.size:=rfl
 obtain⟨F,hF⟩:=Nm (jI q t);obtain⟨S,hS⟩:=Nm (dM q);rw[<-hF]at b1 b2 e1 e2 e3 ⊢;rw[<-hS]at s1 s2 s3 e4 ⊢;clear hF hS hr c1;obtain⟨kind,size,st,late,agg,tk⟩:=q;unfold bz.cells at hw1 ⊢;simp only at hw1 HD s2 s3 s4 s5 c3 c4 e1 e2 e3 e4 ⊢;obtain⟨d0,d1,d2,d3,d4,d5⟩:=HD.out w1 Br;clear d3 d4 d5;by_cases k1:kind=1
 ·have hF:=e1 k1;obtain rfl:size=S:=by rw[e4,if_neg (by omega)]
  obtain⟨r,hr⟩:=Nm (t % size);rw[<-hr]at hF;have hm0:=Int.emod_nonneg t (show size≠0 by omega)
  rw[<-hr]at hm0;subst k1;have HN:=Lh (bfy hr (bfy hF (bfy b1 (bfy b2 (bfy s4 (bfy h1 hm0))))));clear e1 e2 e3 e4 c3 c4 hr hF hm0 b1 b2 s1 s2 s3;go_enter func94,ntmps94;go_upto_region 1 with(fail);rw[<-hw1,<-Sm];clear hw1 Sm;go_upto_region 3 with(fail);refine fZ (by kernel_rfl) (NoF [none,none,none,none,none]) [] (Q5 [.int .i64 t,.int .i64 t,.pointer (some ⟨qb,1,none⟩),.int .i64 size,.int .i64 r,.int .i64 F,.pointer (some ⟨qb,1,none⟩),.int .i64 size,.int .i64 F,.int .i64 size]) (λ_ w'=>Bw w1 w') (λ_ _=>True) (λ_ _ _ _ _ h=>h) (by kernel_rfl) (by kernel_rfl) (by kernel_rfl) SB.out ⟨trivial,trivial,trivial,trivial,trivial,trivial,trivial,trivial,trivial,trivial,trivial⟩ ?_ ?_
  ·refine ⟨?_,?_,?_,?_,?_,?_,?_,?_,?_,?_,trivial⟩<;>intro k a w' hG Si Sj K hK<;>replace Si:=Lh Si<;>replace Sj:=Lh Sj
   ·have q1:=FiA Si 1 t;go_step;exact hK _ _ rfl hG trivial
   ·have q1:=FiA Si 1 t;go_step;exact hK _ _ rfl hG trivial
   ·have q2:=FaA Si 2 qb 0;go_step;exact hK _ _ rfl hG trivial
   ·have YR:=Pa a 13 qb 1 Sj.out.1;have hc:=(HD.out w' hG).2.1;go_step;exact hK _ _ rfl hG trivial
   ·have VU:=Pi a 12 t Sj.out.1;have Ww:=Pi a 14 size Sj.out.2.1;obtain⟨n1,n2,n3,n4,n5,n6,n7⟩:=HN.out;go_step;rw[if_neg (show ¬size=0 by omega)]
    exact hK _ _ (by show _=Value.int .i64 r;rw[n1]) hG trivial
   ·have Zp:=Pi a 11 t Sj.out.1;have Xv:=Pi a 15 r Sj.out.2.1;obtain⟨n1,n2,n3,n4,n5,n6,n7⟩:=HN.out;go_step;exact hK _ _ (by rw[n2];go_num) hG trivial
   ·have q2:=FaA Si 2 qb 0;go_step;exact hK _ _ rfl hG trivial
   ·have Wx:=Pa a 17 qb 1 Sj.out.1;have hc:=(HD.out w' hG).2.1;go_step;exact hK _ _ rfl hG trivial
   ·have q16:=Pi a 16 F Sj.out.1;go_step;exact hK _ _ rfl hG trivial
   have Vn:=Pi a 18 size Sj.out.1;go_step;exact hK _ _ rfl hG trivial
  intro vs w2 hG hlen hV
  match vs,hlen,hV with
  | [v0,v1,v2,v3,v4,v5,v6,v7,v8,v9],_,hV=>
   obtain rfl:v8=.int .i64 F:=hV 8 4 v8 rfl rfl;obtain rfl:v9=.int .i64 size:=hV 9 5 v9 rfl rfl;clear hV;simp only[dG,bf7,bf1];simp only[Act.put,bfw,bfu,bfv];have HG2:Hid (Bw w w2):=Lh (H1.out.1.trans (hG.mono H1.out.1.size));clear hG HN;go_wp2_with(fail);refine bodyPost_ret (results_tmp2 rfl _ _ _) rfl ?_;exact⟨rfl,HG2.out⟩
 by_cases k3:kind=3
 ·obtain rfl:t=F:=(e3 k3).symm;obtain rfl:size=S:=by rw[e4,if_neg (by omega)]
  subst k3;have HN:=Lh h1;clear e1 e2 e3 e4 c3 c4 b1 b2 s1 s2 s3;go_enter func94,ntmps94;go_upto_region 1 with(fail);rw[<-hw1,<-Sm];clear hw1 Sm;go_upto_region 7 with(fail);refine fZ (by kernel_rfl) [none,none,none,none,none] [] (Q5 [.int .i64 t,.pointer (some ⟨qb,1,none⟩),.int .i64 size,.int .i64 t,.int .i64 size]) (λ_ w'=>Bw w1 w') (λ_ _=>True) (λ_ _ _ _ _ h=>h) (by kernel_rfl) (by kernel_rfl) (by kernel_rfl) SB.out ⟨trivial,trivial,trivial,trivial,trivial,trivial⟩ ?_ ?_
  ·refine ⟨?_,?_,?_,?_,?_,trivial⟩<;>intro k a w' hG Si Sj K hK<;>replace Si:=Lh Si<;>replace Sj:=Lh Sj
   ·have q1:=FiA Si 1 t;go_step;exact hK _ _ rfl hG trivial
   ·have q2:=FaA Si 2 qb 0;go_step;exact hK _ _ rfl hG trivial
   ·have Z0:=Pa a 41 qb 1 Sj.out.1;have hc:=(HD.out w' hG).2.1;go_step;exact hK _ _ rfl hG trivial
   ·have YE:=Pi a 40 t Sj.out.1;go_step;exact hK _ _ rfl hG trivial
   have Z4:=Pi a 42 size Sj.out.1;go_step;exact hK _ _ rfl hG trivial
  intro vs w2 hG hlen hV
  match vs,hlen,hV with
  | [v0,v1,v2,v3,v4],_,hV=>
   obtain rfl:v3=.int .i64 t:=hV 3 4 v3 rfl rfl;obtain rfl:v4=.int .i64 size:=hV 4 5 v4 rfl rfl;clear hV;simp only[dG,bf7,bf1];simp only[Act.put,bfw,bfu,bfv];have HG2:Hid (Bw w w2):=Lh (H1.out.1.trans (hG.mono H1.out.1.size));clear hG;go_wp2_with(fail);refine bodyPost_ret (results_tmp2 rfl _ _ _) rfl ?_;exact⟨rfl,HG2.out⟩
 have k2:kind=2:=by omega
 have hF:=e2 k2;obtain rfl:st=S:=by rw[e4,if_pos k2]
 subst k2;obtain⟨YB,Zj⟩:=Nm (max (t - size+1) 0);rw[<-Zj]at hF;have l0:0<=YB/\YB<=1099511627776:=by
  omega
 obtain⟨kq,hk1⟩:=Nm ((YB+st - 1) / st);rw[<-hk1]at hF;have hk:=hk1;have HL:=Lh Zj;have HL2:Hid (YB=if t-size+1<0 then 0 else t-size+1):=Lh (by rw[Zj];split <;> omega)
 have HN:=Lh (bfy hk (bfy hF (bfy b1 (bfy b2 (bfy s1 (bfy h1 (bfy s2 (bfy s5 l0))))))));clear e1 e2 e3 e4 c3 c4 b1 b2 s2 s3 hF hk hk1 Zj;go_enter func94,ntmps94;go_upto_region 1 with(fail);rw[<-hw1,<-Sm];clear hw1 Sm;go_upto_region 6 with(fail)
 first | rw[<-HL.out] | rw[<-HL2.out]
 refine fZ (by kernel_rfl) (NoF (NoF [none,none,none,none,none])) [] (Q5 [.int .i64 YB,.pointer (some ⟨qb,2,none⟩),.int .i64 st,.int .i64 (YB+st),.int .i64 (YB+st-1),.pointer (some ⟨qb,2,none⟩),.int .i64 st,.int .i64 kq,.pointer (some ⟨qb,2,none⟩),.int .i64 st,.int .i64 F,.pointer (some ⟨qb,2,none⟩),.int .i64 st,.int .i64 F,.int .i64 st]) (λ_ w'=>Bw w1 w') (λ_ _=>True) (λ_ _ _ _ _ h=>h) (by kernel_rfl) (by kernel_rfl) (by kernel_rfl) SB.out ⟨trivial,trivial,trivial,trivial,trivial,trivial,trivial,trivial,trivial,trivial,trivial,trivial,trivial,trivial,trivial,trivial⟩ ?_ ?_
 ·refine ⟨?_,?_,?_,?_,?_,?_,?_,?_,?_,?_,?_,?_,?_,?_,?_,trivial⟩<;>intro k a w' hG Si Sj K hK<;>replace Si:=Lh Si<;>replace Sj:=Lh Sj
  ·have q6:=FiA Si 6 YB;go_step;exact hK _ _ rfl hG trivial
  ·have q2:=FaA Si 2 qb 0;go_step;exact hK _ _ rfl hG trivial
  ·have XW:=Pa a 28 qb 2 Sj.out.1;have hc:=(HD.out w' hG).2.2.1;go_step;exact hK _ _ rfl hG trivial
  ·have Xe:=Pi a 27 YB Sj.out.1;have YC:=Pi a 29 st Sj.out.2.1;obtain⟨n1,n2,n3,n4,n5,n6,n7,n8,n9,n10⟩:=HN.out;go_step;exact hK _ _ (by go_num) hG trivial
  ·have ZY:=Ep a 30 (.int .i64 (YB+st)) Sj.out.1;obtain⟨n1,n2,n3,n4,n5,n6,n7,n8,n9,n10⟩:=HN.out;go_step;exact hK _ _ (by go_num) hG trivial
  ·have q2:=FaA Si 2 qb 0;go_step;exact hK _ _ rfl hG trivial
  ·have q32:=Pa a 32 qb 2 Sj.out.1;have hc:=(HD.out w' hG).2.2.1;go_step;exact hK _ _ rfl hG trivial
  ·have EW:=Ep a 31 (.int .i64 (YB+st-1)) Sj.out.1;have Zx:=Pi a 33 st Sj.out.2.1;obtain⟨n1,n2,n3,n4,n5,n6,n7,n8,n9,n10⟩:=HN.out;go_step;rw[if_neg (show ¬st=0 by omega)]
   exact hK _ _ (by show _=Value.int .i64 kq;rw[n1]) hG trivial
  ·have q2:=FaA Si 2 qb 0;go_step;exact hK _ _ rfl hG trivial
  ·have Xw:=Pa a 35 qb 2 Sj.out.1;have hc:=(HD.out w' hG).2.2.1;go_step;exact hK _ _ rfl hG trivial
  ·obtain ⟨p0,p1,_⟩:=Sj.out;have ZZ:=Pi a 34 kq p0;have YS:=Pi a 36 st p1;obtain⟨n1,n2,n3,n4,n5,n6,n7,n8,n9,n10⟩:=HN.out;have hw:wrap64 (kq*st)=F:=by rw[<-n2];exact IntWalk.wrap64_in _ (by omega)
   clear p0 p1;go_step;exact hK _ _ (by show _=Value.int .i64 F;rw[<-n1,hw]) hG trivial
  ·have q2:=FaA Si 2 qb 0;go_step;exact hK _ _ rfl hG trivial
  ·have XX:=Pa a 38 qb 2 Sj.out.1;have hc:=(HD.out w' hG).2.2.1;go_step;exact hK _ _ rfl hG trivial
  ·have YD:=Pi a 37 F Sj.out.1;go_step;exact hK _ _ rfl hG trivial
  have XY:=Pi a 39 st Sj.out.1;go_step;exact hK _ _ rfl hG trivial
 intro vs w2 hG hlen hV
 match vs,hlen,hV with
 | [v0,v1,v2,v3,v4,v5,v6,v7,v8,v9,v10,v11,v12,v13,v14],_,hV=>
  obtain rfl:v13=.int .i64 F:=hV 13 4 v13 rfl rfl;obtain rfl:v14=.int .i64 st:=hV 14 5 v14 rfl rfl;clear hV;simp only[dG,bf7,bf1];simp only[Act.put,bfw,bfu,bfv];have HG2:Hid (Bw w w2):=Lh (H1.out.1.trans (hG.mono H1.out.1.size));clear hG HN;go_wp2_with(fail);refine bodyPost_ret (results_tmp2 rfl _ _ _) rfl ?_;exact⟨rfl,HG2.out⟩
def pY(key:List (BitVec 8))(F st size:Int)(m:Nat):List bg:=(List.range m).map λ(i:Nat)=>⟨key,F+(i:Int)*st,F+(i:Int)*st+size⟩
theorem pE(key:List (BitVec 8))(F st size:Int)(m:Nat):(pY key F st size m).length=m:=by simp[pY]
theorem C8(key:List (BitVec 8))(F st size:Int)(m:Nat):pY key F st size (m+1)=pY key F st size m++[⟨key,F+(m:Int)*st,F+(m:Int)*st+size⟩]:=by
 simp[pY,List.range_succ]
theorem KZ {q:bz} {key:List (BitVec 8)} {t:Int}(hok:jS q key t=true):
  ∃m:Nat,m<=16/\lM q key t=pY key (jI q t) (dM q) q.size m/\∀j:Nat,jI q t+(j:Int)*dM q<=t↔j<m:=by
 have hok2:=hok;simp only[jS,bf8,bf0]at hok2;obtain⟨⟨hr,_⟩,ht0,ht1⟩:=hok2;obtain⟨s1,s2,s3,s4,s5⟩:=jk hr;by_cases k3:q.kind=3
 ·refine⟨1,by decide,?_,λj=>?_⟩
  ·rw[lM,if_pos hok,if_pos k3,jI,if_pos k3];simp[pY]
  rw[jI,if_pos k3];by_cases h:j<1
  ·obtain rfl:j=0:=by omega
   simp
  have:(1:Int)*dM q<=(j:Int)*dM q:=Int.mul_le_mul_of_nonneg_right (by omega) (by omega)
  omega
 have hb:=p9 hr ht0;refine⟨(t / dM q+1-xH q t).toNat,by omega,?_,λj=>?_⟩
 ·rw[lM,if_pos hok,if_neg k3,vQ,pY,jI,if_neg k3];refine List.map_congr_left λi _=>?_;rw[nQ,Int.add_mul]
 rw[jI,if_neg k3,<-Int.add_mul,<-Int.le_ediv_iff_mul_le (by omega)]
 omega
def Qn(w:World)(key:List (BitVec 8))(F st size:Int)(m:Nat)(out f:Value)(wr:World):Prop:=
 ∃j:Nat,j<=m/\f=.int .i64 (F+(j:Int)*st)/\cK wr w.heap.size out (pY key F st size j)/\Bw w wr
theorem Qh(w:World)(q:bz)(key:List (BitVec 8))(t:Int)(hl:key.length<=1000000):
  Calls prog 62 #[.agg q.cells,Sv key,.int .i64 t] w (qI w (lM q key t)):=by
 obtain⟨w1,hw1⟩:=Nm (w.alloc (.cells q.cells 23));obtain⟨qb,Sm⟩:=Nm (w.heap.size);have H1:Hid (Bw w w1/\dn w1 qb q):=by
  rw[hw1,Sm];exact Lh ⟨(Below.refl _ w).alloc (bfx _) _,bg5 w _⟩
 obtain⟨P,hP⟩:=Nm (qI w (lM q key t));rw[<-hP];have HP:=Lh hP;obtain⟨Q0,XB⟩:=Nm (q:bz);have TN:=Lh XB;obtain⟨r,hr⟩:=Nm (q.bB);obtain⟨nb,hnb⟩:=Nm (kr key);obtain⟨tb,htb⟩:=Nm (decide (0<=t/\t<=1099511627776));have SG:Hid (∀w',Calls prog 28 #[.agg q.cells] w' (bE w' (.bool r))):=by
  rw[hr];exact Lh (λw'=>nN w' q)
 have Tt:Hid (∀w',Calls prog 61 #[Sv key] w' λe w''=>e=.returned (.bool nb)/\w''=w'):=by
  rw[hnb];exact Lh (λw'=>tJ w' key hl)
 have YK:Hid (∀w',Calls prog 86 #[.int .i64 t] w' λe w''=>e=.returned (.bool tb)/\w''=w'):=by
  rw[htb];exact Lh (λw'=>yg w' t)
 have Vr:Hid (jS Q0 key t=(r && nb && tb)):=by
  rw[hr,hnb,htb,XB];exact Lh rfl
 rw[<-XB]at H1;clear hP hr hnb htb hl;obtain⟨kind,size,slide,late,agg,tk⟩:=q;unfold bz.cells at hw1 SG;unfold bz.cells;simp only at hw1 SG ⊢;have SF:Hid (∀wz,jS Q0 key t=false->Bw w wz->P (.returned (.slice none 0 0)) wz):=by
  refine Lh (λwz h hB=>?_);rw[HP.out,<-TN.out,lM,h,if_neg (by decide)]
  exact⟨none,0,rfl,bfx _,.inl rfl,hB⟩
 have HD:Hid (∀w',Bw w1 w'->D6 w' qb kind size slide late agg tk):=by
  refine Lh (λw' h=>?_);have h2:=(H1.out.2.below h).d6;rw[TN.out]at h2;exact h2
 obtain⟨d0,d1,d2,d3,d4,d5⟩:=HD.out w1 Br;clear XB;go_enter func62,ntmps62;go_upto_region 1 with(fail);rw[<-hw1,<-Sm];clear hw1 Sm
 cases r with
 | false=>
  go_wp2_with(fail);refine(SG.out w1).mono ?_;rintro e w2 ⟨rfl,hB⟩;have H2:=Lh (H1.out.1.trans (hB.mono H1.out.1.size));clear hB d0 d1 d2 d3 d4 d5;dsimp only;go_wp2_with(fail);exact SF.out _ (by rw[Vr.out];rfl) H2.out
 | true=>
 cases nb with
 | false=>
  go_wp2_with(fail);refine(SG.out w1).mono ?_;rintro e w2 ⟨rfl,hB⟩;have H2:=Lh (H1.out.1.trans (hB.mono H1.out.1.size));clear hB d0 d1 d2 d3 d4 d5;dsimp only;go_wp2_with(fail);refine(Tt.out w2).mono ?_;rintro e w3 ⟨rfl,hw3⟩;subst w3;dsimp only;go_wp2_with(fail);exact SF.out _ (by rw[Vr.out];rfl) H2.out
 | true=>
 cases tb with
 | false=>
  go_wp2_with(fail);refine(SG.out w1).mono ?_;rintro e w2 ⟨rfl,hB⟩;have H2:=Lh (H1.out.1.trans (hB.mono H1.out.1.size));clear hB d0 d1 d2 d3 d4 d5;dsimp only;go_wp2_with(fail);refine(Tt.out w2).mono ?_;rintro e w3 ⟨rfl,hw3⟩;subst w3;dsimp only;go_wp2_with(fail);refine(YK.out w2).mono ?_;rintro e w3 ⟨rfl,hw3⟩;subst w3;dsimp only;go_wp2_with(fail);exact SF.out _ (by rw[Vr.out];rfl) H2.out
 | true=>
 have hok:jS Q0 key t=true:=by rw[Vr.out];rfl
 have hok2:=hok;simp only[jS,bf8,bf0]at hok2;obtain⟨⟨Wq,_⟩,ht0,ht1⟩:=hok2;obtain⟨s1,s2,s3,s4,s5⟩:=jk Wq;obtain⟨f0,f1⟩:=xN Wq ht0;have hsz:Q0.size=size:=by rw[TN.out]
 obtain⟨m,hm,hof,hcnt⟩:=KZ hok;rw[hsz]at hof s2 s4 s5;have TA:Hid (∀w',Calls prog 94 #[.agg #[.int .i64 kind,.int .i64 size,.int .i64 slide,.int .i64 late,.int .i64 agg,.int .i64 tk],.int .i64 t] w' (bE w' (.tuple #[.int .i64 (jI Q0 t),.int .i64 (dM Q0)]))):=by
  refine Lh (λw'=>?_);have h:=ze w' Q0 t Wq ht0 ht1;rw[TN.out]at h ⊢;exact h
 obtain⟨F,hF⟩:=Nm (jI Q0 t);obtain⟨st,hst⟩:=Nm (dM Q0);rw[<-hF,<-hst]at hof hcnt TA;rw[<-hF]at f0 f1;rw[<-hst]at s1 s2;have Sl:Hid (∀wz B v,cK wz B v (pY key F st size m)->Bw w wz->P (.returned v) wz):=by
  refine Lh (λwz B v ho hB=>?_);rw[HP.out,<-TN.out,hof];obtain⟨a,c',e1,e2,e3⟩:=ho.form;exact⟨a,c',by rw[e1],e2,e3,hB⟩
 have HM:=Lh (bfy hm (bfy hcnt (bfy f0 (bfy f1 (bfy s1 (bfy s2 (bfy s4 (bfy s5 (bfy ht0 ht1)))))))));clear hok Wq ht0 ht1 s1 s2 s3 s4 s5 f0 f1 hsz hm hof hcnt hF hst HP TN Vr SF;go_wp2_with(fail);refine(SG.out w1).mono ?_;rintro e w2 ⟨rfl,hB⟩;have H2:=Lh hB;clear hB d0 d1 d2 d3 d4 d5;dsimp only;go_wp2_with(fail);refine(Tt.out w2).mono ?_;rintro e w3 ⟨rfl,hw3⟩;subst w3;dsimp only;go_wp2_with(fail);refine(YK.out w2).mono ?_;rintro e w3 ⟨rfl,hw3⟩;subst w3;dsimp only;obtain⟨d0,d1,d2,d3,d4,d5⟩:=HD.out w2 H2.out;go_wp2_with(fail);refine(TA.out w2).mono ?_;rintro e ws ⟨rfl,hB⟩;have HS:=Lh (Tb H2.out hB);clear hB d0 d1 d2 d3 d4 d5;dsimp only;go_wp2_with(fail);obtain⟨Sr,hSr⟩:=Nm (Qn w1 key F st size m);have WT:Hid (∀o f wr,Sr o f wr↔∃j:Nat,j<=m/\f=.int .i64 (F+(j:Int)*st)/\cK wr w1.heap.size o (pY key F st size j)/\Bw w1 wr):=by
  rw[hSr];exact Lh (λ_ _ _=>Iff.rfl)
 clear hSr;go_loopw[7,10] Sr (λ_ f _=>(t+1-intOf f).toNat)
 case atStart=>exact(WT.out _ _ _).2 ⟨0,bgi _,by rw[Int.natCast_zero,Int.zero_mul,Int.add_zero],cK.nil _ _,HS.out⟩
 case round=>
  obtain⟨j,hj,rfl,hO,hB⟩:=(WT.out _ _ _).1 hrel;obtain⟨a,c,hu,hcap,hWa⟩:=hO.form;subst hu;rw[pE]at hO ⊢;have HO:=Lh (bfy hO hB);clear hcap hWa;obtain⟨d0,d1,d2,d3,d4,d5⟩:=HD.out wr hB;obtain⟨n1,n2,n3,n4,n5,n6,n7,n8,n9,n10⟩:=HM.out;obtain⟨f,hf⟩:=Nm (F+(j:Int)*st);rw[<-hf];have hp0:0<=(j:Int)*st:=Int.mul_nonneg (by omega) (by omega)
  have hf0:0<=f:=by omega
  have hfj:f<=t↔j<m:=by rw[hf];exact n2 j
  by_cases hlt:j<m
  ·have hft:f<=t:=hfj.2 hlt;have hnx:F+((j+1:Nat):Int)*st=f+st:=by
    rw[hf,Int.natCast_add,Int.add_mul,Int.natCast_one,Int.one_mul];omega
   obtain⟨x,hx⟩:=Nm (bg.mk key f (f+size));have hsn:pY key F st size (j+1)=pY key F st size j++[x]:=by rw[C8,<-hf,hx]
   have SL:=lF key f (f+size);rw[<-hx]at SL;have HN:=Lh (bfy hnx (bfy hlt (bfy hsn n1)));clear hO hB hlt n1 n2 n3 n4 hj hnx hsn hfj hf hp0;go_upto_region 8 with(fail);refine bg4 ?_
   iterate 21 go_step
   refine dm (by kernel_rfl) 47 _ rfl x.cells (by simp only[bgb,bgc,bge];exact SL) ?_
   clear SL hx;refine fE rfl (.tmp 44) rfl x rfl ?_;have HW:Hid (cK (wr.alloc (.cells x.cells 47)) w1.heap.size (.slice a j c) (pY key F st size j)/\Bw w1 (wr.alloc (.cells x.cells 47))):=by
    obtain⟨h1,h2⟩:=HO.out;have hn:Bw wr (wr.alloc (.cells x.cells 47)):=(Below.refl _ wr).alloc (bfx _) _;exact Lh ⟨h1.far hn,Tb h2 hn⟩
   have HU:Hid (∀i z,x.cells[i]? =some z->(wr.alloc (.cells x.cells 47)).cell? ⟨wr.heap.size,i,none⟩=some z):=by
    refine Lh (λi z hz=>?_);rw[cell_of_row _ _ _ _ _ _ (bg5 wr _)];exact hz
   clear d0 d1 d2 d3 d4 d5;obtain⟨gn,hgn⟩:=Nm (wr.heap.size);obtain⟨wn,hwn⟩:=Nm (wr.alloc (.cells x.cells 47));rw[<-hwn,<-hgn]at HU ⊢;rw[<-hwn]at HW;clear hwn hgn;refine jZ rfl (.tmp 37) (.tmp 45) rfl w1.heap.size (.slice a j c) (pY key F st size j) rfl HW.out.1 x gn rfl HU.out (by rw[pE];have:=HN.out.2.1;have:=HN.out.2.2.2;omega) HW.out.2.size ?_
   intro v' w3 g1 g2 g3;have HR3:Hid (Sr v' (.int .i64 (f+st)) w3):=by
    obtain⟨h1,h2⟩:=HW.out;refine Lh ((WT.out _ _ _).2 ⟨j+1,HN.out.2.1,by rw[HN.out.1],?_,h2.trans (h1.below g2 h2.size)⟩)
    rw[HN.out.2.2.1];exact g1
   clear g1 g2 g3;go_wp2_with(fail);go_roundw
   case rel=>exact HR3.out
   case measure=>simp[intOf];omega
  obtain rfl:j=m:=by omega
  have hft:¬f<=t:=λh=>by
   have:=hfj.1 h;omega
  have HZ:Hid (P (.returned (.slice a j c)) wr):=Lh (Sl.out wr w1.heap.size _ HO.out.1 (H1.out.1.trans (HO.out.2.mono H1.out.1.size)));clear hO hB hlt n1 n2 n3 n4 n5 n6 n7 n8 n9 n10 hj hfj hf hp0 d0 d1 d2 d3 d4 d5;go_wp2_with(fail);exact HZ.out
end Go.Proofs.YtjeeghafachebaaGreat
