/-
  43.
-/
import Derived.Test.YtjeeghafachebaaGreatU20
set_option maxRecDepth 100000
set_option maxHeartbeats 2000000
namespace Go.Proofs.YtjeeghafachebaaGreat
open Go Go.RowKit Go.Proofs.Tryz
def Nn(w:World)(q:bz)(key:List (BitVec 8))(K:Int)(m:Nat)(out kk:Value)(wr:World):Prop:=
 ∃j:Nat,j<=m/\kk=.int .i64 (K-(j:Int))/\cK wr w.heap.size out (vQ q key (K+1-(j:Int)) j)/\Bw w wr
theorem JX(q:bz)(key:List (BitVec 8))(K:Int)(j:Nat):[nQ q key (K-(j:Int))]++vQ q key (K+1-(j:Int)) j=vQ q key (K+1-((j+1:Nat):Int)) (j+1):=by
 rw[ME];have e1:K+1-((j+1:Nat):Int)=K-(j:Int):=by omega
 have e2:K-(j:Int)+1=K+1-(j:Int):=by omega
 rw[e1,e2];rfl
theorem Hf(w:World)(q:bz)(key:List (BitVec 8))(t:Int)(hl:key.length<=1000000):
  Calls prog 75 #[.agg q.cells,Sv key,.int .i64 t] w (qI w (lM q key t)):=by
 obtain⟨w1,hw1⟩:=Nm (w.alloc (.cells q.cells 23));obtain⟨qb,Sm⟩:=Nm (w.heap.size);have H1:Hid (Bw w w1/\dn w1 qb q):=by
  rw[hw1,Sm];exact Lh ⟨(Below.refl _ w).alloc (bfx _) _,bg5 w _⟩
 obtain⟨P,hP⟩:=Nm (qI w (lM q key t));rw[<-hP];have HP:=Lh hP;obtain⟨Q0,XB⟩:=Nm (q:bz);have TN:=Lh XB;obtain⟨r,hr⟩:=Nm (q.bB);obtain⟨nb,hnb⟩:=Nm (kr key);have SG:Hid (∀w',Calls prog 14 #[.agg q.cells] w' (bE w' (.bool r))):=by
  rw[hr];exact Lh (λw'=>su w' q)
 have Tt:Hid (∀w',Calls prog 78 #[Sv key] w' λe w''=>e=.returned (.bool nb)/\w''=w'):=by
  rw[hnb];exact Lh (λw'=>vG w' key hl)
 have Hr:=Lh hr;have Hnb:=Lh hnb;rw[<-XB]at H1;clear hP hr hnb hl;obtain⟨kind,size,slide,late,agg,tk⟩:=q;unfold bz.cells at hw1 SG;unfold bz.cells;simp only at hw1 SG ⊢;have SF:Hid (∀wz,jS Q0 key t=false->Bw w wz->P (.returned (.slice none 0 0)) wz):=by
  refine Lh (λwz h hB=>?_);rw[HP.out,<-TN.out,lM,h,if_neg (by decide)]
  exact⟨none,0,rfl,bfx _,.inl rfl,hB⟩
 have HD:Hid (∀w',Bw w1 w'->D6 w' qb kind size slide late agg tk):=by
  refine Lh (λw' h=>?_);have h2:=(H1.out.2.below h).d6;rw[TN.out]at h2;exact h2
 obtain⟨d0,d1,d2,d3,d4,d5⟩:=HD.out w1 Br;clear XB;go_enter func75,ntmps75;go_upto_region 1 with(fail);rw[<-hw1,<-Sm];clear hw1 Sm
 cases r with
 | false=>
  go_wp2_with(fail);refine(SG.out w1).mono ?_;rintro e w2 ⟨rfl,hB⟩;have H2:=Lh (H1.out.1.trans (hB.mono H1.out.1.size));clear hB d0 d1 d2 d3 d4 d5;dsimp only;go_wp2_with(fail);exact SF.out _ (by rw[jS,TN.out,<-Hr.out];rfl) H2.out
 | true=>
 cases nb with
 | false=>
  go_wp2_with(fail);refine(SG.out w1).mono ?_;rintro e w2 ⟨rfl,hB⟩;have H2:=Lh (H1.out.1.trans (hB.mono H1.out.1.size));clear hB d0 d1 d2 d3 d4 d5;dsimp only;go_wp2_with(fail);refine(Tt.out w2).mono ?_;rintro e w3 ⟨rfl,hw3⟩;subst w3;dsimp only;go_wp2_with(fail);exact SF.out _ (by rw[jS,TN.out,<-Hr.out,<-Hnb.out];rfl) H2.out
 | true=>
 by_cases t0:t<0
 ·go_wp2_with(fail);refine(SG.out w1).mono ?_;rintro e w2 ⟨rfl,hB⟩;have H2:=Lh (H1.out.1.trans (hB.mono H1.out.1.size));clear hB d0 d1 d2 d3 d4 d5;dsimp only;go_wp2_with(fail);refine(Tt.out w2).mono ?_;rintro e w3 ⟨rfl,hw3⟩;subst w3;dsimp only;go_wp2_with(fail);exact SF.out _ (by rw[jS,bfq (by omega),Bool.and_false]) H2.out
 by_cases t1:1099511627776<t
 ·go_wp2_with(fail);refine(SG.out w1).mono ?_;rintro e w2 ⟨rfl,hB⟩;have H2:=Lh (H1.out.1.trans (hB.mono H1.out.1.size));clear hB d0 d1 d2 d3 d4 d5;dsimp only;go_wp2_with(fail);refine(Tt.out w2).mono ?_;rintro e w3 ⟨rfl,hw3⟩;subst w3;dsimp only;go_wp2_with(fail);exact SF.out _ (by rw[jS,bfq (by omega),Bool.and_false]) H2.out
 have Wq:Q0.bB=true:=by rw[TN.out];exact Hr.out.symm
 have hok:jS Q0 key t=true:=by
  rw[jS,Wq,<-Hnb.out,bfr (by omega)]
  rfl
 obtain⟨c1,c2,c3,c4,c5,_⟩:=gU Wq;have Tn:Hid (Q0.bB=true/\jS Q0 key t=true/\0<=t/\t<=1099511627776/\1<=size/\size<=1073741824):=by
  rw[TN.out]at c1;exact Lh ⟨Wq,hok,by omega,by omega,c1.1,c1.2⟩
 have HKd:Hid (kind=1∨kind=2∨kind=3):=by
  rw[TN.out]at c3;exact Lh c3
 clear c1 c2 c3 c4 c5 hok Wq;by_cases k3:kind=3
 ·have HW1:Hid (lM Q0 key t=[⟨key,t,t+size⟩]):=by
   have hk:Q0.kind=3:=by rw[TN.out];exact k3
   have hs:Q0.size=size:=by rw[TN.out]
   rw[lM,if_pos Tn.out.2.1,if_pos hk,hs];exact Lh rfl
  have Sl:Hid (∀wz c v,v=.slice (some ⟨c,0,none⟩) 1 1->cK wz w.heap.size v [⟨key,t,t+size⟩]->Bw w wz->P (.returned v) wz):=by
   refine Lh (λwz c v hv ho hB=>?_);rw[HP.out,<-TN.out,HW1.out];obtain⟨a,c',e1,e2,e3⟩:=ho.form;exact⟨a,c',by rw[e1],e2,e3,hB⟩
  subst k3;have hts: -9223372036854775808<=t+size/\t+size<=9223372036854775807:=by have:=Tn.out;omega
  obtain⟨hts0,hts1⟩:=hts;have SL:=lF key t (t+size);go_wp2_with(fail);refine(SG.out w1).mono ?_;rintro e w2 ⟨rfl,hB⟩;have H2:=Lh (bfy (H1.out.1.trans (hB.mono H1.out.1.size)) hB);clear hB d0 d1 d2 d3 d4 d5;obtain⟨d0,d1,d2,d3,d4,d5⟩:=HD.out w2 H2.out.2;dsimp only;go_wp2_with(fail);refine(Tt.out w2).mono ?_;rintro e w3 ⟨rfl,hw3⟩;subst w3;dsimp only;go_upto_region 4 with(fail);refine bg4 ?_
  iterate 18 go_step
  refine dm (by kernel_rfl) 47 _ rfl (bg.mk key t (t+size)).cells (by simp only[bgb,bgc,bge];exact SL) ?_
  refine fE rfl (.tmp 35) rfl (bg.mk key t (t+size)) rfl ?_;have HO:=Lh (cK.Rw w2 w.heap.size H2.out.1.size (bg.mk key t (t+size)));have HB2:Hid (Bw w (w2.alloc (.cells (bg.mk key t (t+size)).cells 47))):=Lh (H2.out.1.alloc H2.out.1.size _);obtain⟨wz,hwz⟩:=Nm (w2.alloc (.cells (bg.mk key t (t+size)).cells 47));rw[<-hwz]at HO HB2 ⊢;clear hwz SL d0 d1 d2 d3 d4 d5;go_wp2_with(fail);exact Sl.out _ _ _ rfl HO.out HB2.out
 have e3:(kind==3)=false:=by simpa using k3
 obtain⟨st,hst⟩:=Nm (dM Q0);have TA:Hid (st=dM Q0/\1<=st/\st<=1073741824):=by
  obtain⟨s1,s2,s3,s4,s5⟩:=jk Tn.out.1;rw[hst];exact Lh ⟨rfl,s1,by omega⟩
 have Ap:st=if kind=2 then slide else size:=by rw[hst,dM,TN.out]
 clear hst;obtain⟨m,hm⟩:∃m:Nat,(m:Int)=t / st+1 - xH Q0 t:=⟨(t / st+1 - xH Q0 t).toNat,by
  have:=p9 Tn.out.1 Tn.out.2.2.1;rw[TA.out.1];omega⟩
 obtain⟨K,hK⟩:=Nm (t / st);rw[<-hK]at hm;have HM:Hid ((m:Int)=K+1-xH Q0 t/\K=t / st/\0<=xH Q0 t/\xH Q0 t<=K/\m<=16/\K<=1099511627776/\∀k:Int,0<=k->(t<k*st+size↔xH Q0 t<=k)):=by
  have hb:=p9 Tn.out.1 Tn.out.2.2.1;rw[<-TA.out.1,<-hK]at hb;have hs:Q0.size=size:=by rw[TN.out]
  have hkt:K<=t:=by
   rw[hK];exact Int.ediv_le_self _ Tn.out.2.2.1
  refine Lh ⟨hm,hK,hb.1,hb.2.1,by omega,by have:=Tn.out;omega,λk hk=>?_⟩
  have:=qw Tn.out.1 (t:=t) k hk;rw[<-TA.out.1,hs]at this;exact this
 have Sl:Hid (∀wz B v,cK wz B v (vQ Q0 key (xH Q0 t) m)->Bw w wz->P (.returned v) wz):=by
  refine Lh (λwz B v ho hB=>?_);have hk:¬Q0.kind=3:=by rw[TN.out];exact k3
  have e:lM Q0 key t=vQ Q0 key (xH Q0 t) m:=by
   rw[lM,if_pos Tn.out.2.1,if_neg hk,<-TA.out.1,<-HM.out.2.1,<-HM.out.1,Int.toNat_natCast]
  rw[HP.out,<-TN.out,e];obtain⟨a,c',e1,e2,e3⟩:=ho.form;exact⟨a,c',by rw[e1],e2,e3,hB⟩
 obtain⟨b2,hb2⟩:=Nm (kind==2);have e2:(kind==2)=b2:=hb2.symm;have Aq:st=if b2=true then slide else size:=by
  rw[Ap,hb2];by_cases h:kind=2 <;> simp[h]
 have Yh:=Lh Aq;have aO:Hid (∀k,nQ Q0 key k=⟨key,k*st,k*st+size⟩):=by
  refine Lh (λk=>?_);have hs:Q0.size=size:=by rw[TN.out]
  rw[nQ,<-TA.out.1,hs]
 have hq0:0<=t/\t<=1099511627776/\1<=st/\st<=1073741824:=by
  have:=Tn.out;have:=TA.out;omega
 obtain⟨q0,q1,q2,q3⟩:=hq0;have Oy:t / st=K:=HM.out.2.1.symm;have et0:decide (t<0)=false:=bfq t0;have et1:decide (1099511627776<t)=false:=bfq t1;clear Ap Aq hb2 hm hK k3 t0 t1;go_wp2_with(fail);refine(SG.out w1).mono ?_;rintro e w2 ⟨rfl,hB⟩;have H2:=Lh (bfy (H1.out.1.trans (hB.mono H1.out.1.size)) hB);clear hB d0 d1 d2 d3 d4 d5;obtain⟨d0,d1,d2,d3,d4,d5⟩:=HD.out w2 H2.out.2;dsimp only;go_wp2_with(fail);refine(Tt.out w2).mono ?_;rintro e w3 ⟨rfl,hw3⟩;subst w3;dsimp only;go_upto_if 41 with(fail);go_cut[7]from 42 to 43 (λs7 wx=>s7=.int .i64 st/\wx=w2)
 case first=>
  cases b2 with
  | true=>
   obtain rfl:st=slide:=by rw[Yh.out];rfl
   go_wp2_with(fail);go_meet;exact⟨rfl,rfl⟩
  | false=>
   obtain rfl:st=size:=by rw[Yh.out];rfl
   go_wp2_with(fail);go_meet;exact⟨rfl,rfl⟩
 case rest=>
  obtain⟨rfl,hwc⟩:=hcut;subst wc;clear e2;have est:(st==0)=false:=by simp;omega
  go_wp2_with(fail);rw[Oy];go_loopw[8,9] (Nn w2 Q0 key K m) (λ_ k _=>(intOf k+1).toNat)
  case atStart=>exact⟨0,bgi _,by simp,cK.nil _ _,Br⟩
  case round=>
   obtain⟨j,hj,rfl,hO,hB⟩:=hrel;obtain⟨a,c,hu8,hcap,hWa⟩:=hO.form;subst hu8;rw[jT]at hcap ⊢;have HO:=Lh (bfy hO (bfy hB hWa));obtain⟨d0,d1,d2,d3,d4,d5⟩:=HD.out wr (H2.out.2.trans (hB.mono H2.out.2.size));clear hO hB hWa hcap;obtain⟨m0,mK,m1,m2,m3,m4,m5⟩:=HM.out;clear mK;obtain⟨k,hk⟩:=Nm (K - (j:Int));rw[<-hk];have hKt:K*st<=t:=by
    rw[<-Oy];exact Int.ediv_mul_le _ (by omega)
   have HKb:Hid (K<=1099511627776):=Lh m4;have hsz:1<=size/\size<=1073741824:=Tn.out.2.2.2.2;obtain⟨hsz0,hsz1⟩:=hsz;clear Oy est;by_cases hlt:j<m
   ·have hk0:0<=k:=by omega
    have hin:t<k*st+size:=(m5 k hk0).2 (by omega)
    have hp0:0<=k*st:=Int.mul_nonneg hk0 (by omega)
    have hp1:k*st<=1099511627776:=by
     have:k*st<=K*st:=Int.mul_le_mul_of_nonneg_right (by omega) (by omega)
     omega
    have HK:=Lh (bfy hk hlt);obtain⟨x,hx⟩:=Nm (bg.mk key (k*st) (k*st+size));have SL:=lF key (k*st) (k*st+size);have HX:Hid (x=nQ Q0 key (K-(j:Int))):=by
     rw[hx,aO.out,hk];exact Lh rfl
    rw[<-hx]at SL;clear m0 m1 m2 m3 m4 m5 hKt hj hlt hk;go_upto_region 12 with(fail);refine bg4 ?_
    iterate 30 go_step
    refine dm (by kernel_rfl) 47 _ rfl x.cells (by simp only[bgb,bgc,bge];exact SL) ?_
    refine fE rfl (.tmp 71) rfl x rfl ?_;have WS:Hid (cK (wr.alloc (.cells x.cells 47)) w2.heap.size (.slice (some ⟨wr.heap.size,0,none⟩) 1 1) [x]/\Bw w2 (wr.alloc (.cells x.cells 47))/\dF (wr.alloc (.cells x.cells 47)) a (vQ Q0 key (K+1-(j:Int)) j)):=by
     obtain⟨h1,h2,h3⟩:=HO.out;exact Lh ⟨cK.Rw wr _ h2.size x,h2.alloc h2.size _,h3.below ((Below.refl _ wr).alloc (bfx _) _)⟩
    obtain⟨gn,hgn⟩:=Nm (wr.heap.size);obtain⟨wn,hwn⟩:=Nm (wr.alloc (.cells x.cells 47));rw[<-hwn,<-hgn]at WS ⊢;clear hwn hgn;clear hin hp0 hp1 hsz0 hsz1;have hk1:k<=1099511627776:=by have:=HK.out.1;have:=HKb.out;omega
    iterate 3 go_step
    refine kL rfl (.tmp 72) (.tmp 73) rfl w2.heap.size _ [x] (vQ Q0 key (K+1-(j:Int)) j) rfl WS.out.1 a c j (jT _ _ _ _).symm rfl WS.out.2.2 (by rw[jT];have:=HK.out.2;have:=HM.out.2.2.2.2.1;simp;omega) WS.out.2.1.size ?_
    intro v' w3 g1 g2 g3;have HR3:Hid (Nn w2 Q0 key K m v' (.int .i64 (k-1)) w3):=by
     obtain⟨h1,h2,h3⟩:=WS.out;refine Lh ⟨j+1,HK.out.2,by rw[HK.out.1];congr 1;omega,?_,h2.trans (h1.below g2 h2.size)⟩
     rw[<-JX,<-HX.out];exact g1
    clear g1 g2 g3 SL hx d0 d1 d2 d3 d4 d5;go_wp2_with(fail);go_roundw
    case rel=>exact HR3.out
    case measure=>simp[intOf];omega
   obtain rfl:j=m:=by omega
   have HZ:Hid (P (.returned (.slice a j c)) wr):=by
    obtain⟨h1,h2,h3⟩:=HO.out;refine Lh (Sl.out wr w2.heap.size _ ?_ (H2.out.1.trans (h2.mono H2.out.1.size)));have e:K+1-(j:Int)=xH Q0 t:=by omega
    rw[jT,e]at h1;exact h1
   by_cases hk0:0<=k
   ·have Si:¬t<k*st+size:=λh=>by
     have:=(m5 k hk0).1 h;omega
    have hp0:0<=k*st:=Int.mul_nonneg hk0 (by omega)
    have hp1:k*st<=1099511627776:=by omega
    clear m0 m1 m2 m3 m4 m5 hKt hj hlt hk;go_wp2_with(fail);exact HZ.out
   ·clear m0 m1 m2 m3 m4 m5 hKt hj hlt hk;go_wp2_with(fail);exact HZ.out
end Go.Proofs.YtjeeghafachebaaGreat
