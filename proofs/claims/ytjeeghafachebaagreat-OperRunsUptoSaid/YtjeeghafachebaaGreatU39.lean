/-
  39.
-/
import Derived.Test.YtjeeghafachebaaGreatU32
set_option maxRecDepth 100000
set_option maxHeartbeats 2000000
namespace Go.Proofs.YtjeeghafachebaaGreat
open Go Go.RowKit Go.Proofs.Tryz
theorem Qa(w:World)(q:bz)(key:List (BitVec 8))(t:Int)(hl:key.length<=1000000):
  Calls prog 62 #[.agg q.cells,Sv key,.int .i64 t] w (jU w (lM q key t)):=by
 obtain⟨w1,hw1⟩:=Nm (w.alloc (.cells q.cells 23));obtain⟨qb,Sm⟩:=Nm (w.heap.size);have H1:Hid (Bw w w1/\dn w1 qb q):=by
  rw[hw1,Sm];exact Lh ⟨(Below.refl _ w).alloc (bfx _) _,bg5 w _⟩
 obtain⟨P,hP⟩:=Nm (jU w (lM q key t));rw[<-hP];have HP:=Lh hP;obtain⟨Q0,XB⟩:=Nm (q:bz);have TN:=Lh XB;obtain⟨r,hr⟩:=Nm (q.bB);obtain⟨nb,hnb⟩:=Nm (kr key);obtain⟨tb,htb⟩:=Nm (decide (0<=t/\t<=1099511627776));have SG:Hid (∀w',Calls prog 28 #[.agg q.cells] w' (bE w' (.bool r))):=by
  rw[hr];exact Lh (λw'=>nN w' q)
 have Tt:Hid (∀w',Calls prog 61 #[Sv key] w' λe w''=>e=.returned (.bool nb)/\w''=w'):=by
  rw[hnb];exact Lh (λw'=>tJ w' key hl)
 have YK:Hid (∀w',Calls prog 86 #[.int .i64 t] w' λe w''=>e=.returned (.bool tb)/\w''=w'):=by
  rw[htb];exact Lh (λw'=>yg w' t)
 have Vr:Hid (jS Q0 key t=(r && nb && tb)):=by
  rw[hr,hnb,htb,XB];exact Lh rfl
 rw[<-XB]at H1;clear hP hr hnb htb hl;obtain⟨kind,size,slide,late,agg,tk⟩:=q;unfold bz.cells at hw1 SG;unfold bz.cells;simp only at hw1 SG ⊢;have SF:Hid (∀wz,jS Q0 key t=false->Bw w wz->P (.returned (.slice none 0 0)) wz):=by
  refine Lh (λwz h hB=>?_);rw[HP.out,<-TN.out,lM,h,if_neg (by decide)]
  exact⟨_,rfl,cK.nil _ _,hB⟩
 have HD:Hid (∀w',Bw w1 w'->D6 w' qb kind size slide late agg tk):=by
  refine Lh (λw' h=>?_);have h2:=(H1.out.2.below h).d6;rw[TN.out]at h2;exact h2
 obtain⟨d0,d1,d2,d3,d4,d5⟩:=HD.out w1 Br;clear XB;go_enter func62,ntmps62;go_upto_region 1 with(fail);rw[<-hw1,<-Sm];clear hw1 Sm
 cases r with
 | false=>
  go_wp2_with(fail);refine(SG.out w1).mono ?_;rintro e w2 ⟨rfl,hB⟩;have H2:=Lh (H1.out.1.trans (hB.mono H1.out.1.size));clear hB d0 d1 d2 d3 d4 d5;dsimp only;go_wp2_with(fail);exact SF.out _ (by rw[Vr.out];rfl) H2.out
 | true=>
 cases nb with
 | false=>
  go_wp2_with(fail);refine(SG.out w1).mono ?_;rintro e w2 ⟨rfl,hB⟩;have H2:=Lh (H1.out.1.trans (hB.mono H1.out.1.size));clear hB d0 d1 d2 d3 d4 d5;dsimp only;go_wp2_with(fail);refine(Tt.out w2).mono ?_;rintro e w3 ⟨rfl,hw3⟩;subst w3;dsimp only;go_wp2_with(fail);exact SF.out _ (by rw[Vr.out];rfl) H2.out
 | true=>
 cases tb with
 | false=>
  go_wp2_with(fail);refine(SG.out w1).mono ?_;rintro e w2 ⟨rfl,hB⟩;have H2:=Lh (H1.out.1.trans (hB.mono H1.out.1.size));clear hB d0 d1 d2 d3 d4 d5;dsimp only;go_wp2_with(fail);refine(Tt.out w2).mono ?_;rintro e w3 ⟨rfl,hw3⟩;subst w3;dsimp only;go_wp2_with(fail);refine(YK.out w2).mono ?_;rintro e w3 ⟨rfl,hw3⟩;subst w3;dsimp only;go_wp2_with(fail);exact SF.out _ (by rw[Vr.out];rfl) H2.out
 | true=>
 have hok:jS Q0 key t=true:=by rw[Vr.out];rfl
 have hok2:=hok;simp only[jS,bf8,bf0]at hok2;obtain⟨⟨Wq,_⟩,ht0,ht1⟩:=hok2;obtain⟨s1,s2,s3,s4,s5⟩:=jk Wq;obtain⟨f0,f1⟩:=xN Wq ht0;have hsz:Q0.size=size:=by rw[TN.out]
 obtain⟨m,hm,hof,hcnt⟩:=KZ hok;rw[hsz]at hof s2 s4 s5;have TA:Hid (∀w',Calls prog 94 #[.agg #[.int .i64 kind,.int .i64 size,.int .i64 slide,.int .i64 late,.int .i64 agg,.int .i64 tk],.int .i64 t] w' (bE w' (.tuple #[.int .i64 (jI Q0 t),.int .i64 (dM Q0)]))):=by
  refine Lh (λw'=>?_);have h:=ze w' Q0 t Wq ht0 ht1;rw[TN.out]at h ⊢;exact h
 obtain⟨F,hF⟩:=Nm (jI Q0 t);obtain⟨st,hst⟩:=Nm (dM Q0);rw[<-hF,<-hst]at hof hcnt TA;rw[<-hF]at f0 f1;rw[<-hst]at s1 s2;have Sl:Hid (∀wz B v,w.heap.size<=B->cK wz B v (pY key F st size m)->Bw w wz->P (.returned v) wz):=by
  refine Lh (λwz B v hb ho hB=>?_);rw[HP.out,<-TN.out,hof];exact⟨v,rfl,ho.mono hb,hB⟩
 have HM:=Lh (bfy hm (bfy hcnt (bfy f0 (bfy f1 (bfy s1 (bfy s2 (bfy s4 (bfy s5 (bfy ht0 ht1)))))))));clear hok Wq ht0 ht1 s1 s2 s3 s4 s5 f0 f1 hsz hm hof hcnt hF hst HP TN Vr SF;go_wp2_with(fail);refine(SG.out w1).mono ?_;rintro e w2 ⟨rfl,hB⟩;have H2:=Lh hB;clear hB d0 d1 d2 d3 d4 d5;dsimp only;go_wp2_with(fail);refine(Tt.out w2).mono ?_;rintro e w3 ⟨rfl,hw3⟩;subst w3;dsimp only;go_wp2_with(fail);refine(YK.out w2).mono ?_;rintro e w3 ⟨rfl,hw3⟩;subst w3;dsimp only;obtain⟨d0,d1,d2,d3,d4,d5⟩:=HD.out w2 H2.out;go_wp2_with(fail);refine(TA.out w2).mono ?_;rintro e ws ⟨rfl,hB⟩;have HS:=Lh (Tb H2.out hB);clear hB d0 d1 d2 d3 d4 d5;dsimp only;go_wp2_with(fail);obtain⟨Sr,hSr⟩:=Nm (Qn w1 key F st size m);have WT:Hid (∀o f wr,Sr o f wr↔∃j:Nat,j<=m/\f=.int .i64 (F+(j:Int)*st)/\cK wr w1.heap.size o (pY key F st size j)/\Bw w1 wr):=by
  rw[hSr];exact Lh (λ_ _ _=>Iff.rfl)
 clear hSr;go_loopw[7,10] Sr (λ_ f _=>(t+1-intOf f).toNat)
 case atStart=>exact(WT.out _ _ _).2 ⟨0,bgi _,by rw[Int.natCast_zero,Int.zero_mul,Int.add_zero],cK.nil _ _,HS.out⟩
 case round=>
  obtain⟨j,hj,rfl,hO,hB⟩:=(WT.out _ _ _).1 hrel;obtain⟨a,c,hu,hcap,hWa⟩:=hO.form;subst hu;rw[pE]at hO ⊢;have HO:=Lh (bfy hO hB);clear hcap hWa;obtain⟨d0,d1,d2,d3,d4,d5⟩:=HD.out wr hB;obtain⟨n1,n2,n3,n4,n5,n6,n7,n8,n9,n10⟩:=HM.out;obtain⟨f,hf⟩:=Nm (F+(j:Int)*st);rw[<-hf];have hp0:0<=(j:Int)*st:=Int.mul_nonneg (by omega) (by omega)
  have hf0:0<=f:=by omega
  have hfj:f<=t↔j<m:=by rw[hf];exact n2 j
  by_cases hlt:j<m
  ·have hft:f<=t:=hfj.2 hlt;have hnx:F+((j+1:Nat):Int)*st=f+st:=by
    rw[hf,Int.natCast_add,Int.add_mul,Int.natCast_one,Int.one_mul];omega
   obtain⟨x,hx⟩:=Nm (bg.mk key f (f+size));have hsn:pY key F st size (j+1)=pY key F st size j++[x]:=by rw[C8,<-hf,hx]
   have SL:=lF key f (f+size);rw[<-hx]at SL;have HN:=Lh (bfy hnx (bfy hlt (bfy hsn n1)));clear hO hB hlt n1 n2 n3 n4 hj hnx hsn hfj hf hp0;go_upto_region 8 with(fail);refine bg4 ?_
   iterate 21 go_step
   refine dm (by kernel_rfl) 47 _ rfl x.cells (by simp only[bgb,bgc,bge];exact SL) ?_
   clear SL hx;refine fE rfl (.tmp 44) rfl x rfl ?_;have HW:Hid (cK (wr.alloc (.cells x.cells 47)) w1.heap.size (.slice a j c) (pY key F st size j)/\Bw w1 (wr.alloc (.cells x.cells 47))):=by
    obtain⟨h1,h2⟩:=HO.out;have hn:Bw wr (wr.alloc (.cells x.cells 47)):=(Below.refl _ wr).alloc (bfx _) _;exact Lh ⟨h1.far hn,Tb h2 hn⟩
   have HU:Hid (∀i z,x.cells[i]? =some z->(wr.alloc (.cells x.cells 47)).cell? ⟨wr.heap.size,i,none⟩=some z):=by
    refine Lh (λi z hz=>?_);rw[cell_of_row _ _ _ _ _ _ (bg5 wr _)];exact hz
   clear d0 d1 d2 d3 d4 d5;obtain⟨gn,hgn⟩:=Nm (wr.heap.size);obtain⟨wn,hwn⟩:=Nm (wr.alloc (.cells x.cells 47));rw[<-hwn,<-hgn]at HU ⊢;rw[<-hwn]at HW;clear hwn hgn;refine jZ rfl (.tmp 37) (.tmp 45) rfl w1.heap.size (.slice a j c) (pY key F st size j) rfl HW.out.1 x gn rfl HU.out (by rw[pE];have:=HN.out.2.1;have:=HN.out.2.2.2;omega) HW.out.2.size ?_
   intro v' w3 g1 g2 g3;have HR3:Hid (Sr v' (.int .i64 (f+st)) w3):=by
    obtain⟨h1,h2⟩:=HW.out;refine Lh ((WT.out _ _ _).2 ⟨j+1,HN.out.2.1,by rw[HN.out.1],?_,h2.trans (h1.below g2 h2.size)⟩)
    rw[HN.out.2.2.1];exact g1
   clear g1 g2 g3;go_wp2_with(fail);go_roundw
   case rel=>exact HR3.out
   case measure=>simp[intOf];omega
  obtain rfl:j=m:=by omega
  have hft:¬f<=t:=λh=>by
   have:=hfj.1 h;omega
  have HZ:Hid (P (.returned (.slice a j c)) wr):=Lh (Sl.out wr w1.heap.size _ H1.out.1.size HO.out.1 (H1.out.1.trans (HO.out.2.mono H1.out.1.size)));clear hO hB hlt n1 n2 n3 n4 n5 n6 n7 n8 n9 n10 hj hfj hf hp0 d0 d1 d2 d3 d4 d5;go_wp2_with(fail);exact HZ.out
end Go.Proofs.YtjeeghafachebaaGreat
