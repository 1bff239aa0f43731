/-
  30.
-/
import Derived.Test.YtjeeghafachebaaGreatU23
set_option maxRecDepth 100000
set_option maxHeartbeats 2000000
namespace Go.Proofs.YtjeeghafachebaaGreat
open Go Go.RowKit Go.Proofs.Tryz
theorem CP:∀(l m:List Int),Lib.allEq (λx y=>x==y) l m=decide (l=m)
 | [],[]=>rfl
 | [],_::_=>by simp[Lib.allEq]
 | _::_,[]=>by simp[Lib.allEq]
 | x::l,y::m=>by
  rw[Lib.allEq,CP l m];by_cases h1:x=y <;> by_cases h2:l=m <;> simp[h1,h2]
theorem zR(w:World)(t1 t2:Value)(l m:List Int)(h1:bA w t1 l)(h2:bA w t2 m)(hl:l.length<=1000000)(hm:m.length<=1000000):
  Calls prog 44 #[t1,t2] w (bE w (.bool (decide (l=m)))):=by
 obtain⟨a1,c1,rfl,_,h1⟩:=h1;obtain⟨a2,c2,rfl,_,h2⟩:=h2;by_cases hn:l.length=m.length
 ·by_cases hz:l.length=0
  ·have e1:l=[]:=List.length_eq_zero_iff.1 hz;have e2:m=[]:=List.length_eq_zero_iff.1 (hn ▸ hz);subst e1;subst e2;clear h1 h2 hl hm hn hz;simp only[List.length_nil];go_enter func44,ntmps44;go_wp2_with(fail);go_loopg [13] 0 (λ_ s13 wr=>s13=.int .i64 0/\wr=w)
   case atStart=>exact⟨rfl,rfl⟩
   case round=>
    obtain⟨rfl,hw⟩:=hrel;subst hw;go_wp2_with(fail);go_ret;exact⟨rfl,Br⟩
  rcases h1 with⟨_,rfl⟩ | ⟨b1,o1,rfl,_,h1⟩
  ·exact absurd rfl hz
  rcases h2 with⟨_,rfl⟩ | ⟨b2,o2,rfl,_,h2⟩
  ·exact absurd hn hz
  refine(AnyE.slices_Equal Tryz.QT (Value.int .i64) _ (NeqAt.int _ _ .i64) b1 o1 l.length c1 b2 o2 m.length c2 l m w (bfx _) (bfx _) (by omega) (by omega) (λj hj=>h1 j _ ?_) (λj hj=>h2 j _ ?_)).mono ?_
  ·rw[bfs hj,getElem!_pos l j hj]
  ·rw[bfs hj,getElem!_pos m j hj]
  rintro e w' ⟨rfl,k,hk⟩;refine⟨?_,by rw[hk];exact below_draws Br k⟩
  rw[bgs,bgs,CP]
 have hd:decide (l=m)=false:=bfq λe=>hn (by rw[e])
 rw[hd];clear hd h1 h2;obtain⟨p,hp⟩:=Nm (l.length);obtain⟨q,hq⟩:=Nm (m.length);rw[<-hp]at hl hn ⊢;rw[<-hq]at hm hn ⊢;clear hp hq;have hne:¬(p:Int)=(q:Int):=by omega
 go_enter func44,ntmps44;go_wp2_with(fail);go_ret;exact⟨rfl,Br⟩
def pR(x y:dS):Bool:=decide (x.n=y.n/\x.a=y.a/\x.top=y.top/\x.u=y.u/\x.v=y.v)
theorem MI(x y:dS):pR x y=true↔x=y:=by
 obtain⟨n1,a1,l1,u1,v1⟩:=x;obtain⟨n2,a2,l2,u2,v2⟩:=y;simp[pR]
theorem NH(w:World)(n1 a1:Int)(Sk z1:Value)(n2 a2:Int)(Sq z2:Value):bW ((w.alloc (.cells (bI n1 a1 Sk z1) 53)).alloc (.cells (bI n2 a2 Sq z2) 53)) w.heap.size n1 a1 Sk z1/\bW ((w.alloc (.cells (bI n1 a1 Sk z1) 53)).alloc (.cells (bI n2 a2 Sq z2) 53)) (w.heap.size+1) n2 a2 Sq z2/\Bw w ((w.alloc (.cells (bI n1 a1 Sk z1) 53)).alloc (.cells (bI n2 a2 Sq z2) 53)):=by
 have k1:=(Below.refl _ w).alloc (bfx _) (.cells (bI n1 a1 Sk z1) 53);have k2:=(Below.refl _ (w.alloc (.cells (bI n1 a1 Sk z1) 53))).alloc (bfx _) (.cells (bI n2 a2 Sq z2) 53);have hs:(w.alloc (.cells (bI n1 a1 Sk z1) 53)).heap.size=w.heap.size+1:=bq w _;refine⟨bW.below (bg5 w _) k2,?_,Tb k1 k2⟩;rw[<-hs];exact bg5 _ _
theorem Lp(w:World)(x y:dS)(Sk z1 Sq z2:Value)(h1:bA w Sk x.top)(h2:bA w Sq y.top)(k1:dw z1 x.u x.v)(k2:dw z2 y.u y.v)(hn1:x.top.length<=1000000)(hn2:y.top.length<=1000000):
  Calls prog 45 #[.agg (bI x.n x.a Sk z1),.agg (bI y.n y.a Sq z2)] w (bE w (.bool (pR x y))):=by
 obtain⟨r,hr⟩:=Nm (pR x y);rw[<-hr];have HR:=Lh hr;clear hr;obtain⟨rt,hrt⟩:=Nm (decide (x.top=y.top));obtain⟨rz,hrz⟩:=Nm (decide (x.u=y.u/\x.v=y.v));have HC:Hid (∀w',Bw w w'->Calls prog 44 #[Sk,Sq] w' (bE w' (.bool rt))):=by
  rw[hrt];exact Lh (λw' hB=>zR w' Sk Sq x.top y.top (h1.below hB) (h2.below hB) hn1 hn2)
 have heq:=lU.eql k1.1 k2.1;have hgd:=lU.guard k1.1 k2.1;rw[<-hrz]at heq;have Tp:Hid (r=(decide (x.n=y.n) && (decide (x.a=y.a) && (rt && rz)))):=by
  rw[HR.out,hrt,hrz,pR];refine Lh ?_;simp
 clear HR hrt hrz h1 h2 k1 k2 hn1 hn2;obtain⟨n1,a1,l1,u1,v1⟩:=x;obtain⟨n2,a2,l2,u2,v2⟩:=y;simp only at Tp ⊢;obtain⟨w1,hw1⟩:=Nm ((w.alloc (.cells (bI n1 a1 Sk z1) 53)).alloc (.cells (bI n2 a2 Sq z2) 53));obtain⟨b1,hb1⟩:=Nm (w.heap.size);obtain⟨b2,hb2⟩:=Nm (w.heap.size+1);have hs1:(w.alloc (.cells (bI n1 a1 Sk z1) 53)).heap.size=w.heap.size+1:=bq w _;have H1:Hid (bW w1 b1 n1 a1 Sk z1/\bW w1 b2 n2 a2 Sq z2/\Bw w w1):=by
  rw[hw1,hb1,hb2];exact Lh (NH w n1 a1 Sk z1 n2 a2 Sq z2)
 obtain⟨f0,f1,f2,f3⟩:=H1.out.1.d4;obtain⟨g0,g1,g2,g3⟩:=H1.out.2.1.d4;unfold bI at hw1 hs1 ⊢;go_enter func45,ntmps45;go_upto_region 1 with(fail);rw[<-hw1,<-hb2,<-hb1];clear hw1 hb1 hb2 hs1;by_cases hn:n1=n2
 ·subst hn;by_cases ha:a1=a2
  ·subst ha
   cases rt with
   | false=>
    obtain rfl:r=false:=by rw[Tp.out];simp
    go_wp2_with(fail);refine(HC.out w1 H1.out.2.2).mono ?_;rintro e w2 ⟨rfl,hB⟩;have HB:Hid (Bw w w2):=Lh (H1.out.2.2.trans (hB.mono H1.out.2.2.size));clear hB;dsimp only;go_wp2_with(fail);go_ret;exact⟨rfl,HB.out⟩
   | true=>
    obtain rfl:r=rz:=by rw[Tp.out];simp
    go_wp2_with(fail);refine(HC.out w1 H1.out.2.2).mono ?_;rintro e w2 ⟨rfl,hB⟩;have HB:Hid (Bw w w2):=Lh (H1.out.2.2.trans (hB.mono H1.out.2.2.size));obtain⟨f0,f1,f2,f3⟩:=(H1.out.1.below hB).d4;obtain⟨g0,g1,g2,g3⟩:=(H1.out.2.1.below hB).d4;clear hB;dsimp only;go_wp2_with(fail);go_ret;exact⟨rfl,HB.out⟩
  obtain rfl:r=false:=by rw[Tp.out];simp[ha]
  have e1:(a1==a2)=false:=by simpa using ha
  go_wp2_with(fail);go_ret;exact⟨rfl,H1.out.2.2⟩
 obtain rfl:r=false:=by rw[Tp.out];simp[hn]
 have e1:(n1==n2)=false:=by simpa using hn
 go_wp2_with(fail);go_ret;exact⟨rfl,H1.out.2.2⟩
end Go.Proofs.YtjeeghafachebaaGreat
