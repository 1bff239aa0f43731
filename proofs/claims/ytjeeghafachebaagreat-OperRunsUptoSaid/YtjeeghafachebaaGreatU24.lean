/-
  24.
-/
import Derived.Test.YtjeeghafachebaaGreatU22
import Derived.Lib.Overlaps
set_option maxRecDepth 100000
set_option maxHeartbeats 4000000
namespace Go.Proofs.YtjeeghafachebaaGreat
open Go Go.RowKit Go.Proofs.Tryz
theorem vK {a b:bg}(ha:a.bB=true)(hb:b.bB=true):rM a b=dK a b:=by
 rw[GL,ha,hb];rfl
theorem Pf {a b c:bg}(hb:b.bB=true)(h1:bJ a b)(h2:bJ b c)(h3:rM a b=false):rM a c=false:=by
 have rb:=cu hb;rw[rM,decide_eq_false_iff_not]at h3 ⊢;intro hac;apply h3;obtain⟨k,_,_⟩:=hac;unfold bJ at h1 h2;rcases h1 with h1 | ⟨e1,h1⟩
 ·rcases h2 with h2 | ⟨e2,h2⟩
  ·have:=tO h1 h2;rw[k,lY]at this;cases this
  rw[k,<-e2,lY]at h1;cases h1
 rcases h2 with h2 | ⟨e2,h2⟩
 ·rw[<-k,e1,lY]at h2;cases h2
 exact⟨e1,by omega,by omega⟩
def Cq(l:List bg)(i:Nat):Prop:=(pX l i).bB=true/\(0<i->vC (pX l (i-1)) (pX l i)=true)
theorem vw(l:List bg):dD l↔∀i<l.length,Cq l i:=by
 have hat:∀i (h:i<l.length),pX l i=l[i]:=λi h=>fF (bfs h);constructor
 ·intro h i hi;refine⟨by rw[hat i hi];exact h.1 _ (List.getElem_mem _),λh0=>?_⟩
  obtain⟨p1,p2⟩:=List.pairwise_iff_getElem.1 h.2 (i - 1) i (by omega) hi (by omega)
  rw[hat _ hi,hat (i-1) (by omega),vC,vK (h.1 _ (List.getElem_mem _)) (h.1 _ (List.getElem_mem _)),p2,bfr ((gI _ _).2 p1)]
  rfl
 intro h;have hr:∀i (hi:i<l.length),l[i].bB=true:=λi hi=>by
  have:=(h i hi).1
  rwa [hat i hi]at this
 have step:∀i (hi:i+1<l.length),bJ (l[i]'(by omega)) l[i+1]/\rM (l[i]'(by omega)) l[i+1]=false:=by
  intro i hi;have:=(h (i+1) hi).2 (by omega)
  rw[Nat.add_sub_cancel,hat _ hi,hat i (by omega),vC,bf8,bf0,Bool.not_eq_true']at this
  exact⟨(gI _ _).1 this.1,this.2⟩
 have far:∀d i (hi:i+d+1<l.length),bJ (l[i]'(by omega)) l[i+d+1]/\rM (l[i]'(by omega)) l[i+d+1]=false:=by
  intro d
  induction d with
  | zero=>intro i hi;exact step i hi
  | succ d ih=>
   intro i hi;obtain⟨a1,a2⟩:=ih i (by omega)
   obtain⟨b1,b2⟩:=step (i+d+1) hi;exact⟨a1.trans b1,Pf (hr _ (by omega)) a1 b1 a2⟩
 refine⟨λx hx=>?_,List.pairwise_iff_getElem.2 λi j hi hj hij=>?_⟩
 ·obtain⟨i,hi,rfl⟩:=List.getElem_of_mem hx;exact hr i hi
 obtain⟨d,rfl⟩:∃d,j=i+d+1:=⟨j - i - 1,by omega⟩
 obtain⟨a1,a2⟩:=far d i hj;exact⟨a1,by rw[<-vK (hr i hi) (hr _ hj)];exact a2⟩
theorem NL {l:List bg} {i:Nat}(hi:i<l.length)(h:¬Cq l i):decide (dD l)=false:=
 bfq λhs=>h ((vw l).1 hs i hi)
def Ny(w:World)(l:List bg)(v:Value)(wr:World):Prop:=∃i:Nat,i<=l.length/\v=.int .i64 (i:Int)/\(∀j<i,Cq l j)/\Bw w wr
theorem xy(w:World)(sa:Option Addr)(sc:Nat)(l:List bg)(hA:dF w sa l)(hk:∀x∈l,x.key.length<=1000000)(hn:l.length<=1000000):
  Calls prog 52 #[.slice sa l.length sc] w (bE w (.bool (decide (dD l)))):=by
 obtain⟨n,hN⟩:=Nm (l.length);obtain⟨P,hP⟩:=Nm (bE w (.bool (decide (dD l))));rw[<-hP,<-hN];have HN:Hid (n=l.length/\n<=1000000):=Lh ⟨hN,by omega⟩
 have Tx:n<=1000000:=by omega
 have HA:=Lh hA;have HK:Hid (∀(i:Nat) (x:bg),l[i]? =some x->x.key.length<=1000000):=Lh (λi x h=>hk x (bf3 h));have SF:Hid (∀wz i,i<n->¬Cq l i->Bw w wz->P (.returned (.bool false)) wz):=Lh (λwz i hi h hB=>by rw[hP,NL (by omega) h];exact⟨rfl,hB⟩)
 have Sl:Hid (∀wz,(∀j<n,Cq l j)->Bw w wz->P (.returned (.bool true)) wz):=Lh (λwz h hB=>by
  rw[hP,bfr ((vw l).2 (by rw[hN]at h;exact h))]
  exact⟨rfl,hB⟩)
 clear hN hA hk hn hP;go_enter func52,ntmps52;go_wp2_with(fail);go_loopw[7] (Ny w l) (λv _=>n-(intOf v).toNat)
 case atStart=>exact⟨0,bgi _,rfl,λj h=>absurd h (Nat.not_lt_zero _),Br⟩
 case round=>
  obtain⟨i,hi,rfl,hok,hB⟩:=hrel;rw[<-HN.out.1]at hi;have HO:=Lh (bfy hok hB);clear hok hB;by_cases hlt:i<n
  ·have hi0:(0:Int)<=(i:Int)/\(i:Int)<(n:Int):=by omega
   obtain⟨x,pa,oa,hx,hsa,c0,c1,c2⟩:=(HA.out.below HO.out.2).get (t:=i) (by rw[<-HN.out.1];exact hlt)
   subst hsa;have Ti:=Lh (bfy (HK.out i x hx) (bfy (fF hx) hlt));have HI0:=Lh hi0;obtain⟨xk,xl,xh⟩:=x;simp only at c0 c1 c2;clear hx hi hlt;go_upto_region 3 with(fail);refine bg4 ?_
   iterate 15 go_step
   refine bg6 rfl _ _ _ rfl wr.heap.size (bg.mk xk xl xh).cells rfl rfl 47 bX.cells (bg5 wr _) dh rfl (dH _) ?_;obtain⟨W1,hwx⟩:=Nm ((wr.alloc (Obj.cells #[.string ⟨#[]⟩,.int .i64 0,.int .i64 0] 47)).setRow wr.heap.size (bg.mk xk xl xh).cells);obtain⟨xb,hxb⟩:=Nm (wr.heap.size);have Sn:Hid (bZ W1 xb (bg.mk xk xl xh)/\Bw wr W1):=by
    obtain⟨k1,k2⟩:=dW wr (bg.mk xk xl xh);rw[hwx,hxb];exact Lh ⟨k1,k2⟩
   rw[<-hwx,<-hxb];clear hwx hxb c0 c1 c2;have HW1:Hid (Bw w W1):=Lh (HO.out.2.trans (Sn.out.2.mono HO.out.2.size));have SB:Hid (Bw W1 W1.drew):=(Below.refl _ W1).drew;obtain⟨VW,Vv⟩:=Nm (Value.agg (bg.mk xk xl xh).cells);have HD:Hid (∀w',Bw W1 w'->D3 w' xb xk xl xh):=Lh (λw' h=>(Sn.out.1.below h).d3);obtain⟨r,hr⟩:=Nm ((bg.mk xk xl xh).bB);have Xi:Hid (∀w',Calls prog 48 #[VW] w' (bE w' (.bool r))):=by
    rw[hr,Vv];exact Lh (λw'=>nT w' ⟨xk,xl,xh⟩ Ti.out.1)
   have HV:=Lh Vv;have Hr:=Lh hr;have XK:Hid (∀w',Bw W1 w'->Cq l i->Ny w l (.int .i64 ((i:Int)+1)) w'):=by
    refine Lh (λw' h hb=>⟨i+1,?_,by go_num,λj hj=>?_,Tb HW1.out h⟩)
    ·have:=HN.out.1;have:=Ti.out.2.2;omega
    by_cases e:j=i
    ·rw[e];exact hb
    exact HO.out.1 j (by omega)
   clear hr Vv
   cases r with
   | false=>
    have SA:Hid (∀w',Bw W1 w'->P (.returned (.bool false)) w'):=by
     refine Lh (λw' h=>SF.out w' i Ti.out.2.2 (λhk=>?_) (Tb HW1.out h));have:=hk.1;rw[Ti.out.2.1,<-Hr.out]at this;cases this
    go_upto_region 4 with(fail);refine bD (λi=>([4,5,6,7,8,9,10,11,12,13,14,15]:List Nat).contains i) (by kernel_rfl) (NoF (NoF (NoF [none,none]))) [] (λi_ _ _ v_=>v_=((VW::([.bool false,.bool true,.bool true,undef,undef,undef,undef,undef,undef,undef,undef,undef,undef,undef,undef,.bool true]:List Value))).getD i_ undef) (λ_ w'=>Bw W1 w') (λw w'=>Bw w w') (λ_ _ _ _ _ _ h=>h) (by kernel_rfl) (by kernel_rfl) (by kernel_rfl) SB.out (λ_=>⟨rfl,rfl,rfl,rfl,IlA,IlA,IlA,λ_ _ h=> .inr ⟨rfl,h⟩,λ_ _ h=> .inr ⟨rfl,h⟩,λ_ _ h=> .inr ⟨rfl,h⟩,λ_ _ h=> .inr ⟨rfl,h⟩,λ_ _ h=> .inr ⟨rfl,h⟩,λ_ _ h=> .inr ⟨rfl,h⟩,λ_ _ h=> .inr ⟨rfl,h⟩,λ_ _ h=> .inr ⟨rfl,h⟩,IlA,rfl,trivial⟩) (λi hi=>by have hm:=List.contains_iff_mem.1 hi;simp only[bf2,bf9,or_false]at hm;rcases hm with rfl | rfl | rfl | rfl | rfl | rfl | rfl | rfl | rfl | rfl | rfl | rfl <;> exact⟨rfl,λ_ _=>rfl⟩) ?_ ?_
    ·refine ⟨?_,?_,?_,?_,?_,?_,?_,?_,?_,?_,?_,?_,?_,?_,?_,?_,?_,trivial⟩<;>(first|exact λh=>absurd h (by decide)|intro _ k a w' hG Si Sj K hK)<;>replace Si:=Lh Si<;>replace Sj:=Lh Sj
     ·have q4:=FaA Si 4 xb 0;obtain⟨d0,d1,d2⟩:=HD.out w' hG;go_step;exact hK _ _ HV.out.symm hG Br
     ·have VU:=Ep a 12 VW Sj.out.1;have HS:=Lh (Xi.out w');go_step;refine HS.out.mono ?_;rintro e w3 ⟨rfl,hB⟩;exact hK _ _ rfl (Tb hG hB) hB
     have YR:=Ep a 13 (.bool false) Sj.out.1;rotate_left;have Ww:=Ep a 14 (.bool true) Sj.out.1;rotate_left;have Xv:=Ep a 15 (.bool true) Sj.out.1;have Xe:=Ep a 27 undef Sj.out.2.1;rotate_left
     all_goals(go_step;exact hK _ _ rfl hG Br)
    intro vs w2 hG hlen hV
    match vs,hlen,hV with
    | [v0,v1,v2,v3,v4,v5,v6,v7,v8,v9,v10,v11,v12,v13,v14,v15,v16],_,hV=>
     obtain rfl:v16=.bool true:=(hV 16 28 v16 rfl rfl);clear hV;simp only[dG,bf7,bf1];simp only[Act.put,bfw,bfu,bfv];have HZ:=Lh (SA.out w2 hG);clear hG;go_wp2_with(fail);exact HZ.out
   | true=>
    by_cases hz:i=0
    ·subst hz;have Ya:Hid (Cq l 0):=Lh ⟨by rw[Ti.out.2.1];exact Hr.out.symm,λh=>absurd h (Nat.lt_irrefl _)⟩
     rw[show((0:Nat):Int)=0 from rfl]at hi0 ⊢;rw[show((0:Nat):Int)=0 from rfl]at XK;go_upto_region 4 with(fail);refine bD (λi=>([7,8,9,10,11,12,13,14]:List Nat).contains i) (by kernel_rfl) (NoF (NoF (NoF [none,none]))) [] (λi_ _ _ v_=>v_=((VW::([.bool true,.bool false,.bool false,.int .i64 (0:Int),.bool false,.bool false,undef,undef,undef,undef,undef,undef,undef,undef,.bool false,.bool false]:List Value))).getD i_ undef) (λ_ w'=>Bw W1 w') (λw w'=>Bw w w') (λ_ _ _ _ _ _ h=>h) (by kernel_rfl) (by kernel_rfl) (by kernel_rfl) SB.out (λ_=>⟨rfl,rfl,rfl,rfl,IlA,IlA,IlA,IlA,IlA,IlA,IlA,IlA,IlA,IlA,IlA,IlA,rfl,trivial⟩) (λi hi=>by have hm:=List.contains_iff_mem.1 hi;simp only[bf2,bf9,or_false]at hm;rcases hm with rfl | rfl | rfl | rfl | rfl | rfl | rfl | rfl <;> exact⟨rfl,λ_ _=>rfl⟩) ?_ ?_
     ·refine ⟨?_,?_,?_,?_,?_,?_,?_,?_,?_,?_,?_,?_,?_,?_,?_,?_,?_,trivial⟩<;>(first|exact λh=>absurd h (by decide)|intro _ k a w' hG Si Sj K hK)<;>replace Si:=Lh Si<;>replace Sj:=Lh Sj
      ·have q4:=FaA Si 4 xb 0;obtain⟨d0,d1,d2⟩:=HD.out w' hG;go_step;exact hK _ _ HV.out.symm hG Br
      ·have VU:=Ep a 12 VW Sj.out.1;have HS:=Lh (Xi.out w');go_step;refine HS.out.mono ?_;rintro e w3 ⟨rfl,hB⟩;exact hK _ _ rfl (Tb hG hB) hB
      have YR:=Ep a 13 (.bool true) Sj.out.1;rotate_left;have Ww:=Ep a 14 (.bool false) Sj.out.1;rotate_left;have q3:=FiA Si 3 0;rotate_left;have q16:=Pi a 16 0 Sj.out.1;rotate_left;have Wx:=Ep a 17 (.bool false) Sj.out.1;rotate_left;have Vn:=Ep a 18 (.bool false) Sj.out.1;have V5:=Ep a 26 undef Sj.out.2.1;rotate_left;have Xv:=Ep a 15 (.bool false) Sj.out.1;have Xe:=Ep a 27 (.bool false) Sj.out.2.1;rotate_left
      all_goals(go_step;exact hK _ _ rfl hG Br)
     intro vs w2 hG hlen hV
     match vs,hlen,hV with
     | [v0,v1,v2,v3,v4,v5,v6,v7,v8,v9,v10,v11,v12,v13,v14,v15,v16],_,hV=>
      obtain rfl:v16=.bool false:=(hV 16 28 v16 rfl rfl);clear hV;simp only[dG,bf7,bf1];simp only[Act.put,bfw,bfu,bfv];have HZ:=Lh (XK.out w2 hG Ya.out);have HJ:=Lh Ti.out.2.2;clear hG;go_wp2_with(fail);go_roundw
      case rel=>exact HZ.out
      case measure=>have:=HJ.out;simp[intOf];omega
    obtain⟨m,rfl⟩:∃m,i=m+1:=⟨i - 1,by omega⟩
    obtain⟨y,pc,oc,hy,hpc,_⟩:=HA.out.get (t:=m) (by have:=Ti.out.2.2;rw[<-HN.out.1];omega)
    cases hpc
    obtain⟨b,hb⟩:=Nm (vC y ⟨xk,xl,xh⟩);obtain⟨VP,Ws⟩:=Nm (Value.agg y.cells);have UK:Hid (∀w',Calls prog 88 #[VP,VW] w' (bE w' (.bool b))):=by
     rw[Ws,HV.out,hb];exact Lh (λw'=>Kk w' y ⟨xk,xl,xh⟩)
    have Tn:Hid (Cq l (m+1)↔b=true):=by
     refine Lh ?_;unfold Cq;rw[Ti.out.2.1,<-Hr.out,Nat.add_sub_cancel,fF hy,<-hb];exact⟨λh=>h.2 (by omega),λh=>⟨rfl,λ_=>h⟩⟩
    have HY:Hid (∀w',Bw W1 w'->w'.cell? ⟨pa,oa+m*3,none⟩=some (Sv y.key)/\w'.cell? ⟨pa,oa+m*3+1,none⟩=some (.int .i64 y.lo)/\w'.cell? ⟨pa,oa+m*3+2,none⟩=some (.int .i64 y.hi)):=by
     refine Lh (λw' h=>?_);obtain⟨x',b',o',hx',ha',d⟩:=(HA.out.below (Tb HW1.out h)).get (t:=m) (by have:=Ti.out.2.2;rw[<-HN.out.1];omega)
     cases ha'
     rw[hy]at hx';cases hx'
     exact d
    obtain⟨yk,yl,yh⟩:=y;have HVP:=Lh Ws;have Yb:Hid ((0:Int)<((m+1:Nat):Int)):=Lh (by omega)
    have YY:Hid (((m+1:Nat):Int)-1=(m:Int)/\(0:Int)<=((m+1:Nat):Int)/\((m+1:Nat):Int)<=1000000):=Lh (by have:=Ti.out.2.2;have:=HN.out.2;omega)
    have HI1:Hid ((0:Int)<=(m:Int)/\(m:Int)<(n:Int)):=Lh (by have:=Ti.out.2.2;omega)
    clear hy hz Ws hb
    cases b with
    | false=>
     have SA:Hid (∀w',Bw W1 w'->P (.returned (.bool false)) w'):=by
      refine Lh (λw' h=>SF.out w' (m+1) Ti.out.2.2 (λhk=>?_) (Tb HW1.out h));have:=Tn.out.1 hk;cases this
     go_upto_region 4 with(fail);refine bD (λi=>([]:List Nat).contains i) (by kernel_rfl) (NoF (NoF (NoF [none,none]))) [] (λi_ _ _ v_=>v_=((VW::(Value.bool true)::(Value.bool false)::(Value.bool false)::(Value.int .i64 (((m+1:Nat)):Int))::(Value.bool true)::(Value.bool true)::(Value.slice (some ⟨pa,oa,none⟩) n sc)::(Value.int .i64 (((m+1:Nat)):Int))::(Value.int .i64 (m:Int))::(Value.pointer (some ⟨pa,oa+m*3,none⟩))::VP::VW::([.bool false,.bool true,.bool true,.bool true]:List Value))).getD i_ undef) (λ_ w'=>Bw W1 w') (λw w'=>Bw w w') (λ_ _ _ _ _ _ h=>h) (by kernel_rfl) (by kernel_rfl) (by kernel_rfl) SB.out (λ_=>⟨rfl,rfl,rfl,rfl,IlA,IlA,IlA,IlA,IlA,IlA,IlA,IlA,IlA,IlA,IlA,IlA,rfl,trivial⟩) (λ_ h=>by simp at h) ?_ ?_
     ·refine ⟨?_,?_,?_,?_,?_,?_,?_,?_,?_,?_,?_,?_,?_,?_,?_,?_,?_,trivial⟩<;>intro _ k a w' hG Si Sj K hK<;>replace Si:=Lh Si<;>replace Sj:=Lh Sj
      ·have q4:=FaA Si 4 xb 0;obtain⟨d0,d1,d2⟩:=HD.out w' hG;go_step;exact hK _ _ HV.out.symm hG Br
      ·have VU:=Ep a 12 VW Sj.out.1;have HS:=Lh (Xi.out w');go_step;refine HS.out.mono ?_;rintro e w3 ⟨rfl,hB⟩;exact hK _ _ rfl (Tb hG hB) hB
      have YR:=Ep a 13 (.bool true) Sj.out.1;rotate_left;have Ww:=Ep a 14 (.bool false) Sj.out.1;rotate_left;have q3:=FoA Si 3 (.int .i64 (((m+1:Nat)):Int));rotate_left;have q16:=Ep a 16 (.int .i64 (((m+1:Nat)):Int)) Sj.out.1;have hgt:=Yb.out;rotate_left;have Wx:=Ep a 17 (.bool true) Sj.out.1;rotate_left;have q0:=FoA Si 0 (.slice (some ⟨pa,oa,none⟩) n sc);rotate_left;have q3:=FoA Si 3 (.int .i64 (((m+1:Nat)):Int));rotate_left;have Wy:=Ep a 20 (.int .i64 (((m+1:Nat)):Int)) Sj.out.1;have him:=YY.out;rotate_left;have VV:=Ep a 19 (.slice (some ⟨pa,oa,none⟩) n sc) Sj.out.1;have VZ:=Pi a 21 m Sj.out.2.1;have hi0:=HI1.out;rotate_left
      ·have q22:=Ep a 22 (.pointer (some ⟨pa,oa+m*3,none⟩)) Sj.out.1;obtain⟨d0,d1,d2⟩:=HY.out w' hG;go_step;exact hK _ _ HVP.out.symm hG Br
      ·have q4:=FaA Si 4 xb 0;obtain⟨d0,d1,d2⟩:=HD.out w' hG;go_step;exact hK _ _ HV.out.symm hG Br
      ·have Wi:=Ep a 23 VP Sj.out.1;have q24:=Ep a 24 VW Sj.out.2.1;have HS:=Lh (UK.out w');go_step;refine HS.out.mono ?_;rintro e w3 ⟨rfl,hB⟩;exact hK _ _ rfl (Tb hG hB) hB
      have V3:=Ep a 25 (.bool false) Sj.out.1;rotate_left;have Vn:=Ep a 18 (.bool true) Sj.out.1;have V5:=Ep a 26 (.bool true) Sj.out.2.1;rotate_left;have Xv:=Ep a 15 (.bool false) Sj.out.1;have Xe:=Ep a 27 (.bool true) Sj.out.2.1;rotate_left
      all_goals(go_step;exact hK _ _ rfl hG Br)
     intro vs w2 hG hlen hV
     match vs,hlen,hV with
     | [v0,v1,v2,v3,v4,v5,v6,v7,v8,v9,v10,v11,v12,v13,v14,v15,v16],_,hV=>
      obtain rfl:v16=.bool true:=(hV 16 28 v16 rfl rfl);clear hV;simp only[dG,bf7,bf1];simp only[Act.put,bfw,bfu,bfv];have HZ:=Lh (SA.out w2 hG);clear hG;go_wp2_with(fail);exact HZ.out
    | true=>
     have Ya:Hid (Cq l (m+1)):=Lh (Tn.out.2 rfl);go_upto_region 4 with(fail);refine bD (λi=>([]:List Nat).contains i) (by kernel_rfl) (NoF (NoF (NoF [none,none]))) [] (λi_ _ _ v_=>v_=((VW::(Value.bool true)::(Value.bool false)::(Value.bool false)::(Value.int .i64 (((m+1:Nat)):Int))::(Value.bool true)::(Value.bool true)::(Value.slice (some ⟨pa,oa,none⟩) n sc)::(Value.int .i64 (((m+1:Nat)):Int))::(Value.int .i64 (m:Int))::(Value.pointer (some ⟨pa,oa+m*3,none⟩))::VP::VW::([.bool true,.bool false,.bool false,.bool false]:List Value))).getD i_ undef) (λ_ w'=>Bw W1 w') (λw w'=>Bw w w') (λ_ _ _ _ _ _ h=>h) (by kernel_rfl) (by kernel_rfl) (by kernel_rfl) SB.out (λ_=>⟨rfl,rfl,rfl,rfl,IlA,IlA,IlA,IlA,IlA,IlA,IlA,IlA,IlA,IlA,IlA,IlA,rfl,trivial⟩) (λ_ h=>by simp at h) ?_ ?_
     ·refine ⟨?_,?_,?_,?_,?_,?_,?_,?_,?_,?_,?_,?_,?_,?_,?_,?_,?_,trivial⟩<;>intro _ k a w' hG Si Sj K hK<;>replace Si:=Lh Si<;>replace Sj:=Lh Sj
      ·have q4:=FaA Si 4 xb 0;obtain⟨d0,d1,d2⟩:=HD.out w' hG;go_step;exact hK _ _ HV.out.symm hG Br
      ·have VU:=Ep a 12 VW Sj.out.1;have HS:=Lh (Xi.out w');go_step;refine HS.out.mono ?_;rintro e w3 ⟨rfl,hB⟩;exact hK _ _ rfl (Tb hG hB) hB
      have YR:=Ep a 13 (.bool true) Sj.out.1;rotate_left;have Ww:=Ep a 14 (.bool false) Sj.out.1;rotate_left;have q3:=FoA Si 3 (.int .i64 (((m+1:Nat)):Int));rotate_left;have q16:=Ep a 16 (.int .i64 (((m+1:Nat)):Int)) Sj.out.1;have hgt:=Yb.out;rotate_left;have Wx:=Ep a 17 (.bool true) Sj.out.1;rotate_left;have q0:=FoA Si 0 (.slice (some ⟨pa,oa,none⟩) n sc);rotate_left;have q3:=FoA Si 3 (.int .i64 (((m+1:Nat)):Int));rotate_left;have Wy:=Ep a 20 (.int .i64 (((m+1:Nat)):Int)) Sj.out.1;have him:=YY.out;rotate_left;have VV:=Ep a 19 (.slice (some ⟨pa,oa,none⟩) n sc) Sj.out.1;have VZ:=Pi a 21 m Sj.out.2.1;have hi0:=HI1.out;rotate_left
      ·have q22:=Ep a 22 (.pointer (some ⟨pa,oa+m*3,none⟩)) Sj.out.1;obtain⟨d0,d1,d2⟩:=HY.out w' hG;go_step;exact hK _ _ HVP.out.symm hG Br
      ·have q4:=FaA Si 4 xb 0;obtain⟨d0,d1,d2⟩:=HD.out w' hG;go_step;exact hK _ _ HV.out.symm hG Br
      ·have Wi:=Ep a 23 VP Sj.out.1;have q24:=Ep a 24 VW Sj.out.2.1;have HS:=Lh (UK.out w');go_step;refine HS.out.mono ?_;rintro e w3 ⟨rfl,hB⟩;exact hK _ _ rfl (Tb hG hB) hB
      have V3:=Ep a 25 (.bool true) Sj.out.1;rotate_left;have Vn:=Ep a 18 (.bool true) Sj.out.1;have V5:=Ep a 26 (.bool false) Sj.out.2.1;rotate_left;have Xv:=Ep a 15 (.bool false) Sj.out.1;have Xe:=Ep a 27 (.bool false) Sj.out.2.1;rotate_left
      all_goals(go_step;exact hK _ _ rfl hG Br)
     intro vs w2 hG hlen hV
     match vs,hlen,hV with
     | [v0,v1,v2,v3,v4,v5,v6,v7,v8,v9,v10,v11,v12,v13,v14,v15,v16],_,hV=>
      obtain rfl:v16=.bool false:=(hV 16 28 v16 rfl rfl);clear hV;simp only[dG,bf7,bf1];simp only[Act.put,bfw,bfu,bfv];have HZ:=Lh (XK.out w2 hG Ya.out);have HJ:=Lh Ti.out.2.2;clear hG;go_wp2_with(fail);go_roundw
      case rel=>exact HZ.out
      case measure=>have:=HJ.out;simp[intOf];omega
  obtain rfl:i=n:=by omega
  have HZ:Hid (P (.returned (.bool true)) wr):=Sl.out _ HO.out.1 HO.out.2;clear hlt hi;go_wp2_with(fail);exact HZ.out
def ky(l:List bg)(t:bg)(p:Nat):Prop:=p<=l.length/\(∀i<p,bJ (pX l i) t)/\(∀i,p<=i->i<l.length->¬bJ (pX l i) t)
def DR(w:World)(l:List bg)(t:bg)(e:Ending)(w':World):Prop:=∃(p:Nat) (b:Bool),e=.returned (.tuple #[.int .i64 (p:Int),.bool b])/\ky l t p/\Bw w w'
def La(w:World)(l:List bg)(t:bg)(s9 s10:Value)(wr:World):Prop:=
 ∃lo hi:Nat,s9=.int .i64 (lo:Int)/\s10=.int .i64 (hi:Int)/\lo<=hi/\hi<=l.length/\(∀i<lo,bJ (pX l i) t)/\(∀i,hi<=i->i<l.length->¬bJ (pX l i) t)/\Bw w wr
def PY(a b:Value):Nat:=(intOf b).toNat-(intOf a).toNat
theorem Gi(w:World)(sa:Option Addr)(sc:Nat)(l:List bg)(t:bg)(hA:dF w sa l)(hs:l.Pairwise bJ)(hn:l.length<=1000000):
  Calls prog 120 #[.slice sa l.length sc,.agg t.cells,.func (.func 54) #[] #[]] w (DR w l t):=by
 obtain⟨n,hN⟩:=Nm (l.length);obtain⟨P,hP⟩:=Nm (DR w l t);rw[<-hP,<-hN];have HN:Hid (n=l.length/\n<=1000000):=Lh ⟨hN,by omega⟩
 have Tx:n<=1000000:=by omega
 have HA:=Lh hA;have Sl:Hid (∀wz (p:Nat) b,ky l t p->Bw w wz->P (.returned (.tuple #[.int .i64 (p:Int),.bool b])) wz):=Lh (λwz p b h hB=>by
  rw[hP];exact⟨p,b,rfl,h,hB⟩)
 have HM:Hid (∀i j,i<=j->j<n->bJ (pX l j) t->bJ (pX l i) t):=by
  refine Lh (λi j hij hj h=>?_);rw[hN]at hj;rcases bg1 i j with h' | h'
  ·have:=List.pairwise_iff_getElem.1 hs i j (by omega) hj h'
   rw[fF (bfs hj)]at h;rw[fF (bfs (show i<l.length by omega))]
   exact this.trans h
  obtain rfl:i=j:=by omega
  exact h
 obtain⟨w1,hw1⟩:=Nm (w.alloc (.cells t.cells 47));obtain⟨tb,htb⟩:=Nm (w.heap.size);have H1:Hid (bZ w1 tb t/\Bw w w1):=by
  rw[hw1,htb];exact Lh ⟨bg5 w _,(Below.refl _ w).alloc (bfx _) _⟩
 obtain⟨T,hT⟩:=Nm t;have HT:=Lh hT;rw[<-hT]at H1 Sl HM;obtain⟨tk,tl,th⟩:=t;unfold bg.cells at hw1 ⊢;simp only at hw1 ⊢;clear hN hA hn hP hs hT;go_enter func120,ntmps120;go_upto_region 1 with(fail);rw[<-hw1,<-htb];clear hw1 htb;go_wp2_with(fail);go_loopw[9,10] (La w1 l T) (λa b _=>PY a b)
 case atStart=>exact⟨0,n,rfl,rfl,bgi _,by rw[HN.out.1];exact bfx _,λi h=>absurd h (Nat.not_lt_zero _),λi h1 h2=>by have:=HN.out.1;omega,Br⟩
 case round=>
  obtain⟨lo,hi,rfl,rfl,hlh,hhn,h1,h2,hB⟩:=hrel;rw[<-HN.out.1]at hhn h2;have HB:=Lh (bfy h1 (bfy h2 (bfy hB (bfy hlh hhn))));clear h1 h2 hB;have SB:Hid (Bw wr wr.drew):=(Below.refl _ wr).drew;have SG:Hid (∀w',Bw wr w'->D3 w' tb tk tl th):=by
   refine Lh (λw' h=>?_);have:=((H1.out.1.below HB.out.2.2.1).below h).d3;rw[HT.out]at this;exact this
  obtain⟨VT,VK⟩:=Nm (Value.agg #[Sv tk,.int .i64 tl,.int .i64 th]);have aR:=Lh VK;have HB1:Hid (∀w',Bw wr w'->Bw w1 w'):=Lh (λw' h=>HB.out.2.2.1.trans (h.mono HB.out.2.2.1.size));by_cases hlt:lo<hi
  ·obtain⟨m,hm⟩:=Nm ((lo+hi) / 2);have hmid:lo<=m/\m<hi:=by omega
   have hme:((lo:Int)+(hi:Int)) / 2=(m:Int):=by omega
   obtain⟨x,pa,po,hx,hsa,_⟩:=HA.out.get (t:=m) (by rw[<-HN.out.1];omega)
   subst hsa;have HX:Hid (∀w',Bw wr w'->w'.cell? ⟨pa,po+m*3,none⟩=some (Sv x.key)/\w'.cell? ⟨pa,po+m*3+1,none⟩=some (.int .i64 x.lo)/\w'.cell? ⟨pa,po+m*3+2,none⟩=some (.int .i64 x.hi)):=by
    refine Lh (λw' h=>?_);obtain⟨x',b',o',hx',ha',d⟩:=((HA.out.below H1.out.2).below (HB1.out w' h)).get (t:=m) (by rw[<-HN.out.1];omega)
    cases ha'
    rw[hx]at hx';cases hx'
    exact d
   obtain⟨VX,Vw⟩:=Nm (Value.agg x.cells);obtain⟨p,hp⟩:=Nm (gG x T);have V6:Hid (∀w',Calls prog 54 #[VX,VT] w' (bE w' (.int .i64 p))):=by
    rw[Vw,VK,hp,HT.out];exact Lh (λw'=>nR w' x ⟨tk,tl,th⟩)
   have V9:=Lh Vw;have oK:Hid (p<0↔bJ (pX l m) T):=by
    rw[hp,fF hx];exact Lh (gI _ _)
   have HI0:Hid ((0:Int)<=(m:Int)/\(m:Int)<(n:Int)):=Lh (by omega)
   have Hm:=Lh (bfy hmid (bfy hhn Tx));obtain⟨xk,xl,xh⟩:=x;clear hx Vw hp hm;by_cases hp0:p<0
   ·have Tz:Hid (p<0):=Lh hp0;have HZ:Hid (∀w',Bw wr w'->La w1 l T (.int .i64 ((m:Int)+1)) (.int .i64 (hi:Int)) w'):=by
     refine Lh (λw' h=>⟨m+1,hi,by go_num,rfl,by have:=Hm.out;omega,by rw[<-HN.out.1];exact Hm.out.2.1,λi h1=>?_,by rw[<-HN.out.1];exact HB.out.2.1,HB1.out w' h⟩)
     exact HM.out i m (by omega) (by have:=Hm.out;omega) (oK.out.1 Tz.out)
    clear hp0;go_upto_region 5 with(fail);clear hme hmid hlt hlh hhn VK;refine bD (λi=>([]:List Nat).contains i) (by kernel_rfl) (NoF [none,none,none]) [] (λi_ _ _ v_=>v_=(((Value.func (.func 54) #[] #[])::(Value.slice (some ⟨pa,po,none⟩) n sc)::(Value.int .i64 (m:Int))::(Value.pointer (some ⟨pa,po+m*3,none⟩))::VX::VT::([.int .i64 p,.bool true]:List Value))).getD i_ undef) (λ_ w'=>Bw wr w') (λw w'=>Bw w w') (λ_ _ _ _ _ _ h=>h) (by kernel_rfl) (by kernel_rfl) (by kernel_rfl) SB.out (λ_=>⟨rfl,rfl,rfl,rfl,rfl,rfl,rfl,rfl,trivial⟩) (λ_ h=>by simp at h) ?_ ?_
    ·refine ⟨?_,?_,?_,?_,?_,?_,?_,?_,trivial⟩<;>intro _ _ a w' hG Si Sj K hK<;>replace Si:=Lh Si<;>replace Sj:=Lh Sj
     have q2:=FoA Si 2 (.func (.func 54) #[] #[]);rotate_left;have q0:=FoA Si 0 (.slice (some ⟨pa,po,none⟩) n sc);rotate_left;have Zp:=FiA Si 11 m;rotate_left;have V3:=Ep a 25 (.slice (some ⟨pa,po,none⟩) n sc) Sj.out.1;have V5:=Pi a 26 m Sj.out.2.1;have hi0:=HI0.out;rotate_left
     ·have Xe:=Ep a 27 (.pointer (some ⟨pa,po+m*3,none⟩)) Sj.out.1;obtain⟨d0,d1,d2⟩:=HX.out w' hG;go_step;exact hK _ _ V9.out.symm hG Br
     ·have q4:=FaA Si 4 tb 0;obtain⟨d0,d1,d2⟩:=SG.out w' hG;go_step;exact hK _ _ aR.out.symm hG Br
     ·have q24:=Ep a 24 (.func (.func 54) #[] #[]) Sj.out.1;have XW:=Ep a 28 VX Sj.out.2.1;have YC:=Ep a 29 VT Sj.out.2.2.1;have HS:=Lh (V6.out w');go_step;refine HS.out.mono ?_;rintro e w3 ⟨rfl,hB⟩;exact hK _ _ rfl (Tb hG hB) hB
     have ZY:=Pi a 30 p Sj.out.1;have hp:=Tz.out;rotate_left
     all_goals(go_step;exact hK _ _ rfl hG Br)
    intro vs w2 hG hlen hV
    match vs,hlen,hV with
    | [v0,v1,v2,v3,v4,v5,v6,v7],_,hV=>
     obtain rfl:v7=.bool true:=(hV 7 31 v7 rfl rfl);clear hV;simp only[dG,bf7,bf1];simp only[Act.put,bfw,bfu,bfv];have Tw:=Lh (HZ.out w2 hG);have XJ:=Lh Hm.out;have YP:(m:Int)<=1000000:=by have:=Hm.out;omega
     clear hG;go_wp2_with(fail);go_roundw
     case rel=>exact Tw.out
     case measure=>have:=XJ.out;simp[PY,intOf];omega
   have Tz:Hid (decide (p<0)=false):=Lh (bfq hp0);have HZ:Hid (∀w',Bw wr w'->La w1 l T (.int .i64 (lo:Int)) (.int .i64 (m:Int)) w'):=by
    refine Lh (λw' h=>⟨lo,m,rfl,rfl,Hm.out.1.1,by rw[<-HN.out.1];have:=Hm.out;omega,HB.out.1,λi h1 h2 hc=>?_,HB1.out w' h⟩)
    exact hp0 (oK.out.2 (HM.out m i h1 (by rw[HN.out.1];exact h2) hc))
   clear hp0;go_upto_region 5 with(fail);clear hme hmid hlt hlh hhn VK;refine bD (λi=>([]:List Nat).contains i) (by kernel_rfl) (NoF [none,none,none]) [] (λi_ _ _ v_=>v_=(((Value.func (.func 54) #[] #[])::(Value.slice (some ⟨pa,po,none⟩) n sc)::(Value.int .i64 (m:Int))::(Value.pointer (some ⟨pa,po+m*3,none⟩))::VX::VT::([.int .i64 p,.bool false]:List Value))).getD i_ undef) (λ_ w'=>Bw wr w') (λw w'=>Bw w w') (λ_ _ _ _ _ _ h=>h) (by kernel_rfl) (by kernel_rfl) (by kernel_rfl) SB.out (λ_=>⟨rfl,rfl,rfl,rfl,rfl,rfl,rfl,rfl,trivial⟩) (λ_ h=>by simp at h) ?_ ?_
   ·refine ⟨?_,?_,?_,?_,?_,?_,?_,?_,trivial⟩<;>intro _ _ a w' hG Si Sj K hK<;>replace Si:=Lh Si<;>replace Sj:=Lh Sj
    have q2:=FoA Si 2 (.func (.func 54) #[] #[]);rotate_left;have q0:=FoA Si 0 (.slice (some ⟨pa,po,none⟩) n sc);rotate_left;have Zp:=FiA Si 11 m;rotate_left;have V3:=Ep a 25 (.slice (some ⟨pa,po,none⟩) n sc) Sj.out.1;have V5:=Pi a 26 m Sj.out.2.1;have hi0:=HI0.out;rotate_left
    ·have Xe:=Ep a 27 (.pointer (some ⟨pa,po+m*3,none⟩)) Sj.out.1;obtain⟨d0,d1,d2⟩:=HX.out w' hG;go_step;exact hK _ _ V9.out.symm hG Br
    ·have q4:=FaA Si 4 tb 0;obtain⟨d0,d1,d2⟩:=SG.out w' hG;go_step;exact hK _ _ aR.out.symm hG Br
    ·have q24:=Ep a 24 (.func (.func 54) #[] #[]) Sj.out.1;have XW:=Ep a 28 VX Sj.out.2.1;have YC:=Ep a 29 VT Sj.out.2.2.1;have HS:=Lh (V6.out w');go_step;refine HS.out.mono ?_;rintro e w3 ⟨rfl,hB⟩;exact hK _ _ rfl (Tb hG hB) hB
    have ZY:=Pi a 30 p Sj.out.1;have hp:=Tz.out;rotate_left
    all_goals(go_step;exact hK _ _ rfl hG Br)
   intro vs w2 hG hlen hV
   match vs,hlen,hV with
   | [v0,v1,v2,v3,v4,v5,v6,v7],_,hV=>
    obtain rfl:v7=.bool false:=(hV 7 31 v7 rfl rfl);clear hV;simp only[dG,bf7,bf1];simp only[Act.put,bfw,bfu,bfv];have Tw:=Lh (HZ.out w2 hG);have XJ:=Lh Hm.out;have YP:(m:Int)<=1000000:=by have:=Hm.out;omega
    clear hG;go_wp2_with(fail);go_roundw
    case rel=>exact Tw.out
    case measure=>have:=XJ.out;simp[PY,intOf];omega
  obtain rfl:hi=lo:=by omega
  have VI:Hid (ky l T hi):=Lh ⟨by rw[<-HN.out.1];exact hhn,HB.out.1,by rw[<-HN.out.1];exact HB.out.2.1⟩
  have TI:Hid (∀w' b,Bw wr w'->P (.returned (.tuple #[.int .i64 (hi:Int),.bool b])) w'):=Lh (λw' b h=>Sl.out w' hi b VI.out (H1.out.2.trans ((HB1.out w' h).mono H1.out.2.size)));by_cases hin:hi<n
  ·obtain⟨x,pa,po,hx,hsa,_⟩:=HA.out.get (t:=hi) (by rw[<-HN.out.1];omega)
   subst hsa;have HX:Hid (∀w',Bw wr w'->w'.cell? ⟨pa,po+hi*3,none⟩=some (Sv x.key)/\w'.cell? ⟨pa,po+hi*3+1,none⟩=some (.int .i64 x.lo)/\w'.cell? ⟨pa,po+hi*3+2,none⟩=some (.int .i64 x.hi)):=by
    refine Lh (λw' h=>?_);obtain⟨x',b',o',hx',ha',d⟩:=((HA.out.below H1.out.2).below (HB1.out w' h)).get (t:=hi) (by rw[<-HN.out.1];omega)
    cases ha'
    rw[hx]at hx';cases hx'
    exact d
   obtain⟨VX,Vw⟩:=Nm (Value.agg x.cells);obtain⟨p,hp⟩:=Nm (gG x T);have V6:Hid (∀w',Calls prog 54 #[VX,VT] w' (bE w' (.int .i64 p))):=by
    rw[Vw,VK,hp,HT.out];exact Lh (λw'=>nR w' x ⟨tk,tl,th⟩)
   have V9:=Lh Vw;have HI0:Hid ((0:Int)<=(hi:Int)/\(hi:Int)<(n:Int)):=Lh (by omega)
   obtain⟨xk,xl,xh⟩:=x;obtain⟨qz,hqz⟩:=Nm (p==0);have HQ:=Lh hqz;clear hx Vw hp hin hlt hlh hhn VK hqz;go_upto_region 8 with(fail);refine bD (λi=>([]:List Nat).contains i) (by kernel_rfl) (NoF (NoF (NoF [none]))) [] (λi_ _ _ v_=>v_=(((Value.int .i64 (hi:Int))::(Value.int .i64 (hi:Int))::(Value.int .i64 (n:Int))::(Value.bool true)::(Value.bool true)::(Value.func (.func 54) #[] #[])::(Value.slice (some ⟨pa,po,none⟩) n sc)::(Value.int .i64 (hi:Int))::(Value.pointer (some ⟨pa,po+hi*3,none⟩))::VX::VT::([.int .i64 p,.bool qz,.bool qz,.int .i64 (hi:Int),.bool qz]:List Value))).getD i_ undef) (λ_ w'=>Bw wr w') (λw w'=>Bw w w') (λ_ _ _ _ _ _ h=>h) (by kernel_rfl) (by kernel_rfl) (by kernel_rfl) SB.out (λ_=>⟨rfl,rfl,rfl,rfl,rfl,IlA,IlA,IlA,IlA,IlA,IlA,IlA,IlA,rfl,rfl,rfl,trivial⟩) (λ_ h=>by simp at h) ?_ ?_
   ·refine ⟨?_,?_,?_,?_,?_,?_,?_,?_,?_,?_,?_,?_,?_,?_,?_,?_,trivial⟩<;>intro _ _ a w' hG Si Sj K hK<;>replace Si:=Lh Si<;>replace Sj:=Lh Sj
    have q9:=FiA Si 9 hi;rotate_left;have q9:=FiA Si 9 hi;rotate_left;have q8:=FiA Si 8 n;rotate_left;have YS:=Pi a 36 hi Sj.out.1;have YD:=Pi a 37 n Sj.out.2.1;have hi0:=HI0.out;rotate_left;have XX:=Ep a 38 (.bool true) Sj.out.1;rotate_left;have q2:=FoA Si 2 (.func (.func 54) #[] #[]);rotate_left;have q0:=FoA Si 0 (.slice (some ⟨pa,po,none⟩) n sc);rotate_left;have q9:=FiA Si 9 hi;rotate_left;have Z0:=Ep a 41 (.slice (some ⟨pa,po,none⟩) n sc) Sj.out.1;have Z4:=Pi a 42 hi Sj.out.2.1;have hi0:=HI0.out;rotate_left
    ·have Z5:=Ep a 43 (.pointer (some ⟨pa,po+hi*3,none⟩)) Sj.out.1;obtain⟨d0,d1,d2⟩:=HX.out w' hG;go_step;exact hK _ _ V9.out.symm hG Br
    ·have q4:=FaA Si 4 tb 0;obtain⟨d0,d1,d2⟩:=SG.out w' hG;go_step;exact hK _ _ aR.out.symm hG Br
    ·have YE:=Ep a 40 (.func (.func 54) #[] #[]) Sj.out.1;have YT:=Ep a 44 VX Sj.out.2.1;have Z6:=Ep a 45 VT Sj.out.2.2.1;have HS:=Lh (V6.out w');go_step;refine HS.out.mono ?_;rintro e w3 ⟨rfl,hB⟩;exact hK _ _ rfl (Tb hG hB) hB
    have Zy:=Pi a 46 p Sj.out.1;have e:=HQ.out.symm;rotate_left;have XY:=Ep a 39 (.bool true) Sj.out.1;have Zz:=Ep a 47 (.bool qz) Sj.out.2.1;rotate_left;have Xw:=Pi a 35 hi Sj.out.1;rotate_left;have Z7:=Ep a 48 (.bool qz) Sj.out.1;rotate_left
    all_goals(go_step;exact hK _ _ rfl hG Br)
   intro vs w2 hG hlen hV
   match vs,hlen,hV with
   | [v0,v1,v2,v3,v4,v5,v6,v7,v8,v9,v10,v11,v12,v13,v14,v15],_,hV=>
    obtain rfl:v14=.int .i64 (hi:Int):=(hV 14 6 v14 rfl rfl);obtain rfl:v15=.bool qz:=(hV 15 7 v15 rfl rfl);clear hV;simp only[dG,bf7,bf1];simp only[Act.put,bfw,bfu,bfv];have Tw:=Lh (TI.out w2 qz hG);clear hG;go_wp2_with(fail);exact Tw.out
  have HI0:Hid (decide (hi<n)=false):=Lh (bfq hin);clear hin hlt hlh hhn VK;go_upto_region 8 with(fail);refine bD (λi=>([5,6,7,8,9,10,11,12]:List Nat).contains i) (by kernel_rfl) (NoF (NoF (NoF [none]))) [] (λi_ _ _ v_=>v_=((([.int .i64 (hi:Int),.int .i64 (hi:Int),.int .i64 (n:Int),.bool false,.bool false,undef,undef,undef,undef,undef,undef,undef,undef,.bool false,.int .i64 (hi:Int),.bool false]:List Value))).getD i_ undef) (λ_ w'=>Bw wr w') (λw w'=>Bw w w') (λ_ _ _ _ _ _ h=>h) (by kernel_rfl) (by kernel_rfl) (by kernel_rfl) SB.out (λ_=>⟨rfl,rfl,rfl,rfl,rfl,IlA,IlA,IlA,IlA,IlA,IlA,IlA,IlA,rfl,rfl,rfl,trivial⟩) (λi hi=>by have hm:=List.contains_iff_mem.1 hi;simp only[bf2,bf9,or_false]at hm;rcases hm with rfl | rfl | rfl | rfl | rfl | rfl | rfl | rfl <;> exact⟨rfl,λ_ _=>rfl⟩) ?_ ?_
  ·refine ⟨?_,?_,?_,?_,?_,?_,?_,?_,?_,?_,?_,?_,?_,?_,?_,?_,trivial⟩<;>(first|exact λh=>absurd h (by decide)|intro _ _ a w' hG Si Sj K hK)<;>replace Si:=Lh Si<;>replace Sj:=Lh Sj
   have q9:=FiA Si 9 hi;rotate_left;have q9:=FiA Si 9 hi;rotate_left;have q8:=FiA Si 8 n;rotate_left;have YS:=Pi a 36 hi Sj.out.1;have YD:=Pi a 37 n Sj.out.2.1;have hi0:=HI0.out;rotate_left;have XX:=Ep a 38 (.bool false) Sj.out.1;rotate_left;have XY:=Ep a 39 (.bool false) Sj.out.1;have Zz:=Ep a 47 undef Sj.out.2.1;rotate_left;have Xw:=Pi a 35 hi Sj.out.1;rotate_left;have Z7:=Ep a 48 (.bool false) Sj.out.1;rotate_left
   all_goals(go_step;exact hK _ _ rfl hG Br)
  intro vs w2 hG hlen hV
  match vs,hlen,hV with
  | [v0,v1,v2,v3,v4,v5,v6,v7,v8,v9,v10,v11,v12,v13,v14,v15],_,hV=>
   obtain rfl:v14=.int .i64 (hi:Int):=(hV 14 6 v14 rfl rfl);obtain rfl:v15=.bool false:=(hV 15 7 v15 rfl rfl);clear hV;simp only[dG,bf7,bf1];simp only[Act.put,bfw,bfu,bfv];have Tw:=Lh (TI.out w2 false hG);clear hG;go_wp2_with(fail);exact Tw.out
theorem lI(l m:List bg):cZ (l++m)=cZ l++cZ m:=by simp[cZ]
theorem Fg(l:List bg)(i:Nat)(h:i<=l.length):cZ (l.take i)=(cZ l).take (i*3):=by
 have e:cZ l=cZ (l.take i)++cZ (l.drop i):=by rw[<-lI,List.take_append_drop]
 have hl:(cZ (l.take i)).length=i*3:=by rw[fJ,bga,Nat.min_eq_left h]
 rw[e,List.take_left' hl]
theorem Ff(l:List bg)(i:Nat)(h:i<=l.length):cZ (l.drop i)=(cZ l).drop (i*3):=by
 have e:cZ l=cZ (l.take i)++cZ (l.drop i):=by rw[<-lI,List.take_append_drop]
 have hl:(cZ (l.take i)).length=i*3:=by rw[fJ,bga,Nat.min_eq_left h]
 rw[e,List.drop_left' hl]
theorem DY(w:World) {base g n c:Nat} {l:List bg}(hown:cK w base (.slice (some ⟨g,0,none⟩) n c) l)(hn:n=l.length) {y:bg} {q:Nat}(hu:∀j z,y.cells[j]? =some z->w.cell? ⟨q,j,none⟩=some z)(hroom:n+1<=c)(ty:TypeId):
  ∃w',(Builtin.append_ #[84,84] ty #[.slice (some ⟨g,0,none⟩) n c,.slice (some ⟨q,0,none⟩) 1 1]).run prog w=.ok (.slice (some ⟨g,0,none⟩) (n+1) c) w'/\
   cK w' base (.slice (some ⟨g,0,none⟩) (n+1) c) (l++[y])/\w.grownBy w' (some g):=by
 subst hn;obtain⟨i,hi,hz,hs,hby⟩:=info_parts mW;obtain⟨w',h1,h2,h3⟩:=run_append_fits (P:=prog) w base 84 ty 47 i 3 underlying84 hi hs g l.length c (cZ l) hown ⟨q,0,none⟩ 1 1 y.cells.toList rfl
  (λj u hj=>by rw[addr_add,bgu];exact hu j u (by simpa using hj)) (λz hz=>Array.all_eq_true'.1 (dH y) z (by simpa using hz)) hroom
 refine⟨w',h1,?_,h3⟩;unfold cK;rw[wE,bft];exact h2
theorem xD {ops:Array Oper} {rest:List Oper} {o:Oper} {a:Act} {Q:Exit->Act->World->Prop} {w:World}(hgd:o.guard=none)(s x:Operand)
  (ho:o.op=.call { callee:=.builtin .append,args:=#[s,x],argTypes:=#[84,84] }) {base g n c:Nat} {l:List bg} (hs:a.eval s=.slice (some ⟨g,0,none⟩) n c)
  (hown:cK w base (.slice (some ⟨g,0,none⟩) n c) l) (hn:n=l.length) (y:bg) (q:Nat) (hx:a.eval x=.slice (some ⟨q,0,none⟩) 1 1) (hu:∀j z,y.cells[j]? =some z->w.cell? ⟨q,j,none⟩=some z) (hroom:n+1<=c)
  (h:∀w',cK w' base (.slice (some ⟨g,0,none⟩) (n+1) c) (l++[y])->w.grownBy w' (some g)->wpList prog ops Q rest (a.put o.dst (.slice (some ⟨g,0,none⟩) (n+1) c)) w'):wpList prog ops Q (o::rest) a w:=by
 refine wpList_plain hgd λK hK=>?_;obtain⟨w',hr,h2,h3⟩:=DY w hown hn hu hroom o.type;unfold Oper.wp execOp;simp only[ho,resolve,invoke,builtin,Sem.run_bind,Sem.run_pure,Result.andThen_ok,bgb,bgc,bge,hs,hx,hr];exact hK _ _ (h w' h2 h3)
theorem MF(w:World)(ty:TypeId)(b o dLen dCap:Nat)(a:Addr)(sLen sCap k:Nat)(cs:List Value)(cur:Array Value)(hg:w.heap[b]? =some (.cells cur 47 (0,0)))
  (hk:k=Nat.min sLen dLen) (hn:cs.length=k*3) (hsrc:∀j v,cs[j]? =some v->w.cell? (a.add j)=some v) (h1:∀v∈cs,v.oneCell'=true) (hfit:o+cs.length<=cur.size):
  (Builtin.copy_ #[84,84] ty #[.slice (some ⟨b,o,none⟩) dLen dCap,.slice (some a) sLen sCap]).run prog w=.ok (goInt k) (w.setRow b (cur.toList.take o++cs++cur.toList.drop (o+cs.length)).toArray):=by
 have hl:=run_loadCells_list (P:=prog) w a cs hsrc;have hst:=run_storeCells_at prog b o 47 cs 0 cur w hg (by simpa using hfit) h1
 have hs:∀w,(sizeOf 47).run prog w=.ok 3 w:=sizeOf47;rw[hn]at hl;simp[Builtin.copy_,run_underlying underlying84,Builtin.lenOf,Builtin.firstCells,hs,<-hk,hl];simp only[Nat.add_zero]at hst;rw[hst];simp only[Result.andThen_ok,bgz]
theorem Jc {o:Oper} {a:Act} {w:World} {K:Act->World->Prop} {Q:Exit->Act->World->Prop}(d s:Operand)(ho:o.op=.call { callee:=.builtin .copy,args:=#[d,s],argTypes:=#[84,84] })
  (b off dLen dCap:Nat) (x:Addr) (sLen sCap k:Nat) (cs:List Value) (cur:Array Value) (hd:a.eval d=.slice (some ⟨b,off,none⟩) dLen dCap) (hs:a.eval s=.slice (some x) sLen sCap) (hg:w.heap[b]? =some (.cells cur 47 (0,0)))
  (hk:k=Nat.min sLen dLen) (hn:cs.length=k*3) (hsrc:∀j v,cs[j]? =some v->w.cell? (x.add j)=some v) (h1:∀v∈cs,v.oneCell'=true) (hfit:off+cs.length<=cur.size)
  (h:K (a.put o.dst (goInt k)) (w.setRow b (cur.toList.take off++cs++cur.toList.drop (off+cs.length)).toArray)):o.wp prog a w K Q:=by
 unfold Oper.wp execOp;simp only[ho,resolve,invoke,builtin,Sem.run_bind,Sem.run_pure,Result.andThen_ok,bgb,bgc,bge,hd,hs,MF w o.type b off dLen dCap x sLen sCap k cs cur hg hk hn hsrc h1 hfit];exact h
theorem FV {ops:Array Oper} {rest:List Oper} {o:Oper} {a:Act} {w:World} {Q:Exit->Act->World->Prop}(hgd:o.guard=none)(d s:Operand)(ho:o.op=.call { callee:=.builtin .copy,args:=#[d,s],argTypes:=#[84,84] })
  (b off dLen dCap:Nat) (x:Addr) (sLen sCap k:Nat) (cs:List Value) (cur:Array Value) (hd:a.eval d=.slice (some ⟨b,off,none⟩) dLen dCap) (hs:a.eval s=.slice (some x) sLen sCap) (hg:w.heap[b]? =some (.cells cur 47 (0,0)))
  (hk:k=Nat.min sLen dLen) (hn:cs.length=k*3) (hsrc:∀j v,cs[j]? =some v->w.cell? (x.add j)=some v) (h1:∀v∈cs,v.oneCell'=true) (hfit:off+cs.length<=cur.size)
  (h:wpList prog ops Q rest (a.put o.dst (goInt k)) (w.setRow b (cur.toList.take off++cs++cur.toList.drop (off+cs.length)).toArray)):wpList prog ops Q (o::rest) a w:=
 wpList_plain hgd λ_ hK=>Jc d s ho b off dLen dCap x sLen sCap k cs cur hd hs hg hk hn hsrc h1 hfit (hK _ _ h)
theorem rf(w:World)(g o n c i:Nat)(h:i<=n)(hc:i<c):
  (Instr.slice 84 (.slice (some ⟨g,o,none⟩) n c) (some (.int .i64 (i:Int))) none none).run prog w=.ok (.slice (some ⟨g,o+i*3,none⟩) (n-i) (c-i)) w:=by
 have hz:∀w,(sizeOf 47).run prog w=.ok 3 w:=sizeOf47;have e:¬c=i:=by omega
 simp[Instr.slice,run_underlying underlying84,Instr.sliceBounds,run_sliceBound,hz,h,addr_add,e]
def Re(g q:Nat)(y:bg)(w:World)(cur SK:Array Value)(k:Nat)(w':World):Prop:=
 cond (Nat.beq k 0) (w'.heap[g]? =some (.cells cur 47 (0,0))) (w'.heap[g]? =some (.cells SK 47 (0,0)))/\bZ w' q y/\w.grownBy w' (some g)
theorem Hw {α:Type} {A B C D:List α}(n:Nat)(h:n=A.length+B.length+C.length):(A++B++(C++D)).take n=A++B++C:=by
 rw[<-bgz];exact List.take_left' (by simp[h];omega)
theorem JL(w:World)(base g c i q:Nat)(l:List bg)(y:bg)(hO:cK w base (.slice (some ⟨g,0,none⟩) l.length c) l)(hq:bZ w q y)(hqg:q≠g)(hi:i<=l.length)(hc:l.length+1<=c)(hn:c<=1000000):
  Calls prog 121 #[.slice (some ⟨g,0,none⟩) l.length c,.int .i64 (i:Int),.slice (some ⟨q,0,none⟩) 1 1] w (λe w'=>e=.returned (.slice (some ⟨g,0,none⟩) (l.length+1) c)/\cK w' base (.slice (some ⟨g,0,none⟩) (l.length+1) c) (l.take i++[y]++l.drop i)/\w.grownBy w' (some g)):=by
 obtain⟨n,hN⟩:=Nm (l.length);obtain⟨P,hP⟩:=Nm (λe w'=>e=.returned (.slice (some ⟨g,0,none⟩) (n+1) c)/\cK w' base (.slice (some ⟨g,0,none⟩) (n+1) c) (l.take i++[y]++l.drop i)/\w.grownBy w' (some g):Ending->World->Prop);rw[<-hN]at hO hi hc ⊢;rw[<-hP];have Sl:Hid (∀w',cK w' base (.slice (some ⟨g,0,none⟩) (n+1) c) (l.take i++[y]++l.drop i)->w.grownBy w' (some g)->P (.returned (.slice (some ⟨g,0,none⟩) (n+1) c)) w'):=Lh (λw' h1 h2=>by rw[hP];exact⟨rfl,h1,h2⟩)
 have hsl0:∀w',(Instr.slice 84 (.slice (some ⟨g,0,none⟩) n c) (some (.int .i64 (i:Int))) none none).run prog w'=.ok (.slice (some ⟨g,i*3,none⟩) (n-i) (c-i)) w':=λw'=>by
  have h:=rf w' g 0 n c i hi (by omega)
  rwa [bgu]at h
 have HO:=Lh (bfy hO (bfy hN hq));clear hP hN hO hq;have hm1:((1:Int)==0)=false:=rfl;by_cases hin:i=n
 ·subst hin;have e1:((i:Int)==(i:Int))=true:=by simp
  have HU:Hid (∀j z,y.cells[j]? =some z->w.cell? ⟨q,j,none⟩=some z):=Lh (λj z hz=>HO.out.2.2.cell j hz);go_enter func121,ntmps121;go_upto_region 7 with(fail);refine bg4 ?_
  iterate 6 go_step
  refine xD rfl (.tmp 23) (.tmp 24) rfl rfl HO.out.1 HO.out.2.1 y q rfl HU.out hc ?_;intro w' k1 k2;have HZ:Hid (P (.returned (.slice (some ⟨g,0,none⟩) (i+1) c)) w'):=Lh (Sl.out w' (by rw[HO.out.2.1,bgs,List.drop_length,bg2,<-HO.out.2.1];exact k1) k2)
  clear k1 k2 hsl0;go_wp2_with(fail);exact HZ.out
 have hlt:i<n:=by omega
 have e1:((i:Int)==(n:Int))=false:=by simpa using λh:(i:Int)=(n:Int)=>hin (by omega)
 obtain⟨cur,SQ,hsz,htk,hcm,hbg⟩:∃cur:Array Value,w.heap[g]? =some (.cells cur 47 (0,0))/\cur.size=c*3/\cur.toList.take (n*3)=cZ l/\c<=maxLen/\base<=g:=by
  have h:=HO.out.1;rcases h.2 with⟨h',_⟩ | ⟨g',cap',cur,h',hb,hg,_,hcm,hcs,htake⟩
  ·simp at h'
  simp only[Value.slice.injEq,bf5,Addr.mk.injEq,and_true]at h';obtain⟨rfl,_,rfl⟩:=h';rw[<-HO.out.2.1]at htake;exact⟨cur,hg,hcs,htake,hcm,hb⟩
 have hL:(cZ l).length=n*3:=by rw[fJ,HO.out.2.1]
 obtain⟨cs,hcs⟩:=Nm ((cZ l).drop (i*3));have hcl:cs.length=(n-i)*3:=by rw[hcs,bgx,hL];omega
 obtain⟨SK,hc1⟩:=Nm ((cur.toList.take ((i+1)*3)++cs++cur.toList.drop ((i+1)*3+cs.length)).toArray);have hs1:SK.size=c*3:=by
  rw[hc1];simp only[List.size_toArray,bft,bga,bgx,bgq];omega
 have HC:=Lh (bfy SQ (bfy hsz (bfy htk (bfy hcm (bfy hbg (bfy hcs (bfy hcl (bfy hc1 hs1))))))));have hov:∀lb cb,(callFunc 140 #[.slice (some ⟨q,0,none⟩) 1 1,.slice (some ⟨g,(i+1)*3,none⟩) lb cb]).run prog w=.ok (.value (.bool false)) w:=λlb cb=>by
  rw[run_callFunc_extern func140 (by kernel_rfl) (by kernel_rfl) (by kernel_rfl) (e:=Extern.SlicesOverlaps.overlaps #[84,84] #[4]) (by kernel_rfl),
   Lib.run_overlaps_apart w 84 4 47 underlying84 3 sizeOf47 ⟨q,0,none⟩ ⟨g,(i+1)*3,none⟩ 1 1 lb cb hqg 47 47 3 cur.size
    (by have h:=HO.out.2.2;unfold bZ at h;simp[World.shape?,h,bg.cells]) (by simp[World.shape?,SQ]) (by omega) (HO.out.2.2.qi 0) (HO.out.2.2.qi 3)]
  rfl
 have XF:∀w',(Instr.slice 84 (.slice (some ⟨g,0,none⟩) n c) none (some (.int .i64 ((n:Int)+1))) none).run prog w'=.ok (.slice (some ⟨g,0,none⟩) (n+1) c) w':=λw'=>by
  have h:=xx w' (some ⟨g,0,none⟩) n c (n+1) (by omega)
  rwa [show((n+1:Nat):Int)=(n:Int)+1 by omega]at h
 have Yv:∀w',(Instr.slice 84 (.slice (some ⟨g,0,none⟩) (n+1) c) (some (.int .i64 ((i:Int)+1))) none none).run prog w'=.ok (.slice (some ⟨g,(i+1)*3,none⟩) (n-i) (c-(i+1))) w':=λw'=>by
  have h:=rf w' g 0 (n+1) c (i+1) (by omega) (by omega)
  rwa [show((i+1:Nat):Int)=(i:Int)+1 by omega,bgu,show n+1-(i+1)=n-i by omega]at h
 have Yu:∀w',(Instr.slice 84 (.slice (some ⟨g,0,none⟩) (n+1) c) (some (.int .i64 (i:Int))) none none).run prog w'=.ok (.slice (some ⟨g,i*3,none⟩) (n+1-i) (c-i)) w':=λw'=>by
  have h:=rf w' g 0 (n+1) c i (by omega) (by omega)
  rwa [bgu]at h
 have hgt:¬((c:Int)<(n:Int)+1):=by omega
 have HS:=Lh (bfy Yv Yu);have SB:Hid (Re g q y w cur SK 0 w.drew):=Lh ⟨SQ,HO.out.2.2,⟨rfl,rfl,rfl,bfx _,λ_ _ _=>rfl⟩⟩;have Vg:Hid (i<n/\n+1<=c/\c<=1000000):=Lh ⟨hlt,hc,hn⟩;clear SQ hsz htk hcm hbg hcs hcl hc1 hs1 hL hin;go_enter func121,ntmps121;go_wp2_with(simp only[hov]);refine bD (λi=>([]:List Nat).contains i) (by kernel_rfl) (NoF [none,none,none,some 0]) [8] (V4 ((Value.slice (some ⟨g,0,none⟩) (n+1) c)::(Value.int .i64 (i:Int))::(Value.int .i64 (1:Int))::(Value.int .i64 ((i:Int)+1))::(Value.slice (some ⟨g,(i+1)*3,none⟩) (n-i) (c-(i+1)))::(Value.slice (some ⟨g,0,none⟩) (n+1) c)::(Value.int .i64 (i:Int))::(Value.slice (some ⟨g,i*3,none⟩) (n+1-i) (c-i))::goInt ((n-i:Nat):Int)::([]:List Value)) 99 (λ_ _ _=>True) 98 (λ_ _ _=>True) 97 (λ_ _ _=>True) 96 (λ_ _ _=>True)) (Re g q y w cur SK) (λw w'=>Bw w w') (qm _ (λ_ _ _ _ _ h=>h) (λ_ _ _ _ _ h=>h) (λ_ _ _ _ _ h=>h) (λ_ _ _ _ _ h=>h)) (by kernel_rfl) (by kernel_rfl) (by kernel_rfl) SB.out (λ_=>⟨rfl,rfl,rfl,rfl,rfl,rfl,rfl,rfl,rfl,trivial⟩) (λ_ h=>by simp at h) ?_ ?_
 ·refine ⟨?_,?_,?_,?_,?_,?_,?_,?_,?_,trivial⟩<;>(first|(intro _ _ a w' hG Si Sj K hK;guard_hyp w':World)|intro _ a w' hG Si Sj K hK)<;>replace Si:=Lh Si<;>replace Sj:=Lh Sj
  have q0:=FoA Si 0 (.slice (some ⟨g,0,none⟩) (n+1) c);rotate_left;have q1:=FiA Si 1 i;rotate_left;have q7:=FiA Si 7 1;rotate_left;have E5:=Pi a 70 i Sj.out.1;have AX:=Pi a 71 1 Sj.out.2.1;have hlt:=Vg.out;rotate_left;have Uq:=Ep a 69 (.slice (some ⟨g,0,none⟩) (n+1) c) Sj.out.1;have AY:=Ep a 72 (.int .i64 ((i:Int)+1)) Sj.out.2.1;have hsl:=HS.out.1;rotate_left;have q0:=FoA Si 0 (.slice (some ⟨g,0,none⟩) (n+1) c);rotate_left;have q1:=FiA Si 1 i;rotate_left;have AZ:=Ep a 74 (.slice (some ⟨g,0,none⟩) (n+1) c) Sj.out.1;have A7:=Pi a 75 i Sj.out.2.1;have hsl:=HS.out.2;rotate_left
  ·obtain ⟨p0,p1,_⟩:=Sj.out;have iG:=(show a.eval (.tmp 73)=.slice (some ⟨g,(i+1)*3,none⟩) (n-i) (c-(i+1))from p0);have iH:=(show a.eval (.tmp 76)=.slice (some ⟨g,i*3,none⟩) (n+1-i) (c-i)from p1);clear p0 p1;obtain⟨SQ,hq,hgr⟩:=(show(w'.heap[g]? =some (.cells cur 47 (0,0))/\bZ w' q y/\w.grownBy w' (some g))from hG);obtain⟨_,hsz,htk,_,_,hcs,hcl,hc1,_⟩:=HC.out;have hlt:=Vg.out;refine Jc (.tmp 73) (.tmp 76) rfl g ((i+1)*3) (n-i) (c-(i+1)) ⟨g,i*3,none⟩ (n+1-i) (c-i) (n-i) cs cur iG iH SQ (Nat.min_eq_right (by omega)).symm hcl (λj v hj=>?_) (λv hv=>?_) (by omega) ?_
   ·rw[addr_add,cell_of_row w' g _ cur _ _ SQ];rw[hcs,List.getElem?_drop,<-htk,List.getElem?_take]at hj
    split at hj
    ·simpa using hj
    cases hj
   ·rw[hcs]at hv;exact yB l v (List.mem_of_mem_drop hv)
   rw[<-hc1];have hg2:=bC w' g SK;exact hK _ _ rfl ⟨setRow_heap w' g _ _ _ _ SQ,hq.grown hg2 (by simp;exact hqg),⟨hg2.os.trans hgr.os,hg2.tape.trans hgr.tape,hg2.output.trans hgr.output,bgn hgr.size hg2.size,λj hj hne=>(hg2.block j (Nat.lt_of_lt_of_le hj hgr.size) hne).trans (hgr.block j hj hne)⟩⟩ (jq (.inr λ_ h=>h) (.inr λ_ h=>h) (.inr λ_ h=>h) (.inr λ_ h=>h))
  all_goals(go_step;exact hK _ _ rfl hG Br)
 intro vs w2 hG hlen hV
 match vs,hlen,hV with
 | [v0,v1,v2,v3,v4,v5,v6,v7,v8],_,hV=>
  clear hV;simp only[dG,bf7,bf1];simp only[Act.put,bfw,bfu,bfv];have H2:Hid (w2.heap[g]? =some (.cells SK 47 (0,0))/\bZ w2 q y/\w.grownBy w2 (some g)):=Lh hG;clear hG Yv XF hov;go_upto_region 16 with(fail);refine bg4 ?_
  iterate 12 go_step
  refine FV rfl (.tmp 80) (.tmp 81) rfl g (i*3) (n+1-i) (c-i) ⟨q,0,none⟩ 1 1 1 y.cells.toList SK rfl rfl H2.out.1 (Nat.min_eq_left (by have:=Vg.out;omega)).symm rfl (λj v hj=>by rw[addr_add,bgu];exact H2.out.2.1.cell j (by simpa using hj)) (λv hv=>Array.all_eq_true'.1 (dH y) v (by simpa using hv)) (by have h3:y.cells.toList.length=3:=rfl;have h:=HC.out.2.2.2.2.2.2.2.2;omega) ?_
  obtain⟨wz,hwz⟩:=Nm (w2.setRow g (SK.toList.take (i*3)++y.cells.toList++SK.toList.drop (i*3+y.cells.toList.length)).toArray);have HZ:Hid (P (.returned (.slice (some ⟨g,0,none⟩) (n+1) c)) wz):=by
   obtain⟨SQ,hsz,htk,hcm,hbg,hcs,hcl,hc1,hs1⟩:=HC.out;have hlt:=Vg.out;have hN:=HO.out.2.1;have hL:(cZ l).length=n*3:=by rw[fJ,hN]
   have h3:y.cells.toList.length=3:=rfl;have hg2:=bC w2 g (SK.toList.take (i*3)++y.cells.toList++SK.toList.drop (i*3+y.cells.toList.length)).toArray;rw[<-hwz]at hg2;have hgr:=H2.out.2.2;refine Lh (Sl.out wz ?_ ⟨hg2.os.trans hgr.os,hg2.tape.trans hgr.tape,hg2.output.trans hgr.output,bgn hgr.size hg2.size,λj hj hne=>(hg2.block j (Nat.lt_of_lt_of_le hj hgr.size) hne).trans (hgr.block j hj hne)⟩);have hlen:(l.take i++[y]++l.drop i).length=n+1:=by simp;omega
   unfold cK;rw[hlen];refine⟨by rw[fJ,hlen],.inr ⟨g,c,_,rfl,hbg,by rw[hwz];exact setRow_heap w2 g _ _ _ _ H2.out.1,hlt.2.1,hcm,?_,?_⟩⟩
   ·simp only[List.size_toArray,bft,bga,bgx,bgq];have h4:y.cells.size=3:=rfl;omega
   have e1:cZ (l.take i++[y]++l.drop i)=(cZ l).take (i*3)++y.cells.toList++cs:=by
    rw[lI,lI,Fg l i (by omega),Ff l i (by omega),hcs]
    simp[cZ]
   have e2:SK.toList.take (i*3)=(cZ l).take (i*3):=by
    rw[hc1,bgz,List.take_append_of_le_length (by rw[bga,bgq];omega),List.take_take,<-htk,List.take_take]
    congr 1
    omega
   have e3:SK.toList.drop (i*3+y.cells.toList.length)=cs++cur.toList.drop ((i+1)*3+cs.length):=by
    rw[hc1,bgz,h3];exact List.drop_left' (by rw[bga,bgq];omega)
   rw[e1,e2,e3];exact Hw _ (by rw[bga,hL,h3,hcl];omega)
  rw[<-hwz];clear hwz Yu hsl0;go_wp2_with(fail);exact HZ.out
end Go.Proofs.YtjeeghafachebaaGreat
