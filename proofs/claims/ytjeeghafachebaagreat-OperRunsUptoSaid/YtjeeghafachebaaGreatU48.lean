/-
  48.
-/
import Derived.Test.YtjeeghafachebaaGreatU45
import Derived.Test.YtjeeghafachebaaGreatU33
set_option maxRecDepth 100000
set_option maxHeartbeats 4000000
namespace Go.Proofs.YtjeeghafachebaaGreat
open Go Go.RowKit Go.Proofs.Tryz
def Na(w:World)(x y:bM)(s t:Value)(w':World):Prop:=∃b c,s=.pointer (some ⟨b,0,none⟩)/\t=.pointer (some ⟨c,0,none⟩)/\jN w' b x/\jN w' c y/\Bw w w'
theorem sU(w:World)(x y:bM):jN ((w.alloc (.cells x.cells 50)).alloc (.cells y.cells 50)).drew w.heap.size x/\jN ((w.alloc (.cells x.cells 50)).alloc (.cells y.cells 50)).drew (w.heap.size+1) y/\Bw w ((w.alloc (.cells x.cells 50)).alloc (.cells y.cells 50)).drew:=by
 obtain⟨h1,h2,h3⟩:=Jk w x y;exact⟨h1.below Br.drew,h2.below Br.drew,h3.drew⟩
theorem PS(w:World)(x y:bM):Na w x y (.pointer (some ⟨w.heap.size,0,none⟩)) (.pointer (some ⟨w.heap.size+1,0,none⟩)) ((w.alloc (.cells x.cells 50)).alloc (.cells y.cells 50)).drew:=
 ⟨_,_,rfl,rfl,(sU w x y).1,(sU w x y).2.1,(sU w x y).2.2⟩
theorem PT(w:World)(x y:bM):Na w x y (.pointer (some ⟨w.heap.size+1,0,none⟩)) (.pointer (some ⟨w.heap.size,0,none⟩)) ((w.alloc (.cells y.cells 50)).alloc (.cells x.cells 50)).drew:=
 ⟨_,_,rfl,rfl,(sU w y x).2.1,(sU w y x).1,(sU w y x).2.2⟩
theorem Cx(w:World)(aa ba:Option Addr)(ca cb:Nat)(l m:List bM)(hA:gH w aa l)(hB:gH w ba m)(gA:∀x∈l,dO w x/\x.o.v.length<=1000000)(gB:∀x∈m,dO w x/\x.o.v.length<=1000000)(hl:l.length<=1000000)(hm:m.length<=1000000):
  Calls prog 12 #[.slice aa l.length ca,.slice ba m.length cb] w (bE w (.bool (decide (l.map bM.o=m.map bM.o)))):=by
 obtain⟨n,hN⟩:=Nm (l.length);obtain⟨k,hK⟩:=Nm (m.length);obtain⟨P,hP⟩:=Nm (bE w (.bool (decide (l.map bM.o=m.map bM.o))));rw[<-hP,<-hN,<-hK];have SF:Hid (∀wz,¬l.map bM.o=m.map bM.o->Bw w wz->P (.returned (.bool false)) wz):=Lh (λwz h hB=>by rw[hP,bfq h];exact⟨rfl,hB⟩)
 have Sl:Hid (∀wz,l.map bM.o=m.map bM.o->Bw w wz->P (.returned (.bool true)) wz):=Lh (λwz h hB=>by rw[hP,bfr h];exact⟨rfl,hB⟩)
 have HA:=Lh hA;have ah:=Lh hB;have aC:=Lh gA;have aD:=Lh gB;have Tx:n<=1000000:=by omega
 have OO:k<=1000000:=by omega
 have HN:Hid (n=l.length/\k=m.length):=Lh ⟨hN,hK⟩;clear hN hK hA hB gA gB hl hm hP;by_cases hnk:n=k
 ·subst hnk;go_enter func12,ntmps12;go_wp2_with(fail);go_loopw[15] (RQ w l m) (λv _=>n-(intOf v).toNat)
  case atStart=>exact⟨0,bgi _,rfl,λj h=>absurd h (Nat.not_lt_zero _),Br⟩
  case round=>
   obtain⟨i,hi,rfl,hok,hB⟩:=hrel;rw[<-HN.out.1]at hi;have HO:=Lh (bfy hok hB);clear hok hB;by_cases hlt:i<n
   ·have hi0:(0:Int)<=(i:Int)/\(i:Int)<(n:Int):=by omega
    obtain⟨x,pa,oa,hx,hsa,c0,c1,c2,c3,c4,c5,c6,c7,c8,c9⟩:=(HA.out.below HO.out.2).get (t:=i) (by rw[<-HN.out.1];exact hlt)
    subst hsa;have HX:=Lh (bfy (aC.out x (bf3 hx)) hx);obtain⟨y,pc,oc,hy,hsb,d0,d1,d2,d3,d4,d5,d6,d7,d8,d9⟩:=(ah.out.below HO.out.2).get (t:=i) (by rw[<-HN.out.2];exact hlt)
    subst hsb;have HY:=Lh (bfy (aD.out y (bf3 hy)) hy);have HI:=Lh (bfy hlt hi);clear hx hi hlt hy;obtain⟨⟨WC,⟨Wz,WB,WA,xiv⟩,⟨xk,xl,xh⟩,xr,WE⟩,Su,Sw⟩:=x;obtain⟨⟨WJ,⟨WF,WI,WG,WH⟩,⟨yk,yl,yh⟩,yr,WK⟩,Vd,Tv⟩:=y;simp only at c0 c1 c2 c3 c4 c5 c6 c7 c8 c9 d0 d1 d2 d3 d4 d5 d6 d7 d8 d9;obtain⟨xa,xc,hxt,_⟩:=HX.out.1.1;obtain⟨ya,yc,Wt,_⟩:=HY.out.1.1;obtain⟨xn,hxn⟩:=Nm (WE.length);obtain⟨yn,hyn⟩:=Nm (WK.length);simp only at hxt Wt;rw[<-hxn]at hxt;rw[<-hyn]at Wt;clear hxn hyn;subst hxt Wt;have Tf:∀a v,wr.cell? a=some v->∀o,(wr.alloc o).cell? a=some v:=λa v h o=>(((Below.refl _ wr).alloc (bfx _) o).cell (block_lt_of_cell h)).trans h;have Tg:∀a v,wr.cell? a=some v->∀o o',((wr.alloc o).alloc o').cell? a=some v:=λa v h o o'=>((((Below.refl _ wr).alloc (bfx _) o).alloc (by simp) o').cell (block_lt_of_cell h)).trans h
    have g0:=Tf _ _ c0;have h0:=Tg _ _ c0;have g1:=Tf _ _ c1;have h1:=Tg _ _ c1;have g2:=Tf _ _ c2;have h2:=Tg _ _ c2;have g3:=Tf _ _ c3;have h3:=Tg _ _ c3;have g4:=Tf _ _ c4;have h4:=Tg _ _ c4;have g5:=Tf _ _ c5;have h5:=Tg _ _ c5;have g6:=Tf _ _ c6;have h6:=Tg _ _ c6;have g7:=Tf _ _ c7;have h7:=Tg _ _ c7;have g8:=Tf _ _ c8;have h8:=Tg _ _ c8;have g9:=Tf _ _ c9;have h9:=Tg _ _ c9;have s0:=Tf _ _ d0;have t0:=Tg _ _ d0;have s1:=Tf _ _ d1;have t1:=Tg _ _ d1;have s2:=Tf _ _ d2;have t2:=Tg _ _ d2;have s3:=Tf _ _ d3;have t3:=Tg _ _ d3;have s4:=Tf _ _ d4;have t4:=Tg _ _ d4;have s5:=Tf _ _ d5;have t5:=Tg _ _ d5;have s6:=Tf _ _ d6;have t6:=Tg _ _ d6;have s7:=Tf _ _ d7;have t7:=Tg _ _ d7;have s8:=Tf _ _ d8;have t8:=Tg _ _ d8;have s9:=Tf _ _ d9;have t9:=Tg _ _ d9;clear Tf Tg;go_upto_region 6 with(fail);go_cut[6,7]from 18 to 25 (λs t wx=>Na wr (bM.mk ⟨WC,⟨Wz,WB,WA,xiv⟩,⟨xk,xl,xh⟩,xr,WE⟩ (.slice xa xn xc) Sw) (bM.mk ⟨WJ,⟨WF,WI,WG,WH⟩,⟨yk,yl,yh⟩,yr,WK⟩ (.slice ya yn yc) Tv) s t wx)
    case first=>
     go_region
     all_goals go_wp2_with(fail)
     all_goals go_meet
     ·exact PS wr (bM.mk ⟨WC,⟨Wz,WB,WA,xiv⟩,⟨xk,xl,xh⟩,xr,WE⟩ (.slice xa xn xc) Sw) (bM.mk ⟨WJ,⟨WF,WI,WG,WH⟩,⟨yk,yl,yh⟩,yr,WK⟩ (.slice ya yn yc) Tv)
     exact PT wr (bM.mk ⟨WC,⟨Wz,WB,WA,xiv⟩,⟨xk,xl,xh⟩,xr,WE⟩ (.slice xa xn xc) Sw) (bM.mk ⟨WJ,⟨WF,WI,WG,WH⟩,⟨yk,yl,yh⟩,yr,WK⟩ (.slice ya yn yc) Tv)
    case rest=>
     obtain⟨xb,yb,rfl,rfl,Rx,Ry,hBw⟩:=hcut;obtain⟨wy,Sy⟩:=Nm wc;rw[<-Sy]at Rx Ry hBw ⊢;have HR2:=Lh (bfy Rx Ry);have TD:=Lh (HO.out.2.trans (hBw.mono HO.out.2.size));clear Sy Rx Ry hBw c0 c1 c2 c3 c4 c5 c6 c7 c8 c9 d0 d1 d2 d3 d4 d5 d6 d7 d8 d9 g0 g1 g2 g3 g4 g5 g6 g7 g8 g9 h0 h1 h2 h3 h4 h5 h6 h7 h8 h9 s0 s1 s2 s3 s4 s5 s6 s7 s8 s9 t0 t1 t2 t3 t4 t5 t6 t7 t8 t9;obtain⟨rl,hrl⟩:=Nm (WC==WJ);obtain⟨ra,hra⟩:=Nm (sG ⟨Wz,WB,WA,xiv⟩ ⟨WF,WI,WG,WH⟩);obtain⟨rb,hrb⟩:=Nm (lq ⟨xk,xl,xh⟩ ⟨yk,yl,yh⟩);obtain⟨rc,hrc⟩:=Nm (decide (WE=WK));have heq:∀w',(binOp .neq 47 (.agg (bg.mk xk xl xh).cells) (.agg (bg.mk yk yl yh).cells)).run prog w'=.ok (.bool (!rb)) w':=λw'=>by rw[hrb];exact sF w' _ _
     have hgd:∀w' op o1 o2,(eqGuard op 47 o1 o2 (.agg (bg.mk xk xl xh).cells) (.agg (bg.mk yk yl yh).cells)).run prog w'=.ok () w':=λw' op o1 o2=>fT w' op o1 o2 _ _;have Yn:∀w',(binOp .neq 42 (.agg (bN.mk Wz WB WA xiv).cells) (.agg (bN.mk WF WI WG WH).cells)).run prog w'=.ok (.bool (!ra)) w':=λw'=>by rw[hra];exact FK w' _ _
     have Yo:∀w' op o1 o2,(eqGuard op 42 o1 o2 (.agg (bN.mk Wz WB WA xiv).cells) (.agg (bN.mk WF WI WG WH).cells)).run prog w'=.ok () w':=λw' op o1 o2=>nP w' op o1 o2 _ _;have hbr:∀w',Sem.run prog (binOp .neq 4 (.bool WC) (.bool WJ)) w'=.ok (.bool (!rl)) w':=λw'=>by rw[hrl];cases WC <;> cases WJ <;> simp[go_sem]
     have HC:Hid (Calls prog 18 #[.slice xa xn xc,.slice ya yn yc] wy (bE wy (.bool rc))):=by
      rw[hrc];exact Lh (Cw wy _ _ WE WK (HX.out.1.1.below TD.out) (HY.out.1.1.below TD.out) HX.out.1.2)
     have Tp:Hid ((rl && (ra && (rb && ((xr==yr) && rc))))=true↔(bM.mk ⟨WC,⟨Wz,WB,WA,xiv⟩,⟨xk,xl,xh⟩,xr,WE⟩ (.slice xa xn xc) Sw).o=(bM.mk ⟨WJ,⟨WF,WI,WG,WH⟩,⟨yk,yl,yh⟩,yr,WK⟩ (.slice ya yn yc) Tv).o):=by
      rw[hrl,hra,hrb,hrc];exact Lh (xX ((bM.mk ⟨WC,⟨Wz,WB,WA,xiv⟩,⟨xk,xl,xh⟩,xr,WE⟩ (.slice xa xn xc) Sw)).o ((bM.mk ⟨WJ,⟨WF,WI,WG,WH⟩,⟨yk,yl,yh⟩,yr,WK⟩ (.slice ya yn yc) Tv)).o)
     have Y3:Hid ((rl && (ra && (rb && ((xr==yr) && rc))))=false->∀wz,Bw w wz->P (.returned (.bool false)) wz):=by
      refine Lh (λh wz hB=>SF.out wz (λh2=>?_) hB);have h3:=congrArg (λz=>z[i]?) h2;simp only[bgf,HX.out.2,HY.out.2,Option.map_some,bf5]at h3;rw[Tp.out.2 h3]at h;cases h
     unfold bg.cells at heq hgd;unfold bN.cells at Yn Yo;simp only at heq hgd Yn Yo;clear hrl hra hrb hrc;obtain⟨e0,e1,e2,e3,e4,e5,e6,e7,e8,e9⟩:=HR2.out.1.Qu;obtain⟨f0,f1,f2,f3,f4,f5,f6,f7,f8,f9⟩:=HR2.out.2.Qu;simp only at e0 e1 e2 e3 e4 e5 e6 e7 e8 e9 f0 f1 f2 f3 f4 f5 f6 f7 f8 f9
     cases rl with
     | false=>
      have HZ:=Lh (Y3.out rfl wy TD.out);go_wp2_with(fail);exact HZ.out
     | true=>
     cases ra with
     | false=>
      have HZ:=Lh (Y3.out rfl wy TD.out);go_wp2_with(fail);exact HZ.out
     | true=>
     cases rb with
     | false=>
      have HZ:=Lh (Y3.out rfl wy TD.out);go_wp2_with(fail);exact HZ.out
     | true=>
     by_cases hrr:xr=yr
     ·subst hrr;have Xi:=HC;go_wp2_with(fail);refine HC.out.mono ?_;rintro e w3 ⟨rfl,hB⟩;have HZ:=Lh (Tb TD.out hB);clear hB e0 e1 e2 e3 e4 e5 e6 e7 e8 e9 f0 f1 f2 f3 f4 f5 f6 f7 f8 f9;dsimp only
      cases rc with
      | false=>
       have HZ2:=Lh (Y3.out (by simp) w3 HZ.out)
       go_wp2_with(fail);exact HZ2.out
      | true=>
       have HE:Hid (RQ w l m (.int .i64 ((i:Int)+1)) w3):=by
        refine Lh ⟨i+1,by rw[<-HN.out.1];exact HI.out.1,rfl,λj hj x' y' h1 h2=>?_,HZ.out⟩
        rcases bg1 j i with hji | hji
        ·exact HO.out.1 j hji x' y' h1 h2
        obtain rfl:j=i:=by omega
        have e1:=h1.symm.trans HX.out.2;have e2:=h2.symm.trans HY.out.2;cases e1
        cases e2
        exact Tp.out.1 (by simp)
       have HI2:=Lh HI.out.1;go_wp2_with(fail);go_roundw
       case rel=>exact HE.out
       case measure=>have:=HI2.out;simp[intOf];omega
     have HZ:=Lh (Y3.out (by simp[hrr]) wy TD.out)
     go_wp2_with(fail);exact HZ.out
   obtain rfl:i=n:=by omega
   clear hlt;go_wp2_with(fail);exact Sl.out _ (Qx (HN.out.1.symm.trans HN.out.2) (λj hj=>HO.out.1 j (by rw[HN.out.1];exact hj))) HO.out.2
 have hne:¬(n:Int)=(k:Int):=by omega
 have hne':((n:Int) !=(k:Int))=true:=bne_iff_ne.2 hne;have HZ:Hid (P (.returned (.bool false)) w):=by
  refine Lh (SF.out _ (λh=>hnk ?_) Br);have h3:=congrArg List.length h;rw[bfz,bfz,<-HN.out.1,<-HN.out.2]at h3;exact h3
 go_enter func12,ntmps12;go_wp2_with(fail);exact HZ.out
theorem Mo(w:World)(m1:Int)(TR:Value)(l1:List bn)(m2:Int)(T9:Value)(l2:List bn)(hA:bO w TR l1)(hB:bO w T9 l2)(gA:∀x∈l1,bR w x)(gB:∀x∈l2,bR w x)(fA:qG l1)(fB:qG l2):
  Calls prog 16 #[.agg #[.int .i64 m1,TR],.agg #[.int .i64 m2,T9]] w (bE w (.bool (decide ((⟨m1,l1.map bn.p⟩:di)=⟨m2,l2.map bn.p⟩)))):=by
 obtain⟨r,hr⟩:=Nm (decide ((⟨m1,l1.map bn.p⟩:di)=⟨m2,l2.map bn.p⟩));rw[<-hr];obtain⟨aa,ca,rfl,_,hAt⟩:=hA.form;obtain⟨ba,cb,rfl,_,uO⟩:=hB.form;obtain⟨w1,hw1⟩:=Nm ((w.alloc (.cells #[.int .i64 m1,.slice aa l1.length ca] 29)).alloc (.cells #[.int .i64 m2,.slice ba l2.length cb] 29));obtain⟨xb,hxb⟩:=Nm (w.heap.size);obtain⟨yb,hyb⟩:=Nm (w.heap.size+1);have hs1:(w.alloc (.cells #[.int .i64 m1,.slice aa l1.length ca] 29)).heap.size=w.heap.size+1:=bq w _;have H1:Hid (bT w1 xb m1 (.slice aa l1.length ca)/\bT w1 yb m2 (.slice ba l2.length cb)/\Bw w w1):=by
  have k1:=(Below.refl _ w).alloc (bfx _) (.cells #[.int .i64 m1,.slice aa l1.length ca] 29);have k2:=(Below.refl _ (w.alloc (.cells #[.int .i64 m1,.slice aa l1.length ca] 29))).alloc (bfx _) (.cells #[.int .i64 m2,.slice ba l2.length cb] 29);rw[hw1,hxb,hyb];refine Lh ⟨bT.below (bg5 w _) k2,?_,Tb k1 k2⟩;rw[<-hs1];exact bg5 _ _
 have HB1:=Lh H1.out.2.2;have HE:Hid (Calls prog 26 #[.slice aa l1.length ca,.slice ba l2.length cb,.func (.func 27) #[] #[]] w1 (bE w1 (.bool (decide (l1.map bn.p=l2.map bn.p))))):=
  Lh (NR w1 aa ba ca cb l1 l2 (hAt.below HB1.out) (uO.below HB1.out) (λx hx=>⟨(gA x hx).below HB1.out,(fA.1 x hx).2⟩) (λx hx=>⟨(gB x hx).below HB1.out,(fB.1 x hx).2⟩) fA.2 fB.2)
 obtain⟨rb,hrb⟩:=Nm (decide (l1.map bn.p=l2.map bn.p));rw[<-hrb]at HE;have HR:Hid (r=(decide (m1=m2) && rb)):=by
  rw[hr,hrb];refine Lh (Bool.eq_iff_iff.2 ?_);simp
 clear hA hB gA gB fA fB hAt uO hr hrb;obtain⟨e0,e1⟩:=H1.out.1.d2;obtain⟨f0,f1⟩:=H1.out.2.1.d2;by_cases hm:m1=m2
 ·subst hm;obtain rfl:r=rb:=by rw[HR.out,bfr rfl,bgw]
  go_enter func16,ntmps16;go_upto_region 1 with(fail);rw[<-hw1,<-hyb,<-hxb];clear hw1 hxb hyb hs1;go_wp2_with(fail);refine HE.out.mono ?_;rintro e w2 ⟨rfl,hB⟩;have HZ:=Lh (Tb HB1.out hB);clear hB e0 e1 f0 f1;dsimp only;go_wp2_with(fail);go_ret;exact⟨rfl,HZ.out⟩
 obtain rfl:r=false:=by rw[HR.out,bfq hm,Bool.false_and]
 have hm':(m1==m2)=false:=by simpa using hm
 go_enter func16,ntmps16;go_upto_region 1 with(fail);rw[<-hw1,<-hyb,<-hxb];clear hw1 hxb hyb hs1;go_wp2_with(fail);go_ret;exact⟨rfl,HB1.out⟩
theorem Cr(w:World)(aa ba:Option Addr)(ca cb:Nat)(l m:List bM)(hA:gH w aa l)(hB:gH w ba m)(gA:∀x∈l,dO w x/\x.o.v.length<=1000000)(gB:∀x∈m,dO w x/\x.o.v.length<=1000000)(hl:l.length<=1000000)(hm:m.length<=1000000):
  Calls prog 13 #[.slice aa l.length ca,.slice ba m.length cb] w (bE w (.bool (decide (l.map bM.o=m.map bM.o)))):=by
 have HE:=Lh (NQ w aa ba ca cb l m hA hB gA gB hl hm);clear hA hB gA gB hl hm;go_enter func13,ntmps13;go_wp2_with(fail);refine HE.out.mono ?_;rintro e w2 ⟨rfl,hB⟩;have HZ:=Lh hB;clear hB;dsimp only;go_wp2_with(fail);go_ret;exact⟨rfl,HZ.out⟩
@[go_sem] theorem K9 {P : Program} {w : World} {a : Addr} {m : Mode} (k : FloatKind) (x y : Nat) : (store a (.complex k x y) m).run P w = stored P w a (.complex k x y) m := run_store P w a _ m rfl
def Nb(w:World)(x y:bn)(s t:Value)(w':World):Prop:=∃b c,s=.pointer (some ⟨b,0,none⟩)/\t=.pointer (some ⟨c,0,none⟩)/\cz w' b x/\cz w' c y/\Bw w w'
theorem sV(w:World)(x y:bn):cz ((w.alloc (.cells x.cells 55)).alloc (.cells y.cells 55)).drew w.heap.size x/\cz ((w.alloc (.cells x.cells 55)).alloc (.cells y.cells 55)).drew (w.heap.size+1) y/\Bw w ((w.alloc (.cells x.cells 55)).alloc (.cells y.cells 55)).drew:=by
 obtain⟨h1,h2,h3⟩:=NJ w x y;exact⟨h1.below Br.drew,h2.below Br.drew,h3.drew⟩
theorem PU(w:World)(x y:bn):Nb w x y (.pointer (some ⟨w.heap.size,0,none⟩)) (.pointer (some ⟨w.heap.size+1,0,none⟩)) ((w.alloc (.cells x.cells 55)).alloc (.cells y.cells 55)).drew:=
 ⟨_,_,rfl,rfl,(sV w x y).1,(sV w x y).2.1,(sV w x y).2.2⟩
theorem PV(w:World)(x y:bn):Nb w x y (.pointer (some ⟨w.heap.size+1,0,none⟩)) (.pointer (some ⟨w.heap.size,0,none⟩)) ((w.alloc (.cells y.cells 55)).alloc (.cells x.cells 55)).drew:=
 ⟨_,_,rfl,rfl,(sV w y x).2.1,(sV w y x).1,(sV w y x).2.2⟩
theorem Kh(w:World)(m1:Int)(TR:Value)(l1:List bn)(m2:Int)(T9:Value)(l2:List bn)(hA:bO w TR l1)(hB:bO w T9 l2)(gA:∀x∈l1,bR w x)(gB:∀x∈l2,bR w x)(fA:qG l1)(fB:qG l2):
  Calls prog 11 #[.agg #[.int .i64 m1,TR],.agg #[.int .i64 m2,T9]] w (bE w (.bool (decide ((⟨m1,l1.map bn.p⟩:di)=⟨m2,l2.map bn.p⟩)))):=by
 obtain⟨P,hP⟩:=Nm (bE w (.bool (decide ((⟨m1,l1.map bn.p⟩:di)=⟨m2,l2.map bn.p⟩))));rw[<-hP];have SF:Hid (∀wz,¬(m1=m2/\l1.map bn.p=l2.map bn.p)->Bw w wz->P (.returned (.bool false)) wz):=Lh (λwz h hB=>by rw[hP,bfq (by simpa using h)];exact⟨rfl,hB⟩)
 have Sl:Hid (∀wz,m1=m2->l1.map bn.p=l2.map bn.p->Bw w wz->P (.returned (.bool true)) wz):=Lh (λwz h h' hB=>by rw[hP,bfr (by rw[h,h'])];exact⟨rfl,hB⟩)
 obtain⟨aa,ca,rfl,_,hAt⟩:=hA.form;obtain⟨ba,cb,rfl,_,uO⟩:=hB.form;obtain⟨n,hN⟩:=Nm (l1.length);obtain⟨k,hK⟩:=Nm (l2.length);rw[<-hN,<-hK];obtain⟨w1,hw1⟩:=Nm ((w.alloc (.cells #[.int .i64 m1,.slice aa n ca] 29)).alloc (.cells #[.int .i64 m2,.slice ba k cb] 29));obtain⟨xb,hxb⟩:=Nm (w.heap.size);obtain⟨yb,hyb⟩:=Nm (w.heap.size+1);have hs1:(w.alloc (.cells #[.int .i64 m1,.slice aa n ca] 29)).heap.size=w.heap.size+1:=bq w _;have H1:Hid (bT w1 xb m1 (.slice aa n ca)/\bT w1 yb m2 (.slice ba k cb)/\Bw w w1):=by
  have k1:=(Below.refl _ w).alloc (bfx _) (.cells #[.int .i64 m1,.slice aa n ca] 29);have k2:=(Below.refl _ (w.alloc (.cells #[.int .i64 m1,.slice aa n ca] 29))).alloc (bfx _) (.cells #[.int .i64 m2,.slice ba k cb] 29);rw[hw1,hxb,hyb];refine Lh ⟨bT.below (bg5 w _) k2,?_,Tb k1 k2⟩;rw[<-hs1];exact bg5 _ _
 have HB1:=Lh H1.out.2.2;have HA:=Lh (hAt.below HB1.out);have ah:=Lh (uO.below HB1.out);have aC:Hid (∀x∈l1,bR w1 x/\x.p.a.top.length<=1000000):=Lh (λx hx=>⟨(gA x hx).below HB1.out,(fA.1 x hx).2⟩);have aD:Hid (∀x∈l2,bR w1 x/\x.p.a.top.length<=1000000):=Lh (λx hx=>⟨(gB x hx).below HB1.out,(fB.1 x hx).2⟩);have Tx:n<=1000000:=by have:=fA.2;omega
 have OO:k<=1000000:=by have:=fB.2;omega
 have HN:Hid (n=l1.length/\k=l2.length):=Lh ⟨hN,hK⟩;clear hN hK hA hB gA gB fA fB hP hAt uO;obtain⟨e0,e1⟩:=H1.out.1.d2;obtain⟨f0,f1⟩:=H1.out.2.1.d2;by_cases hmm:m1=m2
 case neg=>
  have HZ:=Lh (SF.out w1 (λh=>hmm h.1) HB1.out);go_enter func11,ntmps11;go_upto_region 1 with(fail);rw[<-hw1,<-hyb,<-hxb];clear hw1 hxb hyb hs1;go_wp2_with(fail);exact HZ.out
 subst hmm;by_cases hnk:n=k
 case neg=>
  have hne:¬(n:Int)=(k:Int):=by omega
  have hne':((n:Int) !=(k:Int))=true:=bne_iff_ne.2 hne;have HZ:Hid (P (.returned (.bool false)) w1):=by
   refine Lh (SF.out _ (λh=>hnk ?_) HB1.out);have h3:=congrArg List.length h.2;rw[bfz,bfz,<-HN.out.1,<-HN.out.2]at h3;exact h3
  go_enter func11,ntmps11;go_upto_region 1 with(fail);rw[<-hw1,<-hyb,<-hxb];clear hw1 hxb hyb hs1;go_wp2_with(fail);exact HZ.out
 subst hnk;go_enter func11,ntmps11;go_upto_region 1 with(fail);rw[<-hw1,<-hyb,<-hxb];clear hw1 hxb hyb hs1;go_wp2_with(fail);clear e0 e1 f0 f1;go_loopw[25] (RS w1 l1 l2) (λv _=>n-(intOf v).toNat)
 case atStart=>exact⟨0,bgi _,rfl,λj h=>absurd h (Nat.not_lt_zero _),Br⟩
 case round=>
  obtain⟨i,hi,rfl,hok,hB⟩:=hrel;rw[<-HN.out.1]at hi;have HO:=Lh (bfy hok hB);clear hok hB;by_cases hlt:i<n
  ·have hi0:(0:Int)<=(i:Int)/\(i:Int)<(n:Int):=by omega
   obtain⟨x,pa,oa,hx,hsa,c0,c1,c2,c3,c4,c5,c6,c7⟩:=(HA.out.below HO.out.2).get (t:=i) (by rw[<-HN.out.1];exact hlt)
   subst hsa;have HX:=Lh (bfy (aC.out x (bf3 hx)) hx);obtain⟨y,pc,oc,hy,hsb,d0,d1,d2,d3,d4,d5,d6,d7⟩:=(ah.out.below HO.out.2).get (t:=i) (by rw[<-HN.out.2];exact hlt)
   subst hsb;have HY:=Lh (bfy (aD.out y (bf3 hy)) hy);have HI:=Lh (bfy hlt hi);clear hx hi hlt hy;obtain⟨⟨⟨xk,xl,xh⟩,⟨xn,xa,xt,xu,xv⟩,xr⟩,Su,xz,Sw,Sz⟩:=x;obtain⟨⟨⟨yk,yl,yh⟩,⟨yn,ya,yt,yu,yv⟩,yr⟩,Vd,yz,Tv,VC⟩:=y;simp only at c0 c1 c2 c3 c4 c5 c6 c7 d0 d1 d2 d3 d4 d5 d6 d7;obtain⟨oF,oG,hxt,_⟩:=HX.out.1.1.1;obtain⟨oH,oI,Wt,_⟩:=HY.out.1.1.1;obtain⟨xp,xq,hxz,_⟩:=HX.out.1.1.2.1;obtain⟨yp,yq,hyz,_⟩:=HY.out.1.1.2.1;obtain⟨xm,hxm⟩:=Nm (xt.length);obtain⟨ym,hym⟩:=Nm (yt.length);simp only at hxt Wt hxz hyz;rw[<-hxm]at hxt;rw[<-hym]at Wt;clear hxm hym;subst hxt Wt hxz hyz;obtain⟨u0,u1⟩:=(H1.out.1.below HO.out.2).d2;obtain⟨v0,v1⟩:=(H1.out.2.1.below HO.out.2).d2;have Tf:∀a v,wr.cell? a=some v->∀o,(wr.alloc o).cell? a=some v:=λa v h o=>(((Below.refl _ wr).alloc (bfx _) o).cell (block_lt_of_cell h)).trans h;have Tg:∀a v,wr.cell? a=some v->∀o o',((wr.alloc o).alloc o').cell? a=some v:=λa v h o o'=>((((Below.refl _ wr).alloc (bfx _) o).alloc (by simp) o').cell (block_lt_of_cell h)).trans h
   have g0:=Tf _ _ c0;have h0:=Tg _ _ c0;have g1:=Tf _ _ c1;have h1:=Tg _ _ c1;have g2:=Tf _ _ c2;have h2:=Tg _ _ c2;have g3:=Tf _ _ c3;have h3:=Tg _ _ c3;have g4:=Tf _ _ c4;have h4:=Tg _ _ c4;have g5:=Tf _ _ c5;have h5:=Tg _ _ c5;have g6:=Tf _ _ c6;have h6:=Tg _ _ c6;have g7:=Tf _ _ c7;have h7:=Tg _ _ c7;have s0:=Tf _ _ d0;have t0:=Tg _ _ d0;have s1:=Tf _ _ d1;have t1:=Tg _ _ d1;have s2:=Tf _ _ d2;have t2:=Tg _ _ d2;have s3:=Tf _ _ d3;have t3:=Tg _ _ d3;have s4:=Tf _ _ d4;have t4:=Tg _ _ d4;have s5:=Tf _ _ d5;have t5:=Tg _ _ d5;have s6:=Tf _ _ d6;have t6:=Tg _ _ d6;have s7:=Tf _ _ d7;have t7:=Tg _ _ d7;have u1_0:=Tf _ _ u0;have u2_0:=Tg _ _ u0;have u1_1:=Tf _ _ u1;have u2_1:=Tg _ _ u1;have v1_0:=Tf _ _ v0;have v2_0:=Tg _ _ v0;have v1_1:=Tf _ _ v1;have v2_1:=Tg _ _ v1;clear Tf Tg;go_upto_region 6 with(fail);go_cut[6,7]from 28 to 37 (λs t wx=>Nb wr (bn.mk ⟨⟨xk,xl,xh⟩,⟨xn,xa,xt,xu,xv⟩,xr⟩ (.slice oF xm oG) (.complex .f64 xp xq) Sw Sz) (bn.mk ⟨⟨yk,yl,yh⟩,⟨yn,ya,yt,yu,yv⟩,yr⟩ (.slice oH ym oI) (.complex .f64 yp yq) Tv VC) s t wx)
   case first=>
    go_region
    all_goals go_wp2_with(fail)
    all_goals go_meet
    ·exact PU wr (bn.mk ⟨⟨xk,xl,xh⟩,⟨xn,xa,xt,xu,xv⟩,xr⟩ (.slice oF xm oG) (.complex .f64 xp xq) Sw Sz) (bn.mk ⟨⟨yk,yl,yh⟩,⟨yn,ya,yt,yu,yv⟩,yr⟩ (.slice oH ym oI) (.complex .f64 yp yq) Tv VC)
    exact PV wr (bn.mk ⟨⟨xk,xl,xh⟩,⟨xn,xa,xt,xu,xv⟩,xr⟩ (.slice oF xm oG) (.complex .f64 xp xq) Sw Sz) (bn.mk ⟨⟨yk,yl,yh⟩,⟨yn,ya,yt,yu,yv⟩,yr⟩ (.slice oH ym oI) (.complex .f64 yp yq) Tv VC)
   case rest=>
    obtain⟨pb,qb,rfl,rfl,Rx,Ry,hBw⟩:=hcut;obtain⟨wy,Sy⟩:=Nm wc;rw[<-Sy]at Rx Ry hBw ⊢;have HR2:=Lh (bfy Rx Ry);have X7:=Lh (HO.out.2.trans (hBw.mono HO.out.2.size));have TD:=Lh (Tb HB1.out X7.out);clear Sy Rx Ry hBw c0 c1 c2 c3 c4 c5 c6 c7 d0 d1 d2 d3 d4 d5 d6 d7 g0 g1 g2 g3 g4 g5 g6 g7 h0 h1 h2 h3 h4 h5 h6 h7 s0 s1 s2 s3 s4 s5 s6 s7 t0 t1 t2 t3 t4 t5 t6 t7 u0 u1 v0 v1 u1_0 u1_1 u2_0 u2_1 v1_0 v1_1 v2_0 v2_1;obtain⟨ra,hra⟩:=Nm (pR ⟨xn,xa,xt,xu,xv⟩ ⟨yn,ya,yt,yu,yv⟩);obtain⟨rb,hrb⟩:=Nm (lq ⟨xk,xl,xh⟩ ⟨yk,yl,yh⟩);have heq:∀w',(binOp .neq 47 (.agg (bg.mk xk xl xh).cells) (.agg (bg.mk yk yl yh).cells)).run prog w'=.ok (.bool (!rb)) w':=λw'=>by rw[hrb];exact sF w' _ _
    have hgd:∀w' op o1 o2,(eqGuard op 47 o1 o2 (.agg (bg.mk xk xl xh).cells) (.agg (bg.mk yk yl yh).cells)).run prog w'=.ok () w':=λw' op o1 o2=>fT w' op o1 o2 _ _;have HC:Hid (Calls prog 23 #[.agg #[.int .i64 xn,.int .i64 xa,.slice oF xm oG,.complex .f64 xp xq],.agg #[.int .i64 yn,.int .i64 ya,.slice oH ym oI,.complex .f64 yp yq]] wy (bE wy (.bool ra))):=by
     rw[hra];exact Lh (MC wy ⟨xn,xa,xt,xu,xv⟩ ⟨yn,ya,yt,yu,yv⟩ _ _ _ _ (HX.out.1.1.1.below X7.out) (HY.out.1.1.1.below X7.out) HX.out.1.1.2 HY.out.1.1.2 HX.out.1.2)
    have Tp:Hid ((rb && (ra && (xr==yr)))=true↔((bn.mk ⟨⟨xk,xl,xh⟩,⟨xn,xa,xt,xu,xv⟩,xr⟩ (.slice oF xm oG) (.complex .f64 xp xq) Sw Sz)).p=((bn.mk ⟨⟨yk,yl,yh⟩,⟨yn,ya,yt,yu,yv⟩,yr⟩ (.slice oH ym oI) (.complex .f64 yp yq) Tv VC)).p):=by
     rw[hra,hrb];exact Lh (Dt ((bn.mk ⟨⟨xk,xl,xh⟩,⟨xn,xa,xt,xu,xv⟩,xr⟩ (.slice oF xm oG) (.complex .f64 xp xq) Sw Sz)).p ((bn.mk ⟨⟨yk,yl,yh⟩,⟨yn,ya,yt,yu,yv⟩,yr⟩ (.slice oH ym oI) (.complex .f64 yp yq) Tv VC)).p)
    have Y3:Hid ((rb && (ra && (xr==yr)))=false->∀wz,Bw w wz->P (.returned (.bool false)) wz):=by
     refine Lh (λh wz hB=>SF.out wz (λh2=>?_) hB);have h3:=congrArg (λz=>z[i]?) h2.2;simp only[bgf,HX.out.2,HY.out.2,Option.map_some,bf5]at h3;rw[Tp.out.2 h3]at h;cases h
    unfold bg.cells at heq hgd;simp only at heq hgd;clear hra hrb;obtain⟨e0,e1,e2,e3,e4,e5,e6,e7⟩:=HR2.out.1.d8;obtain⟨f0,f1,f2,f3,f4,f5,f6,f7⟩:=HR2.out.2.d8;simp only at e0 e1 e2 e3 e4 e5 e6 e7 f0 f1 f2 f3 f4 f5 f6 f7
    cases rb with
    | false=>
     have HZ:=Lh (Y3.out rfl wy TD.out);go_wp2_with(fail);exact HZ.out
    | true=>
    by_cases hrr:xr=yr
    ·subst hrr;go_wp2_with(fail);refine HC.out.mono ?_;rintro e w3 ⟨rfl,hB⟩;have HZ1:=Lh (Tb X7.out hB);have HZ:=Lh (Tb TD.out hB);clear hB e0 e1 e2 e3 e4 e5 e6 e7 f0 f1 f2 f3 f4 f5 f6 f7;dsimp only
     cases ra with
     | false=>
      have HZ2:=Lh (Y3.out (by simp) w3 HZ.out)
      go_wp2_with(fail);exact HZ2.out
     | true=>
      have HE:Hid (RS w1 l1 l2 (.int .i64 ((i:Int)+1)) w3):=by
       refine Lh ⟨i+1,by rw[<-HN.out.1];exact HI.out.1,rfl,λj hj x' y' h1 h2=>?_,HZ1.out⟩
       rcases bg1 j i with hji | hji
       ·exact HO.out.1 j hji x' y' h1 h2
       obtain rfl:j=i:=by omega
       have e1:=h1.symm.trans HX.out.2;have e2:=h2.symm.trans HY.out.2;cases e1
       cases e2
       exact Tp.out.1 (by simp)
      have HI2:=Lh HI.out.1;go_wp2_with(fail);go_roundw
      case rel=>exact HE.out
      case measure=>have:=HI2.out;simp[intOf];omega
    have HZ:=Lh (Y3.out (by simp[hrr]) wy TD.out)
    go_wp2_with(fail);exact HZ.out
  obtain rfl:i=n:=by omega
  clear hlt;have HZ:=Lh (Sl.out wr (by simp) (Qy (HN.out.1.symm.trans HN.out.2) (λj hj=>HO.out.1 j (by rw[HN.out.1];exact hj))) (HB1.out.trans (HO.out.2.mono HB1.out.size)))
  go_wp2_with(fail);exact HZ.out
end Go.Proofs.YtjeeghafachebaaGreat
