/-
  31.
-/
import Derived.Test.YtjeeghafachebaaGreatU29
import Derived.Test.YtjeeghafachebaaGreatU30
import Derived.Test.YtjeeghafachebaaGreatU27
set_option maxRecDepth 100000
set_option maxHeartbeats 2000000
namespace Go.Proofs.YtjeeghafachebaaGreat
open Go Go.RowKit Go.Proofs.Tryz
def Hl(x y:bH):Bool:=lq x.w y.w && (pR x.a y.a && (x.r==y.r))
theorem Dt(x y:bH):Hl x y=true↔x=y:=by
 obtain⟨a,b,c⟩:=x;obtain⟨a',b',c'⟩:=y;simp only[Hl,bf8,ku,MI,beq_iff_eq,bH.mk.injEq]
theorem MJ(x y:bN):sG x y=true↔x=y:=by
 obtain⟨a,b,c,d⟩:=x;obtain⟨a',b',c',d'⟩:=y;simp[sG]
def Hg(x y:dB):Bool:=(x.late==y.late) && (sG x.item y.item && (lq x.w y.w && ((x.r==y.r) && decide (x.v=y.v))))
theorem xX(x y:dB):Hg x y=true↔x=y:=by
 obtain⟨a,b,c,d,e⟩:=x;obtain⟨a',b',c',d',e'⟩:=y;simp only[Hg,bf8,MJ,ku,beq_iff_eq,bf0,dB.mk.injEq]
instance:DecidableEq dB:=λx y=>decidable_of_iff _ (xX x y)
theorem dU(k:IntKind)(z:Int):intOf (.int k z)=z:=rfl
theorem NJ(w:World)(x y:bn):
  cz ((w.alloc (.cells x.cells 55)).alloc (.cells y.cells 55)) w.heap.size x/\cz ((w.alloc (.cells x.cells 55)).alloc (.cells y.cells 55)) (w.heap.size+1) y/\Bw w ((w.alloc (.cells x.cells 55)).alloc (.cells y.cells 55)):=by
 have k1:=(Below.refl _ w).alloc (bfx _) (.cells x.cells 55);have k2:=(Below.refl _ (w.alloc (.cells x.cells 55))).alloc (bfx _) (.cells y.cells 55);have hs:(w.alloc (.cells x.cells 55)).heap.size=w.heap.size+1:=bq w _;refine⟨cz.below (bg5 w _) k2,?_,Tb k1 k2⟩;rw[<-hs];exact bg5 _ _
theorem Jk(w:World)(x y:bM):
  jN ((w.alloc (.cells x.cells 50)).alloc (.cells y.cells 50)) w.heap.size x/\jN ((w.alloc (.cells x.cells 50)).alloc (.cells y.cells 50)) (w.heap.size+1) y/\Bw w ((w.alloc (.cells x.cells 50)).alloc (.cells y.cells 50)):=by
 have k1:=(Below.refl _ w).alloc (bfx _) (.cells x.cells 50);have k2:=(Below.refl _ (w.alloc (.cells x.cells 50))).alloc (bfx _) (.cells y.cells 50);have hs:(w.alloc (.cells x.cells 50)).heap.size=w.heap.size+1:=bq w _;refine⟨jN.below (bg5 w _) k2,?_,Tb k1 k2⟩;rw[<-hs];exact bg5 _ _
theorem Cs(w:World)(x y:bn)(hx:bR w x)(hy:bR w y)(nx:x.p.a.top.length<=1000000)(ny:y.p.a.top.length<=1000000):
  Calls prog 27 #[.agg x.cells,.agg y.cells] w (bE w (.bool (Hl x.p y.p))):=by
 obtain⟨r,hr⟩:=Nm (Hl x.p y.p);rw[<-hr];obtain⟨w1,hw1⟩:=Nm ((w.alloc (.cells x.cells 55)).alloc (.cells y.cells 55));obtain⟨xb,hxb⟩:=Nm (w.heap.size);obtain⟨yb,hyb⟩:=Nm (w.heap.size+1);have H1:Hid (cz w1 xb x/\cz w1 yb y/\Bw w w1):=by rw[hw1,hxb,hyb];exact Lh (NJ w x y)
 have HB1:=Lh H1.out.2.2;obtain⟨ra,hra⟩:=Nm (lq x.p.w y.p.w);obtain⟨rb,hrb⟩:=Nm (pR x.p.a y.p.a);obtain⟨rc,hrc⟩:=Nm (x.p.r==y.p.r);have heq:∀w',(binOp .eql 47 (.agg x.p.w.cells) (.agg y.p.w.cells)).run prog w'=.ok (.bool ra) w':=λw'=>by rw[hra];exact jo w' _ _
 have hgd:∀w' op o1 o2,(eqGuard op 47 o1 o2 (.agg x.p.w.cells) (.agg y.p.w.cells)).run prog w'=.ok () w':=λw' op o1 o2=>fT w' op o1 o2 _ _;have HC:Hid (∀w',Bw w1 w'->Calls prog 45 #[.agg (bI x.p.a.n x.p.a.a x.tv x.z),.agg (bI y.p.a.n y.p.a.a y.tv y.z)] w' (bE w' (.bool rb))):=by
  rw[hrb];exact Lh (λw' hB=>Lp w' x.p.a y.p.a x.tv x.z y.tv y.z ((hx.1.below HB1.out).below hB) ((hy.1.below HB1.out).below hB) hx.2 hy.2 nx ny)
 have HR:Hid (r=(ra && (rb && rc))):=by rw[hr,hra,hrb,hrc];exact Lh rfl
 clear hr hra hrb hx hy nx ny;have hs1:(w.alloc (.cells x.cells 55)).heap.size=w.heap.size+1:=bq w _;obtain⟨⟨⟨xk,xl,xh⟩,⟨n,a,top,u,v⟩,rd⟩,tv,z,ht,hz⟩:=x;obtain⟨⟨⟨yk,yl,yh⟩,⟨n',a',top',u',v'⟩,rd'⟩,tv',z',ht',hz'⟩:=y;unfold bn.cells at hw1 hs1 ⊢;unfold bg.cells at heq hgd;unfold bI at HC;simp only at hw1 hs1 heq hgd HC hrc;obtain⟨e0,e1,e2,e3,e4,e5,e6,e7⟩:=H1.out.1.d8;obtain⟨f0,f1,f2,f3,f4,f5,f6,f7⟩:=H1.out.2.1.d8;have HFX:Hid (∀w',Bw w1 w'->w'.cell? ⟨xb,7,none⟩=some (.int .i64 rd)):=Lh (λw' h=>((H1.out.1.below h).d8).2.2.2.2.2.2.2);have HFY:Hid (∀w',Bw w1 w'->w'.cell? ⟨yb,7,none⟩=some (.int .i64 rd')):=Lh (λw' h=>((H1.out.2.1.below h).d8).2.2.2.2.2.2.2);clear H1
 cases ra with
 | false=>
  obtain rfl:r=false:=HR.out;clear HR HC hrc;go_enter func27,ntmps27;go_upto_region 1 with(fail);rw[<-hw1,<-hyb,<-hxb];clear hw1 hxb hyb hs1;go_wp2_with(fail);go_ret;exact⟨rfl,HB1.out⟩
 | true=>
 cases rb with
 | false=>
  obtain rfl:r=false:=HR.out;clear HR hrc;go_enter func27,ntmps27;go_upto_region 1 with(fail);rw[<-hw1,<-hyb,<-hxb];clear hw1 hxb hyb hs1;go_wp2_with(fail);refine(HC.out w1 Br).mono ?_;rintro e w2 ⟨rfl,hB⟩;have HZ:=Lh (Tb HB1.out hB);clear hB e0 e1 e2 e3 e4 e5 e6 e7 f0 f1 f2 f3 f4 f5 f6 f7;dsimp only;go_wp2_with(fail);go_ret;exact⟨rfl,HZ.out⟩
 | true=>
  obtain rfl:r=rc:=HR.out;clear HR;go_enter func27,ntmps27;go_upto_region 1 with(fail);rw[<-hw1,<-hyb,<-hxb];clear hw1 hxb hyb hs1;go_wp2_with(fail);refine(HC.out w1 Br).mono ?_;rintro e w2 ⟨rfl,hB⟩;have HZ:=Lh (Tb HB1.out hB);have e7:=HFX.out w2 hB;have f7:=HFY.out w2 hB;clear hB e0 e1 e2 e3 e4 e5 e6 f0 f1 f2 f3 f4 f5 f6;dsimp only;go_wp2_with(fail);go_ret;exact⟨by rw[hrc];rfl,HZ.out⟩
theorem Fw(w:World)(x y:bM)(hx:dO w x)(hy:dO w y)(nx:x.o.v.length<=1000000)(ny:y.o.v.length<=1000000):
  Calls prog 25 #[.agg x.cells,.agg y.cells] w (bE w (.bool (Hg x.o y.o))):=by
 obtain⟨r,hr⟩:=Nm (Hg x.o y.o);rw[<-hr];obtain⟨w1,hw1⟩:=Nm ((w.alloc (.cells x.cells 50)).alloc (.cells y.cells 50));obtain⟨xb,hxb⟩:=Nm (w.heap.size);obtain⟨yb,hyb⟩:=Nm (w.heap.size+1);have H1:Hid (jN w1 xb x/\jN w1 yb y/\Bw w w1):=by rw[hw1,hxb,hyb];exact Lh (Jk w x y)
 have HB1:=Lh H1.out.2.2;obtain⟨ra,hra⟩:=Nm (sG x.o.item y.o.item);obtain⟨rb,hrb⟩:=Nm (lq x.o.w y.o.w);obtain⟨rc,hrc⟩:=Nm (decide (x.o.v=y.o.v));obtain⟨rl,hrl⟩:=Nm (x.o.late==y.o.late);have heq:∀w',(binOp .eql 47 (.agg x.o.w.cells) (.agg y.o.w.cells)).run prog w'=.ok (.bool rb) w':=λw'=>by rw[hrb];exact jo w' _ _
 have hgd:∀w' op o1 o2,(eqGuard op 47 o1 o2 (.agg x.o.w.cells) (.agg y.o.w.cells)).run prog w'=.ok () w':=λw' op o1 o2=>fT w' op o1 o2 _ _;have Yn:∀w',(binOp .eql 42 (.agg x.o.item.cells) (.agg y.o.item.cells)).run prog w'=.ok (.bool ra) w':=λw'=>by rw[hra];exact wZ w' _ _
 have Yo:∀w' op o1 o2,(eqGuard op 42 o1 o2 (.agg x.o.item.cells) (.agg y.o.item.cells)).run prog w'=.ok () w':=λw' op o1 o2=>nP w' op o1 o2 _ _;have hbr:∀w',Sem.run prog (binOp .eql 4 (.bool x.o.late) (.bool y.o.late)) w'=.ok (.bool rl) w':=λw'=>by rw[hrl];cases x.o.late <;> cases y.o.late <;> simp[go_sem]
 have HC:Hid (∀w',Bw w1 w'->Calls prog 44 #[x.tv,y.tv] w' (bE w' (.bool rc))):=by
  rw[hrc];exact Lh (λw' hB=>zR w' x.tv y.tv x.o.v y.o.v ((bA.below hx HB1.out).below hB) ((bA.below hy HB1.out).below hB) nx ny)
 have HR:Hid (r=(rl && (ra && (rb && ((x.o.r==y.o.r) && rc))))):=by rw[hr,hra,hrb,hrc,hrl];exact Lh rfl
 clear hr hra hrb hrc hrl hx hy nx ny;have hs1:(w.alloc (.cells x.cells 50)).heap.size=w.heap.size+1:=bq w _;obtain⟨⟨late,⟨ik,Ub,it,iv⟩,⟨xk,xl,xh⟩,rd,lv⟩,tv,ht⟩:=x;obtain⟨⟨late',⟨ik',AA,it',iv'⟩,⟨xk',xl',xh'⟩,rd',lv'⟩,tv',ht'⟩:=y;unfold bM.cells at hw1 hs1 ⊢;unfold bg.cells at heq hgd;unfold bN.cells at Yn Yo;simp only at hw1 hs1 heq hgd Yn Yo HC HR hbr;obtain⟨e0,e1,e2,e3,e4,e5,e6,e7,e8,e9⟩:=H1.out.1.Qu;obtain⟨f0,f1,f2,f3,f4,f5,f6,f7,f8,f9⟩:=H1.out.2.1.Qu;clear H1
 cases rl with
 | false=>
  obtain rfl:r=false:=HR.out;clear HR HC;go_enter func25,ntmps25;go_upto_region 1 with(fail);rw[<-hw1,<-hyb,<-hxb];clear hw1 hxb hyb hs1;go_wp2_with(fail);go_ret;exact⟨rfl,HB1.out⟩
 | true=>
 cases ra with
 | false=>
  obtain rfl:r=false:=HR.out;clear HR HC;go_enter func25,ntmps25;go_upto_region 1 with(fail);rw[<-hw1,<-hyb,<-hxb];clear hw1 hxb hyb hs1;go_wp2_with(fail);go_ret;exact⟨rfl,HB1.out⟩
 | true=>
 cases rb with
 | false=>
  obtain rfl:r=false:=HR.out;clear HR HC;go_enter func25,ntmps25;go_upto_region 1 with(fail);rw[<-hw1,<-hyb,<-hxb];clear hw1 hxb hyb hs1;go_wp2_with(fail);go_ret;exact⟨rfl,HB1.out⟩
 | true=>
 by_cases h:rd=rd'
 ·subst h;obtain rfl:r=rc:=by rw[HR.out];simp
  clear HR;go_enter func25,ntmps25;go_upto_region 1 with(fail);rw[<-hw1,<-hyb,<-hxb];clear hw1 hxb hyb hs1;go_wp2_with(fail);refine(HC.out w1 Br).mono ?_;rintro e w2 ⟨rfl,hB⟩;have HZ:=Lh (Tb HB1.out hB);clear hB e0 e1 e2 e3 e4 e5 e6 e7 e8 e9 f0 f1 f2 f3 f4 f5 f6 f7 f8 f9;dsimp only;go_wp2_with(fail);go_ret;exact⟨rfl,HZ.out⟩
 have h':(rd==rd')=false:=by simpa using h
 obtain rfl:r=false:=by rw[HR.out,h'];rfl
 clear HR HC h;go_enter func25,ntmps25;go_upto_region 1 with(fail);rw[<-hw1,<-hyb,<-hxb];clear hw1 hxb hyb hs1;go_wp2_with(fail);go_ret;exact⟨rfl,HB1.out⟩
theorem dI.get {w:World} {a:Option Addr} {l:List bn}(h:dI w a l) {t:Nat}(ht:t<l.length):∃x b o,l[t]? =some x/\a=some ⟨b,o,none⟩/\w.cell? ⟨b,o+t*8,none⟩=some (Sv x.p.w.key)/\w.cell? ⟨b,o+t*8+1,none⟩=some (.int .i64 x.p.w.lo)/\w.cell? ⟨b,o+t*8+2,none⟩=some (.int .i64 x.p.w.hi)/\w.cell? ⟨b,o+t*8+3,none⟩=some (.int .i64 x.p.a.n)/\w.cell? ⟨b,o+t*8+4,none⟩=some (.int .i64 x.p.a.a)/\w.cell? ⟨b,o+t*8+5,none⟩=some (x.tv)/\w.cell? ⟨b,o+t*8+6,none⟩=some (x.z)/\w.cell? ⟨b,o+t*8+7,none⟩=some (.int .i64 x.p.r):=by
 rcases h with h | ⟨b,o,h,h'⟩
 ·rw[h]at ht;simp at ht
 exact⟨l[t],b,o,bfs ht,h,h' t _ (bfs ht) 0 _ rfl,h' t _ (bfs ht) 1 _ rfl,h' t _ (bfs ht) 2 _ rfl,h' t _ (bfs ht) 3 _ rfl,h' t _ (bfs ht) 4 _ rfl,h' t _ (bfs ht) 5 _ rfl,h' t _ (bfs ht) 6 _ rfl,h' t _ (bfs ht) 7 _ rfl⟩
def RS(w:World)(l m:List bn)(v:Value)(wr:World):Prop:=∃i:Nat,i<=l.length/\v=.int .i64 (i:Int)/\(∀j<i,∀x y,l[j]? =some x->m[j]? =some y->x.p=y.p)/\Bw w wr
theorem Qy {l m:List bn}(hn:l.length=m.length)(h:∀j<l.length,∀x y,l[j]? =some x->m[j]? =some y->x.p=y.p):l.map bn.p=m.map bn.p:=by
 apply List.ext_getElem?;intro j;rw[bgf,bgf];by_cases hj:j<l.length
 ·have h1:=bfs hj;have h2:=bfs (show j<m.length by omega)
  rw[h1,h2];exact congrArg some (h j hj _ _ h1 h2)
 rw[bgk (by omega),bgk (by omega)]
theorem NR(w:World)(aa ba:Option Addr)(ca cb:Nat)(l m:List bn)(hA:dI w aa l)(hB:dI w ba m)(gA:∀x∈l,bR w x/\x.p.a.top.length<=1000000)(gB:∀x∈m,bR w x/\x.p.a.top.length<=1000000)(hl:l.length<=1000000)(hm:m.length<=1000000):
  Calls prog 26 #[.slice aa l.length ca,.slice ba m.length cb,.func (.func 27) #[] #[]] w (bE w (.bool (decide (l.map bn.p=m.map bn.p)))):=by
 obtain⟨n,hN⟩:=Nm (l.length);obtain⟨k,hK⟩:=Nm (m.length);obtain⟨P,hP⟩:=Nm (bE w (.bool (decide (l.map bn.p=m.map bn.p))));rw[<-hP,<-hN,<-hK];have SF:Hid (∀wz,¬l.map bn.p=m.map bn.p->Bw w wz->P (.returned (.bool false)) wz):=Lh (λwz h hB=>by rw[hP,bfq h];exact⟨rfl,hB⟩)
 have Sl:Hid (∀wz,l.map bn.p=m.map bn.p->Bw w wz->P (.returned (.bool true)) wz):=Lh (λwz h hB=>by rw[hP,bfr h];exact⟨rfl,hB⟩)
 have HA:=Lh hA;have ah:=Lh hB;have aC:=Lh gA;have aD:=Lh gB;have Tx:n<=1000000:=by omega
 have OO:k<=1000000:=by omega
 have HN:Hid (n=l.length/\k=m.length):=Lh ⟨hN,hK⟩;clear hN hK hA hB gA gB hl hm hP;by_cases hnk:n=k
 ·subst hnk;go_enter func26,ntmps26;go_wp2_with(fail);go_loopw[17] (RS w l m) (λv _=>n-(intOf v).toNat)
  case atStart=>exact⟨0,bgi _,rfl,λj h=>absurd h (Nat.not_lt_zero _),Br⟩
  case round=>
   obtain⟨i,hi,rfl,hok,hB⟩:=hrel;rw[<-HN.out.1]at hi;have HO:=Lh (bfy hok hB);clear hok hB;by_cases hlt:i<n
   ·have hi0:(0:Int)<=(i:Int)/\(i:Int)<(n:Int):=by omega
    obtain⟨x,pa,oa,hx,hsa,c0,c1,c2,c3,c4,c5,c6,c7⟩:=(HA.out.below HO.out.2).get (t:=i) (by rw[<-HN.out.1];exact hlt)
    subst hsa;have HX:=Lh (bfy (aC.out x (bf3 hx)) hx);have HI:=Lh (bfy hlt hi);clear hx hi hlt;obtain⟨⟨⟨xk,xl,xh⟩,⟨xn,xa,xt,xu,xv⟩,xr⟩,Su,xz,Sw,Sz⟩:=x;simp only at c0 c1 c2 c3 c4 c5 c6 c7;go_upto_region 5 with(fail);refine bg4 ?_
    iterate 15 go_step
    refine bg6 rfl _ _ _ rfl wr.heap.size (bn.mk ⟨⟨xk,xl,xh⟩,⟨xn,xa,xt,xu,xv⟩,xr⟩ Su xz Sw Sz).cells rfl rfl 55 cO.cells (bg5 wr _) fo rfl (fG _) ?_;obtain⟨wx,hwx⟩:=Nm ((wr.alloc (Obj.cells #[.string ⟨#[]⟩,.int .i64 0,.int .i64 0,.int .i64 0,.int .i64 0,.slice none 0 0,.complex .f64 0 0,.int .i64 0] 55)).setRow wr.heap.size (bn.mk ⟨⟨xk,xl,xh⟩,⟨xn,xa,xt,xu,xv⟩,xr⟩ Su xz Sw Sz).cells);obtain⟨xb,hxb⟩:=Nm (wr.heap.size);have Sn:Hid (cz wx xb (bn.mk ⟨⟨xk,xl,xh⟩,⟨xn,xa,xt,xu,xv⟩,xr⟩ Su xz Sw Sz)/\Bw wr wx):=by
     obtain⟨k1,k2⟩:=fO wr (bn.mk ⟨⟨xk,xl,xh⟩,⟨xn,xa,xt,xu,xv⟩,xr⟩ Su xz Sw Sz);rw[hwx,hxb];exact Lh ⟨k1,k2⟩
    rw[<-hwx,<-hxb];clear hwx hxb;clear c0 c1 c2 c3 c4 c5 c6 c7;obtain⟨y,pc,oc,hy,hsb,c0,c1,c2,c3,c4,c5,c6,c7⟩:=(ah.out.below (HO.out.2.trans (Sn.out.2.mono HO.out.2.size))).get (t:=i) (by rw[<-HN.out.2];exact HI.out.1)
    subst hsb;have HY:=Lh (bfy (aD.out y (bf3 hy)) hy);clear hy;obtain⟨⟨⟨yk,yl,yh⟩,⟨yn,ya,yt,yu,yv⟩,yr⟩,Vd,yz,Tv,VC⟩:=y;simp only at c0 c1 c2 c3 c4 c5 c6 c7;go_upto_region 6 with(fail);refine bg4 ?_
    iterate 15 go_step
    refine bg6 rfl _ _ _ rfl wx.heap.size (bn.mk ⟨⟨yk,yl,yh⟩,⟨yn,ya,yt,yu,yv⟩,yr⟩ Vd yz Tv VC).cells rfl rfl 55 cO.cells (bg5 wx _) fo rfl (fG _) ?_;obtain⟨wy,Sy⟩:=Nm ((wx.alloc (Obj.cells #[.string ⟨#[]⟩,.int .i64 0,.int .i64 0,.int .i64 0,.int .i64 0,.slice none 0 0,.complex .f64 0 0,.int .i64 0] 55)).setRow wx.heap.size (bn.mk ⟨⟨yk,yl,yh⟩,⟨yn,ya,yt,yu,yv⟩,yr⟩ Vd yz Tv VC).cells);obtain⟨yb,hyb⟩:=Nm (wx.heap.size);have TG:Hid (cz wy yb (bn.mk ⟨⟨yk,yl,yh⟩,⟨yn,ya,yt,yu,yv⟩,yr⟩ Vd yz Tv VC)/\Bw wx wy):=by
     obtain⟨k1,k2⟩:=fO wx (bn.mk ⟨⟨yk,yl,yh⟩,⟨yn,ya,yt,yu,yv⟩,yr⟩ Vd yz Tv VC);rw[Sy,hyb];exact Lh ⟨k1,k2⟩
    rw[<-Sy,<-hyb];clear Sy hyb;clear c0 c1 c2 c3 c4 c5 c6 c7;have TD:Hid (Bw w wy):=Lh ((HO.out.2.trans (Sn.out.2.mono HO.out.2.size)).trans (TG.out.2.mono (HO.out.2.trans (Sn.out.2.mono HO.out.2.size)).size));obtain⟨r,hr⟩:=Nm (Hl (bn.mk ⟨⟨xk,xl,xh⟩,⟨xn,xa,xt,xu,xv⟩,xr⟩ Su xz Sw Sz).p (bn.mk ⟨⟨yk,yl,yh⟩,⟨yn,ya,yt,yu,yv⟩,yr⟩ Vd yz Tv VC).p);have HC:Hid (Calls prog 27 #[.agg (bn.mk ⟨⟨xk,xl,xh⟩,⟨xn,xa,xt,xu,xv⟩,xr⟩ Su xz Sw Sz).cells,.agg (bn.mk ⟨⟨yk,yl,yh⟩,⟨yn,ya,yt,yu,yv⟩,yr⟩ Vd yz Tv VC).cells] wy (bE wy (.bool r))):=by
     rw[hr];exact Lh (Cs wy _ _ (HX.out.1.1.below TD.out) (HY.out.1.1.below TD.out) HX.out.1.2 HY.out.1.2)
    have Tp:Hid (r=true↔(bn.mk ⟨⟨xk,xl,xh⟩,⟨xn,xa,xt,xu,xv⟩,xr⟩ Su xz Sw Sz).p=(bn.mk ⟨⟨yk,yl,yh⟩,⟨yn,ya,yt,yu,yv⟩,yr⟩ Vd yz Tv VC).p):=by rw[hr];exact Lh (Dt _ _)
    clear hr;unfold bn.cells at HC;obtain⟨e0,e1,e2,e3,e4,e5,e6,e7⟩:=(Sn.out.1.below TG.out.2).d8;obtain⟨f0,f1,f2,f3,f4,f5,f6,f7⟩:=TG.out.1.d8
    cases r with
    | false=>
     go_wp2_with(fail);refine HC.out.mono ?_;rintro e w3 ⟨rfl,hB⟩;have HZ:=Lh (Tb TD.out hB);clear hB e0 e1 e2 e3 e4 e5 e6 e7 f0 f1 f2 f3 f4 f5 f6 f7;dsimp only;go_wp2_with(fail);refine SF.out _ (λh=>?_) HZ.out;have h3:=congrArg (λz=>z[i]?) h;simp only[bgf,HX.out.2,HY.out.2,Option.map_some,bf5]at h3;exact absurd (Tp.out.2 h3) (by simp)
    | true=>
     go_wp2_with(fail);refine HC.out.mono ?_;rintro e w3 ⟨rfl,hB⟩;have HZ:=Lh (Tb TD.out hB);clear hB e0 e1 e2 e3 e4 e5 e6 e7 f0 f1 f2 f3 f4 f5 f6 f7;dsimp only;go_wp2_with(fail);refine⟨⟨i+1,by rw[<-HN.out.1];exact HI.out.1,rfl,λj hj x' y' h1 h2=>?_,HZ.out⟩,by rw[dU,dU];have:=HI.out.1;omega⟩
     rcases bg1 j i with hji | hji
     ·exact HO.out.1 j hji x' y' h1 h2
     obtain rfl:j=i:=by omega
     have e1:=h1.symm.trans HX.out.2;have e2:=h2.symm.trans HY.out.2;cases e1
     cases e2
     exact Tp.out.1 trivial
   obtain rfl:i=n:=by omega
   clear hlt;go_wp2_with(fail);exact Sl.out _ (Qy (HN.out.1.symm.trans HN.out.2) (λj hj=>HO.out.1 j (by rw[HN.out.1];exact hj))) HO.out.2
 have hne:¬(n:Int)=(k:Int):=by omega
 have hne':((n:Int) !=(k:Int))=true:=bne_iff_ne.2 hne;go_enter func26,ntmps26;go_wp2_with(fail);refine SF.out _ (λh=>hnk ?_) Br;have h3:=congrArg List.length h;rw[bfz,bfz,<-HN.out.1,<-HN.out.2]at h3;exact h3
theorem gH.get {w:World} {a:Option Addr} {l:List bM}(h:gH w a l) {t:Nat}(ht:t<l.length):∃x b o,l[t]? =some x/\a=some ⟨b,o,none⟩/\w.cell? ⟨b,o+t*10,none⟩=some (.bool x.o.late)/\w.cell? ⟨b,o+t*10+1,none⟩=some (.int .i64 x.o.item.kind)/\w.cell? ⟨b,o+t*10+2,none⟩=some (Sv x.o.item.key)/\w.cell? ⟨b,o+t*10+3,none⟩=some (.int .i64 x.o.item.time)/\w.cell? ⟨b,o+t*10+4,none⟩=some (.int .i64 x.o.item.value)/\w.cell? ⟨b,o+t*10+5,none⟩=some (Sv x.o.w.key)/\w.cell? ⟨b,o+t*10+6,none⟩=some (.int .i64 x.o.w.lo)/\w.cell? ⟨b,o+t*10+7,none⟩=some (.int .i64 x.o.w.hi)/\w.cell? ⟨b,o+t*10+8,none⟩=some (.int .i64 x.o.r)/\w.cell? ⟨b,o+t*10+9,none⟩=some (x.tv):=by
 rcases h with h | ⟨b,o,h,h'⟩
 ·rw[h]at ht;simp at ht
 exact⟨l[t],b,o,bfs ht,h,h' t _ (bfs ht) 0 _ rfl,h' t _ (bfs ht) 1 _ rfl,h' t _ (bfs ht) 2 _ rfl,h' t _ (bfs ht) 3 _ rfl,h' t _ (bfs ht) 4 _ rfl,h' t _ (bfs ht) 5 _ rfl,h' t _ (bfs ht) 6 _ rfl,h' t _ (bfs ht) 7 _ rfl,h' t _ (bfs ht) 8 _ rfl,h' t _ (bfs ht) 9 _ rfl⟩
def RQ(w:World)(l m:List bM)(v:Value)(wr:World):Prop:=∃i:Nat,i<=l.length/\v=.int .i64 (i:Int)/\(∀j<i,∀x y,l[j]? =some x->m[j]? =some y->x.o=y.o)/\Bw w wr
theorem Qx {l m:List bM}(hn:l.length=m.length)(h:∀j<l.length,∀x y,l[j]? =some x->m[j]? =some y->x.o=y.o):l.map bM.o=m.map bM.o:=by
 apply List.ext_getElem?;intro j;rw[bgf,bgf];by_cases hj:j<l.length
 ·have h1:=bfs hj;have h2:=bfs (show j<m.length by omega)
  rw[h1,h2];exact congrArg some (h j hj _ _ h1 h2)
 rw[bgk (by omega),bgk (by omega)]
theorem NQ(w:World)(aa ba:Option Addr)(ca cb:Nat)(l m:List bM)(hA:gH w aa l)(hB:gH w ba m)(gA:∀x∈l,dO w x/\x.o.v.length<=1000000)(gB:∀x∈m,dO w x/\x.o.v.length<=1000000)(hl:l.length<=1000000)(hm:m.length<=1000000):
  Calls prog 24 #[.slice aa l.length ca,.slice ba m.length cb,.func (.func 25) #[] #[]] w (bE w (.bool (decide (l.map bM.o=m.map bM.o)))):=by
 obtain⟨n,hN⟩:=Nm (l.length);obtain⟨k,hK⟩:=Nm (m.length);obtain⟨P,hP⟩:=Nm (bE w (.bool (decide (l.map bM.o=m.map bM.o))));rw[<-hP,<-hN,<-hK];have SF:Hid (∀wz,¬l.map bM.o=m.map bM.o->Bw w wz->P (.returned (.bool false)) wz):=Lh (λwz h hB=>by rw[hP,bfq h];exact⟨rfl,hB⟩)
 have Sl:Hid (∀wz,l.map bM.o=m.map bM.o->Bw w wz->P (.returned (.bool true)) wz):=Lh (λwz h hB=>by rw[hP,bfr h];exact⟨rfl,hB⟩)
 have HA:=Lh hA;have ah:=Lh hB;have aC:=Lh gA;have aD:=Lh gB;have Tx:n<=1000000:=by omega
 have OO:k<=1000000:=by omega
 have HN:Hid (n=l.length/\k=m.length):=Lh ⟨hN,hK⟩;clear hN hK hA hB gA gB hl hm hP;by_cases hnk:n=k
 ·subst hnk;go_enter func24,ntmps24;go_wp2_with(fail);go_loopw[17] (RQ w l m) (λv _=>n-(intOf v).toNat)
  case atStart=>exact⟨0,bgi _,rfl,λj h=>absurd h (Nat.not_lt_zero _),Br⟩
  case round=>
   obtain⟨i,hi,rfl,hok,hB⟩:=hrel;rw[<-HN.out.1]at hi;have HO:=Lh (bfy hok hB);clear hok hB;by_cases hlt:i<n
   ·have hi0:(0:Int)<=(i:Int)/\(i:Int)<(n:Int):=by omega
    obtain⟨x,pa,oa,hx,hsa,c0,c1,c2,c3,c4,c5,c6,c7,c8,c9⟩:=(HA.out.below HO.out.2).get (t:=i) (by rw[<-HN.out.1];exact hlt)
    subst hsa;have HX:=Lh (bfy (aC.out x (bf3 hx)) hx);have HI:=Lh (bfy hlt hi);clear hx hi hlt;obtain⟨⟨WC,⟨Wz,WB,WA,xiv⟩,⟨xk,xl,xh⟩,xr,WE⟩,Su,Sw⟩:=x;simp only at c0 c1 c2 c3 c4 c5 c6 c7 c8 c9;go_upto_region 5 with(fail);refine bg4 ?_
    iterate 15 go_step
    refine bg6 rfl _ _ _ rfl wr.heap.size (bM.mk ⟨WC,⟨Wz,WB,WA,xiv⟩,⟨xk,xl,xh⟩,xr,WE⟩ Su Sw).cells rfl rfl 50 sK.cells (bg5 wr _) wT rfl (tQ _) ?_;obtain⟨wx,hwx⟩:=Nm ((wr.alloc (Obj.cells #[.bool false,.int .i64 0,.string ⟨#[]⟩,.int .i64 0,.int .i64 0,.string ⟨#[]⟩,.int .i64 0,.int .i64 0,.int .i64 0,.slice none 0 0] 50)).setRow wr.heap.size (bM.mk ⟨WC,⟨Wz,WB,WA,xiv⟩,⟨xk,xl,xh⟩,xr,WE⟩ Su Sw).cells);obtain⟨xb,hxb⟩:=Nm (wr.heap.size);have Sn:Hid (jN wx xb (bM.mk ⟨WC,⟨Wz,WB,WA,xiv⟩,⟨xk,xl,xh⟩,xr,WE⟩ Su Sw)/\Bw wr wx):=by
     obtain⟨k1,k2⟩:=BQ wr (bM.mk ⟨WC,⟨Wz,WB,WA,xiv⟩,⟨xk,xl,xh⟩,xr,WE⟩ Su Sw);rw[hwx,hxb];exact Lh ⟨k1,k2⟩
    rw[<-hwx,<-hxb];clear hwx hxb;clear c0 c1 c2 c3 c4 c5 c6 c7 c8 c9;obtain⟨y,pc,oc,hy,hsb,c0,c1,c2,c3,c4,c5,c6,c7,c8,c9⟩:=(ah.out.below (HO.out.2.trans (Sn.out.2.mono HO.out.2.size))).get (t:=i) (by rw[<-HN.out.2];exact HI.out.1)
    subst hsb;have HY:=Lh (bfy (aD.out y (bf3 hy)) hy);clear hy;obtain⟨⟨WJ,⟨WF,WI,WG,WH⟩,⟨yk,yl,yh⟩,yr,WK⟩,Vd,Tv⟩:=y;simp only at c0 c1 c2 c3 c4 c5 c6 c7 c8 c9;go_upto_region 6 with(fail);refine bg4 ?_
    iterate 15 go_step
    refine bg6 rfl _ _ _ rfl wx.heap.size (bM.mk ⟨WJ,⟨WF,WI,WG,WH⟩,⟨yk,yl,yh⟩,yr,WK⟩ Vd Tv).cells rfl rfl 50 sK.cells (bg5 wx _) wT rfl (tQ _) ?_;obtain⟨wy,Sy⟩:=Nm ((wx.alloc (Obj.cells #[.bool false,.int .i64 0,.string ⟨#[]⟩,.int .i64 0,.int .i64 0,.string ⟨#[]⟩,.int .i64 0,.int .i64 0,.int .i64 0,.slice none 0 0] 50)).setRow wx.heap.size (bM.mk ⟨WJ,⟨WF,WI,WG,WH⟩,⟨yk,yl,yh⟩,yr,WK⟩ Vd Tv).cells);obtain⟨yb,hyb⟩:=Nm (wx.heap.size);have TG:Hid (jN wy yb (bM.mk ⟨WJ,⟨WF,WI,WG,WH⟩,⟨yk,yl,yh⟩,yr,WK⟩ Vd Tv)/\Bw wx wy):=by
     obtain⟨k1,k2⟩:=BQ wx (bM.mk ⟨WJ,⟨WF,WI,WG,WH⟩,⟨yk,yl,yh⟩,yr,WK⟩ Vd Tv);rw[Sy,hyb];exact Lh ⟨k1,k2⟩
    rw[<-Sy,<-hyb];clear Sy hyb;clear c0 c1 c2 c3 c4 c5 c6 c7 c8 c9;have TD:Hid (Bw w wy):=Lh ((HO.out.2.trans (Sn.out.2.mono HO.out.2.size)).trans (TG.out.2.mono (HO.out.2.trans (Sn.out.2.mono HO.out.2.size)).size));obtain⟨r,hr⟩:=Nm (Hg (bM.mk ⟨WC,⟨Wz,WB,WA,xiv⟩,⟨xk,xl,xh⟩,xr,WE⟩ Su Sw).o (bM.mk ⟨WJ,⟨WF,WI,WG,WH⟩,⟨yk,yl,yh⟩,yr,WK⟩ Vd Tv).o);have HC:Hid (Calls prog 25 #[.agg (bM.mk ⟨WC,⟨Wz,WB,WA,xiv⟩,⟨xk,xl,xh⟩,xr,WE⟩ Su Sw).cells,.agg (bM.mk ⟨WJ,⟨WF,WI,WG,WH⟩,⟨yk,yl,yh⟩,yr,WK⟩ Vd Tv).cells] wy (bE wy (.bool r))):=by
     rw[hr];exact Lh (Fw wy _ _ (HX.out.1.1.below TD.out) (HY.out.1.1.below TD.out) HX.out.1.2 HY.out.1.2)
    have Tp:Hid (r=true↔(bM.mk ⟨WC,⟨Wz,WB,WA,xiv⟩,⟨xk,xl,xh⟩,xr,WE⟩ Su Sw).o=(bM.mk ⟨WJ,⟨WF,WI,WG,WH⟩,⟨yk,yl,yh⟩,yr,WK⟩ Vd Tv).o):=by rw[hr];exact Lh (xX _ _)
    clear hr;unfold bM.cells at HC;obtain⟨e0,e1,e2,e3,e4,e5,e6,e7,e8,e9⟩:=(Sn.out.1.below TG.out.2).Qu;obtain⟨f0,f1,f2,f3,f4,f5,f6,f7,f8,f9⟩:=TG.out.1.Qu
    cases r with
    | false=>
     go_wp2_with(fail);refine HC.out.mono ?_;rintro e w3 ⟨rfl,hB⟩;have HZ:=Lh (Tb TD.out hB);clear hB e0 e1 e2 e3 e4 e5 e6 e7 e8 e9 f0 f1 f2 f3 f4 f5 f6 f7 f8 f9;dsimp only;go_wp2_with(fail);refine SF.out _ (λh=>?_) HZ.out;have h3:=congrArg (λz=>z[i]?) h;simp only[bgf,HX.out.2,HY.out.2,Option.map_some,bf5]at h3;exact absurd (Tp.out.2 h3) (by simp)
    | true=>
     go_wp2_with(fail);refine HC.out.mono ?_;rintro e w3 ⟨rfl,hB⟩;have HZ:=Lh (Tb TD.out hB);clear hB e0 e1 e2 e3 e4 e5 e6 e7 e8 e9 f0 f1 f2 f3 f4 f5 f6 f7 f8 f9;dsimp only;go_wp2_with(fail);refine⟨⟨i+1,by rw[<-HN.out.1];exact HI.out.1,rfl,λj hj x' y' h1 h2=>?_,HZ.out⟩,by rw[dU,dU];have:=HI.out.1;omega⟩
     rcases bg1 j i with hji | hji
     ·exact HO.out.1 j hji x' y' h1 h2
     obtain rfl:j=i:=by omega
     have e1:=h1.symm.trans HX.out.2;have e2:=h2.symm.trans HY.out.2;cases e1
     cases e2
     exact Tp.out.1 trivial
   obtain rfl:i=n:=by omega
   clear hlt;go_wp2_with(fail);exact Sl.out _ (Qx (HN.out.1.symm.trans HN.out.2) (λj hj=>HO.out.1 j (by rw[HN.out.1];exact hj))) HO.out.2
 have hne:¬(n:Int)=(k:Int):=by omega
 have hne':((n:Int) !=(k:Int))=true:=bne_iff_ne.2 hne;go_enter func24,ntmps24;go_wp2_with(fail);refine SF.out _ (λh=>hnk ?_) Br;have h3:=congrArg List.length h;rw[bfz,bfz,<-HN.out.1,<-HN.out.2]at h3;exact h3
end Go.Proofs.YtjeeghafachebaaGreat
namespace Go.Proofs.YtjeeghafachebaaGreat
open Go Go.RowKit Go.Shelf Go.Proofs.Tryz
theorem CG(w:World)(x y:bg):Calls prog 69 #[.agg x.cells,.agg y.cells] w (λe w'=>e=.returned (.int .i64 (ve x y))/\Bw w w'/\w.drawn<=w'.drawn):=by
 obtain⟨r,hr⟩:=Nm (ve x y);rw[<-hr];obtain⟨wa,TZ⟩:=Nm (w.alloc (.cells x.cells 47));obtain⟨xb,hxb⟩:=Nm (w.heap.size);obtain⟨wb,hwb⟩:=Nm (wa.alloc (.cells y.cells 47));obtain⟨yb,hyb⟩:=Nm (w.heap.size+1);have hws:wa.heap.size=w.heap.size+1:=by rw[TZ];exact bq w _
 have Yj:Hid (Bw w wb):=by
  have h1:=(Below.refl _ w).alloc (bfx _) (.cells x.cells 47);rw[<-TZ]at h1;rw[hwb];exact Lh (h1.alloc h1.size _)
 have HD:Hid (∀w',Bw wb w'->D3 w' xb x.key x.lo x.hi/\D3 w' yb y.key y.lo y.hi):=by
  have h1:bZ wa xb x:=by rw[TZ,hxb];exact bg5 w _
  have h2:bZ wb yb y:=by rw[hwb,hyb,<-hws];exact bg5 wa _
  have h3:Bw wa wb:=by rw[hwb];exact(Below.refl _ wa).alloc (bfx _) _
  exact Lh (λw' h=>⟨((h1.below h3).below h).d3,(h2.below h).d3⟩)
 have SB:Hid (Bw wb wb.drew/\wb.drawn<=wb.drew.drawn):=Lh ⟨(Below.refl _ wb).drew,Nat.le_succ _⟩;have HDw:Hid (w.drawn=wb.drawn):=by rw[hwb,TZ];exact Lh rfl
 obtain⟨xk,xl,xh⟩:=x;obtain⟨yk,yl,yh⟩:=y;simp only at HD;obtain⟨ka,hka⟩:=Nm (lC xh yh);obtain⟨kb,hkb⟩:=Nm (lC xl yl);obtain⟨kc,hkc⟩:=Nm (qW xk yk);have HR:Hid (r=jW ka kb kc):=by rw[hr,hka,hkb,hkc];exact Lh rfl
 have WL:Hid ((∀w',Calls prog 91 #[.int .i64 xh,.int .i64 yh] w' λe w2=>e=.returned (.int .i64 ka)/\w2=w')/\(∀w',Calls prog 91 #[.int .i64 xl,.int .i64 yl] w' λe w2=>e=.returned (.int .i64 kb)/\w2=w')/\(∀w',Calls prog 90 #[Sv xk,Sv yk] w' λe w2=>e=.returned (.int .i64 kc)/\w2=w')):=by
  rw[hka,hkb,hkc];exact Lh ⟨λw'=>rZ w' _ _,λw'=>rZ w' _ _,λw'=>Gn w' _ _⟩
 unfold bg.cells at TZ hwb ⊢;clear hr hka hkb hkc;go_enter func69,ntmps69;go_upto_region 1 with(fail);rw[<-TZ,<-hwb,<-hyb,<-hxb];clear TZ hwb hxb hyb hws;refine fZ (by kernel_rfl) (NoF (NoF (NoF [none,none,none]))) [] (MW (kR (.pointer (some ⟨xb,2,none⟩))::kR (.int .i64 xh)::kR (.pointer (some ⟨yb,2,none⟩))::kR (.int .i64 yh)::kR (.int .i64 ka)::kR (.pointer (some ⟨xb,1,none⟩))::kR (.int .i64 xl)::kR (.pointer (some ⟨yb,1,none⟩))::kR (.int .i64 yl)::kR (.int .i64 kb)::kR (.pointer (some ⟨xb,0,none⟩))::kR (Sv xk)::kR (.pointer (some ⟨yb,0,none⟩))::kR (Sv yk)::kR (.int .i64 kc)::Qd wb.heap.size ka kb kc::kR (.int .i64 r)::kR (.int .i64 r)::([]:List _))) (λ_ w'=>Bw wb w'/\wb.drawn<=w'.drawn) (λw w'=>Bw w w') (zx _) (by kernel_rfl) (by kernel_rfl) (by kernel_rfl) SB.out ⟨trivial,trivial,trivial,trivial,trivial,trivial,trivial,trivial,trivial,trivial,trivial,trivial,trivial,trivial,trivial,trivial,trivial,trivial,trivial⟩ ?_ ?_
 ·refine ⟨?_,?_,?_,?_,?_,?_,?_,?_,?_,?_,?_,?_,?_,?_,?_,?_,?_,?_,trivial⟩<;>intro k a w' hG Si Sj K hK<;>replace Si:=Lh Si<;>replace Sj:=Lh Sj
  have q2:=FaA Si 2 xb 0;rotate_left;have q5:=Pa a 5 xb 2 Sj.out.1;obtain⟨d0,d1,d2⟩:=(HD.out w' hG.1).1;rotate_left;have q3:=FaA Si 3 yb 0;rotate_left;have q7:=Pa a 7 yb 2 Sj.out.1;obtain⟨d0,d1,d2⟩:=(HD.out w' hG.1).2;rotate_left
  ·have q6:=Pi a 6 xh Sj.out.1;have q8:=Pi a 8 yh Sj.out.2.1;have HS:=Lh (WL.out.1 w');go_step;refine HS.out.mono ?_;rintro e w3 ⟨rfl,hw3⟩;subst w3;exact hK _ _ rfl hG Br
  have q2:=FaA Si 2 xb 0;rotate_left;have XV:=Pa a 10 xb 1 Sj.out.1;obtain⟨d0,d1,d2⟩:=(HD.out w' hG.1).1;rotate_left;have q3:=FaA Si 3 yb 0;rotate_left;have VU:=Pa a 12 yb 1 Sj.out.1;obtain⟨d0,d1,d2⟩:=(HD.out w' hG.1).2;rotate_left
  ·have Zp:=Pi a 11 xl Sj.out.1;have YR:=Pi a 13 yl Sj.out.2.1;have HS:=Lh (WL.out.2.1 w');go_step;refine HS.out.mono ?_;rintro e w3 ⟨rfl,hw3⟩;subst w3;exact hK _ _ rfl hG Br
  have q2:=FaA Si 2 xb 0;rotate_left;have Xv:=Pa a 15 xb 0 Sj.out.1;obtain⟨d0,d1,d2⟩:=(HD.out w' hG.1).1;rotate_left;have q3:=FaA Si 3 yb 0;rotate_left;have Wx:=Pa a 17 yb 0 Sj.out.1;obtain⟨d0,d1,d2⟩:=(HD.out w' hG.1).2;rotate_left
  ·have q16:=Ep a 16 (Sv xk) Sj.out.1;have Vn:=Ep a 18 (Sv yk) Sj.out.2.1;have HS:=Lh (WL.out.2.2 w');go_step;refine HS.out.mono ?_;rintro e w3 ⟨rfl,hw3⟩;subst w3;exact hK _ _ rfl hG Br
  ·have q9:=Pi a 9 ka Sj.out.1;have Ww:=Pi a 14 kb Sj.out.2.1;have VV:=Pi a 19 kc Sj.out.2.2.1;go_step;exact hK _ _ ⟨w'.heap.size,rfl,hG.1.size,bg5 w' _⟩ ⟨hG.1.alloc hG.1.size _,hG.2⟩ ((Below.refl _ w').alloc (bfx _) _)
  ·obtain ⟨p0,_⟩:=Sj.out;obtain⟨gg,hg0,_,hgr⟩:=p0;have q0:=Ep a 20 (.slice (some ⟨gg,0,none⟩) 3 3) hg0;have hor:=K4 w' gg ka kb kc hgr;rw[<-HR.out]at hor;have HS:=Lh hor;clear hor hgr hg0;go_step;refine HS.out.mono ?_;rintro e w3 ⟨rfl,hw3⟩;subst w3;exact hK _ _ rfl hG Br
  have VZ:=Pi a 21 r Sj.out.1;rotate_left
  all_goals(go_step;exact hK _ _ rfl hG Br)
 intro vs w2 hG hlen hV
 match vs,hlen,hV with
 | [v0,v1,v2,v3,v4,v5,v6,v7,v8,v9,v10,v11,v12,v13,v14,v15,v16,v17],_,hV=>
  obtain rfl:v17=.int .i64 r:=hV 17 4 v17 rfl rfl;clear hV;simp only[dG,bf7,bf1];simp only[Act.put,bfw,bfu,bfv];have HZ:Hid (Bw w w2/\w.drawn<=w2.drawn):=Lh ⟨Yj.out.trans (hG.1.mono Yj.out.size),by rw[HDw.out];exact hG.2⟩
  clear hG;go_wp2_with(fail);go_ret;exact⟨rfl,HZ.out⟩
def nW(a b:bg):Prop:=a.hi<b.hi∨a.hi=b.hi/\(a.lo<b.lo∨a.lo=b.lo/\wQ a.key b.key=true)
theorem zP(a b:bg):ve a b=-1/\nW a b∨ve a b=0/\a=b∨ve a b=1/\nW b a:=by
 have hd:ve a b=jW (lC a.hi b.hi) (lC a.lo b.lo) (qW a.key b.key):=rfl;rcases nM a.hi b.hi with⟨h1,e1⟩ | ⟨h1,e1⟩ | ⟨h1,e1⟩
 ·exact .inl ⟨by rw[hd,e1];rfl,.inl h1⟩
 ·rcases nM a.lo b.lo with⟨h2,e2⟩ | ⟨h2,e2⟩ | ⟨h2,e2⟩
  ·exact .inl ⟨by rw[hd,e1,e2];rfl,.inr ⟨h1,.inl h2⟩⟩
  ·rcases Bq a.key b.key with⟨h3,e3⟩ | ⟨h3,e3⟩ | ⟨h3,e3⟩
   ·exact .inl ⟨by rw[hd,e1,e2,e3];rfl,.inr ⟨h1,.inr ⟨h2,h3⟩⟩⟩
   ·refine .inr (.inl ⟨by rw[hd,e1,e2,e3];rfl,?_⟩)
    obtain⟨k,lo,hi⟩:=a;obtain⟨k',lo',hi'⟩:=b;simp only at h1 h2 h3;rw[h1,h2,h3]
   exact .inr (.inr ⟨by rw[hd,e1,e2,e3];rfl,.inr ⟨h1.symm,.inr ⟨h2.symm,h3⟩⟩⟩)
  exact .inr (.inr ⟨by rw[hd,e1,e2];rfl,.inr ⟨h1.symm,.inl h2⟩⟩)
 exact .inr (.inr ⟨by rw[hd,e1];rfl,.inl h1⟩)
theorem nW.trans {a b c:bg}(h1:nW a b)(h2:nW b c):nW a c:=by
 unfold nW at*;rcases h1 with h1 | ⟨h1,h1'⟩
 ·rcases h2 with h2 | ⟨h2,_⟩ <;> exact .inl (by omega)
 rcases h2 with h2 | ⟨h2,h2'⟩
 ·exact .inl (by omega)
 refine .inr ⟨by omega,?_⟩
 rcases h1' with h3 | ⟨h3,h3'⟩
 ·rcases h2' with h4 | ⟨h4,_⟩ <;> exact .inl (by omega)
 rcases h2' with h4 | ⟨h4,h4'⟩
 ·exact .inl (by omega)
 exact .inr ⟨by omega,tO h3' h4'⟩
theorem nW.irrefl {a:bg}(h:nW a a):False:=by
 rcases h with h | ⟨_,h | ⟨_,h⟩⟩
 ·omega
 ·omega
 rw[lY]at h;cases h
theorem nW.asymm {a b:bg}(h1:nW a b)(h2:nW b a):False:=(h1.trans h2).irrefl
theorem kX(a b:bg):ve a b<0↔nW a b:=by
 rcases zP a b with⟨e,h⟩ | ⟨e,rfl⟩ | ⟨e,h⟩
 ·exact⟨λ_=>h,λ_=>by omega⟩
 ·exact⟨λh=>by omega,λh=>h.irrefl.elim⟩
 exact⟨λh=>by omega,λh'=>(h.asymm h').elim⟩
theorem qJ {a b:bg}(h:a≠b):nW a b∨nW b a:=by
 rcases zP a b with⟨_,h'⟩ | ⟨_,rfl⟩ | ⟨_,h'⟩
 ·exact .inl h'
 ·exact(h rfl).elim
 exact .inr h'
def zg(x y:dB):Prop:=nW x.w y.w
theorem De(l:List dB)(p:dB):(si l p).Perm (p::l):=by
 induction l with
 | nil=>exact List.Perm.refl _
 | cons x l ih=>
  unfold si
  split
  ·exact List.Perm.refl _
  exact(ih.cons x).trans (List.Perm.swap p x l)
theorem GA {l:List dB} {p:dB}(hs:l.Pairwise zg)(hw:∀x∈l,x.w≠p.w):(si l p).Pairwise zg:=by
 induction l with
 | nil=>simp[si]
 | cons x l ih=>
  rw[List.pairwise_cons]at hs;unfold si
  split
  ·rename_i h;have hpx:zg p x:=(kX _ _).1 h;rw[List.pairwise_cons,List.pairwise_cons];refine⟨λy hy=>?_,hs⟩;rcases List.mem_cons.1 hy with rfl | hy
   ·exact hpx
   exact hpx.trans (hs.1 y hy)
  rename_i h;have hxp:zg x p:=(qJ (hw x (by simp))).resolve_right λh'=>h ((kX _ _).2 h')
  rw[List.pairwise_cons];refine⟨λy hy=>?_,ih hs.2 (λz hz=>hw z (by simp[hz]))⟩
  rcases List.mem_cons.1 ((De l p).mem_iff.1 hy)with rfl | hy
  ·exact hxp
  exact hs.1 y hy
theorem BO:∀(l out:List dB),out.Pairwise zg->((out++l).map dB.w).Nodup->(l.foldl si out).Pairwise zg/\(l.foldl si out).Perm (out++l)
 | [],out,hs,_=>⟨hs,by simp⟩
 | p::l,out,hs,hn=>by
  have hw:∀x∈out,x.w≠p.w:=λx hx e=>by
   rw[bgl,List.nodup_append]at hn;exact hn.2.2 x.w (List.mem_map.2 ⟨x,hx,rfl⟩) p.w (by simp) e
  have hp:(si out p++l).Perm (out++p::l):=by
   refine((De out p).append_right l).trans ?_;exact(List.perm_middle (l₁:=out) (a:=p) (l₂:=l)).symm
  have h:=BO l (si out p) (GA hs hw) ((hp.map dB.w).nodup_iff.2 hn);exact⟨h.1,h.2.trans hp⟩
theorem Ko {l:List dB}(hn:(l.map dB.w).Nodup):(pU l).Pairwise zg/\(pU l).Perm l:=by
 have h:=BO l [] List.Pairwise.nil (by simpa using hn)
 have h2:=h.2;rw[List.nil_append]at h2;exact⟨h.1,h2⟩
theorem Dv {l m:List dB}(hn:(l.map dB.w).Nodup)(hp:m.Perm l)(hs:m.Pairwise (λa b=>¬zg b a)):m=pU l:=by
 obtain⟨h1,h2⟩:=Ko hn;have hnm:(m.map dB.w).Nodup:=(hp.map dB.w).nodup_iff.2 hn;refine lS (R:=zg) (λa h=>nW.irrefl h) (λa b h h'=>nW.asymm h h') ?_ h1 (λx=>hp.mem_iff.trans h2.mem_iff.symm);have hd:m.Pairwise (λa b=>a.w≠b.w):=List.pairwise_map.1 hnm;exact(hs.and hd).imp λ⟨h,h'⟩=>(qJ h').resolve_right h
instance:Inhabited bM:=⟨sK⟩
def vF(x:bM):List Value:=[.bool x.o.late,.int .i64 x.o.item.kind,Sv x.o.item.key,.int .i64 x.o.item.time,.int .i64 x.o.item.value,Sv x.o.w.key,.int .i64 x.o.w.lo,.int .i64 x.o.w.hi,.int .i64 x.o.r,x.tv]
theorem zQ(x:bM):(vF x).toArray=x.cells:=rfl
def Lv(x y:bM):Int:=ve x.o.w y.o.w
theorem wP(x y:bM):ltOf Lv x y=decide (ve x.o.w y.o.w<0):=rfl
theorem Qe:Sort.SWO (ltOf Lv) where
 irrefl x:=by rw[wP];exact bfq λh=>((kX _ _).1 h).irrefl
 trans x y z h1 h2:=by
  rw[wP]at*;exact bfr ((kX _ _).2 (((kX _ _).1 (bgh h1)).trans ((kX _ _).1 (bgh h2))))
 ntrans x y z h1 h2:=by
  rw[wP]at*;refine bfq λh=>?_;have n1:=of_decide_eq_false h1;have n2:=of_decide_eq_false h2;rw[kX]at n1 n2 h;by_cases e:x.o.w=y.o.w
  ·rw[e]at h;exact n2 h
  have h3:=(qJ e).resolve_left n1;exact n2 (h3.trans h)
theorem PZ {w w':World}(h:Bw w w')(hd:w.drawn<=w'.drawn):∃q os,w'=Sort.grow (w.drewN q) os:=by
 refine⟨w'.drawn-w.drawn,w'.heap.extract w.heap.size w'.heap.size,?_⟩;obtain⟨h1,h2,h3,h4,h5⟩:=h;obtain⟨hp,tp,dr,os,ou⟩:=w;obtain⟨hp',tp',dr',os',ou'⟩:=w';simp only at h1 h2 h3 h4 h5 hd;subst h1 h2 h3;have e1:hp'=hp++hp'.extract hp.size hp'.size:=by
  apply Array.ext_getElem?;intro k;rw[Array.getElem?_append]
  split
  ·rename_i hk;exact h5 k hk
  rename_i hk;rw[Array.getElem?_extract]
  split
  ·congr 1
   omega
  rw[Array.getElem?_eq_none (by omega)]
 unfold Sort.grow World.drewN;simp only[World.mk.injEq,true_and,and_true];exact⟨e1,by omega⟩
theorem yG(l:List bM):(Sort.flatK vF 10 l.toArray).toList=gD l:=by
 apply List.ext_getElem?;intro t;by_cases ht:t<l.length*10
 ·have hi:t / 10<l.length:=by omega
  have hx:l[t / 10]? =some l[t / 10]:=bfs hi;have hs:(Sort.flatK vF 10 l.toArray).size=l.length*10:=by rw[Sort.size_flatK];rfl
  have hj:t % 10<10:=by omega
  have h1:=vD l (t / 10) _ (t % 10) ((vF l[t / 10])[t % 10]!) hx (by
   have hsz:(vF l[t / 10]).length=10:=rfl;rw[<-zQ,List.getElem?_toArray,getElem!_pos _ _ (by rw[hsz];exact hj)]
   exact bfs _)
  rw[show t / 10*10+t % 10=t by omega]at h1
  rw[h1,Array.getElem?_toList];have h2:=Sort.get_flatK vF 10 l.toArray t (by simpa using ht)
  rw[getElem!_pos _ _ (by rw[hs];exact ht)]at h2
  rw[bgm (by rw[hs];exact ht),h2]
  congr 3
  rw[getElem!_pos _ _ (by simpa using hi)]
  rfl
 rw[bgk,bgk]
 ·rw[lH];omega
 rw[bgq,Sort.size_flatK];simp;omega
theorem Cu(F cur:Array Value)(h:F.size<=cur.size):(Sort.putCells id 0 F cur).toList.take F.size=F.toList:=by
 apply List.ext_getElem?;intro k;rw[List.getElem?_take]
 split
 ·rename_i hk;rw[Array.getElem?_toList,Array.getElem?_toList];unfold Sort.putCells;rw[Array.getElem?_mapIdx,bgm (by omega),Option.map_some,if_pos (by omega),Nat.sub_zero,getElem!_pos F k hk,bgm hk]
  rfl
 rename_i hk;rw[bgk (by rw[bgq];omega)]
theorem Ct(F cur:Array Value):(Sort.putCells id 0 F cur).size=cur.size:=by simp[Sort.putCells]
theorem GU(w:World)(x y:bM):Calls prog 68 #[.agg x.cells,.agg y.cells] w (λe w'=>e=.returned (.int .i64 (Lv x y))/\Bw w w'/\w.drawn<=w'.drawn):=by
 obtain⟨r,hr⟩:=Nm (Lv x y);rw[<-hr];obtain⟨w1,hw1⟩:=Nm ((w.alloc (.cells x.cells 50)).alloc (.cells y.cells 50));obtain⟨xb,hxb⟩:=Nm (w.heap.size);obtain⟨yb,hyb⟩:=Nm (w.heap.size+1);have H1:Hid (jN w1 xb x/\jN w1 yb y/\Bw w w1):=by rw[hw1,hxb,hyb];exact Lh (Jk w x y)
 have HC:Hid (Calls prog 69 #[.agg x.o.w.cells,.agg y.o.w.cells] w1 (λe w'=>e=.returned (.int .i64 r)/\Bw w1 w'/\w1.drawn<=w'.drawn)):=by
  rw[hr];exact Lh (CG w1 x.o.w y.o.w)
 have HB1:Hid (Bw w w1/\w.drawn=w1.drawn):=by refine Lh ⟨H1.out.2.2,?_⟩;rw[hw1];rfl
 have hs1:(w.alloc (.cells x.cells 50)).heap.size=w.heap.size+1:=bq w _;clear hr;obtain⟨⟨late,⟨ik,Ub,it,iv⟩,⟨xk,xl,xh⟩,rd,lv⟩,tv,ht⟩:=x;obtain⟨⟨late',⟨ik',AA,it',iv'⟩,⟨xk',xl',xh'⟩,rd',lv'⟩,tv',ht'⟩:=y;obtain⟨e0,e1,e2,e3,e4,e5,e6,e7,e8,e9⟩:=H1.out.1.Qu;obtain⟨f0,f1,f2,f3,f4,f5,f6,f7,f8,f9⟩:=H1.out.2.1.Qu;unfold bM.cells at hw1 hs1 ⊢;unfold bg.cells at HC;simp only at hw1 hs1 HC e5 e6 e7 f5 f6 f7;clear H1 e0 e1 e2 e3 e4 e8 e9 f0 f1 f2 f3 f4 f8 f9;go_enter func68,ntmps68;go_upto_region 1 with(fail);rw[<-hw1,<-hyb,<-hxb];clear hw1 hyb hxb hs1;go_wp2_with(fail);refine HC.out.mono ?_;rintro e w2 ⟨rfl,hB,hD⟩;have HZ:Hid (Bw w w2/\w.drawn<=w2.drawn):=Lh ⟨HB1.out.1.trans (hB.mono HB1.out.1.size),by rw[HB1.out.2];exact hD⟩
 clear hB hD e5 e6 e7 f5 f6 f7;dsimp only;go_wp2_with(fail);go_ret;exact⟨rfl,HZ.out⟩
def Nz(w:World)(base:Nat)(v:Value)(l:List bM)(e:Ending)(w':World):Prop:=
 e=.returned (.tuple #[])/\∃l',l'.Perm l/\l'.Pairwise (λa b=>¬ve b.o.w a.o.w<0)/\fe w' base v l'/\w.grownBy w' v.ownBlock
theorem MN(w:World)(base:Nat)(v:Value)(l:List bM)(hO:fe w base v l)(hn:l.length<=1000000):
  Calls prog 67 #[v,.func (.func 68) #[] #[]] w (Nz w base v l):=by
 have OC:=hO;by_cases h0:l.length=0
 ·obtain rfl:l=[]:=bg3 h0;obtain⟨a,c,rfl,_,_⟩:=hO.form;refine(AnyF.slices_SortFunc_none Tryz.pU a c (.func (.func 68) #[] #[]) w).mono ?_;rintro e w' ⟨rfl,hw⟩;subst w';exact⟨rfl,[],List.Perm.nil,List.Pairwise.nil,OC,⟨rfl,rfl,rfl,bfx _,λ_ _ _=>rfl⟩⟩
 obtain⟨g,c,rfl,hb,hg⟩:=World.ownsRow.form hO (by omega)
 obtain⟨cur,SQ,hcs,htk,hnc,hcm⟩:∃cur:Array Value,w.heap[g]? =some (.cells cur 50 (0,0))/\cur.size=c*10/\cur.toList.take (l.length*10)=gD l/\l.length<=c/\c<=maxLen:=by
  rcases hO.2 with⟨h',_⟩ | ⟨g',cap',cur,h',_,hg,hnc,hcm,hcs,htake⟩
  ·simp at h'
  simp only[Value.slice.injEq,bf5,Addr.mk.injEq,and_true]at h';obtain⟨rfl,_,rfl⟩:=h';exact⟨cur,hg,hcs,htake,hnc,hcm⟩
 have hF:(Sort.flatK vF 10 l.toArray).size=l.length*10:=by rw[Sort.size_flatK];rfl
 have hH:Sort.HoldsK vF 10 w g 0 l.toArray:=by
  intro j hj;rw[hF]at hj;refine⟨?_,frozen_of_row w g (0+j) cur _ SQ⟩;have h1:=World.ownsRow.cellAt hO j hj;rw[bgu,h1,<-yG,Array.getElem?_toList,bgm (by rw[hF];exact hj),getElem!_pos (Sort.flatK vF 10 l.toArray) j (by rw[hF];exact hj)]
  rfl
 have hcmp:CmpLays prog 68 #[] vF 10 Lv g 0 l.toArray.size w:=by
  intro m os dk _ x y;refine(GU _ x y).mono ?_;rintro e w' ⟨rfl,hB,hD⟩;obtain⟨q,os',hq⟩:=PZ hB hD;exact⟨rfl,q,os',hq⟩
 have eg:∀args w,(callFunc 68 args).run prog w=.ok (.enter 68 args) w:=enters_of func68 (by kernel_rfl) rfl
 have hcon:=AnyQ.slices_SortFunc Tryz.pU 10 Tryz.isAgg50 sizeOf50 vF (λ_=>rfl) (λx v hv=>Array.all_eq_true'.1 (tQ x) v (by rw[<-zQ];simpa using hv)) Lv Qe 68 #[] g 0 c l.toArray w eg hcmp hH hg (by simp;omega)
 refine hcon.mono ?_;rintro e w' ⟨rfl,d',n,os,hp,hs,rfl⟩;obtain⟨p1,_,p3⟩:=hp;have hds:d'.size=l.length:=by rw[p1];rfl
 have hperm:d'.toList.Perm l:=by
  have e1:d'.extract 0 l.toArray.size=d':=by rw[<-p1];simp
  have e2:l.toArray.extract 0 l.toArray.size=l.toArray:=by simp
  rw[e1,e2]at p3;exact p3
 have hF':(Sort.flatK vF 10 d').size=l.length*10:=by rw[Sort.size_flatK,hds]
 have hrow:(sortWorldK vF 10 w g 0 n d' os).heap[g]? =some (.cells (Sort.putCells id 0 (Sort.flatK vF 10 d') cur) 50 (0,0)):=by
  unfold sortWorldK Sort.grow Sort.putRowK Sort.putRow Sort.mapBlock Sort.ahead;simp only;rw[Array.getElem?_append,if_pos (by simpa using hg),Array.getElem?_modify,if_pos rfl,SQ]
  rfl
 refine⟨rfl,d'.toList,hperm,?_,⟨?_,.inr ⟨g,c,_,?_,hb,hrow,?_,hcm,?_,?_⟩⟩,⟨rfl,rfl,rfl,?_,λk hk hne=>?_⟩⟩
 ·rw[bgr];intro i j hi hj hij;rw[bgq]at hi hj;have h:=hs i j (bgi _) hij (by rw[hds]at hj;simpa using hj)
  rw[wP,decide_eq_false_iff_not,getElem!_pos d' i hi,getElem!_pos d' j hj]at h;simpa using h
 ·rw[lH]
 ·show Value.slice _ l.length c=Value.slice _ d'.toList.length c;rw[show d'.toList.length=l.length from hperm.length_eq]
 ·rw[bgq,hds];exact hnc
 ·rw[Ct,hcs]
 ·rw[bgq,hds];have h1:=Cu (Sort.flatK vF 10 d') cur (by rw[hF',hcs];omega)
  rw[hF']at h1;rw[h1];have:=yG d'.toList;simpa using this
 ·unfold sortWorldK Sort.grow Sort.putRowK Sort.putRow Sort.mapBlock Sort.ahead;simp
 have OM:g≠k:=λe=>hne (by rw[<-e];rfl)
 unfold sortWorldK Sort.grow Sort.putRowK Sort.putRow Sort.mapBlock Sort.ahead;simp only;rw[Array.getElem?_append,if_pos (by simpa using hk),Array.getElem?_modify,if_neg OM]
end Go.Proofs.YtjeeghafachebaaGreat
namespace Go.Proofs.YtjeeghafachebaaGreat
open Go Go.RowKit Go.Proofs.Tryz
def rV(p:bH)(l:List bH):Bool:=l.any λx=>decide (bJ p.w x.w)
theorem sQ(p x:bH)(A:List bH):rV p (A++[x])=(rV p A || decide (bJ p.w x.w)):=by
 unfold rV;rw[List.any_append];simp
theorem KT {p:bH}:∀{A:List bH},rV p A=false->jR A p=A++[p]
 | [],_=>rfl
 | y::A,h=>by
  unfold rV at h;rw[List.any_cons,Bool.or_eq_false_iff]at h;show(if bJ p.w y.w then p::y::A else y::jR A p)=_
  rw[if_neg (of_decide_eq_false h.1),KT h.2];rfl
theorem GD {p x:bH}:∀{A:List bH},rV p A=true->jR (A++[x]) p=jR A p++[x]
 | [],h=>by cases h
 | y::A,h=>by
  show(if bJ p.w y.w then p::y::(A++[x])else y::jR (A++[x]) p)=(if bJ p.w y.w then p::y::A else y::jR A p)++[x]
  by_cases hy:bJ p.w y.w
  ·rw[if_pos hy,if_pos hy];rfl
  rw[if_neg hy,if_neg hy,GD]
  ·rfl
  unfold rV at h;rw[List.any_cons,bfq hy,Bool.false_or]at h;exact h
theorem LZ {p x:bH} {A:List bH}(h:rV p A=false)(hx:bJ p.w x.w):jR (A++[x]) p=A++[p,x]:=by
 induction A with
 | nil=>
  show(if bJ p.w x.w then [p,x]else _)=_
  rw[if_pos hx];rfl
 | cons y A ih=>
  unfold rV at h;rw[List.any_cons,Bool.or_eq_false_iff]at h;show(if bJ p.w y.w then p::y::(A++[x])else y::jR (A++[x]) p)=_
  rw[if_neg (of_decide_eq_false h.1),ih h.2];rfl
def Bb(p:bH)(A:List bH):List bH:=if rV p A=true then jR A p else A
theorem xR(p x:bH)(A:List bH):Bb p (A++[x])=(if rV p A=false/\bJ p.w x.w then Bb p A++[p]else Bb p A)++[x]:=by
 unfold Bb;rw[sQ]
 cases h:rV p A with
 | true=>rw[Bool.true_or,if_pos rfl,if_pos rfl,if_neg (λh=>by cases h.1),GD h]
 | false=>
  rw[Bool.false_or];by_cases hx:bJ p.w x.w
  ·simp[hx,LZ h hx]
  simp[hx]
theorem N8(p:bH)(A:List bH):(if rV p A=true then Bb p A else Bb p A++[p])=jR A p:=by
 unfold Bb
 cases h:rV p A with
 | true=>rw[if_pos rfl,if_pos rfl]
 | false=>rw[if_neg (by simp),if_neg (by simp),KT h]
def yN(ws:List bg)(l:List bH):List bH:=l.filter λp=> !decide (p.w∈ws)
theorem vJ {q:bz} {b:bg} {o:bH}:∀(l:List bH) (p:dS × Int),(dY q b l p).2.2=0->
  dY q b (l++[o]) p=if (dA q (dY q b l p).1 o.a).2=0 then ((dA q (dY q b l p).1 o.a).1,if o.w=b then o.r else (dY q b l p).2.1,0)else (dP,0,(dA q (dY q b l p).1 o.a).2)
 | [],p,_=>by
  show(if (dA q p.1 o.a).2=0 then _ else _)=_
  rfl
 | y::l,p,h=>by
  have e:∀l,dY q b (y::l) p=if (dA q p.1 y.a).2=0 then dY q b l ((dA q p.1 y.a).1,if y.w=b then y.r else p.2)else (dP,0,(dA q p.1 y.a).2):=λ_=>rfl
  rw[List.cons_append,e,e l];rw[e]at h;by_cases h1:(dA q p.1 y.a).2=0
  ·rw[if_pos h1]at h;rw[if_pos h1,if_pos h1];exact vJ l _ h
  rw[if_neg h1]at h;exact absurd h h1
theorem zW {q:bz} {b:bg} {m:List bH}:∀(l:List bH) (p:dS × Int),(dY q b l p).2.2≠0->dY q b (l++m) p=dY q b l p
 | [],p,h=>absurd rfl h
 | y::l,p,h=>by
  have e:∀l,dY q b (y::l) p=if (dA q p.1 y.a).2=0 then dY q b l ((dA q p.1 y.a).1,if y.w=b then y.r else p.2)else (dP,0,(dA q p.1 y.a).2):=λ_=>rfl
  rw[List.cons_append,e,e l];rw[e]at h;by_cases h1:(dA q p.1 y.a).2=0
  ·rw[if_pos h1]at h;rw[if_pos h1,if_pos h1];exact zW l _ h
  rw[if_neg h1,if_neg h1]
theorem Bh {q:bz} {x y:dS}(h1:x.bB q=true)(h2:y.bB q=true):(dA q x y).2=0∨(dA q x y).2=20:=by
 rw[Di h1 h2]
 split
 ·exact .inl rfl
 exact .inr rfl
def jd(W:List bg)(p:bH):bH:=if p.w∈W then ⟨p.w,p.a,1⟩else p
def mI(t:Int)(W:List bg)(p:bH):Bool:=fV t p && !decide (p.w∈W)
theorem wJ(W:List bg)(p:bH):(jd W p).w=p.w/\(jd W p).a=p.a:=by
 unfold jd
 split <;> exact⟨rfl,rfl⟩
theorem qQ(t:Int)(W:List bg)(p:bH):fV t (jd W p)=mI t W p:=by
 unfold mI jd;by_cases h:p.w∈W
 ·rw[if_pos h,bfr h];simp[fV]
 rw[if_neg h,bfq h];simp
def kK(q:bz)(p:bH):dB:=kS q ⟨p.w,p.a,1⟩
theorem Dh(q:bz)(t:Int)(l:List bH):gZ q t l=(l.filter (fV t)).map (kK q):=by
 unfold gZ;refine List.map_congr_left λp hp=>?_;unfold kK jc;rw[if_pos (List.mem_filter.1 hp).2]
theorem Dc:∀{l:List bH} {x y:bH},(l.map bH.w).Nodup->x∈l->y∈l->x.w=y.w->x=y
 | [],_,_,_,h,_,_=>by simp at h
 | z::l,x,y,hn,hx,hy,e=>by
  rw[bgc,List.nodup_cons]at hn;rcases List.mem_cons.1 hx with h1 | h1
  ·rcases List.mem_cons.1 hy with h2 | h2
   ·rw[h1,h2]
   exact absurd (List.mem_map.2 ⟨y,h2,by rw[<-e,h1]⟩) hn.1
  rcases List.mem_cons.1 hy with h2 | h2
  ·exact absurd (List.mem_map.2 ⟨x,h1,by rw[e,h2]⟩) hn.1
  exact Dc hn.2 h1 h2 e
structure DL(q:bz)(t:Int)(l:List bH)(os:List dB):Prop where
 perm:(os++(l.filter (mI t (os.map dB.w))).map (kK q)).Perm (gZ q t l)
 sorted:os.Pairwise zg
 after:∀o∈os,∀p∈l,mI t (os.map dB.w) p=true->nW o.w p.w
theorem DL.begin(q:bz)(t:Int)(l:List bH):DL q t l []:=by
 refine⟨?_,List.Pairwise.nil,λo ho=>by simp at ho⟩
 have e:l.filter (mI t (([]:List dB).map dB.w))=l.filter (fV t):=by
  apply List.filter_congr;intro p _;simp[mI]
 rw[e,Dh];exact List.Perm.refl _
theorem yE {g:bH->Bool} {x:bH}:∀{l:List bH},(l.map bH.w).Nodup->x∈l->g x=true->(l.filter g).Perm (x::l.filter λp=>g p && !decide (p.w=x.w))
 | [],_,h,_=>by simp at h
 | y::l,hn,h,hg=>by
  rw[bgc,List.nodup_cons]at hn;rcases List.mem_cons.1 h with rfl | h
  ·have e:(l.filter λp=>g p && !decide (p.w=x.w))=l.filter g:=by
    apply List.filter_congr;intro p hp;have hne:¬p.w=x.w:=λe=>hn.1 (List.mem_map.2 ⟨p,hp,e⟩);rw[bfq hne];simp
   rw[List.filter_cons_of_pos hg,List.filter_cons_of_neg (by simp),e]
  ·have hne:¬y.w=x.w:=λe=>hn.1 (List.mem_map.2 ⟨x,h,e.symm⟩);have ih:=yE hn.2 h hg;by_cases hy:g y=true
   ·rw[List.filter_cons_of_pos hy,List.filter_cons_of_pos (by rw[hy,bfq hne];rfl)]
    exact(ih.cons y).trans (List.Perm.swap _ _ _)
   rw[List.filter_cons_of_neg hy,List.filter_cons_of_neg (by simp[hy])]
   exact ih
theorem Bg(t:Int)(W:List bg)(w:bg)(p:bH):mI t (W++[w]) p=(mI t W p && !decide (p.w=w)):=by
 unfold mI;by_cases h1:p.w∈W <;> by_cases h2:p.w=w <;> cases fV t p <;> simp[h1,h2]
theorem DL.step {q:bz} {t:Int} {l:List bH} {os:List dB} {x:bH}(h:DL q t l os)(hn:(l.map bH.w).Nodup)(hx:x∈l)(hl:mI t (os.map dB.w) x=true)
  (hm:∀p∈l,mI t (os.map dB.w) p=true->p.w=x.w∨nW x.w p.w):DL q t l (os++[kK q x]):=by
 have e:(os++[kK q x]).map dB.w=os.map dB.w++[x.w]:=by rw[bgl];rfl
 have e2:l.filter (mI t (os.map dB.w++[x.w]))=l.filter λp=>mI t (os.map dB.w) p && !decide (p.w=x.w):=List.filter_congr λp _=>Bg t _ _ p;refine⟨?_,?_,λo ho p hp hlp=>?_⟩
 ·rw[e,e2,bgz];refine List.Perm.trans ?_ h.perm;refine List.Perm.append_left os ?_;exact((yE hn hx hl).map (kK q)).symm
 ·rw[List.pairwise_append];refine⟨h.sorted,by simp,λa ha b hb=>?_⟩
  rw[List.mem_singleton.1 hb];exact h.after a ha x hx hl
 rw[e,Bg,bf8]at hlp;have hne:¬p.w=x.w:=by simpa using hlp.2
 rcases List.mem_append.1 ho with ho | ho
 ·exact h.after o ho p hp hlp.1
 rw[List.mem_singleton.1 ho];exact(hm p hp hlp.1).resolve_left hne
theorem DL.done {q:bz} {t:Int} {l:List bH} {os:List dB}(h:DL q t l os)(hn:(l.map bH.w).Nodup)(hl:∀p∈l,mI t (os.map dB.w) p=false):
  os=pU (gZ q t l)/\l.map (jd (os.map dB.w))=l.map (jc t):=by
 have hp:os.Perm (gZ q t l):=by
  have h1:=h.perm;rw[List.filter_eq_nil_iff.2 (λp hp=>by rw[hl p hp];decide),bge,bg2]at h1
  exact h1
 have hw:(gZ q t l).map dB.w=(l.filter (fV t)).map bH.w:=by
  rw[Dh,List.map_map];rfl
 have hno:((gZ q t l).map dB.w).Nodup:=by
  rw[hw];exact hn.sublist (List.filter_sublist.map _)
 refine⟨Dv hno hp (h.sorted.imp λhab uZ=>nW.asymm hab uZ),List.map_congr_left λp hpl=>?_⟩;have hi:p.w∈os.map dB.w↔fV t p=true:=by
  rw[(hp.map dB.w).mem_iff,hw];constructor
  ·intro hm;obtain⟨y,hy,e⟩:=List.mem_map.1 hm;obtain⟨hy1,hy2⟩:=List.mem_filter.1 hy;have:y=p:=Dc hn hy1 hpl e;rw[<-this];exact hy2
  exact λhf=>List.mem_map.2 ⟨p,List.mem_filter.2 ⟨hpl,hf⟩,rfl⟩
 unfold jd jc;by_cases hf:fV t p=true
 ·rw[if_pos (hi.2 hf),if_pos hf]
 rw[if_neg (λh=>hf (hi.1 h)),if_neg hf]
theorem L9:∀(n:Nat) (j:Nat) (u:Value),(cZ (List.replicate n bX))[j]? =some u->(madeCells #[.string ⟨#[]⟩,.int .i64 0,.int .i64 0] (n*3)).toList[j]? =some u:=by
 intro n j u hu;have hj:=(List.getElem?_eq_some_iff.1 hu).1;rw[fJ,List.length_replicate]at hj;have hx:(List.replicate n bX)[j / 3]? =some bX:=by rw[List.getElem?_replicate,if_pos (by omega)]
 have h3:j % 3<3:=Nat.mod_lt _ (by decide)
 obtain⟨v,hv⟩:∃v,bX.cells[j % 3]? =some v:=⟨_,bgm (show j % 3<bX.cells.size from h3)⟩;have h1:=vE _ (j / 3) _ (j % 3) v hx hv;rw[show j / 3*3+j % 3=j by omega,hu]at h1
 cases h1
 have e:(madeCells #[.string ⟨#[]⟩,.int .i64 0,.int .i64 0] (n*3)).toList[j]? =some (#[Value.string ⟨#[]⟩,.int .i64 0,.int .i64 0][j % 3]!):=by
  rw[Array.getElem?_toList];unfold madeCells;simp;refine⟨j,?_,rfl⟩;rw[bgm (by simpa using hj)]
  simp
 rw[e];have:bX.cells=#[Value.string ⟨#[]⟩,.int .i64 0,.int .i64 0]:=rfl;rw[this]at hv
 match j % 3,h3,hv with
 | 0,_,hv=>exact hv
 | 1,_,hv=>exact hv
 | 2,_,hv=>exact hv
theorem JO(n:Nat):(madeCells (Value.agg #[.string ⟨#[]⟩,.int .i64 0,.int .i64 0]).cells (n*3)).toList=cZ (List.replicate n bX):=by
 apply List.ext_getElem?;intro j;show(madeCells #[.string ⟨#[]⟩,.int .i64 0,.int .i64 0] (n*3)).toList[j]? =_
 cases h:(cZ (List.replicate n bX))[j]? with
 | some u=>exact L9 n j u h
 | none=>
  have h1:=List.getElem?_eq_none_iff.1 h;rw[fJ,List.length_replicate]at h1;rw[List.getElem?_eq_none_iff,bgq,size_madeCells];exact h1
theorem FY(w:World) {ops:Array Oper} {rest:List Oper} {o:Oper} {a:Act} {Q:Exit->Act->World->Prop}(hg:o.guard=none)(l c:Operand)(hop:o.op=Op.makeSlice 84 l c)
  (base:Nat) (n:Nat) (hl:a.eval l=.int .i64 (n:Int)) (hc:a.eval c=.int .i64 (n:Int)) (hn:n<=1000000) (hb:base<=w.heap.size)
  (hK:∀w',cK w' base (.slice (some ⟨w.heap.size,0,none⟩) n n) (List.replicate n bX)->Bw w w'->wpList prog ops Q rest (a.put o.dst (.slice (some ⟨w.heap.size,0,none⟩) n n)) w'):wpList prog ops Q (o::rest) a w:=by
 obtain⟨i,hi,hz0,hz1,hz2⟩:=info_parts (P:=prog) (e:=47) (z:=.agg #[.string ⟨#[]⟩,.int .i64 0,.int .i64 0]) (size:=3) (bytes:=32) (by kernel_rfl)
 refine wpList_make_full w hg l c 84 hop base 47 i _ 3 underlying84 hi hz0 hz1 .i64 .i64 _ _ n hl hc rfl rfl (by rw[hz2];omega) (by unfold maxLen;omega) hb ?_
 intro w' h1 h2;refine hK w' ?_ ⟨h2.os,h2.tape,h2.output,h2.size,λk hk=>h2.block k hk (by simp)⟩
 unfold cK;rw[List.length_replicate,<-JO];exact h1
theorem Ja {ops:Array Oper} {rest:List Oper} {o:Oper} {a:Act} {w:World} {Q:Exit->Act->World->Prop}(hgd:o.guard=none)(x y:Operand)(ho:o.op=.store 47 x y) {base g c n i:Nat} {l:List bg}(u:bg)
  (hown:cK w base (.slice (some ⟨g,0,none⟩) n c) l) (hn:n=l.length) (hi:i<n) (hx:a.eval x=.pointer (some ⟨g,i*3,none⟩)) (hy:a.eval y=.agg u.cells)
  (h:∀w',cK w' base (.slice (some ⟨g,0,none⟩) n c) (l.set i u)->w.grownBy w' (some g)->wpList prog ops Q rest (a.put o.dst undef) w'):wpList prog ops Q (o::rest) a w:=
 wpList_plain hgd λ_ hK=>Qi x y ho u hown hn hi hx hy (λw' k1 k2=>hK _ _ (h w' k1 k2))
def nC(l:List bg)(i:Nat):List bg:=l.take i++List.replicate (l.length-i) bX
theorem Fj {l:List bg} {i:Nat}(h:i<=l.length):(nC l i).length=l.length:=by
 rw[nC,bft,bga,List.length_replicate];omega
theorem JC(l:List bg):nC l 0=List.replicate l.length bX:=by simp[nC]
theorem LK(l:List bg):nC l l.length=l:=by simp[nC]
theorem LM {l:List bg} {i:Nat} {x:bg}(h:l[i]? =some x):(nC l i).set i x=nC l (i+1):=by
 have hi:=(List.getElem?_eq_some_iff.1 h).1;have e:l.length-i=(l.length-(i+1))+1:=by omega
 have ht:(l.take i).length=i:=by rw[bga];omega
 rw[nC,nC,List.take_add_one,h,e,List.replicate_succ,List.set_append_right _ _ (by omega),ht,Nat.sub_self,bfv]
 simp
def RX(w:World)(g:Nat)(ws:List bg)(v:Value)(wr:World):Prop:=∃i:Nat,i<=ws.length/\v=.int .i64 (i:Int)/\cK wr w.heap.size (.slice (some ⟨g,0,none⟩) ws.length ws.length) (nC ws i)/\Bw w wr
theorem wU(w:World)(sa:Option Addr)(sc:Nat)(l:List bn)(hA:dI w sa l)(hn:l.length<=1000000):
  Calls prog 53 #[.slice sa l.length sc] w (jU w (l.map λx=>x.p.w)):=by
 obtain⟨n,hN⟩:=Nm (l.length);obtain⟨ws,hws⟩:=Nm (l.map λx=>x.p.w);obtain⟨P,hP⟩:=Nm (jU w ws);rw[<-hws,<-hP,<-hN];have hwl:ws.length=n:=by rw[hws,bfz,hN]
 have Sl:Hid (∀wz g,cK wz w.heap.size (.slice (some ⟨g,0,none⟩) n n) ws->Bw w wz->P (.returned (.slice (some ⟨g,0,none⟩) n n)) wz):=Lh (λwz g h hB=>by rw[hP];exact⟨_,rfl,h,hB⟩)
 have HA:=Lh hA;have Tx:n<=1000000:=by omega
 have HN:Hid (n=l.length/\ws.length=n):=Lh ⟨hN,hwl⟩;have HW:Hid (∀(i:Nat) (x:bn),l[i]? =some x->ws[i]? =some x.p.w):=Lh (λi x h=>by rw[hws,bgf,h];rfl)
 clear hN hA hn hP hws hwl;go_enter func53,ntmps53;go_upto_region 1 with(fail);refine bg4 ?_
 iterate 6 go_step
 refine FY w rfl _ _ rfl w.heap.size n rfl rfl Tx (bfx _) ?_;intro w1 k1 k2;obtain⟨g,hg⟩:=Nm (w.heap.size);have U1:Hid (cK w1 w.heap.size (.slice (some ⟨g,0,none⟩) n n) (nC ws 0)/\Bw w w1):=by
  rw[JC,HN.out.2];rw[<-hg]at k1;rw[hg]at k1 ⊢;exact Lh ⟨k1,k2⟩
 rw[<-hg];clear k1 k2 hg;go_wp2_with(fail);go_loopw[11] (RX w g ws) (λv _=>n-(intOf v).toNat)
 case atStart=>exact⟨0,bgi _,rfl,by rw[HN.out.2];exact U1.out.1,U1.out.2⟩
 case round=>
  obtain⟨i,hi,rfl,hO,hB⟩:=hrel;rw[HN.out.2]at hi hO;have HO:=Lh (bfy hO hB);clear hO hB;by_cases hlt:i<n
  ·have hi0:(0:Int)<=(i:Int)/\(i:Int)<(n:Int):=by omega
   obtain⟨x,pa,oa,hx,hsa,c0,c1,c2,c3,c4,c5,c6,c7⟩:=(HA.out.below HO.out.2).get (t:=i) (by rw[<-HN.out.1];exact hlt)
   subst hsa;have HX:=Lh (HW.out i x hx);have HI:=Lh (bfy hlt hi);clear hx hi hlt;obtain⟨⟨⟨xk,xl,xh⟩,⟨xn,xa,xt,xu,xv⟩,xr⟩,Su,xz,Sw,Sz⟩:=x;simp only at c0 c1 c2 c3 c4 c5 c6 c7;go_upto_region 4 with(fail);refine bg4 ?_
   iterate 15 go_step
   refine bg6 rfl _ _ _ rfl wr.heap.size (bn.mk ⟨⟨xk,xl,xh⟩,⟨xn,xa,xt,xu,xv⟩,xr⟩ Su xz Sw Sz).cells rfl rfl 55 cO.cells (bg5 wr _) fo rfl (fG _) ?_;obtain⟨wx,hwx⟩:=Nm ((wr.alloc (Obj.cells #[.string ⟨#[]⟩,.int .i64 0,.int .i64 0,.int .i64 0,.int .i64 0,.slice none 0 0,.complex .f64 0 0,.int .i64 0] 55)).setRow wr.heap.size (bn.mk ⟨⟨xk,xl,xh⟩,⟨xn,xa,xt,xu,xv⟩,xr⟩ Su xz Sw Sz).cells);obtain⟨xb,hxb⟩:=Nm (wr.heap.size);have Sn:Hid (cz wx xb (bn.mk ⟨⟨xk,xl,xh⟩,⟨xn,xa,xt,xu,xv⟩,xr⟩ Su xz Sw Sz)/\Bw wr wx):=by
    obtain⟨k1,k2⟩:=fO wr (bn.mk ⟨⟨xk,xl,xh⟩,⟨xn,xa,xt,xu,xv⟩,xr⟩ Su xz Sw Sz);rw[hwx,hxb];exact Lh ⟨k1,k2⟩
   rw[<-hwx,<-hxb];clear hwx hxb c0 c1 c2 c3 c4 c5 c6 c7;have Te:Hid (cK wx w.heap.size (.slice (some ⟨g,0,none⟩) n n) (nC ws i)/\Bw w wx):=Lh ⟨HO.out.1.far Sn.out.2,HO.out.2.trans (Sn.out.2.mono HO.out.2.size)⟩;obtain⟨e0,e1,e2,_⟩:=Sn.out.1.d8;have hi1:=HI.out.1;go_upto_region 5 with(fail);refine bg4 ?_
   iterate 15 go_step
   refine Ja (i:=i) (c:=n) (n:=n) (g:=g) rfl _ _ rfl ⟨xk,xl,xh⟩ Te.out.1 (by rw[Fj (by rw[HN.out.2];exact HI.out.2),HN.out.2]) HI.out.1 (by first | rfl | (dsimp only;rfl) | trace_state) rfl ?_
   intro w3 j1 j2;have U2:Hid (cK w3 w.heap.size (.slice (some ⟨g,0,none⟩) n n) (nC ws (i+1))/\Bw w w3):=by
    rw[LM HX.out]at j1;exact Lh ⟨j1,Te.out.2.trans (Te.out.1.below j2 Te.out.2.size)⟩
   clear j1 j2 e0 e1 e2 hi1;go_wp2_with(fail);refine⟨⟨i+1,by rw[HN.out.2];exact HI.out.1,rfl,by rw[HN.out.2];exact U2.out.1,U2.out.2⟩,by rw[dU,dU];have:=HI.out.1;omega⟩
  obtain rfl:i=n:=by omega
  clear hlt;go_wp2_with(fail);refine Sl.out _ _ ?_ HO.out.2;have h:=HO.out.1;have e:nC ws i=ws:=by rw[<-HN.out.2];exact LK ws
  rw[e]at h;exact h
theorem BA {l:List bg}(h:∀j,0<j->j<l.length->bJ (pX l (j-1)) (pX l j)):l.Pairwise bJ:=by
 refine List.pairwise_iff_getElem.2 λi j hi hj hij=>?_;have hat:∀i (h:i<l.length),pX l i=l[i]:=λi h=>fF (bfs h);have far:∀d i (hi:i+d+1<l.length),bJ (l[i]'(by omega)) l[i+d+1]:=by
  intro d
  induction d with
  | zero=>
   intro i hi;have:=h (i+1) (by omega) hi
   rwa [hat _ hi,Nat.add_sub_cancel,hat i (by omega)]at this
  | succ d ih=>
   intro i hi;have h1:=ih i (by omega)
   have h2:=h (i+(d+1)+1) (by omega) hi
   rw[hat _ hi,Nat.add_sub_cancel,hat (i+(d+1)) (by omega)]at h2
   exact h1.trans h2
 have:=far (j-i-1) i (by omega)
 simpa[show i+(j-i-1)+1=j by omega]using this
def Rm(w:World)(ws:List bg)(v:Value)(wr:World):Prop:=∃i:Nat,1<=i/\i<=ws.length+1/\v=.int .i64 (i:Int)/\(∀j,0<j->j<i->j<ws.length->bJ (pX ws (j-1)) (pX ws j))/\Bw w wr
theorem GV(w:World)(q:bz)(sa:Option Addr)(sc:Nat)(l:List bn)(hA:dI w sa l)(hk:∀x∈l,x.p.w.key.length<=1000000)(hn:l.length<=1000000):
  Calls prog 31 #[.agg q.cells,.slice sa l.length sc] w (bE w (.bool (fH q (l.map bn.p)))):=by
 have mixed:prog.follows .mixedOrders=true:=by kernel_rfl
 obtain⟨n,hN⟩:=Nm (l.length);obtain⟨ws,hws⟩:=Nm (l.map λx=>x.p.w);have hwl:ws.length=n:=by rw[hws,bfz,hN]
 have he:fI (l.map bn.p)=ws:=by rw[hws,fI,List.map_map];rfl
 obtain⟨P,hP⟩:=Nm (bE w (.bool (fH q (l.map bn.p))));rw[<-hP,<-hN];have HS:Hid (∀wz,q.kind=3->Bw w wz->P (.returned (.bool (decide (dD ws)))) wz):=Lh (λwz h hB=>by rw[hP,fH,if_pos h,he];exact⟨rfl,hB⟩)
 have SF:Hid (∀wz,q.kind≠3->¬ws.Pairwise bJ->Bw w wz->P (.returned (.bool false)) wz):=Lh (λwz h h' hB=>by rw[hP,fH,if_neg h,he,bfq h'];exact⟨rfl,hB⟩)
 have Sl:Hid (∀wz,q.kind≠3->ws.Pairwise bJ->Bw w wz->P (.returned (.bool true)) wz):=Lh (λwz h h' hB=>by rw[hP,fH,if_neg h,he,bfr h'];exact⟨rfl,hB⟩)
 obtain⟨w1,hw1⟩:=Nm (w.alloc (.cells q.cells 23));obtain⟨qb,Sm⟩:=Nm (w.heap.size);have H1:Hid (dn w1 qb q/\Bw w w1):=by rw[hw1,Sm];exact Lh (KP w q)
 have HA:Hid (dI w1 sa l):=Lh (hA.below H1.out.2);have Tx:n<=1000000:=by omega
 have HN:Hid (n=l.length/\ws.length=n):=Lh ⟨hN,hwl⟩;have HW:Hid (∀(i:Nat) (x:bn),l[i]? =some x->ws[i]? =some x.p.w):=Lh (λi x h=>by rw[hws,bgf,h];rfl)
 have Xl:Hid (∀w',Bw w1 w'->Calls prog 53 #[.slice sa n sc] w' (jU w' ws)):=by
  rw[hws,hN];exact Lh (λw' h=>wU w' sa sc l (HA.out.below h) hn)
 have U7:Hid (∀w' a c,dF w' a ws->Calls prog 52 #[.slice a ws.length c] w' (bE w' (.bool (decide (dD ws))))):=Lh (λw' a c h=>xy w' a c ws h (λx hx=>by
  rw[hws]at hx;obtain⟨y,hy,rfl⟩:=List.mem_map.1 hx;exact hk y hy) (by omega))
 clear hN hA hn hP hws hwl he hk;obtain⟨kind,size,slide,late,agg,kq⟩:=q;unfold bz.cells at hw1 ⊢;simp only at HS SF Sl;obtain⟨d0,d1,d2,d3,d4,d5⟩:=H1.out.1.d6;simp only at d0 d1 d2 d3 d4 d5;by_cases hkind:kind=3
 ·subst hkind;go_enter func31,ntmps31;go_upto_region 1 with(fail);rw[<-hw1,<-Sm];clear hw1 Sm;go_wp2_with(fail);refine(Xl.out w1 Br).mono ?_;rintro e w2 ⟨v,rfl,hO,hB⟩;obtain⟨a,c,rfl,hc,hW⟩:=hO.form;have HB2:=Lh (H1.out.2.trans (hB.mono H1.out.2.size));have HS2:=Lh (U7.out w2 a c hW);clear hB hO hW hc d0 d1 d2 d3 d4 d5;dsimp only;go_wp2_with(fail);refine HS2.out.mono ?_;rintro e w3 ⟨rfl,hB⟩;have HB3:=Lh (Tb HB2.out hB);clear hB;dsimp only;go_wp2_with(fail);exact HS.out _ (by simp) HB3.out
 have eH:(kind==3)=false:=by simpa using hkind
 have HK:=Lh hkind;clear hkind HS Xl U7;go_enter func31,ntmps31;go_upto_region 1 with(fail);rw[<-hw1,<-Sm];clear hw1 Sm;go_wp2_with(fail);clear d0 d1 d2 d3 d4 d5;go_loopw[5] (Rm w1 ws) (λv _=>n+1-(intOf v).toNat)
 case atStart=>exact⟨1,bfx _,by omega,rfl,λj h h'=>by omega,Br⟩
 case round=>
  obtain⟨i,hi1,hi,rfl,hok,hB⟩:=hrel;rw[HN.out.2]at hi hok;have HO:=Lh (bfy hok hB);clear hok hB;by_cases hlt:i<n
  ·have hi0:(1:Int)<=(i:Int)/\(i:Int)<(n:Int):=by omega
   obtain⟨m,rfl⟩:∃m,i=m+1:=⟨i - 1,by omega⟩
   obtain⟨x,pa,oa,hx,hsa,_⟩:=HA.out.get (t:=m) (by rw[<-HN.out.1];omega)
   obtain⟨y,pc,oc,hy,hsc,_⟩:=HA.out.get (t:=m+1) (by rw[<-HN.out.1];omega)
   subst hsa;have HX:=Lh (HW.out m x hx);have HY:=Lh (HW.out (m+1) y hy);obtain⟨xw,O9⟩:=Nm (x.p.w);obtain⟨yw,Ua⟩:=Nm (y.p.w);have WQ:Hid (∀w',Bw wr w'->w'.cell? ⟨pa,oa+m*8,none⟩=some (Sv xw.key)/\w'.cell? ⟨pa,oa+m*8+1,none⟩=some (.int .i64 xw.lo)/\w'.cell? ⟨pa,oa+m*8+2,none⟩=some (.int .i64 xw.hi)):=Lh (λw' h=>by
    obtain⟨x',b',o',hx',ha',c⟩:=((HA.out.below HO.out.2).below (h.mono (bfx _))).get (t:=m) (by rw[<-HN.out.1];omega)
    rw[hx]at hx';cases hx'
    cases ha'
    rw[O9];exact⟨c.1,c.2.1,c.2.2.1⟩)
   have HL2:Hid (∀w',Bw wr w'->w'.cell? ⟨pa,oa+(m+1)*8,none⟩=some (Sv yw.key)/\w'.cell? ⟨pa,oa+(m+1)*8+1,none⟩=some (.int .i64 yw.lo)/\w'.cell? ⟨pa,oa+(m+1)*8+2,none⟩=some (.int .i64 yw.hi)):=Lh (λw' h=>by
    obtain⟨x',b',o',hx',ha',c⟩:=((HA.out.below HO.out.2).below (h.mono (bfx _))).get (t:=m+1) (by rw[<-HN.out.1];omega)
    rw[hy]at hx';cases hx'
    cases ha'
    rw[Ua];exact⟨c.1,c.2.1,c.2.2.1⟩)
   obtain⟨p,hp⟩:=Nm (gG xw yw);obtain⟨VX,Vw⟩:=Nm (Value.agg xw.cells);obtain⟨VY,Ws⟩:=Nm (Value.agg yw.cells);have VI:Hid (∀w',Calls prog 54 #[VX,VY] w' (bE w' (.int .i64 p))):=by
    rw[hp,Vw,Ws];exact Lh (λw'=>nR w' xw yw)
   have aK:Hid (p<0↔bJ (pX ws m) (pX ws (m+1))):=by
    rw[hp,fF HX.out,fF HY.out,<-O9,<-Ua];exact Lh (gI _ _)
   have HI:=Lh hlt;obtain⟨xk,xl,xh⟩:=xw;obtain⟨yk,yl,yh⟩:=yw;have V9:Hid (VX=.agg #[Sv xk,.int .i64 xl,.int .i64 xh]):=Lh Vw;have ZI:Hid (VY=.agg #[Sv yk,.int .i64 yl,.int .i64 yh]):=Lh Ws;simp only at WQ HL2;have YY:Hid (((m+1:Nat):Int)-1=(m:Int)/\(0:Int)<=((m+1:Nat):Int)/\((m+1:Nat):Int)<=1000000):=Lh (by have:=Tx;omega)
   have HI1:Hid ((0:Int)<=(m:Int)/\(m:Int)<(n:Int)):=Lh (by omega)
   have HI0:=Lh hi0;clear hx hy hsc O9 Ua hp Vw Ws hi hlt hi1 HX HY;by_cases hp0:p<0
   ·have hge:decide (0<=p)=false:=bfq (by omega)
    have HG:=Lh hge;have IR:=Lh (aK.out.1 hp0);clear hp0 hge aK;go_upto_region 6 with(fail);have SB:Hid (Bw wr wr.drew):=Lh (Below.refl _ wr).drew;refine bD (λi=>([]:List Nat).contains i) (by kernel_rfl) (NoF (NoF [none,none,none])) [] (λi_ _ _ v_=>v_=(((Value.slice (some ⟨pa,oa,none⟩) n sc)::(Value.int .i64 ((m+1:Nat):Int))::(Value.int .i64 (m:Int))::(Value.pointer (some ⟨pa,oa+m*8,none⟩))::(Value.pointer (some ⟨pa,oa+m*8,none⟩))::VX::(Value.slice (some ⟨pa,oa,none⟩) n sc)::(Value.int .i64 ((m+1:Nat):Int))::(Value.pointer (some ⟨pa,oa+(m+1)*8,none⟩))::(Value.pointer (some ⟨pa,oa+(m+1)*8,none⟩))::VY::([.int .i64 p,.bool false]:List Value))).getD i_ undef) (λ_ w'=>Bw wr w') (λw w'=>Bw w w') (λ_ _ _ _ _ _ h=>h) (by kernel_rfl) (by kernel_rfl) (by kernel_rfl) SB.out (λ_=>⟨rfl,rfl,rfl,rfl,rfl,rfl,rfl,rfl,rfl,rfl,rfl,rfl,rfl,trivial⟩) (λ_ h=>by simp at h) ?_ ?_
    ·refine ⟨?_,?_,?_,?_,?_,?_,?_,?_,?_,?_,?_,?_,?_,trivial⟩<;>intro _ _ a w' hG Si Sj K hK<;>replace Si:=Lh Si<;>replace Sj:=Lh Sj
     have q1:=FoA Si 1 (.slice (some ⟨pa,oa,none⟩) n sc);rotate_left;have q5:=FoA Si 5 (.int .i64 ((m+1:Nat):Int));rotate_left;have VV:=Ep a 19 (.int .i64 ((m+1:Nat):Int)) Sj.out.1;have him:=YY.out;rotate_left;have Vn:=Ep a 18 (.slice (some ⟨pa,oa,none⟩) n sc) Sj.out.1;have Wy:=Pi a 20 m Sj.out.2.1;have hi0:=HI1.out;rotate_left;have VZ:=Ep a 21 (.pointer (some ⟨pa,oa+m*8,none⟩)) Sj.out.1;rotate_left
     ·have q22:=Ep a 22 (.pointer (some ⟨pa,oa+m*8,none⟩)) Sj.out.1;obtain⟨c0,c1,c2⟩:=WQ.out _ hG;go_step;exact hK _ _ V9.out.symm hG Br
     have q1:=FoA Si 1 (.slice (some ⟨pa,oa,none⟩) n sc);rotate_left;have q5:=FoA Si 5 (.int .i64 ((m+1:Nat):Int));rotate_left;have q24:=Ep a 24 (.slice (some ⟨pa,oa,none⟩) n sc) Sj.out.1;have V3:=Ep a 25 (.int .i64 ((m+1:Nat):Int)) Sj.out.2.1;have hi0:=HI0.out;rotate_left;have V5:=Ep a 26 (.pointer (some ⟨pa,oa+(m+1)*8,none⟩)) Sj.out.1;rotate_left
     ·have Xe:=Ep a 27 (.pointer (some ⟨pa,oa+(m+1)*8,none⟩)) Sj.out.1;obtain⟨c0,c1,c2⟩:=HL2.out _ hG;go_step;exact hK _ _ ZI.out.symm hG Br
     ·have Wi:=Ep a 23 VX Sj.out.1;have XW:=Ep a 28 VY Sj.out.2.1;have HS:=Lh (VI.out w');go_step;refine HS.out.mono ?_;rintro e w3 ⟨rfl,hB⟩;exact hK _ _ rfl (Tb hG hB) hB
     have YC:=Pi a 29 p Sj.out.1;have hg:=HG.out;rotate_left
     all_goals(go_step;exact hK _ _ rfl hG Br)
    intro vs w2 hG hlen hV
    match vs,hlen,hV with
    | [v0,v1,v2,v3,v4,v5,v6,v7,v8,v9,v10,v11,v12],_,hV=>
     obtain rfl:v12=.bool false:=(hV 12 30 v12 rfl rfl);clear hV;simp only[dG,bf7,bf1];simp only[Act.put,bfw,bfu,bfv];have HZ:=Lh (HO.out.2.trans (hG.mono HO.out.2.size));clear hG;go_wp2_with(fail);refine⟨⟨m+2,by omega,by rw[HN.out.2];have:=HI.out;omega,by go_num,λj h0 h1 h2=>?_,HZ.out⟩,by rw[dU,dU];have:=HI.out;omega⟩
     rcases bg1 j (m+1)with h | h
     ·exact HO.out.1 j h0 h (by rw[<-HN.out.2];exact h2)
     obtain rfl:j=m+1:=by omega
     exact IR.out
   have hge:decide (0<=p)=true:=bfr (by omega)
   have HG:=Lh hge;have IR:Hid (¬bJ (pX ws m) (pX ws (m+1))):=Lh (λh=>hp0 (aK.out.2 h));clear hp0 hge aK;go_upto_region 6 with(fail);have SB:Hid (Bw wr wr.drew):=Lh (Below.refl _ wr).drew;refine bD (λi=>([]:List Nat).contains i) (by kernel_rfl) (NoF (NoF [none,none,none])) [] (λi_ _ _ v_=>v_=(((Value.slice (some ⟨pa,oa,none⟩) n sc)::(Value.int .i64 ((m+1:Nat):Int))::(Value.int .i64 (m:Int))::(Value.pointer (some ⟨pa,oa+m*8,none⟩))::(Value.pointer (some ⟨pa,oa+m*8,none⟩))::VX::(Value.slice (some ⟨pa,oa,none⟩) n sc)::(Value.int .i64 ((m+1:Nat):Int))::(Value.pointer (some ⟨pa,oa+(m+1)*8,none⟩))::(Value.pointer (some ⟨pa,oa+(m+1)*8,none⟩))::VY::([.int .i64 p,.bool true]:List Value))).getD i_ undef) (λ_ w'=>Bw wr w') (λw w'=>Bw w w') (λ_ _ _ _ _ _ h=>h) (by kernel_rfl) (by kernel_rfl) (by kernel_rfl) SB.out (λ_=>⟨rfl,rfl,rfl,rfl,rfl,rfl,rfl,rfl,rfl,rfl,rfl,rfl,rfl,trivial⟩) (λ_ h=>by simp at h) ?_ ?_
   ·refine ⟨?_,?_,?_,?_,?_,?_,?_,?_,?_,?_,?_,?_,?_,trivial⟩<;>intro _ _ a w' hG Si Sj K hK<;>replace Si:=Lh Si<;>replace Sj:=Lh Sj
    have q1:=FoA Si 1 (.slice (some ⟨pa,oa,none⟩) n sc);rotate_left;have q5:=FoA Si 5 (.int .i64 ((m+1:Nat):Int));rotate_left;have VV:=Ep a 19 (.int .i64 ((m+1:Nat):Int)) Sj.out.1;have him:=YY.out;rotate_left;have Vn:=Ep a 18 (.slice (some ⟨pa,oa,none⟩) n sc) Sj.out.1;have Wy:=Pi a 20 m Sj.out.2.1;have hi0:=HI1.out;rotate_left;have VZ:=Ep a 21 (.pointer (some ⟨pa,oa+m*8,none⟩)) Sj.out.1;rotate_left
    ·have q22:=Ep a 22 (.pointer (some ⟨pa,oa+m*8,none⟩)) Sj.out.1;obtain⟨c0,c1,c2⟩:=WQ.out _ hG;go_step;exact hK _ _ V9.out.symm hG Br
    have q1:=FoA Si 1 (.slice (some ⟨pa,oa,none⟩) n sc);rotate_left;have q5:=FoA Si 5 (.int .i64 ((m+1:Nat):Int));rotate_left;have q24:=Ep a 24 (.slice (some ⟨pa,oa,none⟩) n sc) Sj.out.1;have V3:=Ep a 25 (.int .i64 ((m+1:Nat):Int)) Sj.out.2.1;have hi0:=HI0.out;rotate_left;have V5:=Ep a 26 (.pointer (some ⟨pa,oa+(m+1)*8,none⟩)) Sj.out.1;rotate_left
    ·have Xe:=Ep a 27 (.pointer (some ⟨pa,oa+(m+1)*8,none⟩)) Sj.out.1;obtain⟨c0,c1,c2⟩:=HL2.out _ hG;go_step;exact hK _ _ ZI.out.symm hG Br
    ·have Wi:=Ep a 23 VX Sj.out.1;have XW:=Ep a 28 VY Sj.out.2.1;have HS:=Lh (VI.out w');go_step;refine HS.out.mono ?_;rintro e w3 ⟨rfl,hB⟩;exact hK _ _ rfl (Tb hG hB) hB
    have YC:=Pi a 29 p Sj.out.1;have hg:=HG.out;rotate_left
    all_goals(go_step;exact hK _ _ rfl hG Br)
   intro vs w2 hG hlen hV
   match vs,hlen,hV with
   | [v0,v1,v2,v3,v4,v5,v6,v7,v8,v9,v10,v11,v12],_,hV=>
    obtain rfl:v12=.bool true:=(hV 12 30 v12 rfl rfl);clear hV;simp only[dG,bf7,bf1];simp only[Act.put,bfw,bfu,bfv];have HZ:=Lh (HO.out.2.trans (hG.mono HO.out.2.size));clear hG;go_wp2_with(fail);refine SF.out _ HK.out (λh=>IR.out ?_) (H1.out.2.trans (HZ.out.mono H1.out.2.size));have h1:=List.pairwise_iff_getElem.1 h m (m+1) (by rw[HN.out.2];have:=HI.out;omega) (by rw[HN.out.2];exact HI.out) (by omega)
    rw[fF (bfs (by rw[HN.out.2];have:=HI.out;omega)),fF (bfs (by rw[HN.out.2];exact HI.out))]
    exact h1
  clear hi1;have hge:¬((i:Int)<(n:Int)):=by omega
  have HI:=Lh hlt;clear hlt;go_wp2_with(fail);refine Sl.out _ HK.out (BA λj h0 h1=>?_) (H1.out.2.trans (HO.out.2.mono H1.out.2.size));rw[HN.out.2]at h1;exact HO.out.1 j h0 (by have:=HI.out;omega) h1
end Go.Proofs.YtjeeghafachebaaGreat
