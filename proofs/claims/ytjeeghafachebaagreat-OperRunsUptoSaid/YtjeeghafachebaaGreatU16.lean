/-
  16.
-/
import Derived.Test.YtjeeghafachebaaGreatU8
import Derived.Test.YtjeeghafachebaaGreatU12
import Derived.Test.YtjeeghafachebaaGreatU15
set_option maxRecDepth 100000
set_option maxHeartbeats 1000000
namespace Go.Proofs.YtjeeghafachebaaGreat
open Go Go.RowKit Go.Proofs.Tryz
def Q8(w:World)(b:Nat):Prop:=∃cur,w.heap[b]? =some (.cells cur 3 (0,0))
theorem Q8.lt {w:World} {b:Nat}(h:Q8 w b):b<w.heap.size:=by
 obtain⟨_,h⟩:=h;exact(Array.getElem?_eq_some_iff.1 h).1
theorem Q8.below {w w':World} {b:Nat}(h:Q8 w b)(hB:Bw w w'):Q8 w' b:=by
 have hl:=h.lt;obtain⟨cur,h⟩:=h;exact⟨cur,(hB.block b hl).trans h⟩
def bA(w:World)(v:Value)(l:List Int):Prop:=
 ∃a c,v=.slice a l.length c/\l.length<=c/\((a=none/\l=[])∨∃b o,a=some ⟨b,o,none⟩/\(l=[]∨Q8 w b)/\∀i x,l[i]? =some x->w.cell? ⟨b,o+i,none⟩=some (.int .i64 x))
theorem bA.below {w w':World} {v:Value} {l:List Int}(h:bA w v l)(hB:Bw w w'):bA w' v l:=by
 obtain⟨a,c,e,hc,h⟩:=h;refine⟨a,c,e,hc,?_⟩;rcases h with h | ⟨b,o,h,ht,h'⟩
 ·exact .inl h
 exact .inr ⟨b,o,h,ht.imp id (λk=>k.below hB),λi x hx=>(hB.cell (block_lt_of_cell (h' i x hx))).trans (h' i x hx)⟩
theorem bA.nil(w:World):bA w (.slice none 0 0) []:=⟨none,0,rfl,bfx _,.inl ⟨rfl,rfl⟩⟩
theorem bA.get {w:World} {v:Value} {l:List Int}(h:bA w v l) {t:Nat}(ht:t<l.length):∃x b o c,l[t]? =some x/\v=.slice (some ⟨b,o,none⟩) l.length c/\w.cell? ⟨b,o+t,none⟩=some (.int .i64 x):=by
 obtain⟨a,c,e,hc,h⟩:=h;rcases h with⟨_,h⟩ | ⟨b,o,h,_,h'⟩
 ·rw[h]at ht;simp at ht
 exact⟨l[t],b,o,c,bfs ht,by rw[e,h],h' t _ (bfs ht)⟩
def kG(l:List Int):List Value:=l.map (Value.int .i64)
def gF(w:World)(base:Nat)(v:Value)(l:List Int):Prop:=Own w base 3 v (kG l)
theorem gT(l:List Int):(kG l).length=l.length:=by simp[kG]
theorem gF.ints {w:World} {B:Nat} {v:Value} {l:List Int}(h:gF w B v l):bA w v l:=by
 have hh:=h;unfold gF Own at hh;rw[gT]at hh;rcases hh.2 with⟨h1,h2⟩ | ⟨g,c,cur,h1,_,hrow,hc,_⟩
 ·exact⟨none,0,by rw[h1,h2],by omega,.inl ⟨rfl,bg3 h2⟩⟩
 refine⟨_,_,h1,hc,.inr ⟨g,0,rfl,.inr ⟨cur,hrow⟩,λi x hx=>?_⟩⟩;rw[h1]at hh;have hlt:i<l.length:=(List.getElem?_eq_some_iff.1 hx).1;rw[bgu,World.ownsRow.cellAt hh i (by omega),kG,bgf,hx]
 rfl
def bI(n a:Int)(tv z:Value):Array Value:=#[.int .i64 n,.int .i64 a,tv,z]
def bW(w:World)(b:Nat)(n a:Int)(tv z:Value):Prop:=w.heap[b]? =some (.cells (bI n a tv z) 53 (0,0))
theorem bW.lt {w:World} {b:Nat} {n a:Int} {tv z:Value}(h:bW w b n a tv z):b<w.heap.size:=(Array.getElem?_eq_some_iff.1 h).1
theorem bW.below {w w':World} {b:Nat} {n a:Int} {tv z:Value}(h:bW w b n a tv z)(hB:Bw w w'):bW w' b n a tv z:=(hB.block b h.lt).trans h
def D4(w:World)(b:Nat)(n a:Int)(tv z:Value):Prop:=w.cell? ⟨b,0,none⟩=some (.int .i64 n)/\w.cell? ⟨b,1,none⟩=some (.int .i64 a)/\w.cell? ⟨b,2,none⟩=some tv/\w.cell? ⟨b,3,none⟩=some z
theorem bW.d4 {w:World} {b:Nat} {n a:Int} {tv z:Value}(h:bW w b n a tv z):D4 w b n a tv z:=by
 refine⟨?_,?_,?_,?_⟩ <;> (rw[cell_of_row _ _ _ _ _ _ h];rfl)
theorem bV:(prog.info? 53).map (·.size)=some 4:=by kernel_rfl
theorem qK(w:World)(q:bz)(n a:Int)(tv z:Value):
  dn ((w.alloc (.cells q.cells 23)).alloc (.cells (bI n a tv z) 53)) w.heap.size q/\
   bW ((w.alloc (.cells q.cells 23)).alloc (.cells (bI n a tv z) 53)) (w.heap.size+1) n a tv z/\
   Bw w ((w.alloc (.cells q.cells 23)).alloc (.cells (bI n a tv z) 53)):=by
 have k1:=(Below.refl _ w).alloc (bfx _) (.cells q.cells 23);have k2:=(Below.refl _ (w.alloc (.cells q.cells 23))).alloc (bfx _) (.cells (bI n a tv z) 53);have hs:(w.alloc (.cells q.cells 23)).heap.size=w.heap.size+1:=bq w _;refine⟨dn.below (bg5 w _) k2,?_,Tb k1 k2⟩;rw[<-hs];exact bg5 _ _
theorem KP(w:World)(q:bz):dn (w.alloc (.cells q.cells 23)) w.heap.size q/\Bw w (w.alloc (.cells q.cells 23)):=
 ⟨bg5 w _,(Below.refl _ w).alloc (bfx _) _⟩
def vv(agg n:Int):Int:=if n=0 then 0 else lL agg
def BV(agg k n:Int):Int:=if agg=6 then min n k else 0
def wH(l:List Int):Bool:=decide (∀x∈l,-1099511627776<=x/\x<=1099511627776) && decide (jA l)
def xZ(agg n u v:Int):Bool:=decide (u=0/\v=0) || (decide (agg=7) && (decide (0<n) && decide (mr u v)))
theorem wR(agg:Int):0<=lL agg/\lL agg<=4398046511104:=by
 unfold lL
 split
 ·omega
 split <;> omega
theorem wW(q:bz)(x:dS):x.bB q=(q.bB && (decide (0<=x.n/\x.n<=1073741824) && (decide (-vv q.agg x.n<=x.a/\x.a<=vv q.agg x.n) && (decide ((x.top.length:Int)=BV q.agg q.k x.n) && (wH x.top && xZ q.agg x.n x.u x.v))))):=by
 refine Bool.eq_iff_iff.2 ?_;have hm:=wR q.agg;have ZV:vv q.agg x.n=if x.n=0 then 0 else lL q.agg:=rfl
 have htn:BV q.agg q.k x.n=if q.agg=6 then min x.n q.k else 0:=rfl
 obtain⟨mn,emn⟩:=Nm (vv q.agg x.n);rw[<-emn]at ZV ⊢;simp only[dS.bB,wH,xZ,htn,bf8,Bool.or_eq_true,bf0];constructor
 ·rintro⟨⟨⟨⟨⟨⟨⟨⟨h1,h2⟩,h3⟩,h4⟩,h5⟩,h6⟩,h7⟩,h8⟩,h9⟩;refine⟨h1,h2,?_,h7,⟨h8,h9⟩,?_⟩
  ·by_cases hn:x.n=0
   ·rw[if_pos hn]at ZV;have:=h6 hn;omega
   rw[if_neg hn]at ZV;rw[ZV];exact h4
  by_cases hz:x.u=0/\x.v=0
  ·exact .inl hz
  right
  refine⟨Decidable.byContradiction λh=>hz (h5 h),?_,h3⟩;have:¬x.n=0:=λh=>hz (h6 h).2;omega
 rintro⟨h1,h2,h3,h4,⟨h5,h6⟩,h7⟩;have hin:mr x.u x.v:=by
  rcases h7 with h | h
  ·unfold mr;omega
  exact h.2.2
 refine⟨⟨⟨⟨⟨⟨⟨⟨h1,h2⟩,hin⟩,?_⟩,?_⟩,?_⟩,h4⟩,h5⟩,h6⟩
 ·by_cases hn:x.n=0
  ·rw[if_pos hn]at ZV;omega
  rw[if_neg hn]at ZV;rw[ZV]at h3;exact h3
 ·intro h;rcases h7 with h' | h'
  ·exact h'
  exact absurd h'.1 h
 intro h;rw[if_pos h]at ZV;rcases h7 with h' | h'
 ·exact⟨by omega,h'.1,h'.2⟩
 omega
def jL(n m:Int):Bool:=decide (-m<=n/\n<=m)
theorem rX(w:World)(n m:Int)(hm:0<=m/\m<=4611686018427387904):Calls prog 55 #[.int .i64 n,.int .i64 m] w (λe w'=>e=.returned (.bool (jL n m))/\w'=w):=by
 obtain⟨r,hr⟩:=Nm (jL n m);rw[<-hr];unfold jL at hr;by_cases h1: -m<=n
 ·by_cases h2:n<=m
  ·obtain rfl:r=true:=by rw[hr];exact bfr ⟨h1,h2⟩
   clear hr;go_enter func55,ntmps55;go_wp2_with(fail);go_ret;exact⟨rfl,rfl⟩
  obtain rfl:r=false:=by rw[hr];exact bfq λh=>h2 h.2
  have e2:decide (n<=m)=false:=bfq h2;clear hr h2;go_enter func55,ntmps55;go_wp2_with(fail);go_ret;exact⟨rfl,rfl⟩
 obtain rfl:r=false:=by rw[hr];exact bfq λh=>h1 h.1
 have e1:decide (-m<=n)=false:=bfq h1;clear hr h1;go_enter func55,ntmps55;go_wp2_with(fail);go_ret;exact⟨rfl,rfl⟩
theorem Jh(w:World)(q:bz)(n:Int):Calls prog 56 #[.agg q.cells,.int .i64 n] w (bE w (.int .i64 (vv q.agg n))):=by
 obtain⟨r,hr⟩:=Nm (vv q.agg n);rw[<-hr];obtain⟨w1,hw1⟩:=Nm (w.alloc (.cells q.cells 23));obtain⟨b,hb⟩:=Nm (w.heap.size);have H1:Hid (dn w1 b q/\Bw w w1):=by rw[hw1,hb];exact Lh (KP w q)
 obtain⟨kind,size,slide,late,agg,k⟩:=q;unfold bz.cells at hw1 ⊢;simp only at hw1 hr;obtain⟨d0,d1,d2,d3,d4,d5⟩:=H1.out.1.d6;simp only at d0 d1 d2 d3 d4 d5;unfold vv lL at hr;by_cases hn:n=0
 ·rw[if_pos hn]at hr;subst hr;subst hn;go_enter func56,ntmps56;go_upto_region 1 with(fail);rw[<-hw1,<-hb];clear hw1 hb;go_wp2_with(fail);go_ret;exact⟨rfl,H1.out.2⟩
 rw[if_neg hn]at hr;have hn':(n==0)=false:=by simpa using hn
 clear hn;by_cases h2:agg=2
 ·subst h2;obtain rfl:r=4398046511104:=by rw[hr];decide
  clear hr;go_enter func56,ntmps56;go_upto_region 1 with(fail);rw[<-hw1,<-hb];clear hw1 hb;go_wp2_with(fail);go_ret;exact⟨rfl,H1.out.2⟩
 have e2:(agg==2)=false:=by simpa using h2
 by_cases h5:agg=5
 ·subst h5;obtain rfl:r=4398046511104:=by rw[hr];decide
  clear hr h2;go_enter func56,ntmps56;go_upto_region 1 with(fail);rw[<-hw1,<-hb];clear hw1 hb;go_wp2_with(fail);go_ret;exact⟨rfl,H1.out.2⟩
 have e5:(agg==5)=false:=by simpa using h5
 by_cases h3:agg=3
 ·subst h3;obtain rfl:r=1099511627776:=by rw[hr];decide
  clear hr h2 h5;go_enter func56,ntmps56;go_upto_region 1 with(fail);rw[<-hw1,<-hb];clear hw1 hb;go_wp2_with(fail);go_ret;exact⟨rfl,H1.out.2⟩
 have e3:(agg==3)=false:=by simpa using h3
 by_cases h4:agg=4
 ·subst h4;obtain rfl:r=1099511627776:=by rw[hr];decide
  clear hr h2 h5 h3;go_enter func56,ntmps56;go_upto_region 1 with(fail);rw[<-hw1,<-hb];clear hw1 hb;go_wp2_with(fail);go_ret;exact⟨rfl,H1.out.2⟩
 have e4:(agg==4)=false:=by simpa using h4
 obtain rfl:r=0:=by rw[hr,if_neg (by omega),if_neg (by omega)]
 clear hr h2 h5 h3 h4;go_enter func56,ntmps56;go_upto_region 1 with(fail);rw[<-hw1,<-hb];clear hw1 hb;go_wp2_with(fail);go_ret;exact⟨rfl,H1.out.2⟩
theorem Lr(w:World)(q:bz)(n:Int):Calls prog 57 #[.agg q.cells,.int .i64 n] w (bE w (.int .i64 (BV q.agg q.k n))):=by
 obtain⟨r,hr⟩:=Nm (BV q.agg q.k n);rw[<-hr];obtain⟨w1,hw1⟩:=Nm (w.alloc (.cells q.cells 23));obtain⟨b,hb⟩:=Nm (w.heap.size);have H1:Hid (dn w1 b q/\Bw w w1):=by rw[hw1,hb];exact Lh (KP w q)
 obtain⟨kind,size,slide,late,agg,k⟩:=q;unfold bz.cells at hw1 ⊢;simp only at hw1 hr;obtain⟨d0,d1,d2,d3,d4,d5⟩:=H1.out.1.d6;simp only at d0 d1 d2 d3 d4 d5;unfold BV at hr;by_cases h6:agg=6
 ·subst h6;have e3:(if k<n then k else n)=r:=by
   rw[hr,if_pos rfl]
   split <;> omega
  clear hr;go_enter func57,ntmps57;go_upto_region 1 with(fail);rw[<-hw1,<-hb];clear hw1 hb;go_wp2_with(fail);go_ret;exact⟨rfl,H1.out.2⟩
 obtain rfl:r=0:=by rw[hr,if_neg h6]
 have e6:(agg==6)=false:=by simpa using h6
 clear hr h6;go_enter func57,ntmps57;go_upto_region 1 with(fail);rw[<-hw1,<-hb];clear hw1 hb;go_wp2_with(fail);go_ret;exact⟨rfl,H1.out.2⟩
def Q9(l:List Int)(i:Nat):Int:=l.getD i 0
theorem rW {l:List Int} {i:Nat} {x:Int}(h:l[i]? =some x):Q9 l i=x:=by
 rw[Q9,List.getD_eq_getElem?_getD,h,Option.getD_some]
def okF(l:List Int)(i:Nat):Prop:=jL (Q9 l i) 1099511627776=true/\(0<i->Q9 l i<=Q9 l (i-1))
theorem vH(l:List Int):wH l=true↔∀i<l.length,okF l i:=by
 have hat:∀i (h:i<l.length),Q9 l i=l[i]:=λi h=>rW (bfs h);simp only[wH,bf8,bf0,okF,jL];constructor
 ·rintro⟨h1,h2⟩ i hi;refine⟨by rw[hat i hi];exact h1 _ (List.getElem_mem _),λh0=>?_⟩
  rw[hat i hi,hat (i-1) (by omega)]
  exact List.pairwise_iff_getElem.1 h2 (i-1) i (by omega) hi (by omega)
 intro h;refine⟨λx hx=>?_,List.pairwise_iff_getElem.2 λi j hi hj hij=>?_⟩
 ·obtain⟨i,hi,rfl⟩:=List.getElem_of_mem hx;have:=(h i hi).1
  rwa [hat i hi]at this
 have far:∀d i (hi:i+d+1<l.length),l[i+d+1]<=l[i]'(by omega):=by
  intro d
  induction d with
  | zero=>
   intro i hi;have:=(h (i+1) hi).2 (by omega)
   rwa [hat _ hi,Nat.add_sub_cancel,hat i (by omega)]at this
  | succ d ih=>
   intro i hi;have h1:=ih i (by omega)
   have h2:=(h (i+d+1+1) hi).2 (by omega)
   rw[show i+d+1+1-1=i+d+1 by omega,hat (i+d+1+1) (by omega),hat (i+d+1) (by omega)]at h2
   exact Int.le_trans h2 h1
 obtain⟨d,rfl⟩:∃d,j=i+d+1:=⟨j - i - 1,by omega⟩
 exact far d i hj
theorem PX {l:List Int} {i:Nat}(hi:i<l.length)(h:¬okF l i):wH l=false:=by
 rw[<-Bool.not_eq_true,vH];exact λhs=>h (hs i hi)
def DF(w:World)(l:List Int)(v:Value)(wr:World):Prop:=∃i:Nat,i<=l.length/\v=.int .i64 (i:Int)/\(∀j<i,okF l j)/\wr=w
theorem DV(w:World)(tv:Value)(l:List Int)(hT:bA w tv l)(hn:l.length<=1000000):
  Calls prog 58 #[tv] w (λe w'=>e=.returned (.bool (wH l))/\w'=w):=by
 obtain⟨n,hN⟩:=Nm (l.length);have HT:=Lh hT;obtain⟨a,c,rfl,_,_⟩:=hT;rw[<-hN];obtain⟨P,hP⟩:=Nm (λe w'=>e=.returned (.bool (wH l))/\w'=w:Ending->World->Prop);rw[<-hP];have HN:Hid (n=l.length/\n<=1000000):=Lh ⟨hN,by omega⟩
 have Tx:n<=1000000:=by omega
 have SF:Hid (∀i,i<n->¬okF l i->P (.returned (.bool false)) w):=Lh (λi hi h=>by rw[hP,PX (by omega) h];exact⟨rfl,rfl⟩)
 have Sl:Hid ((∀j<n,okF l j)->P (.returned (.bool true)) w):=Lh (λh=>by
  rw[hP];exact⟨by rw[(vH l).2 (by rw[hN]at h;exact h)],rfl⟩)
 clear hN hn hP;go_enter func58,ntmps58;go_wp2_with(fail);go_loopw[7] (DF w l) (λv _=>n-(intOf v).toNat)
 case atStart=>exact⟨0,bgi _,rfl,λj h=>absurd h (Nat.not_lt_zero _),rfl⟩
 case round=>
  obtain⟨i,hi,rfl,hok,rfl⟩:=hrel;rw[<-HN.out.1]at hi;have HO:=Lh hok;clear hok;by_cases hlt:i<n
  ·have hi0:(0:Int)<=(i:Int)/\(i:Int)<(n:Int):=by omega
   obtain⟨x,pb,po,c',hx,hsa,c0⟩:=HT.out.get (t:=i) (by rw[<-HN.out.1];exact hlt)
   obtain rfl:a=some ⟨pb,po,none⟩:=by injection hsa
   have Ti:=Lh (bfy (rW hx) hlt);obtain⟨r,hr⟩:=Nm (jL x 1099511627776);have Im:Hid (Calls prog 55 #[.int .i64 x,.int .i64 1099511627776] wr (λe w'=>e=.returned (.bool r)/\w'=wr)):=by
    rw[hr];exact Lh (rX wr x 1099511627776 (by decide))
   have Hr:=Lh hr;have HJ:=Lh hlt;clear hx hsa hi hlt hr;go_wp2_with(fail);refine Im.out.mono ?_;rintro e w' ⟨rfl,hw'⟩;subst w';dsimp only
   cases r with
   | false=>
    have HZ:=Lh (SF.out i HJ.out (λhk=>by have:=hk.1;rw[Ti.out.1,<-Hr.out]at this;cases this))
    clear c0;go_wp2_with(fail);exact HZ.out
   | true=>
    by_cases hz:i=0
    ·subst hz;have HZ:Hid (DF wr l (.int .i64 ((0:Int)+1)) wr):=Lh ⟨1,by have:=HN.out.1;have:=HJ.out;omega,rfl,λj hj=>by
      obtain rfl:j=0:=by omega
      exact⟨by rw[Ti.out.1];exact Hr.out.symm,λh=>absurd h (Nat.lt_irrefl _)⟩,rfl⟩
     rw[show((0:Nat):Int)=0 from rfl]at hi0 ⊢;go_wp2_with(fail);go_roundw
     case rel=>exact HZ.out
     case measure=>have:=HJ.out;simp[intOf];omega
    obtain⟨m,rfl⟩:∃m,i=m+1:=⟨i - 1,by omega⟩
    obtain⟨y,pb',Ug,c'',hy,hsa,cy⟩:=HT.out.get (t:=m) (by have:=HJ.out;have:=HN.out.1;omega)
    obtain⟨rfl,rfl⟩:pb=pb'/\po=Ug:=by
     injection hsa with h1
     injection h1 with h1
     injection h1 with h1 h2
     exact⟨h1,h2⟩
    have HY:=Lh (rW hy);have hgt:(0:Int)<((m+1:Nat):Int):=by omega
    have him:((m+1:Nat):Int)-1=(m:Int):=by omega
    have hi1:(0:Int)<=(m:Int)/\(m:Int)<(n:Int):=by omega
    have Tn:Hid (okF l (m+1)↔x<=y):=by
     refine Lh ?_;unfold okF;rw[Ti.out.1,<-Hr.out,Nat.add_sub_cancel,HY.out];exact⟨λh=>h.2 (by omega),λh=>⟨rfl,λ_=>h⟩⟩
    clear hsa hy hz;by_cases hxy:y<x
    ·have HZ:=Lh (SF.out (m+1) HJ.out (λhk=>by have:=Tn.out.1 hk;omega))
     go_wp2_with(fail);exact HZ.out
    have e5:decide (y<x)=false:=bfq hxy;have HZ:Hid (DF wr l (.int .i64 (((m+1:Nat):Int)+1)) wr):=Lh ⟨m+2,by have:=HN.out.1;have:=HJ.out;omega,by go_num,λj hj=>by
     by_cases e:j=m+1
     ·rw[e];exact Tn.out.2 (by omega)
     exact HO.out j (by omega),rfl⟩
    clear hxy;go_wp2_with(fail);go_roundw
    case rel=>exact HZ.out
    case measure=>have:=HJ.out;simp[intOf];omega
  obtain rfl:i=n:=by omega
  have HZ:=Lh (Sl.out HO.out);clear hlt hi;go_wp2_with(fail);exact HZ.out
theorem Ji(w:World)(q:bz)(n a:Int)(tv z:Value)(u v:Int)(hz:dw z u v):
  Calls prog 59 #[.agg q.cells,.agg (bI n a tv z)] w (bE w (.bool (xZ q.agg n u v))):=by
 obtain⟨r,hr⟩:=Nm (xZ q.agg n u v);rw[<-hr];obtain⟨w1,hw1⟩:=Nm ((w.alloc (.cells q.cells 23)).alloc (.cells (bI n a tv z) 53));obtain⟨b,hb⟩:=Nm (w.heap.size);obtain⟨b2,hb2⟩:=Nm (w.heap.size+1);have H1:Hid (dn w1 b q/\bW w1 b2 n a tv z/\Bw w w1):=by rw[hw1,hb,hb2];exact Lh (qK w q n a tv z)
 have hs1:(w.alloc (.cells q.cells 23)).heap.size=w.heap.size+1:=bq w _;obtain⟨kind,size,slide,late,agg,k⟩:=q;unfold bz.cells at hw1 hs1 ⊢;unfold bI at hw1 ⊢;simp only at hw1 hr hs1;obtain⟨d0,d1,d2,d3,d4,d5⟩:=H1.out.1.d6;obtain⟨f0,f1,f2,f3⟩:=H1.out.2.1.d4;simp only at d0 d1 d2 d3 d4 d5;obtain⟨zb,hzb⟩:=Nm (decide (u=0/\v=0));have he:∀w,(binOp .eql 51 z (.complex .f64 0 0)).run prog w=.ok (.bool zb) w:=λw=>by
  rw[hzb];exact lU.eql hz.1 yo _ w
 have hgd:∀w op o1 o2,(eqGuard op 51 o1 o2 z (.complex .f64 0 0)).run prog w=.ok () w:=λw op o1 o2=>hz.1.guard yo op _ o1 o2 w;have HG:Hid (∀w',Calls prog 60 #[z] w' (λe w''=>e=.returned (.bool true)/\w''=w')):=Lh (λw'=>tV w' z u v hz);have hin:mr u v:=hz.2;unfold xZ at hr;rw[<-hzb]at hr;clear hz hzb
 cases zb with
 | true=>
  obtain rfl:r=true:=by rw[hr];rfl
  clear hr hin;go_enter func59,ntmps59;go_upto_region 1 with(fail);rw[<-hw1,<-hb2,<-hb];clear hw1 hb hb2 hs1;go_wp2_with(fail);go_ret;exact⟨rfl,H1.out.2.2⟩
 | false=>
  by_cases h7:agg=7
  ·subst h7;by_cases hn:0<n
   ·obtain rfl:r=true:=by rw[hr,bfr hn,bfr hin];rfl
    clear hr hin;go_enter func59,ntmps59;go_upto_region 1 with(fail);rw[<-hw1,<-hb2,<-hb];clear hw1 hb hb2 hs1;go_wp2_with(fail);refine(HG.out w1).mono ?_;rintro e w2 ⟨rfl,hw'⟩;subst w2;dsimp only;go_wp2_with(fail);go_ret;exact⟨rfl,H1.out.2.2⟩
   obtain rfl:r=false:=by rw[hr,bfq hn];rfl
   have e1:decide (0<n)=false:=bfq hn;clear hr hin hn;go_enter func59,ntmps59;go_upto_region 1 with(fail);rw[<-hw1,<-hb2,<-hb];clear hw1 hb hb2 hs1;go_wp2_with(fail);go_ret;exact⟨rfl,H1.out.2.2⟩
  obtain rfl:r=false:=by rw[hr,bfq h7];rfl
  have e1:(agg==7)=false:=by simpa using h7
  clear hr hin h7;go_enter func59,ntmps59;go_upto_region 1 with(fail);rw[<-hw1,<-hb2,<-hb];clear hw1 hb hb2 hs1;go_wp2_with(fail);go_ret;exact⟨rfl,H1.out.2.2⟩
end Go.Proofs.YtjeeghafachebaaGreat
