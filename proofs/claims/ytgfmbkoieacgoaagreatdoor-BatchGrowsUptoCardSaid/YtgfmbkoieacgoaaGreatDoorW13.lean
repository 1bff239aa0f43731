/- 13. -/
import Derived.Test.YtgfmbkoieacgoaaGreatDoorW1
import Derived.Test.YtgfmbkoieacgoaaGreatDoorW8
import Derived.Test.YtgfmbkoieacgoaaGreatDoorW9
import Derived.Test.YtgfmbkoieacgoaaGreatDoorW10
import Derived.Test.YtgfmbkoieacgoaaGreatDoorW12
namespace Go.Proofs.YtgfmbkoieacgoaaGreatDoor
open Go Go.RowKit
def NS(x:Int)(l:List Int):Nat:=l.countP (λy=>decide (x<=y))
def Falling(l:List Int):Prop:=l.Pairwise (λa b=>b<=a)
instance (l:List Int):Decidable (Falling l):=inferInstanceAs (Decidable (l.Pairwise _))
def insL(v:Int):List Int->List Int
 | []=>[v]
 | a::r=>if a<v then v::a::r else a::insL v r
def topL(k:Nat)(l:List Int):List Int:=(l.foldr insL []).take k
theorem FX(x:Int):NS x []=0:=rfl
theorem jy(x a:Int)(l:List Int):NS x (a::l)=NS x l+if x<=a then 1 else 0:=by
 unfold NS;rw[List.countP_cons];by_cases h:x<=a <;> simp[h]
theorem SN {l m:List Int}(h:l.Perm m)(x:Int):NS x l=NS x m:=h.countP_eq _
theorem NT(x v:Int):∀l,NS x (insL v l)=NS x l+if x<=v then 1 else 0
 | []=>by rw[insL,jy,FX]
 | a::r=>by
  rw[insL]
  split
  ·rw[jy,jy]
  rw[jy,NT x v r,jy];omega
theorem Bq(v:Int):∀l,(insL v l).length=l.length+1
 | []=>rfl
 | a::r=>by
  rw[insL]
  split
  ·rfl
  rw[bgy,Bq v r,bgy]
theorem N7(v:Int):∀l x,x∈insL v l↔x=v∨x∈l
 | [],x=>by simp[insL]
 | a::r,x=>by
  rw[insL]
  split
  ·simp
  rw[bf2,N7 v r x,bf2];constructor
  ·rintro(h | h | h) <;> simp[h]
  rintro(h | h | h) <;> simp[h]
theorem y8(v:Int):∀l,Falling l->Falling (insL v l)
 | [],_=>by simp[insL,Falling]
 | a::r,h=>by
  obtain⟨d,e⟩:=List.pairwise_cons.1 h;rw[insL]
  split
  ·rename_i j;refine List.pairwise_cons.2 ⟨λb c=>?_,h⟩;rcases List.mem_cons.1 c with rfl | c
   ·omega
   have:=d b c;omega
  rename_i j;refine List.pairwise_cons.2 ⟨λb c=>?_,y8 v r e⟩;rcases(N7 v r b).1 c with rfl | c
  ·omega
  exact d b c
theorem Jf {x:Int} {l:List Int}(h:∀y∈l,y<x):NS x l=0:=by
 unfold NS;rw[List.countP_eq_zero];intro y a;have:=h y a;simp only[bf0];omega
theorem Jm:∀{s t:List Int},Falling s->Falling t->(∀x,NS x s=NS x t)->s=t
 | [],[],_,_,_=>rfl
 | [],b::t,_,_,h=>by
  have:=h b;rw[FX,jy,if_pos (Int.le_refl b)]at this;omega
 | a::s,[],_,_,h=>by
  have:=h a;rw[FX,jy,if_pos (Int.le_refl a)]at this;omega
 | a::s,b::t,hs,ht,h=>by
  obtain⟨e,j⟩:=List.pairwise_cons.1 hs;obtain⟨k,m⟩:=List.pairwise_cons.1 ht;have d:a=b:=by
   rcases Int.lt_trichotomy a b with n | o | p
   ·have:=h b;rw[Jf (l:=a::s) (λy c=>by
     rcases List.mem_cons.1 c with rfl | c
     ·exact n
     have:=e y c;omega),jy,if_pos (Int.le_refl b)]at this
    omega
   ·exact o
   have:=h a;rw[Jf (l:=b::t) (λy c=>by
    rcases List.mem_cons.1 c with rfl | c
    ·exact p
    have:=k y c;omega),jy,if_pos (Int.le_refl a)]at this
   omega
  subst d;rw[Jm j m (λx=>by
   have:=h x;rw[jy,jy]at this;omega)]
theorem xe:∀l:List Int,Falling (l.foldr insL [])
 | []=>List.Pairwise.nil
 | a::r=>y8 a _ (xe r)
theorem Je(x:Int):∀l:List Int,NS x (l.foldr insL [])=NS x l
 | []=>rfl
 | a::r=>by rw[List.foldr_cons,NT,Je x r,jy]
theorem yX:∀l:List Int,(l.foldr insL []).length=l.length
 | []=>rfl
 | a::r=>by rw[List.foldr_cons,Bq,yX r,bgy]
theorem Nv(k:Nat)(l:List Int):(topL k l).length=min k l.length:=by rw[topL,bga,yX]
structure fP where
 n:Int
 a:Int
 top:List Int
 u:Int
 v:Int
deriving DecidableEq
def dY:fP:=⟨0,0,[],0,0⟩
def pV(agg:Int):Int:=if agg=2∨agg=5 then 4398046511104 else if agg=3∨agg=4 then 1099511627776 else 0
def fP.rightB(q:bu)(a:fP):Bool:=
 q.rightB && decide (0<=a.n/\a.n<=1073741824) && decide (wL a.u a.v) && decide (-pV q.agg<=a.a/\a.a<=pV q.agg) && decide (q.agg≠7->a.u=0/\a.v=0) && decide (a.n=0->a.a=0/\a.u=0/\a.v=0) &&
  decide ((a.top.length:Int)=if q.agg=6 then min a.n q.k else 0) && decide (∀x∈a.top,-1099511627776<=x/\x<=1099511627776) && decide (Falling a.top)
theorem Vb(v:Int): -1<=(nN v).1/\(nN v).1<=1/\ -1<=(nN v).2/\(nN v).2<=1:=by
 unfold nN
 split
 ·omega
 split
 ·omega
 split <;> omega
end Go.Proofs.YtgfmbkoieacgoaaGreatDoor
set_option maxRecDepth 100000
set_option maxHeartbeats 1000000
namespace Go.Proofs.YtgfmbkoieacgoaaGreatDoor
open Go Go.RowKit Go.Proofs.Tryz
def WS(w:World)(b:Nat):Prop:=∃cur,w.heap[b]? =some (.cells cur 3 (0,0))
theorem WS.lt {w:World} {b:Nat}(h:WS w b):b<w.heap.size:=by
 obtain⟨_,h⟩:=h;exact(Array.getElem?_eq_some_iff.1 h).1
theorem WS.below {w w':World} {b:Nat}(h:WS w b)(c:Bw w w'):WS w' b:=by
 have d:=h.lt;obtain⟨a,h⟩:=h;exact⟨a,(c.block b d).trans h⟩
def bC(w:World)(v:Value)(l:List Int):Prop:=
 ∃a c,v=.slice a l.length c/\l.length<=c/\((a=none/\l=[])∨∃b o,a=some ⟨b,o,none⟩/\(l=[]∨WS w b)/\∀i x,l[i]? =some x->w.cell? ⟨b,o+i,none⟩=some (.int .i64 x))
theorem bC.below {w w':World} {v:Value} {l:List Int}(h:bC w v l)(d:Bw w w'):bC w' v l:=by
 obtain⟨a,c,e,n,h⟩:=h;refine⟨a,c,e,n,?_⟩;rcases h with h | ⟨b,o,h,p,j⟩
 ·exact .inl h
 exact .inr ⟨b,o,h,p.imp id (λk=>k.below d),λi x m=>(d.cell (block_lt_of_cell (j i x m))).trans (j i x m)⟩
theorem bC.nil(w:World):bC w (.slice none 0 0) []:=⟨none,0,rfl,bfx _,.inl ⟨rfl,rfl⟩⟩
theorem bC.get {w:World} {v:Value} {l:List Int}(h:bC w v l) {t:Nat}(d:t<l.length):∃x b o c,l[t]? =some x/\v=.slice (some ⟨b,o,none⟩) l.length c/\w.cell? ⟨b,o+t,none⟩=some (.int .i64 x):=by
 obtain⟨a,c,e,k,h⟩:=h;rcases h with⟨_,h⟩ | ⟨b,o,h,_,j⟩
 ·rw[h]at d;simp at d
 exact⟨l[t],b,o,c,bfs d,by rw[e,h],j t _ (bfs d)⟩
def jG(l:List Int):List Value:=l.map (Value.int .i64)
def gV(w:World)(base:Nat)(v:Value)(l:List Int):Prop:=Own w base 3 v (jG l)
theorem fC(l:List Int):(jG l).length=l.length:=by simp[jG]
theorem gV.ints {w:World} {B:Nat} {v:Value} {l:List Int}(h:gV w B v l):bC w v l:=by
 have a:=h;unfold gV Own at a;rw[fC]at a;rcases a.2 with⟨d,j⟩ | ⟨g,c,e,d,_,b,m,_⟩
 ·exact⟨none,0,by rw[d,j],by omega,.inl ⟨rfl,bg3 j⟩⟩
 refine⟨_,_,d,m,.inr ⟨g,0,rfl,.inr ⟨e,b⟩,λi x k=>?_⟩⟩;rw[d]at a;have n:i<l.length:=(List.getElem?_eq_some_iff.1 k).1;rw[bgu,World.ownsRow.cellAt a i (by omega),jG,bgf,k]
 rfl
def bJ(n a:Int)(tv z:Value):Array Value:=#[.int .i64 n,.int .i64 a,tv,z]
def dA(w:World)(b:Nat)(n a:Int)(tv z:Value):Prop:=w.heap[b]? =some (.cells (bJ n a tv z) 120 (0,0))
theorem dA.lt {w:World} {b:Nat} {n a:Int} {c z:Value}(h:dA w b n a c z):b<w.heap.size:=(Array.getElem?_eq_some_iff.1 h).1
theorem dA.below {w w':World} {b:Nat} {n a:Int} {c z:Value}(h:dA w b n a c z)(d:Bw w w'):dA w' b n a c z:=(d.block b h.lt).trans h
def D4(w:World)(b:Nat)(n a:Int)(tv z:Value):Prop:=w.cell? ⟨b,0,none⟩=some (.int .i64 n)/\w.cell? ⟨b,1,none⟩=some (.int .i64 a)/\w.cell? ⟨b,2,none⟩=some tv/\w.cell? ⟨b,3,none⟩=some z
theorem dA.d4 {w:World} {b:Nat} {n a:Int} {c z:Value}(h:dA w b n a c z):D4 w b n a c z:=by
 refine⟨?_,?_,?_,?_⟩ <;> (rw[cell_of_row _ _ _ _ _ _ h];rfl)
theorem bW:(prog.info? 120).map (·.size)=some 4:=by kernel_rfl
theorem rG(w:World)(q:bu)(n a:Int)(b z:Value):
  dB ((w.alloc (.cells q.cells 23)).alloc (.cells (bJ n a b z) 120)) w.heap.size q/\
   dA ((w.alloc (.cells q.cells 23)).alloc (.cells (bJ n a b z) 120)) (w.heap.size+1) n a b z/\
   Bw w ((w.alloc (.cells q.cells 23)).alloc (.cells (bJ n a b z) 120)):=by
 have d:=(Below.refl _ w).alloc (bfx _) (.cells q.cells 23);have c:=(Below.refl _ (w.alloc (.cells q.cells 23))).alloc (bfx _) (.cells (bJ n a b z) 120);have e:(w.alloc (.cells q.cells 23)).heap.size=w.heap.size+1:=bg w _;refine⟨dB.below (bg5 w _) c,?_,Tb d c⟩;rw[<-e];exact bg5 _ _
theorem Hl(w:World)(q:bu):dB (w.alloc (.cells q.cells 23)) w.heap.size q/\Bw w (w.alloc (.cells q.cells 23)):=
 ⟨bg5 w _,(Below.refl _ w).alloc (bfx _) _⟩
def vz(agg n:Int):Int:=if n=0 then 0 else pV agg
def Ce(agg k n:Int):Int:=if agg=6 then min n k else 0
def yV(l:List Int):Bool:=decide (∀x∈l,-1099511627776<=x/\x<=1099511627776) && decide (Falling l)
def yI(agg n u v:Int):Bool:=decide (u=0/\v=0) || (decide (agg=7) && (decide (0<n) && decide (wL u v)))
theorem BG(agg:Int):0<=pV agg/\pV agg<=4398046511104:=by
 unfold pV
 split
 ·omega
 split <;> omega
theorem xG(q:bu)(x:fP):x.rightB q=(q.rightB && (decide (0<=x.n/\x.n<=1073741824) && (decide (-vz q.agg x.n<=x.a/\x.a<=vz q.agg x.n) && (decide ((x.top.length:Int)=Ce q.agg q.k x.n) && (yV x.top && yI q.agg x.n x.u x.v))))):=by
 refine Bool.eq_iff_iff.2 ?_;have I:=BG q.agg;have b:vz q.agg x.n=if x.n=0 then 0 else pV q.agg:=rfl
 have m:Ce q.agg q.k x.n=if q.agg=6 then min x.n q.k else 0:=rfl
 obtain⟨J,o⟩:=Nm (vz q.agg x.n);rw[<-o]at b ⊢;simp only[fP.rightB,yV,yI,m,bf8,Bool.or_eq_true,bf0];constructor
 ·rintro⟨⟨⟨⟨⟨⟨⟨⟨p,r⟩,j⟩,s⟩,y⟩,l⟩,e⟩,E⟩,F⟩;refine⟨p,r,?_,e,⟨E,F⟩,?_⟩
  ·by_cases d:x.n=0
   ·rw[if_pos d]at b;have:=l d;omega
   rw[if_neg d]at b;rw[b];exact s
  by_cases z:x.u=0/\x.v=0
  ·exact .inl z
  right
  refine⟨Decidable.byContradiction λh=>z (y h),?_,j⟩;have:¬x.n=0:=λh=>z (l h).2;omega
 rintro⟨p,r,j,s,⟨y,l⟩,e⟩;have D:wL x.u x.v:=by
  rcases e with h | h
  ·unfold wL;omega
  exact h.2.2
 refine⟨⟨⟨⟨⟨⟨⟨⟨p,r⟩,D⟩,?_⟩,?_⟩,?_⟩,s⟩,y⟩,l⟩
 ·by_cases d:x.n=0
  ·rw[if_pos d]at b;omega
  rw[if_neg d]at b;rw[b]at j;exact j
 ·intro h;rcases e with c | c
  ·exact c
  exact absurd c.1 h
 intro h;rw[if_pos h]at b;rcases e with c | c
 ·exact⟨by omega,c.1,c.2⟩
 omega
def mQ(n m:Int):Bool:=decide (-m<=n/\n<=m)
theorem rE(w:World)(n m:Int)(d:0<=m/\m<=4611686018427387904):Calls prog 191 #[.int .i64 n,.int .i64 m] w (λe w'=>e=.returned (.bool (mQ n m))/\w'=w):=by
 obtain⟨r,a⟩:=Nm (mQ n m);rw[<-a];unfold mQ at a;by_cases b: -m<=n
 ·by_cases c:n<=m
  ·obtain rfl:r=true:=by rw[a];exact bfr ⟨b,c⟩
   clear a;go_enter func191,ntmps191;go_wp2_with fail;go_ret;exact⟨rfl,rfl⟩
  obtain rfl:r=false:=by rw[a];exact bfq λh=>c h.2
  have j:decide (n<=m)=false:=bfq c;clear a c;go_enter func191,ntmps191;go_wp2_with fail;go_ret;exact⟨rfl,rfl⟩
 obtain rfl:r=false:=by rw[a];exact bfq λh=>b h.1
 have k:decide (-m<=n)=false:=bfq b;clear a b;go_enter func191,ntmps191;go_wp2_with fail;go_ret;exact⟨rfl,rfl⟩
theorem KI(w:World)(q:bu)(n:Int):Calls prog 192 #[.agg q.cells,.int .i64 n] w (Below0 w (.int .i64 (vz q.agg n))):=by
 obtain⟨r,c⟩:=Nm (vz q.agg n);rw[<-c];obtain⟨s,a⟩:=Nm (w.alloc (.cells q.cells 23));obtain⟨b,d⟩:=Nm (w.heap.size);have e:Hid (dB s b q/\Bw w s):=by rw[a,d];exact Lh (Hl w q)
 obtain⟨u,size,o,x,agg,k⟩:=q;unfold bu.cells at a ⊢;simp only at a c;obtain⟨y,z,d2,d3,d4,D⟩:=e.out.1.d6;simp only at y z d2 d3 d4 D;unfold vz pV at c;by_cases j:n=0
 ·rw[if_pos j]at c;subst c;subst j;go_enter func192,ntmps192;go_upto_region 1 with fail;rw[<-a,<-d];clear a d;go_wp2_with fail;go_ret;exact⟨rfl,e.out.2⟩
 rw[if_neg j]at c;have E:(n==0)=false:=by simpa using j
 clear j;by_cases h:agg=2
 ·subst h;obtain rfl:r=4398046511104:=by rw[c];decide
  clear c;go_enter func192,ntmps192;go_upto_region 1 with fail;rw[<-a,<-d];clear a d;go_wp2_with fail;go_ret;exact⟨rfl,e.out.2⟩
 have F:(agg==2)=false:=by simpa using h
 by_cases l:agg=5
 ·subst l;obtain rfl:r=4398046511104:=by rw[c];decide
  clear c h;go_enter func192,ntmps192;go_upto_region 1 with fail;rw[<-a,<-d];clear a d;go_wp2_with fail;go_ret;exact⟨rfl,e.out.2⟩
 have I:(agg==5)=false:=by simpa using l
 by_cases m:agg=3
 ·subst m;obtain rfl:r=1099511627776:=by rw[c];decide
  clear c h l;go_enter func192,ntmps192;go_upto_region 1 with fail;rw[<-a,<-d];clear a d;go_wp2_with fail;go_ret;exact⟨rfl,e.out.2⟩
 have J:(agg==3)=false:=by simpa using m
 by_cases p:agg=4
 ·subst p;obtain rfl:r=1099511627776:=by rw[c];decide
  clear c h l m;go_enter func192,ntmps192;go_upto_region 1 with fail;rw[<-a,<-d];clear a d;go_wp2_with fail;go_ret;exact⟨rfl,e.out.2⟩
 have K:(agg==4)=false:=by simpa using p
 obtain rfl:r=0:=by rw[c,if_neg (by omega),if_neg (by omega)]
 clear c h l m p;go_enter func192,ntmps192;go_upto_region 1 with fail;rw[<-a,<-d];clear a d;go_wp2_with fail;go_ret;exact⟨rfl,e.out.2⟩
theorem PY(w:World)(q:bu)(n:Int):Calls prog 193 #[.agg q.cells,.int .i64 n] w (Below0 w (.int .i64 (Ce q.agg q.k n))):=by
 obtain⟨r,c⟩:=Nm (Ce q.agg q.k n);rw[<-c];obtain⟨l,a⟩:=Nm (w.alloc (.cells q.cells 23));obtain⟨b,d⟩:=Nm (w.heap.size);have h:Hid (dB l b q/\Bw w l):=by rw[a,d];exact Lh (Hl w q)
 obtain⟨m,size,j,o,agg,k⟩:=q;unfold bu.cells at a ⊢;simp only at a c;obtain⟨p,s,d2,d3,d4,u⟩:=h.out.1.d6;simp only at p s d2 d3 d4 u;unfold Ce at c;by_cases e:agg=6
 ·subst e;have x:(if k<n then k else n)=r:=by
   rw[c,if_pos rfl]
   split <;> omega
  have y:min n k=r:=by rw[<-x,Int.min_def];split <;> split <;> omega
  clear c;go_enter func193,ntmps193;go_upto_region 1 with fail;rw[<-a,<-d];clear a d;go_wp2_with fail;go_ret;exact⟨rfl,h.out.2⟩
 obtain rfl:r=0:=by rw[c,if_neg e]
 have z:(agg==6)=false:=by simpa using e
 clear c e;go_enter func193,ntmps193;go_upto_region 1 with fail;rw[<-a,<-d];clear a d;go_wp2_with fail;go_ret;exact⟨rfl,h.out.2⟩
def WT(l:List Int)(i:Nat):Int:=l.getD i 0
theorem zT {l:List Int} {i:Nat} {x:Int}(h:l[i]? =some x):WT l i=x:=by
 rw[WT,List.getD_eq_getElem?_getD,h,Option.getD_some]
def okF(l:List Int)(i:Nat):Prop:=mQ (WT l i) 1099511627776=true/\(0<i->WT l i<=WT l (i-1))
theorem Bf(l:List Int):yV l=true↔∀i<l.length,okF l i:=by
 have a:∀i (h:i<l.length),WT l i=l[i]:=λi h=>zT (bfs h);simp only[yV,bf8,bf0,okF,mQ];constructor
 ·rintro⟨e,c⟩ i b;refine⟨by rw[a i b];exact e _ (List.getElem_mem _),λo=>?_⟩
  rw[a i b,a (i-1) (by omega)]
  exact List.pairwise_iff_getElem.1 c (i-1) i (by omega) b (by omega)
 intro h;refine⟨λx k=>?_,List.pairwise_iff_getElem.2 λi j b m n=>?_⟩
 ·obtain⟨i,b,rfl⟩:=List.getElem_of_mem k;have:=(h i b).1
  rwa [a i b]at this
 have far:∀d i (b:i+d+1<l.length),l[i+d+1]<=l[i]'(by omega):=by
  intro d
  induction d with
  | zero=>
   intro i b;have:=(h (i+1) b).2 (by omega)
   rwa [a _ b,Nat.add_sub_cancel,a i (by omega)]at this
  | succ d ih=>
   intro i b;have e:=ih i (by omega)
   have c:=(h (i+d+1+1) b).2 (by omega)
   rw[show i+d+1+1-1=i+d+1 by omega,a (i+d+1+1) (by omega),a (i+d+1) (by omega)]at c
   exact Int.le_trans c e
 obtain⟨d,rfl⟩:∃d,j=i+d+1:=⟨j - i - 1,by omega⟩
 exact far d i m
theorem Vu {l:List Int} {i:Nat}(a:i<l.length)(h:¬okF l i):yV l=false:=by
 rw[<-Bool.not_eq_true,Bf];exact λb=>h (b i a)
def Fp(w:World)(l:List Int)(v:Value)(wr:World):Prop:=∃i:Nat,i<=l.length/\v=.int .i64 (i:Int)/\(∀j<i,okF l j)/\wr=w
theorem FK(w:World)(N:Value)(l:List Int)(O:bC w N l)(hn:l.length<=1000000):
  Calls prog 194 #[N] w (λe w'=>e=.returned (.bool (yV l))/\w'=w):=by
 obtain⟨n,u⟩:=Nm (l.length);have Q:=Lh O;obtain⟨a,c,rfl,_,_⟩:=O;rw[<-u];obtain⟨P,z⟩:=Nm (λe w'=>e=.returned (.bool (yV l))/\w'=w:Ending->World->Prop);rw[<-z];have p:Hid (n=l.length/\n<=1000000):=Lh ⟨u,by omega⟩
 have aa:n<=1000000:=by omega
 have R:Hid (∀i,i<n->¬okF l i->P (.returned (.bool false)) w):=Lh (λi D h=>by rw[z,Vu (by omega) h];exact⟨rfl,rfl⟩)
 have XY:Hid ((∀j<n,okF l j)->P (.returned (.bool true)) w):=Lh (λh=>by
  rw[z];exact⟨by rw[(Bf l).2 (by rw[u]at h;exact h)],rfl⟩)
 clear u hn z;go_enter func194,ntmps194;go_wp2_with fail;go_loopw[7] (Fp w l) (λv _=>n-(intOf v).toNat)
 case atStart=>exact⟨0,bgi _,rfl,λj h=>absurd h (Nat.not_lt_zero _),rfl⟩
 case round=>
  obtain⟨i,D,rfl,q,rfl⟩:=hrel;rw[<-p.out.1]at D;have S:=Lh q;clear q;by_cases b:i<n
  ·have E:(0:Int)<=(i:Int)/\(i:Int)<(n:Int):=by omega
   obtain⟨x,U,Y,c',Z,d,c0⟩:=Q.out.get (t:=i) (by rw[<-p.out.1];exact b)
   obtain rfl:a=some ⟨U,Y,none⟩:=by injection d
   have F:=Lh (bfy (zT Z) b);obtain⟨r,I⟩:=Nm (mQ x 1099511627776);have Og:Hid (Calls prog 191 #[.int .i64 x,.int .i64 1099511627776] wr (λe w'=>e=.returned (.bool r)/\w'=wr)):=by
    rw[I];exact Lh (rE wr x 1099511627776 (by decide))
   have J:=Lh I;have o:=Lh b;clear Z d D b I;go_wp2_with fail;refine Og.out.mono ?_;rintro e w' ⟨rfl,ab⟩;subst w';dsimp only
   cases r with
   | false=>
    have k:=Lh (R.out i o.out (λK=>by have:=K.1;rw[F.out.1,<-J.out]at this;cases this))
    clear c0;go_wp2_with fail;exact k.out
   | true=>
    by_cases hz:i=0
    ·subst hz;have k:Hid (Fp wr l (.int .i64 ((0:Int)+1)) wr):=Lh ⟨1,by have:=p.out.1;have:=o.out;omega,rfl,λj hj=>by
      obtain rfl:j=0:=by omega
      exact⟨by rw[F.out.1];exact J.out.symm,λh=>absurd h (Nat.lt_irrefl _)⟩,rfl⟩
     rw[show((0:Nat):Int)=0 from rfl]at E ⊢;go_wp2_with fail;go_roundw
     case rel=>exact k.out
     case measure=>have:=o.out;simp[intOf];omega
    obtain⟨m,rfl⟩:∃m,i=m+1:=⟨i - 1,by omega⟩
    obtain⟨y,L,M,ac,hy,d,cy⟩:=Q.out.get (t:=m) (by have:=o.out;have:=p.out.1;omega)
    obtain⟨rfl,rfl⟩:U=L/\Y=M:=by
     injection d with h1
     injection h1 with h1
     injection h1 with h1 h2
     exact⟨h1,h2⟩
    have HY:=Lh (zT hy);have ad:(0:Int)<((m+1:Nat):Int):=by omega
    have ae:((m+1:Nat):Int)-1=(m:Int):=by omega
    have af:(0:Int)<=(m:Int)/\(m:Int)<(n:Int):=by omega
    have iE:Hid (okF l (m+1)↔x<=y):=by
     refine Lh ?_;unfold okF;rw[F.out.1,<-J.out,Nat.add_sub_cancel,HY.out];exact⟨λh=>h.2 (by omega),λh=>⟨rfl,λ_=>h⟩⟩
    clear d hy hz;by_cases s:y<x
    ·have k:=Lh (R.out (m+1) o.out (λK=>by have:=iE.out.1 K;omega))
     go_wp2_with fail;exact k.out
    have e5:decide (y<x)=false:=bfq s;have k:Hid (Fp wr l (.int .i64 (((m+1:Nat):Int)+1)) wr):=Lh ⟨m+2,by have:=p.out.1;have:=o.out;omega,by go_num,λj hj=>by
     by_cases e:j=m+1
     ·rw[e];exact iE.out.2 (by omega)
     exact S.out j (by omega),rfl⟩
    clear s;go_wp2_with fail;go_roundw
    case rel=>exact k.out
    case measure=>have:=o.out;simp[intOf];omega
  obtain rfl:i=n:=by omega
  have k:=Lh (XY.out S.out);clear b D;go_wp2_with fail;exact k.out
theorem KJ(w:World)(q:bu)(n a:Int)(x z:Value)(u v:Int)(s:dN z u v):
  Calls prog 195 #[.agg q.cells,.agg (bJ n a x z)] w (Below0 w (.bool (yI q.agg n u v))):=by
 obtain⟨r,j⟩:=Nm (yI q.agg n u v);rw[<-j];obtain⟨y,c⟩:=Nm ((w.alloc (.cells q.cells 23)).alloc (.cells (bJ n a x z) 120));obtain⟨b,m⟩:=Nm (w.heap.size);obtain⟨R,d⟩:=Nm (w.heap.size+1);have p:Hid (dB y b q/\dA y R n a x z/\Bw w y):=by rw[c,m,d];exact Lh (rG w q n a x z)
 have h:(w.alloc (.cells q.cells 23)).heap.size=w.heap.size+1:=bg w _;obtain⟨N,size,I,O,agg,k⟩:=q;unfold bu.cells at c h ⊢;unfold bJ at c ⊢;simp only at c j h;obtain⟨S,U,d2,d3,d4,Y⟩:=p.out.1.d6;obtain⟨f0,f1,f2,f3⟩:=p.out.2.1.d4;simp only at S U d2 d3 d4 Y;obtain⟨Q,o⟩:=Nm (decide (u=0/\v=0));have he:∀w,(binOp .eql 118 z (.complex .f64 0 0)).run prog w=.ok (.bool Q) w:=λw=>by
  rw[o];exact ql.eql s.1 yO _ w
 have Z:∀w J K L,(eqGuard J 118 K L z (.complex .f64 0 0)).run prog w=.ok () w:=λw J K L=>s.1.guard yO J _ K L w;have HG:Hid (∀D,Calls prog 196 #[z] D (λe M=>e=.returned (.bool true)/\M=D)):=Lh (λD=>tK D z u v s);have l:wL u v:=s.2;unfold yI at j;rw[<-o]at j;clear s o
 cases Q with
 | true=>
  obtain rfl:r=true:=by rw[j];rfl
  clear j l;go_enter func195,ntmps195;go_upto_region 1 with fail;rw[<-c,<-d,<-m];clear c m d h;go_wp2_with fail;go_ret;exact⟨rfl,p.out.2.2⟩
 | false=>
  by_cases E:agg=7
  ·subst E;by_cases F:0<n
   ·obtain rfl:r=true:=by rw[j,bfr F,bfr l];rfl
    clear j l;go_enter func195,ntmps195;go_upto_region 1 with fail;rw[<-c,<-d,<-m];clear c m d h;go_wp2_with fail;refine(HG.out y).mono ?_;rintro e w2 ⟨rfl,aa⟩;subst w2;dsimp only;go_wp2_with fail;go_ret;exact⟨rfl,p.out.2.2⟩
   obtain rfl:r=false:=by rw[j,bfq F];rfl
   have e1:decide (0<n)=false:=bfq F;clear j l F;go_enter func195,ntmps195;go_upto_region 1 with fail;rw[<-c,<-d,<-m];clear c m d h;go_wp2_with fail;go_ret;exact⟨rfl,p.out.2.2⟩
  obtain rfl:r=false:=by rw[j,bfq E];rfl
  have e1:(agg==7)=false:=by simpa using E
  clear j l E;go_enter func195,ntmps195;go_upto_region 1 with fail;rw[<-c,<-d,<-m];clear c m d h;go_wp2_with fail;go_ret;exact⟨rfl,p.out.2.2⟩
end Go.Proofs.YtgfmbkoieacgoaaGreatDoor
set_option maxRecDepth 100000
set_option maxHeartbeats 2000000
namespace Go.Proofs.YtgfmbkoieacgoaaGreatDoor
open Go Go.RowKit Go.Proofs.Tryz
theorem kM(w:World)(q:bu)(x:fP)(tv z:Value)(hT:bC w tv x.top)(hz:dN z x.u x.v)(hn:x.top.length<=1000000):
  Calls prog 140 #[.agg q.cells,.agg (bJ x.n x.a tv z)] w (Below0 w (.bool (x.rightB q))):=by
 obtain⟨P,hP⟩:=Nm (Below0 w (.bool (x.rightB q)));rw[<-hP];rw[xG]at hP;obtain⟨n,S,l,u,v⟩:=x;simp only at hT hz hn hP ⊢;have HT:=Lh hT;obtain⟨ta,tc,rfl,_,_⟩:=hT;obtain⟨L,hL⟩:=Nm (l.length);rw[<-hL]at hP HT hn ⊢;obtain⟨r1,ak⟩:=Nm (q.rightB);obtain⟨M,hM⟩:=Nm (vz q.agg n);obtain⟨T,Ur⟩:=Nm (Ce q.agg q.k n);obtain⟨b1,al⟩:=Nm (mQ S M);obtain⟨b2,am⟩:=Nm (decide ((L:Int)=T));obtain⟨b3,an⟩:=Nm (yV l);obtain⟨b4,ao⟩:=Nm (yI q.agg n u v);have HP:Hid (∀b r,Bw w b->r=(r1 && (decide (0<=n/\n<=1073741824) && (b1 && (b2 && (b3 && b4)))))->P (.returned (.bool r)) b):=by
  refine Lh (λb r h hr=>?_);rw[hP,hr,ak,al,am,an,ao,Ur,hM];exact⟨rfl,h⟩
 obtain⟨w1,ae⟩:=Nm ((w.alloc (.cells q.cells 23)).alloc (.cells (bJ n S (.slice ta L tc) z) 120));obtain⟨qb,XW⟩:=Nm (w.heap.size);obtain⟨j,ap⟩:=Nm (w.heap.size+1);have H1:Hid (dB w1 qb q/\dA w1 j n S (.slice ta L tc) z/\Bw w w1):=by rw[ae,XW,ap];exact Lh (rG w q n S _ z)
 have ar:(w.alloc (.cells q.cells 23)).heap.size=w.heap.size+1:=bg w _;obtain⟨R,Yi⟩:=Nm (Value.agg q.cells);obtain⟨VA,au⟩:=Nm (Value.agg (bJ n S (.slice ta L tc) z));have aG:Hid (∀b,Calls prog 91 #[R] b (Below0 b (.bool r1))):=by rw[Yi,ak];exact Lh (λb=>kS b q)
 have ah:Hid (∀b,Calls prog 192 #[R,.int .i64 n] b (Below0 b (.int .i64 M))):=by rw[Yi,hM];exact Lh (λb=>KI b q n)
 have ai:Hid (∀b,Calls prog 191 #[.int .i64 S,.int .i64 M] b (λe af=>e=.returned (.bool b1)/\af=b)):=by
  have aK:0<=M/\M<=4611686018427387904:=by
   rw[hM,vz];have:=BG q.agg
   split <;> omega
  rw[al];exact Lh (λb=>rE b S M aK)
 have aw:Hid (∀b,Calls prog 193 #[R,.int .i64 n] b (Below0 b (.int .i64 T))):=by rw[Yi,Ur];exact Lh (λb=>PY b q n)
 have U5:Hid (∀b,Bw w b->Calls prog 194 #[.slice ta L tc] b (λe af=>e=.returned (.bool b3)/\af=b)):=by
  rw[an];exact Lh (λb h=>FK b _ l (HT.out.below h) (by omega))
 have aL:Hid (∀b,Calls prog 195 #[R,VA] b (Below0 b (.bool b4))):=by
  rw[Yi,au,ao];exact Lh (λb=>KJ b q n S _ z u v hz)
 have aH:((L:Int)==T)=b2:=by
  rw[am];by_cases h:(L:Int)=T
  ·rw[bfr h];simpa using h
  rw[bfq h];simpa using h
 have ax:=Lh aH;clear hz hn ak hM Ur al am an ao hL hP aH;obtain⟨ac,size,U,ad,agg,k⟩:=q;have HV:Hid (R=Value.agg #[.int .i64 ac,.int .i64 size,.int .i64 U,.int .i64 ad,.int .i64 agg,.int .i64 k]/\VA=Value.agg #[.int .i64 n,.int .i64 S,.slice ta L tc,z]):=Lh ⟨Yi,au⟩;unfold bu.cells at ae ar ⊢;unfold bJ at ae ⊢;simp only at ae ar;clear Yi au;obtain⟨F,I,d2,d3,d4,J⟩:=H1.out.1.d6;obtain⟨p,s,y,D⟩:=H1.out.2.1.d4;simp only at F I d2 d3 d4 J;go_enter func140,ntmps140;go_upto_region 1 with fail;rw[<-ae,<-ap,<-XW];clear ae XW ap ar;have Ar:Hid (Calls prog 91 #[.agg #[.int .i64 ac,.int .i64 size,.int .i64 U,.int .i64 ad,.int .i64 agg,.int .i64 k]] w1 (Below0 w1 (.bool r1))):=by
  have h:=aG.out w1;rw[HV.out.1]at h;exact Lh h
 go_wp2_with fail;refine Ar.out.mono ?_;rintro e w2 ⟨rfl,E⟩;have H2:Hid (dB w2 qb ⟨ac,size,U,ad,agg,k⟩/\dA w2 j n S (.slice ta L tc) z/\Bw w w2):=Lh ⟨H1.out.1.below E,H1.out.2.1.below E,H1.out.2.2.trans (E.mono H1.out.2.2.size)⟩;clear E F I d2 d3 d4 J p s y D H1 aG Ar;obtain⟨p,s,y,D⟩:=H2.out.2.1.d4;dsimp only
 cases r1 with
 | false=>
  have HZ:=Lh (HP.out w2 false H2.out.2.2 rfl);go_wp2_with fail;exact HZ.out
 | true=>
 by_cases h1:n<0
 ·have HZ:=Lh (HP.out w2 false H2.out.2.2 (by rw[bfq (by omega)];rfl))
  go_wp2_with fail;exact HZ.out
 have e1:decide (n<0)=false:=bfq h1;by_cases h2:(1073741824:Int)<n
 ·have HZ:=Lh (HP.out w2 false H2.out.2.2 (by rw[bfq (by omega)];rfl))
  clear h1;go_wp2_with fail;exact HZ.out
 have e2:decide ((1073741824:Int)<n)=false:=bfq h2;have II:Hid (∀b r,Bw w2 b->r=(b1 && (b2 && (b3 && b4)))->P (.returned (.bool r)) b):=by
  refine Lh (λb r h hr=>HP.out b r (H2.out.2.2.trans (h.mono H2.out.2.2.size)) ?_);rw[bfr (show 0<=n/\n<=1073741824 by omega),hr]
  rfl
 clear h1 h2;go_upto_region 3 with fail;clear p s y D e1 e2;have O:Hid (∀b,Bw w2 b->D6 b qb ac size U ad agg k/\D4 b j n S (.slice ta L tc) z):=Lh (λb h=>⟨(H2.out.1.below h).d6,(H2.out.2.1.below h).d4⟩);have Au:Hid (∀b,Bw w2 b->Calls prog 194 #[.slice ta L tc] b (λe af=>e=.returned (.bool b3)/\af=b)):=Lh (λb h=>U5.out b (H2.out.2.2.trans (h.mono H2.out.2.2.size)));have aj:Hid (Bw w2 w2.drew):=(Below.refl _ w2).drew;clear U5 H2 HP
 cases b1 with
 | false=>
  refine wp_region_skip_frame (λi=>([8,9,10,11,12,13,14,15,18,19,20,23,24,25]:List Nat).contains i) (by kernel_rfl) (NoF (NoF (NoF (NoF (NoF [none,none,none]))))) [] (λi_ _ _ v_=>v_=(((Value.pointer (some ⟨j,1,none⟩))::(Value.int .i64 S)::R::([.pointer (some ⟨j,0,none⟩),.int .i64 n,.int .i64 M,.bool false,.bool false,undef,undef,undef,undef,undef,undef,undef,undef,.bool false,.bool false,undef,undef,undef,.bool false,.bool false,undef,undef,undef,.bool false,.bool false]:List Value))).getD i_ undef) (λ_ b=>Bw w2 b) (λw b=>Bw w b) (λ_ _ _ _ _ _ h=>h) (by kernel_rfl) (by kernel_rfl) (by kernel_rfl) aj.out (λ_=>⟨rfl,rfl,rfl,rfl,rfl,rfl,rfl,rfl,IlA,IlA,IlA,IlA,IlA,IlA,IlA,IlA,rfl,rfl,IlA,IlA,IlA,rfl,rfl,IlA,IlA,IlA,rfl,rfl,trivial⟩) (λi hi=>by have hm:=List.contains_iff_mem.1 hi;simp only[bf2,bf9,or_false]at hm;rcases hm with rfl | rfl | rfl | rfl | rfl | rfl | rfl | rfl | rfl | rfl | rfl | rfl | rfl | rfl <;> exact⟨rfl,λ_ _=>rfl⟩) ?_ ?_
  ·refine ⟨?_,?_,?_,?_,?_,?_,?_,?_,?_,?_,?_,?_,?_,?_,?_,?_,?_,?_,?_,?_,?_,?_,?_,?_,?_,?_,?_,?_,trivial⟩<;>(first|exact λh=>absurd h (by decide)|intro _ _ a b d m c K o)<;>replace m:=Lh m<;>replace c:=Lh c
   have q3:=FaA m 3 j 0;rotate_left;have ay:=Pa a 18 j 1 c.out.1;obtain⟨⟨F,I,d2,d3,d4,J⟩,p,s,y,D⟩:=O.out b d;rotate_left
   ·have q2:=FaA m 2 qb 0;obtain⟨⟨F,I,d2,d3,d4,J⟩,p,s,y,D⟩:=O.out b d;go_step;exact o _ _ HV.out.1.symm d Br
   have q3:=FaA m 3 j 0;rotate_left;have az:=Pa a 21 j 0 c.out.1;obtain⟨⟨F,I,d2,d3,d4,J⟩,p,s,y,D⟩:=O.out b d;rotate_left
   ·have aA:=Ep a 20 R c.out.1;have aB:=Pi a 22 n c.out.2.1;have N:=Lh (ah.out b);go_step;refine N.out.mono ?_;rintro e Y ⟨rfl,E⟩;exact o _ _ rfl (Tb d E) E
   ·have aC:=Pi a 19 S c.out.1;have aD:=Pi a 23 M c.out.2.1;have N:=Lh (ai.out b);go_step;refine N.out.mono ?_;rintro e Y ⟨rfl,ag⟩;subst Y;exact o _ _ rfl d Br
   have aE:=Ep a 24 (.bool false) c.out.1;rotate_left;have Zq:=Ep a 25 (.bool false) c.out.1;have I5:=Ep a 33 undef c.out.2.1;rotate_left;have I7:=Ep a 34 (.bool false) c.out.1;rotate_left;have aF:=Ep a 35 (.bool false) c.out.1;have ZX:=Ep a 38 undef c.out.2.1;rotate_left;have iy:=Ep a 39 (.bool false) c.out.1;rotate_left;have uj:=Ep a 40 (.bool false) c.out.1;have Ak:=Ep a 43 undef c.out.2.1;rotate_left;have Io:=Ep a 44 (.bool false) c.out.1;rotate_left
   all_goals(go_step;exact o _ _ rfl d Br)
  intro vs aa d Q Z
  match vs,Q,Z with
  | [v0,v1,v2,v3,v4,v5,v6,v7,v8,v9,v10,v11,v12,v13,v14,v15,v16,v17,v18,v19,v20,v21,v22,v23,v24,v25,v26,v27],_,Z=>
   obtain rfl:v27=.bool false:=(Z 27 4 v27 rfl rfl);clear Z;simp only[putsL,bf7,bf1];simp only[Act.put,bfw,bfu,bfv];have HZ:=Lh (II.out aa false d (by simp))
   clear d;go_wp2_with fail;exact HZ.out
 | true=>
 cases b2 with
 | false=>
  refine wp_region_skip_frame (λi=>([18,19,20,23,24,25]:List Nat).contains i) (by kernel_rfl) (NoF (NoF (NoF (NoF (NoF [none,none,none]))))) [] (λi_ _ _ v_=>v_=(((Value.pointer (some ⟨j,1,none⟩))::(Value.int .i64 S)::R::(Value.pointer (some ⟨j,0,none⟩))::(Value.int .i64 n)::(Value.int .i64 M)::(Value.bool true)::(Value.bool true)::(Value.pointer (some ⟨j,2,none⟩))::(Value.slice ta L tc)::(Value.int .i64 (L:Int))::R::([.pointer (some ⟨j,0,none⟩),.int .i64 n,.int .i64 T,.bool false,.bool false,.bool false,undef,undef,undef,.bool false,.bool false,undef,undef,undef,.bool false,.bool false]:List Value))).getD i_ undef) (λ_ b=>Bw w2 b) (λw b=>Bw w b) (λ_ _ _ _ _ _ h=>h) (by kernel_rfl) (by kernel_rfl) (by kernel_rfl) aj.out (λ_=>⟨rfl,rfl,rfl,rfl,rfl,rfl,rfl,rfl,IlA,IlA,IlA,IlA,IlA,IlA,IlA,IlA,rfl,rfl,IlA,IlA,IlA,rfl,rfl,IlA,IlA,IlA,rfl,rfl,trivial⟩) (λi hi=>by have hm:=List.contains_iff_mem.1 hi;simp only[bf2,bf9,or_false]at hm;rcases hm with rfl | rfl | rfl | rfl | rfl | rfl <;> exact⟨rfl,λ_ _=>rfl⟩) ?_ ?_
  ·refine ⟨?_,?_,?_,?_,?_,?_,?_,?_,?_,?_,?_,?_,?_,?_,?_,?_,?_,?_,?_,?_,?_,?_,?_,?_,?_,?_,?_,?_,trivial⟩<;>(first|exact λh=>absurd h (by decide)|intro _ _ a b d m c K o)<;>replace m:=Lh m<;>replace c:=Lh c
   have q3:=FaA m 3 j 0;rotate_left;have ay:=Pa a 18 j 1 c.out.1;obtain⟨⟨F,I,d2,d3,d4,J⟩,p,s,y,D⟩:=O.out b d;rotate_left
   ·have q2:=FaA m 2 qb 0;obtain⟨⟨F,I,d2,d3,d4,J⟩,p,s,y,D⟩:=O.out b d;go_step;exact o _ _ HV.out.1.symm d Br
   have q3:=FaA m 3 j 0;rotate_left;have az:=Pa a 21 j 0 c.out.1;obtain⟨⟨F,I,d2,d3,d4,J⟩,p,s,y,D⟩:=O.out b d;rotate_left
   ·have aA:=Ep a 20 R c.out.1;have aB:=Pi a 22 n c.out.2.1;have N:=Lh (ah.out b);go_step;refine N.out.mono ?_;rintro e Y ⟨rfl,E⟩;exact o _ _ rfl (Tb d E) E
   ·have aC:=Pi a 19 S c.out.1;have aD:=Pi a 23 M c.out.2.1;have N:=Lh (ai.out b);go_step;refine N.out.mono ?_;rintro e Y ⟨rfl,ag⟩;subst Y;exact o _ _ rfl d Br
   have aE:=Ep a 24 (.bool true) c.out.1;rotate_left;have q3:=FaA m 3 j 0;rotate_left;have ZM:=Pa a 26 j 2 c.out.1;obtain⟨⟨F,I,d2,d3,d4,J⟩,p,s,y,D⟩:=O.out b d;rotate_left;have Zz:=Ep a 27 (.slice ta L tc) c.out.1;rotate_left
   ·have q2:=FaA m 2 qb 0;obtain⟨⟨F,I,d2,d3,d4,J⟩,p,s,y,D⟩:=O.out b d;go_step;exact o _ _ HV.out.1.symm d Br
   have q3:=FaA m 3 j 0;rotate_left;have aI:=Pa a 30 j 0 c.out.1;obtain⟨⟨F,I,d2,d3,d4,J⟩,p,s,y,D⟩:=O.out b d;rotate_left
   ·have aU:=Ep a 29 R c.out.1;have UQ:=Pi a 31 n c.out.2.1;have N:=Lh (aw.out b);go_step;refine N.out.mono ?_;rintro e Y ⟨rfl,E⟩;exact o _ _ rfl (Tb d E) E
   have aT:=Pi a 28 L c.out.1;have aJ:=Pi a 32 T c.out.2.1;have hq:=ax.out;rotate_left;have Zq:=Ep a 25 (.bool true) c.out.1;have I5:=Ep a 33 (.bool false) c.out.2.1;rotate_left;have I7:=Ep a 34 (.bool false) c.out.1;rotate_left;have aF:=Ep a 35 (.bool false) c.out.1;have ZX:=Ep a 38 undef c.out.2.1;rotate_left;have iy:=Ep a 39 (.bool false) c.out.1;rotate_left;have uj:=Ep a 40 (.bool false) c.out.1;have Ak:=Ep a 43 undef c.out.2.1;rotate_left;have Io:=Ep a 44 (.bool false) c.out.1;rotate_left
   all_goals(go_step;exact o _ _ rfl d Br)
  intro vs aa d Q Z
  match vs,Q,Z with
  | [v0,v1,v2,v3,v4,v5,v6,v7,v8,v9,v10,v11,v12,v13,v14,v15,v16,v17,v18,v19,v20,v21,v22,v23,v24,v25,v26,v27],_,Z=>
   obtain rfl:v27=.bool false:=(Z 27 4 v27 rfl rfl);clear Z;simp only[putsL,bf7,bf1];simp only[Act.put,bfw,bfu,bfv];have HZ:=Lh (II.out aa false d (by simp))
   clear d;go_wp2_with fail;exact HZ.out
 | true=>
 cases b3 with
 | false=>
  refine wp_region_skip_frame (λi=>([23,24,25]:List Nat).contains i) (by kernel_rfl) (NoF (NoF (NoF (NoF (NoF [none,none,none]))))) [] (λi_ _ _ v_=>v_=(((Value.pointer (some ⟨j,1,none⟩))::(Value.int .i64 S)::R::(Value.pointer (some ⟨j,0,none⟩))::(Value.int .i64 n)::(Value.int .i64 M)::(Value.bool true)::(Value.bool true)::(Value.pointer (some ⟨j,2,none⟩))::(Value.slice ta L tc)::(Value.int .i64 (L:Int))::R::([.pointer (some ⟨j,0,none⟩),.int .i64 n,.int .i64 T,.bool true,.bool true,.bool true,.pointer (some ⟨j,2,none⟩),.slice ta L tc,.bool false,.bool false,.bool false,undef,undef,undef,.bool false,.bool false]:List Value))).getD i_ undef) (λ_ b=>Bw w2 b) (λw b=>Bw w b) (λ_ _ _ _ _ _ h=>h) (by kernel_rfl) (by kernel_rfl) (by kernel_rfl) aj.out (λ_=>⟨rfl,rfl,rfl,rfl,rfl,rfl,rfl,rfl,IlA,IlA,IlA,IlA,IlA,IlA,IlA,IlA,rfl,rfl,IlA,IlA,IlA,rfl,rfl,IlA,IlA,IlA,rfl,rfl,trivial⟩) (λi hi=>by have hm:=List.contains_iff_mem.1 hi;simp only[bf2,bf9,or_false]at hm;rcases hm with rfl | rfl | rfl <;> exact⟨rfl,λ_ _=>rfl⟩) ?_ ?_
  ·refine ⟨?_,?_,?_,?_,?_,?_,?_,?_,?_,?_,?_,?_,?_,?_,?_,?_,?_,?_,?_,?_,?_,?_,?_,?_,?_,?_,?_,?_,trivial⟩<;>(first|exact λh=>absurd h (by decide)|intro _ _ a b d m c K o)<;>replace m:=Lh m<;>replace c:=Lh c
   have q3:=FaA m 3 j 0;rotate_left;have ay:=Pa a 18 j 1 c.out.1;obtain⟨⟨F,I,d2,d3,d4,J⟩,p,s,y,D⟩:=O.out b d;rotate_left
   ·have q2:=FaA m 2 qb 0;obtain⟨⟨F,I,d2,d3,d4,J⟩,p,s,y,D⟩:=O.out b d;go_step;exact o _ _ HV.out.1.symm d Br
   have q3:=FaA m 3 j 0;rotate_left;have az:=Pa a 21 j 0 c.out.1;obtain⟨⟨F,I,d2,d3,d4,J⟩,p,s,y,D⟩:=O.out b d;rotate_left
   ·have aA:=Ep a 20 R c.out.1;have aB:=Pi a 22 n c.out.2.1;have N:=Lh (ah.out b);go_step;refine N.out.mono ?_;rintro e Y ⟨rfl,E⟩;exact o _ _ rfl (Tb d E) E
   ·have aC:=Pi a 19 S c.out.1;have aD:=Pi a 23 M c.out.2.1;have N:=Lh (ai.out b);go_step;refine N.out.mono ?_;rintro e Y ⟨rfl,ag⟩;subst Y;exact o _ _ rfl d Br
   have aE:=Ep a 24 (.bool true) c.out.1;rotate_left;have q3:=FaA m 3 j 0;rotate_left;have ZM:=Pa a 26 j 2 c.out.1;obtain⟨⟨F,I,d2,d3,d4,J⟩,p,s,y,D⟩:=O.out b d;rotate_left;have Zz:=Ep a 27 (.slice ta L tc) c.out.1;rotate_left
   ·have q2:=FaA m 2 qb 0;obtain⟨⟨F,I,d2,d3,d4,J⟩,p,s,y,D⟩:=O.out b d;go_step;exact o _ _ HV.out.1.symm d Br
   have q3:=FaA m 3 j 0;rotate_left;have aI:=Pa a 30 j 0 c.out.1;obtain⟨⟨F,I,d2,d3,d4,J⟩,p,s,y,D⟩:=O.out b d;rotate_left
   ·have aU:=Ep a 29 R c.out.1;have UQ:=Pi a 31 n c.out.2.1;have N:=Lh (aw.out b);go_step;refine N.out.mono ?_;rintro e Y ⟨rfl,E⟩;exact o _ _ rfl (Tb d E) E
   have aT:=Pi a 28 L c.out.1;have aJ:=Pi a 32 T c.out.2.1;have hq:=ax.out;rotate_left;have Zq:=Ep a 25 (.bool true) c.out.1;have I5:=Ep a 33 (.bool true) c.out.2.1;rotate_left;have I7:=Ep a 34 (.bool true) c.out.1;rotate_left;have q3:=FaA m 3 j 0;rotate_left;have Aj:=Pa a 36 j 2 c.out.1;obtain⟨⟨F,I,d2,d3,d4,J⟩,p,s,y,D⟩:=O.out b d;rotate_left
   ·have aM:=Ep a 37 (.slice ta L tc) c.out.1;have N:=Lh (Au.out b d);go_step;refine N.out.mono ?_;rintro e Y ⟨rfl,ag⟩;subst Y;exact o _ _ rfl d Br
   have aF:=Ep a 35 (.bool true) c.out.1;have ZX:=Ep a 38 (.bool false) c.out.2.1;rotate_left;have iy:=Ep a 39 (.bool false) c.out.1;rotate_left;have uj:=Ep a 40 (.bool false) c.out.1;have Ak:=Ep a 43 undef c.out.2.1;rotate_left;have Io:=Ep a 44 (.bool false) c.out.1;rotate_left
   all_goals(go_step;exact o _ _ rfl d Br)
  intro vs aa d Q Z
  match vs,Q,Z with
  | [v0,v1,v2,v3,v4,v5,v6,v7,v8,v9,v10,v11,v12,v13,v14,v15,v16,v17,v18,v19,v20,v21,v22,v23,v24,v25,v26,v27],_,Z=>
   obtain rfl:v27=.bool false:=(Z 27 4 v27 rfl rfl);clear Z;simp only[putsL,bf7,bf1];simp only[Act.put,bfw,bfu,bfv];have HZ:=Lh (II.out aa false d (by simp))
   clear d;go_wp2_with fail;exact HZ.out
 | true=>
  refine wp_region_skip_frame (λi=>([]:List Nat).contains i) (by kernel_rfl) (NoF (NoF (NoF (NoF (NoF [none,none,none]))))) [] (λi_ _ _ v_=>v_=(((Value.pointer (some ⟨j,1,none⟩))::(Value.int .i64 S)::R::(Value.pointer (some ⟨j,0,none⟩))::(Value.int .i64 n)::(Value.int .i64 M)::(Value.bool true)::(Value.bool true)::(Value.pointer (some ⟨j,2,none⟩))::(Value.slice ta L tc)::(Value.int .i64 (L:Int))::R::(Value.pointer (some ⟨j,0,none⟩))::(Value.int .i64 n)::(Value.int .i64 T)::(Value.bool true)::(Value.bool true)::(Value.bool true)::(Value.pointer (some ⟨j,2,none⟩))::(Value.slice ta L tc)::(Value.bool true)::(Value.bool true)::(Value.bool true)::R::VA::([.bool b4,.bool b4,.bool b4]:List Value))).getD i_ undef) (λ_ b=>Bw w2 b) (λw b=>Bw w b) (λ_ _ _ _ _ _ h=>h) (by kernel_rfl) (by kernel_rfl) (by kernel_rfl) aj.out (λ_=>⟨rfl,rfl,rfl,rfl,rfl,rfl,rfl,rfl,IlA,IlA,IlA,IlA,IlA,IlA,IlA,IlA,rfl,rfl,IlA,IlA,IlA,rfl,rfl,IlA,IlA,IlA,rfl,rfl,trivial⟩) (λ_ h=>by simp at h) ?_ ?_
  ·refine ⟨?_,?_,?_,?_,?_,?_,?_,?_,?_,?_,?_,?_,?_,?_,?_,?_,?_,?_,?_,?_,?_,?_,?_,?_,?_,?_,?_,?_,trivial⟩<;>intro _ _ a b d m c K o<;>replace m:=Lh m<;>replace c:=Lh c
   have q3:=FaA m 3 j 0;rotate_left;have ay:=Pa a 18 j 1 c.out.1;obtain⟨⟨F,I,d2,d3,d4,J⟩,p,s,y,D⟩:=O.out b d;rotate_left
   ·have q2:=FaA m 2 qb 0;obtain⟨⟨F,I,d2,d3,d4,J⟩,p,s,y,D⟩:=O.out b d;go_step;exact o _ _ HV.out.1.symm d Br
   have q3:=FaA m 3 j 0;rotate_left;have az:=Pa a 21 j 0 c.out.1;obtain⟨⟨F,I,d2,d3,d4,J⟩,p,s,y,D⟩:=O.out b d;rotate_left
   ·have aA:=Ep a 20 R c.out.1;have aB:=Pi a 22 n c.out.2.1;have N:=Lh (ah.out b);go_step;refine N.out.mono ?_;rintro e Y ⟨rfl,E⟩;exact o _ _ rfl (Tb d E) E
   ·have aC:=Pi a 19 S c.out.1;have aD:=Pi a 23 M c.out.2.1;have N:=Lh (ai.out b);go_step;refine N.out.mono ?_;rintro e Y ⟨rfl,ag⟩;subst Y;exact o _ _ rfl d Br
   have aE:=Ep a 24 (.bool true) c.out.1;rotate_left;have q3:=FaA m 3 j 0;rotate_left;have ZM:=Pa a 26 j 2 c.out.1;obtain⟨⟨F,I,d2,d3,d4,J⟩,p,s,y,D⟩:=O.out b d;rotate_left;have Zz:=Ep a 27 (.slice ta L tc) c.out.1;rotate_left
   ·have q2:=FaA m 2 qb 0;obtain⟨⟨F,I,d2,d3,d4,J⟩,p,s,y,D⟩:=O.out b d;go_step;exact o _ _ HV.out.1.symm d Br
   have q3:=FaA m 3 j 0;rotate_left;have aI:=Pa a 30 j 0 c.out.1;obtain⟨⟨F,I,d2,d3,d4,J⟩,p,s,y,D⟩:=O.out b d;rotate_left
   ·have aU:=Ep a 29 R c.out.1;have UQ:=Pi a 31 n c.out.2.1;have N:=Lh (aw.out b);go_step;refine N.out.mono ?_;rintro e Y ⟨rfl,E⟩;exact o _ _ rfl (Tb d E) E
   have aT:=Pi a 28 L c.out.1;have aJ:=Pi a 32 T c.out.2.1;have hq:=ax.out;rotate_left;have Zq:=Ep a 25 (.bool true) c.out.1;have I5:=Ep a 33 (.bool true) c.out.2.1;rotate_left;have I7:=Ep a 34 (.bool true) c.out.1;rotate_left;have q3:=FaA m 3 j 0;rotate_left;have Aj:=Pa a 36 j 2 c.out.1;obtain⟨⟨F,I,d2,d3,d4,J⟩,p,s,y,D⟩:=O.out b d;rotate_left
   ·have aM:=Ep a 37 (.slice ta L tc) c.out.1;have N:=Lh (Au.out b d);go_step;refine N.out.mono ?_;rintro e Y ⟨rfl,ag⟩;subst Y;exact o _ _ rfl d Br
   have aF:=Ep a 35 (.bool true) c.out.1;have ZX:=Ep a 38 (.bool true) c.out.2.1;rotate_left;have iy:=Ep a 39 (.bool true) c.out.1;rotate_left
   ·have q2:=FaA m 2 qb 0;obtain⟨⟨F,I,d2,d3,d4,J⟩,p,s,y,D⟩:=O.out b d;go_step;exact o _ _ HV.out.1.symm d Br
   ·have q3:=FaA m 3 j 0;obtain⟨⟨F,I,d2,d3,d4,J⟩,p,s,y,D⟩:=O.out b d;go_step;exact o _ _ HV.out.2.symm d Br
   ·have UR:=Ep a 41 R c.out.1;have I8:=Ep a 42 VA c.out.2.1;have N:=Lh (aL.out b);go_step;refine N.out.mono ?_;rintro e Y ⟨rfl,E⟩;exact o _ _ rfl (Tb d E) E
   have uj:=Ep a 40 (.bool true) c.out.1;have Ak:=Ep a 43 (.bool b4) c.out.2.1;rotate_left;have Io:=Ep a 44 (.bool b4) c.out.1;rotate_left
   all_goals(go_step;exact o _ _ rfl d Br)
  intro vs aa d Q Z
  match vs,Q,Z with
  | [v0,v1,v2,v3,v4,v5,v6,v7,v8,v9,v10,v11,v12,v13,v14,v15,v16,v17,v18,v19,v20,v21,v22,v23,v24,v25,v26,v27],_,Z=>
   obtain rfl:v27=.bool b4:=(Z 27 4 v27 rfl rfl);clear Z;simp only[putsL,bf7,bf1];simp only[Act.put,bfw,bfu,bfv];have HZ:=Lh (II.out aa b4 d (by simp))
   clear d;go_wp2_with fail;exact HZ.out
theorem bC.one {w:World} {v:Value} {l:List Int}(h:bC w v l):v.oneCell'=true:=by
 obtain⟨a,c,rfl,_⟩:=h;rfl
theorem ql.one {z:Value} {u v:Int}(h:ql z u v):z.oneCell'=true:=by
 obtain⟨p,q,rfl,_⟩:=h;rfl
theorem kJ {n a:Int} {b z:Value}(d:b.oneCell'=true)(e:z.oneCell'=true):(bJ n a b z).all (·.oneCell')=true:=by
 rw[Array.all_eq_true'];intro v c;simp only[bJ,List.mem_toArray,bf2,bf9,or_false]at c;rcases c with rfl | rfl | rfl | rfl
 ·rfl
 ·rfl
 ·exact d
 exact e
def bM:Value:=.slice none 0 0
def zeroC:Array Value:=bJ 0 0 bM dC
theorem dA.fro {w:World} {b:Nat} {n a:Int} {c z:Value}(h:dA w b n a c z)(i:Nat):w.frozen? ⟨b,i,none⟩=false:=by
 unfold dA at h;simp[World.frozen?,h]
theorem dA.set1 {w:World} {b:Nat} {n a:Int} {c z:Value}(h:dA w b n a c z)(x:Int):dA (w.setCell ⟨b,1,none⟩ (.int .i64 x)) b n x c z:=by
 unfold dA at*;rw[setCell_eq_setRow w b 1 _ _ (0,0) _ h];exact setRow_heap w b _ _ _ _ h
theorem dA.set2 {w:World} {b:Nat} {n a:Int} {c z:Value}(h:dA w b n a c z)(x:Value):dA (w.setCell ⟨b,2,none⟩ x) b n a x z:=by
 unfold dA at*;rw[setCell_eq_setRow w b 2 _ _ (0,0) _ h];exact setRow_heap w b _ _ _ _ h
theorem dA.Xp {w:World} {b:Nat} {n a:Int} {c z:Value}(h:dA w b n a c z)(x:Value):dA (w.setCell ⟨b,3,none⟩ x) b n a c x:=by
 unfold dA at*;rw[setCell_eq_setRow w b 3 _ _ (0,0) _ h];exact setRow_heap w b _ _ _ _ h
theorem dA.reset {w:World} {b:Nat} {n a:Int} {k z:Value}(h:dA w b n a k z)(d e:Int)(c j:Value):dA (w.setRow b (bJ d e c j)) b d e c j:=setRow_heap w b _ _ _ _ h
theorem dA.grown {w w':World} {b:Nat} {n a:Int} {d z:Value} {row:Option Nat}(h:dA w b n a d z)(e:w.grownBy w' row)(c:some b≠row):dA w' b n a d z:=(e.block b h.lt c).trans h
theorem bQ {w:World} {B b:Nat} {w':World}(a:w.grownBy w' (some b))(h:B<=b)(c:B<=w.heap.size):Below B w w':=
 ⟨a.os,a.tape,a.output,a.size,λk d=>a.block k (by omega) (by simp;omega)⟩
theorem zG(w:World)(q:bu)(n a:Int)(c z:Value)(d e:Int)(b h:Value):
  let W:=((w.alloc (.cells q.cells 23)).alloc (.cells (bJ n a c z) 120)).alloc (.cells (bJ d e b h) 120)
  dB W w.heap.size q/\dA W (w.heap.size+1) n a c z/\dA W (w.heap.size+2) d e b h/\Bw w W/\W.heap.size=w.heap.size+3:=by
 intro W;obtain⟨l,m,o⟩:=rG w q n a c z;have k:((w.alloc (.cells q.cells 23)).alloc (.cells (bJ n a c z) 120)).heap.size=w.heap.size+2:=by rw[bg,bg]
 have j:=(Below.refl _ ((w.alloc (.cells q.cells 23)).alloc (.cells (bJ n a c z) 120))).alloc (bfx _) (.cells (bJ d e b h) 120);refine⟨l.below j,m.below j,?_,Tb o j,by show(World.alloc _ _).heap.size=_;rw[bg,k]⟩
 rw[<-k];exact bg5 _ _
def Bd(agg n1 a1 n2 a2:Int):Int:=if n1=0 then a2 else if n2=0 then a1 else if agg=3 then min a1 a2 else max a1 a2
theorem PR(w:World)(q:bu)(m h:Int)(s u:Value)(o j:Int)(y z:Value):
  Calls prog 268 #[.agg q.cells,.agg (bJ m h s u),.agg (bJ o j y z)] w (Below0 w (.int .i64 (Bd q.agg m h o j))):=by
 obtain⟨r,d⟩:=Nm (Bd q.agg m h o j);rw[<-d];obtain⟨x,a⟩:=Nm (((w.alloc (.cells q.cells 23)).alloc (.cells (bJ m h s u) 120)).alloc (.cells (bJ o j y z) 120));obtain⟨N,n⟩:=Nm (w.heap.size);obtain⟨O,b⟩:=Nm (w.heap.size+1);obtain⟨Q,c⟩:=Nm (w.heap.size+2);have p:Hid (dB x N q/\dA x O m h s u/\dA x Q o j y z/\Bw w x/\x.heap.size=w.heap.size+3):=by rw[a,n,b,c];exact Lh (zG w q m h s u o j y z)
 have l:(w.alloc (.cells q.cells 23)).heap.size=w.heap.size+1:=bg w _;have e:((w.alloc (.cells q.cells 23)).alloc (.cells (bJ m h s u) 120)).heap.size=w.heap.size+2:=by rw[bg,bg]
 obtain⟨L,size,I,M,agg,k⟩:=q;unfold bu.cells at a l e ⊢;unfold bJ at a e ⊢;simp only at a d l e;obtain⟨R,S,d2,d3,d4,U⟩:=p.out.1.d6;obtain⟨Y,Z,f2,f3⟩:=p.out.2.1.d4;obtain⟨g0,g1,g2,g3⟩:=p.out.2.2.1.d4;simp only at R S d2 d3 d4 U;unfold Bd at d;by_cases D:m=0
 ·subst D;obtain rfl:r=j:=by rw[d,if_pos rfl]
  clear d;go_enter func268,ntmps268;go_upto_region 1 with fail;rw[<-a,<-c,<-b,<-n];clear a n b c l e;go_wp2_with fail;go_ret;exact⟨rfl,p.out.2.2.2.1⟩
 have e1:(m==0)=false:=by simpa using D
 rw[if_neg D]at d;clear D;by_cases E:o=0
 ·subst E;obtain rfl:r=h:=by rw[d,if_pos rfl]
  clear d;go_enter func268,ntmps268;go_upto_region 1 with fail;rw[<-a,<-c,<-b,<-n];clear a n b c l e;go_wp2_with fail;go_ret;exact⟨rfl,p.out.2.2.2.1⟩
 have e2:(o==0)=false:=by simpa using E
 rw[if_neg E]at d;clear E;by_cases F:agg=3
 ·subst F;rw[if_pos rfl]at d;have J:(if j<h then j else h)=r:=by rw[d];split <;> omega
  have K:min h j=r:=by rw[<-J,Int.min_def];split <;> split <;> omega
  clear d;go_enter func268,ntmps268;go_upto_region 1 with fail;rw[<-a,<-c,<-b,<-n];clear a n b c l e;go_wp2_with fail;go_ret;exact⟨rfl,p.out.2.2.2.1⟩
 have e3:(agg==3)=false:=by simpa using F
 rw[if_neg F]at d;clear F;have J:(if h<j then j else h)=r:=by rw[d];split <;> omega
 have K:max h j=r:=by rw[<-J,Int.max_def];split <;> split <;> omega
 clear d;go_enter func268,ntmps268;go_upto_region 1 with fail;rw[<-a,<-c,<-b,<-n];clear a n b c l e;go_wp2_with fail;go_ret;exact⟨rfl,p.out.2.2.2.1⟩
def Dt(s n:Int):Int:=s / n
theorem PQ(w:World)(s n:Int)(q: -4398046511104<=s/\s<=4398046511104)(b:0<n/\n<=1073741824):Calls prog 255 #[.int .i64 s,.int .i64 n] w (λe w'=>e=.returned (.int .i64 (Dt s n))/\w'=w):=by
 obtain⟨r,j⟩:=Nm (Dt s n);rw[<-j];unfold Dt at j;obtain⟨t,k⟩:=Nm (Int.tmod s n);obtain⟨d,l⟩:=Nm (Int.tdiv s n);have c:n*d+t=s:=by rw[k,l];exact Int.mul_tdiv_add_tmod s n
 have m: -n<t/\t<n/\(0<=s->0<=t)/\(s<=0->t<=0):=by
  rw[k];refine⟨?_,Int.tmod_lt_of_pos s b.1,λh=>Int.tmod_nonneg n h,λh=>?_⟩
  ·have:=Int.tmod_lt_of_pos (-s) b.1;rw[Int.neg_tmod]at this;omega
  have:=Int.tmod_nonneg n (show 0<= -s by omega)
  rw[Int.neg_tmod]at this;omega
 have u:¬n=0:=by omega
 have a:r=if t<0 then d-1 else d:=by
  rw[j]
  split
  ·rename_i h;refine Int.ediv_eq_iff_of_pos b.1 |>.2 ?_
   have e:n*(d-1)=n*d-n:=by rw[Int.mul_sub,Int.mul_one]
   have p:(d-1)*n=n*d-n:=by rw[Int.mul_comm];exact e
   constructor
   ·rw[p];omega
   rw[p];omega
  rename_i h;refine Int.ediv_eq_iff_of_pos b.1 |>.2 ?_
  constructor
  ·rw[Int.mul_comm];omega
  rw[Int.mul_comm];omega
 have x:Int.tmod s n=t:=k.symm;have y:Int.tdiv s n=d:=l.symm;have o: -4398046511104<=d/\d<=4398046511104:=by
  have E:d.natAbs<=s.natAbs:=by rw[l];exact Int.natAbs_tdiv_le_natAbs s n
  omega
 have z:IntKind.i64.wrap d=d:=IntWalk.i64_in _ (by omega)
 have D:IntKind.i64.wrap (d-1)=d-1:=IntWalk.i64_in _ (by omega)
 clear k l c m o j q b;by_cases h:t<0
 ·rw[if_pos h]at a;subst a;go_enter func255,ntmps255;go_wp2_with fail;go_ret;exact⟨rfl,rfl⟩
 rw[if_neg h]at a;subst a;have F:decide (t<0)=false:=bfq h;clear h;go_enter func255,ntmps255;go_wp2_with fail;go_ret;exact⟨rfl,rfl⟩
open Go Go.RowKit
theorem xE {q:bu} {a:fP}(h:a.rightB q=true):
  q.rightB=true/\(0<=a.n/\a.n<=1073741824)/\wL a.u a.v/\(-pV q.agg<=a.a/\a.a<=pV q.agg)/\(q.agg≠7->a.u=0/\a.v=0)/\(a.n=0->a.a=0/\a.u=0/\a.v=0)/\
  ((a.top.length:Int)=if q.agg=6 then min a.n q.k else 0)/\(∀x∈a.top,-1099511627776<=x/\x<=1099511627776)/\Falling a.top:=by
 simp only[fP.rightB,bf8,bf0]at h;obtain⟨⟨⟨⟨⟨⟨⟨⟨b,c⟩,d⟩,e⟩,j⟩,l⟩,m⟩,o⟩,p⟩:=h;exact⟨b,c,d,e,j,l,m,o,p⟩
theorem Vz(g:Int):0<=pV g/\pV g<=4398046511104:=by
 unfold pV
 split
 ·omega
 split <;> omega
theorem MW {q:bu} {a:fP}(h:a.rightB q=true):a.top.length<=8/\(q.agg≠6->a.top=[]):=by
 obtain⟨d,_,_,_,_,_,c,_⟩:=xE h;obtain⟨_,_,_,_,_,_,e,_⟩:=kX d;by_cases b:q.agg=6
 ·rw[if_pos b]at c;have:=e b;exact⟨by omega,λh=>absurd b h⟩
 rw[if_neg b]at c;exact⟨by omega,λ_=>List.length_eq_zero_iff.1 (by omega)⟩
end Go.Proofs.YtgfmbkoieacgoaaGreatDoor
