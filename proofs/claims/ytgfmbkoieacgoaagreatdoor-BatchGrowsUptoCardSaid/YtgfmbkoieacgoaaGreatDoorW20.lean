/- 20. -/
import Derived.Test.YtgfmbkoieacgoaaGreatDoorW16
import Derived.Test.YtgfmbkoieacgoaaGreatDoorW17
import Derived.Test.YtgfmbkoieacgoaaGreatDoorW18
import Derived.Test.YtgfmbkoieacgoaaGreatDoorW19
namespace Go.Proofs.YtgfmbkoieacgoaaGreatDoor
open Go Go.RowKit Go.Shelf Go.Proofs.Tryz
def enc3(x:bf):List Value:=[Sv x.key,.int .i64 x.lo,.int .i64 x.hi]
theorem LC(x:bf):(enc3 x).toArray=x.cells:=rfl
theorem Xh:EqlAt prog 34 (λx=> .agg (enc3 x).toArray) ku:=
 ⟨λx y w=>jS w x y,λc a b x y w=>jX w c a b x y⟩
instance:Inhabited bf:=⟨bF⟩
theorem NU {w:World} {b o:Nat} {l:List bf}(h:∀i x,l[i]? =some x->∀j v,x.cells[j]? =some v->w.cell? ⟨b,o+i*3+j,none⟩=some v):∀j,j<l.length->∀i v,(enc3 l[j]!)[i]? =some v->w.cell? ⟨b,o+j*3+i,none⟩=some v:=by
 intro j a i v c;refine h j l[j]! ?_ i v ?_
 ·rw[getElem!_pos l j a];exact bfs a
 rw[<-LC];simpa using c
theorem CU(w:World)(a:Option Addr)(c:Nat)(l:List bf)(x:bf)(j:fZ w a l)(d:l≠[])(q:l.length<=1000000):
  Calls prog 216 #[.slice a l.length c,.agg x.cells] w (Below0 w (.bool (decide (x∈l)))):=by
 rcases j with h | ⟨b,o,rfl,h⟩
 ·exact absurd h d
 refine(AnyQ.slices_Contains Tryz.Qd 3 Tryz.isAgg34 sizeOf34 enc3 (λ_=>rfl) ku Xh b o l.length c l x w (bfx _) (by omega) (NU h)).mono ?_
 rintro e r ⟨rfl,k⟩;refine⟨?_,k⟩;rw[bgs]
 congr 2
 refine Bool.eq_iff_iff.2 ?_;rw[List.any_eq_true,bf0];constructor
 ·rintro⟨y,m,n⟩;rw[(jY x y).1 n];exact m
 intro p;exact⟨x,p,(jY x x).2 rfl⟩
theorem Jq:∀(A B:List bf) (x:bf) (i:Nat),x ∉ A->Lib.idxByFrom ku x (A++x::B) i=((i+A.length:Nat):Int)
 | [],B,x,i,_=>by
  simp only[List.nil_append,Lib.idxByFrom,(jY x x).2 rfl,if_true,List.length_nil,Nat.add_zero]
 | y::A,B,x,i,h=>by
  have b:ku x y=false:=by
   rw[Bool.eq_false_iff];intro a;exact h (by rw[(jY x y).1 a];simp)
  have c:=Jq A B x (i+1) (λa=>h (by simp[a]))
  simp only[List.cons_append,Lib.idxByFrom,b,bgy];rw[if_neg (by simp),c]
  congr 1
  omega
theorem Vx(A B:List bf)(x:bf)(h:x ∉ A):Lib.idxBy ku (A++x::B) x=(A.length:Int):=by
 rw[Lib.idxBy,Jq A B x 0 h,bgu]
theorem LX(w:World)(a:Option Addr)(c:Nat)(A B:List bf)(x:bf)(n:Nat)(d:n=(A++x::B).length)(j:fZ w a (A++x::B))(k:x ∉ A)(l:n<=1000000):
  Calls prog 220 #[.slice a n c,.agg x.cells] w (Below0 w (.int .i64 (A.length:Int))):=by
 subst d;rcases j with h | ⟨b,o,rfl,h⟩
 ·simp at h
 refine(AnyQ.slices_Index Tryz.WH 3 Tryz.isAgg34 sizeOf34 enc3 (λ_=>rfl) ku Xh b o _ c (A++x::B) x w (bfx _) (by omega) (NU h)).mono ?_
 rintro e m ⟨rfl,q,rfl⟩;rw[bgs,Vx A B x k];exact⟨rfl,below_draws ((Below.refl _ w).alloc (bfx _) _) q⟩
def Xf(w:World)(b:Nat):Prop:=∃cur,w.heap[b]? =some (.cells cur 131 (0,0))
theorem Xf.lt {w:World} {b:Nat}(h:Xf w b):b<w.heap.size:=by
 obtain⟨_,h⟩:=h;exact(Array.getElem?_eq_some_iff.1 h).1
def cZ(w:World)(v:Value)(l:List bn):Prop:=
 ∃a c,v=.slice a l.length c/\l.length<=c/\((a=none/\l=[])∨∃b o,a=some ⟨b,o,none⟩/\(l=[]∨Xf w b)/\∀i x,l[i]? =some x->∀j u,x.cells[j]? =some u->w.cell? ⟨b,o+i*8+j,none⟩=some u)
theorem cZ.below {w w':World} {v:Value} {l:List bn}(h:cZ w v l)(m:Bw w w'):cZ w' v l:=by
 obtain⟨a,c,e,r,h⟩:=h;refine⟨a,c,e,r,?_⟩;rcases h with h | ⟨b,o,h,s,n⟩
 ·exact .inl h
 exact .inr ⟨b,o,h,s.imp id (λ⟨d,k⟩=>⟨d,(m.block b (Xf.lt ⟨d,k⟩)).trans k⟩),λi x p j u q=>(m.cell (block_lt_of_cell (n i x p j u q))).trans (n i x p j u q)⟩
theorem cZ.form {w:World} {v:Value} {l:List bn}(h:cZ w v l):∃a c,v=.slice a l.length c/\l.length<=c/\dS w a l:=by
 obtain⟨a,c,e,d,h⟩:=h;refine⟨a,c,e,d,?_⟩;rcases h with h | ⟨b,o,h,_,j⟩
 ·exact .inl h.2
 exact .inr ⟨b,o,h,j⟩
theorem cZ.one {w:World} {v:Value} {l:List bn}(h:cZ w v l):v.oneCell'=true:=by
 obtain⟨a,c,rfl,_⟩:=h;rfl
theorem cZ.nil(w:World):cZ w (.slice none 0 0) []:=⟨none,0,rfl,bfx _,.inl ⟨rfl,rfl⟩⟩
theorem dm.ins {w:World} {a:Nat} {v:Value} {l:List bn}(h:dm w a v l):cZ w v l:=by
 have d:=h;rcases h.2 with⟨c,m⟩ | ⟨g,p,e,c,_,b,k,_⟩
 ·exact⟨none,0,by rw[c,m],by omega,.inl ⟨rfl,bg3 m⟩⟩
 refine⟨_,_,c,k,.inr ⟨g,0,rfl,.inr ⟨e,b⟩,λi x n j u o=>?_⟩⟩;unfold dm at d;rw[c]at d;have q:i<l.length:=(List.getElem?_eq_some_iff.1 n).1;have r:j<8:=sQ o;rw[show 0+i*8+j=i*8+j by omega,World.ownsRow.cellAt d _ (by omega)]
 exact ni l i x j u n o
theorem yU(w:World)(v:Value)(l:List bn)(h:cZ w v l)(y:l.length<=1000000):
  Calls prog 134 #[v] w (λe w'=>∃d,e=.returned d/\dm w' w.heap.size d l/\Bw w w'):=by
 obtain⟨a,c,rfl,z,h⟩:=h;rcases h with⟨rfl,rfl⟩ | ⟨b,o,rfl,_,h⟩
 ·refine(AnyE.slices_Clone_nil Tryz.SV _ _ w).mono ?_;rintro e w' ⟨rfl,rfl⟩;exact⟨_,rfl,dm.nil _ _,Br⟩
 obtain⟨p,q,k,m,n⟩:=info_parts kR;refine(AnyE.slices_Clone Tryz.SV p _ 8 96 q k m n rfl (by decide) sizeOf131 b o l.length c (bT l) w (cu l) (by unfold maxLen;omega) (by omega) ?_ (lI l)).mono ?_
 ·intro j u r;have:=zY h j u r
  rwa [addr_add]at this
 rintro e w' ⟨d,rfl,s,_,x⟩;exact⟨d,rfl,s,x⟩
def gG(w:World)(v:Value)(s:df):Prop:=∃pv l,v=.agg #[.int .i64 s.mark,pv]/\cZ w pv l/\(∀x∈l,di w x)/\s.panes=l.map bn.p
theorem gG.below {w w':World} {v:Value} {s:df}(h:gG w v s)(a:Bw w w'):gG w' v s:=by
 obtain⟨b,l,c,d,e,j⟩:=h;exact⟨b,l,c,d.below a,λx k=>(e x k).below a,j⟩
def fM(w:World)(v:Value)(o:List dE):Prop:=∃a c l,v=.slice a l.length c/\l.length<=c/\dZ w a l/\(∀x∈l,dL w x)/\o=l.map bH.o
theorem fM.below {w w':World} {v:Value} {o:List dE}(h:fM w v o)(b:Bw w w'):fM w' v o:=by
 obtain⟨a,c,l,d,e,j,k,m⟩:=h;exact⟨a,c,l,d,e,j.below b,λx n=>(k x n).below b,m⟩
theorem fM.nil(w:World):fM w bM []:=⟨none,0,[],rfl,bfx _,.inl rfl,λ_ h=>by simp at h,rfl⟩
theorem KT(w:World)(q:bu)(x:bn):
  dB ((w.alloc (.cells q.cells 23)).alloc (.cells x.cells 131)) w.heap.size q/\
   dw ((w.alloc (.cells q.cells 23)).alloc (.cells x.cells 131)) (w.heap.size+1) x/\
   Bw w ((w.alloc (.cells q.cells 23)).alloc (.cells x.cells 131)):=by
 have b:=(Below.refl _ w).alloc (bfx _) (.cells q.cells 23);have a:=(Below.refl _ (w.alloc (.cells q.cells 23))).alloc (bfx _) (.cells x.cells 131);have c:(w.alloc (.cells q.cells 23)).heap.size=w.heap.size+1:=bg w _;refine⟨dB.below (bg5 w _) a,?_,Tb b a⟩;rw[<-c];exact bg5 _ _
theorem KW(w:World)(q:bu)(x:bf):
  dB ((w.alloc (.cells q.cells 23)).alloc (.cells x.cells 34)) w.heap.size q/\
   dH ((w.alloc (.cells q.cells 23)).alloc (.cells x.cells 34)) (w.heap.size+1) x/\
   Bw w ((w.alloc (.cells q.cells 23)).alloc (.cells x.cells 34)):=by
 have b:=(Below.refl _ w).alloc (bfx _) (.cells q.cells 23);have a:=(Below.refl _ (w.alloc (.cells q.cells 23))).alloc (bfx _) (.cells x.cells 34);have c:(w.alloc (.cells q.cells 23)).heap.size=w.heap.size+1:=bg w _;refine⟨dB.below (bg5 w _) a,?_,Tb b a⟩;rw[<-c];exact bg5 _ _
end Go.Proofs.YtgfmbkoieacgoaaGreatDoor
set_option maxRecDepth 100000
set_option maxHeartbeats 2000000
namespace Go.Proofs.YtgfmbkoieacgoaaGreatDoor
open Go Go.RowKit Go.Proofs.Tryz
def J6(x y:bY):Bool:=ku x.w y.w && (BZ x.a y.a && (x.r==y.r))
theorem Ri(x y:bY):J6 x y=true↔x=y:=by
 obtain⟨a,b,c⟩:=x;obtain⟨d,e,h⟩:=y;simp only[J6,bf8,jY,Rf,beq_iff_eq,bY.mk.injEq]
theorem Rh(x y:ItemL):sameI x y=true↔x=y:=by
 obtain⟨a,b,c,d⟩:=x;obtain⟨e,h,j,k⟩:=y;simp[sameI]
def J4(x y:dE):Bool:=(x.late==y.late) && (sameI x.item y.item && (ku x.w y.w && ((x.r==y.r) && decide (x.v=y.v))))
theorem DW(x y:dE):J4 x y=true↔x=y:=by
 obtain⟨a,b,c,d,e⟩:=x;obtain⟨h,j,k,l,m⟩:=y;simp only[J4,bf8,Rh,jY,beq_iff_eq,bf0,dE.mk.injEq]
instance:DecidableEq dE:=λx y=>decidable_of_iff _ (DW x y)
theorem dO(k:IntKind)(z:Int):intOf (.int k z)=z:=rfl
theorem Wx(w:World)(x y:bn):
  dw ((w.alloc (.cells x.cells 131)).alloc (.cells y.cells 131)) w.heap.size x/\dw ((w.alloc (.cells x.cells 131)).alloc (.cells y.cells 131)) (w.heap.size+1) y/\Bw w ((w.alloc (.cells x.cells 131)).alloc (.cells y.cells 131)):=by
 have b:=(Below.refl _ w).alloc (bfx _) (.cells x.cells 131);have a:=(Below.refl _ (w.alloc (.cells x.cells 131))).alloc (bfx _) (.cells y.cells 131);have c:(w.alloc (.cells x.cells 131)).heap.size=w.heap.size+1:=bg w _;refine⟨dw.below (bg5 w _) a,?_,Tb b a⟩;rw[<-c];exact bg5 _ _
theorem KR(w:World)(x y:bH):
  fH ((w.alloc (.cells x.cells 37)).alloc (.cells y.cells 37)) w.heap.size x/\fH ((w.alloc (.cells x.cells 37)).alloc (.cells y.cells 37)) (w.heap.size+1) y/\Bw w ((w.alloc (.cells x.cells 37)).alloc (.cells y.cells 37)):=by
 have b:=(Below.refl _ w).alloc (bfx _) (.cells x.cells 37);have a:=(Below.refl _ (w.alloc (.cells x.cells 37))).alloc (bfx _) (.cells y.cells 37);have c:(w.alloc (.cells x.cells 37)).heap.size=w.heap.size+1:=bg w _;refine⟨fH.below (bg5 w _) a,?_,Tb b a⟩;rw[<-c];exact bg5 _ _
theorem CZ(w:World)(x y:bn)(L:di w x)(M:di w y)(nx:x.p.a.top.length<=1000000)(ny:y.p.a.top.length<=1000000):
  Calls prog 95 #[.agg x.cells,.agg y.cells] w (Below0 w (.bool (J6 x.p y.p))):=by
 obtain⟨r,N⟩:=Nm (J6 x.p y.p);rw[<-N];obtain⟨q,c⟩:=Nm ((w.alloc (.cells x.cells 131)).alloc (.cells y.cells 131));obtain⟨xb,d⟩:=Nm (w.heap.size);obtain⟨yb,j⟩:=Nm (w.heap.size+1);have E:Hid (dw q xb x/\dw q yb y/\Bw w q):=by rw[c,d,j];exact Lh (Wx w x y)
 have k:=Lh E.out.2.2;obtain⟨O,s⟩:=Nm (ku x.p.w y.p.w);obtain⟨Q,D⟩:=Nm (BZ x.p.a y.p.a);obtain⟨rc,l⟩:=Nm (x.p.r==y.p.r);have I:∀b,(binOp .eql 34 (.agg x.p.w.cells) (.agg y.p.w.cells)).run prog b=.ok (.bool O) b:=λb=>by rw[s];exact jS b _ _
 have J:∀b R S U,(eqGuard R 34 S U (.agg x.p.w.cells) (.agg y.p.w.cells)).run prog b=.ok () b:=λb R S U=>jX b R S U _ _;have K:Hid (∀b,Bw q b->Calls prog 142 #[.agg (bJ x.p.a.n x.p.a.a x.tv x.z),.agg (bJ y.p.a.n y.p.a.a y.tv y.z)] b (Below0 b (.bool Q))):=by
  rw[D];exact Lh (λb o=>PW b x.p.a y.p.a x.tv x.z y.tv y.z ((L.1.below k.out).below o) ((M.1.below k.out).below o) L.2 M.2 nx ny)
 have F:Hid (r=(O && (Q && rc))):=by rw[N,s,D,l];exact Lh rfl
 clear N s D L M nx ny;have m:(w.alloc (.cells x.cells 131)).heap.size=w.heap.size+1:=bg w _;obtain⟨⟨⟨xk,xl,xh⟩,⟨n,a,top,u,v⟩,rd⟩,tv,z,ht,hz⟩:=x;obtain⟨⟨⟨yk,yl,yh⟩,⟨n',a',ab,u',v'⟩,Y⟩,ac,z',ad,ae⟩:=y;unfold bn.cells at c m ⊢;unfold bf.cells at I J;unfold bJ at K;simp only at c m I J K l;obtain⟨e0,e1,e2,e3,e4,e5,e6,e7⟩:=E.out.1.d8;obtain⟨f0,f1,f2,f3,f4,f5,f6,f7⟩:=E.out.2.1.d8;have Z:Hid (∀b,Bw q b->b.cell? ⟨xb,7,none⟩=some (.int .i64 rd)):=Lh (λb h=>((E.out.1.below h).d8).2.2.2.2.2.2.2);have aa:Hid (∀b,Bw q b->b.cell? ⟨yb,7,none⟩=some (.int .i64 Y)):=Lh (λb h=>((E.out.2.1.below h).d8).2.2.2.2.2.2.2);clear E
 cases O with
 | false=>
  obtain rfl:r=false:=F.out;clear F K l;go_enter func95,ntmps95;go_upto_region 1 with fail;rw[<-c,<-j,<-d];clear c d j m;go_wp2_with fail;go_ret;exact⟨rfl,k.out⟩
 | true=>
 cases Q with
 | false=>
  obtain rfl:r=false:=F.out;clear F l;go_enter func95,ntmps95;go_upto_region 1 with fail;rw[<-c,<-j,<-d];clear c d j m;go_wp2_with fail;refine(K.out q Br).mono ?_;rintro e w2 ⟨rfl,o⟩;have HZ:=Lh (Tb k.out o);clear o e0 e1 e2 e3 e4 e5 e6 e7 f0 f1 f2 f3 f4 f5 f6 f7;dsimp only;go_wp2_with fail;go_ret;exact⟨rfl,HZ.out⟩
 | true=>
  obtain rfl:r=rc:=F.out;clear F;go_enter func95,ntmps95;go_upto_region 1 with fail;rw[<-c,<-j,<-d];clear c d j m;go_wp2_with fail;refine(K.out q Br).mono ?_;rintro e w2 ⟨rfl,o⟩;have HZ:=Lh (Tb k.out o);have e7:=Z.out w2 o;have f7:=aa.out w2 o;clear o e0 e1 e2 e3 e4 e5 e6 f0 f1 f2 f3 f4 f5 f6;dsimp only;go_wp2_with fail;go_ret;exact⟨by rw[l];rfl,HZ.out⟩
theorem Gl(w:World)(x y:bH)(Y:dL w x)(Z:dL w y)(nx:x.o.v.length<=1000000)(ny:y.o.v.length<=1000000):
  Calls prog 87 #[.agg x.cells,.agg y.cells] w (Below0 w (.bool (J4 x.o y.o))):=by
 obtain⟨r,M⟩:=Nm (J4 x.o y.o);rw[<-M];obtain⟨E,b⟩:=Nm ((w.alloc (.cells x.cells 37)).alloc (.cells y.cells 37));obtain⟨xb,c⟩:=Nm (w.heap.size);obtain⟨yb,d⟩:=Nm (w.heap.size+1);have L:Hid (fH E xb x/\fH E yb y/\Bw w E):=by rw[b,c,d];exact Lh (KR w x y)
 have j:=Lh L.out.2.2;obtain⟨N,m⟩:=Nm (sameI x.o.item y.o.item);obtain⟨O,n⟩:=Nm (ku x.o.w y.o.w);obtain⟨Q,p⟩:=Nm (decide (x.o.v=y.o.v));obtain⟨R,q⟩:=Nm (x.o.late==y.o.late);have F:∀a,(binOp .eql 34 (.agg x.o.w.cells) (.agg y.o.w.cells)).run prog a=.ok (.bool O) a:=λa=>by rw[n];exact jS a _ _
 have I:∀a s u z,(eqGuard s 34 u z (.agg x.o.w.cells) (.agg y.o.w.cells)).run prog a=.ok () a:=λa s u z=>jX a s u z _ _;have EU:∀a,(binOp .eql 32 (.agg x.o.item.cells) (.agg y.o.item.cells)).run prog a=.ok (.bool N) a:=λa=>by rw[m];exact run_eql_item a _ _
 have EW:∀a s u z,(eqGuard s 32 u z (.agg x.o.item.cells) (.agg y.o.item.cells)).run prog a=.ok () a:=λa s u z=>run_guard_item a s u z _ _;have S:∀a,Sem.run prog (binOp .eql 4 (.bool x.o.late) (.bool y.o.late)) a=.ok (.bool R) a:=λa=>by rw[q];cases x.o.late <;> cases y.o.late <;> simp[go_sem]
 have D:Hid (∀a,Bw E a->Calls prog 130 #[x.tv,y.tv] a (Below0 a (.bool Q))):=by
  rw[p];exact Lh (λa J=>Be a x.tv y.tv x.o.v y.o.v ((bC.below Y j.out).below J) ((bC.below Z j.out).below J) nx ny)
 have l:Hid (r=(R && (N && (O && ((x.o.r==y.o.r) && Q))))):=by rw[M,m,n,p,q];exact Lh rfl
 clear M m n p q Y Z nx ny;have k:(w.alloc (.cells x.cells 37)).heap.size=w.heap.size+1:=bg w _;obtain⟨⟨late,⟨ik,XV,it,iv⟩,⟨xk,xl,xh⟩,rd,lv⟩,tv,ht⟩:=x;obtain⟨⟨U,⟨aa,iU,ab,ac⟩,⟨ad,ae,af⟩,K,ag⟩,ah,ai⟩:=y;unfold bH.cells at b k ⊢;unfold bf.cells at F I;unfold ItemL.cells at EU EW;simp only at b k F I EU EW D l S;obtain⟨e0,e1,e2,e3,e4,e5,e6,e7,e8,e9⟩:=L.out.1.d10;obtain⟨f0,f1,f2,f3,f4,f5,f6,f7,f8,f9⟩:=L.out.2.1.d10;clear L
 cases R with
 | false=>
  obtain rfl:r=false:=l.out;clear l D;go_enter func87,ntmps87;go_upto_region 1 with fail;rw[<-b,<-d,<-c];clear b c d k;go_wp2_with fail;go_ret;exact⟨rfl,j.out⟩
 | true=>
 cases N with
 | false=>
  obtain rfl:r=false:=l.out;clear l D;go_enter func87,ntmps87;go_upto_region 1 with fail;rw[<-b,<-d,<-c];clear b c d k;go_wp2_with fail;go_ret;exact⟨rfl,j.out⟩
 | true=>
 cases O with
 | false=>
  obtain rfl:r=false:=l.out;clear l D;go_enter func87,ntmps87;go_upto_region 1 with fail;rw[<-b,<-d,<-c];clear b c d k;go_wp2_with fail;go_ret;exact⟨rfl,j.out⟩
 | true=>
 by_cases h:rd=K
 ·subst h;obtain rfl:r=Q:=by rw[l.out];simp
  clear l;go_enter func87,ntmps87;go_upto_region 1 with fail;rw[<-b,<-d,<-c];clear b c d k;go_wp2_with fail;refine(D.out E Br).mono ?_;rintro e w2 ⟨rfl,J⟩;have HZ:=Lh (Tb j.out J);clear J e0 e1 e2 e3 e4 e5 e6 e7 e8 e9 f0 f1 f2 f3 f4 f5 f6 f7 f8 f9;dsimp only;go_wp2_with fail;go_ret;exact⟨rfl,HZ.out⟩
 have h':(rd==K)=false:=by simpa using h
 obtain rfl:r=false:=by rw[l.out,h'];rfl
 clear l D h;go_enter func87,ntmps87;go_upto_region 1 with fail;rw[<-b,<-d,<-c];clear b c d k;go_wp2_with fail;go_ret;exact⟨rfl,j.out⟩
theorem dS.get {w:World} {a:Option Addr} {l:List bn}(h:dS w a l) {t:Nat}(c:t<l.length):∃x b o,l[t]? =some x/\a=some ⟨b,o,none⟩/\w.cell? ⟨b,o+t*8,none⟩=some (Sv x.p.w.key)/\w.cell? ⟨b,o+t*8+1,none⟩=some (.int .i64 x.p.w.lo)/\w.cell? ⟨b,o+t*8+2,none⟩=some (.int .i64 x.p.w.hi)/\w.cell? ⟨b,o+t*8+3,none⟩=some (.int .i64 x.p.a.n)/\w.cell? ⟨b,o+t*8+4,none⟩=some (.int .i64 x.p.a.a)/\w.cell? ⟨b,o+t*8+5,none⟩=some (x.tv)/\w.cell? ⟨b,o+t*8+6,none⟩=some (x.z)/\w.cell? ⟨b,o+t*8+7,none⟩=some (.int .i64 x.p.r):=by
 rcases h with h | ⟨b,o,h,d⟩
 ·rw[h]at c;simp at c
 exact⟨l[t],b,o,bfs c,h,d t _ (bfs c) 0 _ rfl,d t _ (bfs c) 1 _ rfl,d t _ (bfs c) 2 _ rfl,d t _ (bfs c) 3 _ rfl,d t _ (bfs c) 4 _ rfl,d t _ (bfs c) 5 _ rfl,d t _ (bfs c) 6 _ rfl,d t _ (bfs c) 7 _ rfl⟩
def XO(w:World)(l m:List bn)(v:Value)(wr:World):Prop:=∃i:Nat,i<=l.length/\v=.int .i64 (i:Int)/\(∀j<i,∀x y,l[j]? =some x->m[j]? =some y->x.p=y.p)/\Bw w wr
theorem Xl {l m:List bn}(d:l.length=m.length)(h:∀j<l.length,∀x y,l[j]? =some x->m[j]? =some y->x.p=y.p):l.map bn.p=m.map bn.p:=by
 apply List.ext_getElem?;intro j;rw[bgf,bgf];by_cases a:j<l.length
 ·have b:=bfs a;have c:=bfs (show j<m.length by omega)
  rw[b,c];exact congrArg some (h j a _ _ b c)
 rw[bgk (by omega),bgk (by omega)]
theorem Td(w:World)(aa ba:Option Addr)(ca cb:Nat)(l m:List bn)(hA:dS w aa l)(b:dS w ba m)(gA:∀x∈l,di w x/\x.p.a.top.length<=1000000)(gB:∀x∈m,di w x/\x.p.a.top.length<=1000000)(hl:l.length<=1000000)(hm:m.length<=1000000):
  Calls prog 94 #[.slice aa l.length ca,.slice ba m.length cb,.func (.func 95) #[] #[]] w (Below0 w (.bool (decide (l.map bn.p=m.map bn.p)))):=by
 obtain⟨n,hN⟩:=Nm (l.length);obtain⟨k,hK⟩:=Nm (m.length);obtain⟨P,hP⟩:=Nm (Below0 w (.bool (decide (l.map bn.p=m.map bn.p))));rw[<-hP,<-hN,<-hK];have Yk:Hid (∀u,¬l.map bn.p=m.map bn.p->Bw w u->P (.returned (.bool false)) u):=Lh (λu h b=>by rw[hP,bfq h];exact⟨rfl,b⟩)
 have XY:Hid (∀u,l.map bn.p=m.map bn.p->Bw w u->P (.returned (.bool true)) u):=Lh (λu h b=>by rw[hP,bfr h];exact⟨rfl,b⟩)
 have HA:=Lh hA;have Oe:=Lh b;have Oj:=Lh gA;have Ol:=Lh gB;have ak:n<=1000000:=by omega
 have al:k<=1000000:=by omega
 have d:Hid (n=l.length/\k=m.length):=Lh ⟨hN,hK⟩;clear hN hK hA b gA gB hl hm hP;by_cases ad:n=k
 ·subst ad;go_enter func94,ntmps94;go_wp2_with fail;go_loopw[17] (XO w l m) (λv _=>n-(intOf v).toNat)
  case atStart=>exact⟨0,bgi _,rfl,λj h=>absurd h (Nat.not_lt_zero _),Br⟩
  case round=>
   obtain⟨i,hi,rfl,ae,b⟩:=hrel;rw[<-d.out.1]at hi;have c:=Lh (bfy ae b);clear ae b;by_cases o:i<n
   ·have am:(0:Int)<=(i:Int)/\(i:Int)<(n:Int):=by omega
    obtain⟨x,pa,oa,hx,ag,c0,c1,c2,c3,c4,c5,c6,c7⟩:=(HA.out.below c.out.2).get (t:=i) (by rw[<-d.out.1];exact o)
    subst ag;have HX:=Lh (bfy (Oj.out x (bf3 hx)) hx);have HI:=Lh (bfy o hi);clear hx hi o;obtain⟨⟨⟨D,E,F⟩,⟨I,J,K,L,M⟩,N⟩,O,Q,R,S⟩:=x;simp only at c0 c1 c2 c3 c4 c5 c6 c7;go_upto_region 5 with fail;refine bg4 ?_
    iterate 15 go_step
    refine bg6 rfl _ _ _ rfl wr.heap.size (bn.mk ⟨⟨D,E,F⟩,⟨I,J,K,L,M⟩,N⟩ O Q R S).cells rfl rfl 131 dh.cells (bg5 wr _) fK rfl (fV _) ?_;obtain⟨q,U⟩:=Nm ((wr.alloc (Obj.cells #[.string ⟨#[]⟩,.int .i64 0,.int .i64 0,.int .i64 0,.int .i64 0,.slice none 0 0,.complex .f64 0 0,.int .i64 0] 131)).setRow wr.heap.size (bn.mk ⟨⟨D,E,F⟩,⟨I,J,K,L,M⟩,N⟩ O Q R S).cells);obtain⟨xb,Y⟩:=Nm (wr.heap.size);have X3:Hid (dw q xb (bn.mk ⟨⟨D,E,F⟩,⟨I,J,K,L,M⟩,N⟩ O Q R S)/\Bw wr q):=by
     obtain⟨k1,k2⟩:=jk wr (bn.mk ⟨⟨D,E,F⟩,⟨I,J,K,L,M⟩,N⟩ O Q R S);rw[U,Y];exact Lh ⟨k1,k2⟩
    rw[<-U,<-Y];clear U Y;clear c0 c1 c2 c3 c4 c5 c6 c7;obtain⟨y,pc,oc,hy,ah,c0,c1,c2,c3,c4,c5,c6,c7⟩:=(Oe.out.below (c.out.2.trans (X3.out.2.mono c.out.2.size))).get (t:=i) (by rw[<-d.out.2];exact HI.out.1)
    subst ah;have HY:=Lh (bfy (Ol.out y (bf3 hy)) hy);clear hy;obtain⟨⟨⟨Z,yl,yh⟩,⟨yn,ya,yt,yu,yv⟩,yr⟩,YK,yz,YN,ZN⟩:=y;simp only at c0 c1 c2 c3 c4 c5 c6 c7;go_upto_region 6 with fail;refine bg4 ?_
    iterate 15 go_step
    refine bg6 rfl _ _ _ rfl q.heap.size (bn.mk ⟨⟨Z,yl,yh⟩,⟨yn,ya,yt,yu,yv⟩,yr⟩ YK yz YN ZN).cells rfl rfl 131 dh.cells (bg5 q _) fK rfl (fV _) ?_;obtain⟨wy,ab⟩:=Nm ((q.alloc (Obj.cells #[.string ⟨#[]⟩,.int .i64 0,.int .i64 0,.int .i64 0,.int .i64 0,.slice none 0 0,.complex .f64 0 0,.int .i64 0] 131)).setRow q.heap.size (bn.mk ⟨⟨Z,yl,yh⟩,⟨yn,ya,yt,yu,yv⟩,yr⟩ YK yz YN ZN).cells);obtain⟨yb,ac⟩:=Nm (q.heap.size);have oQ:Hid (dw wy yb (bn.mk ⟨⟨Z,yl,yh⟩,⟨yn,ya,yt,yu,yv⟩,yr⟩ YK yz YN ZN)/\Bw q wy):=by
     obtain⟨k1,k2⟩:=jk q (bn.mk ⟨⟨Z,yl,yh⟩,⟨yn,ya,yt,yu,yv⟩,yr⟩ YK yz YN ZN);rw[ab,ac];exact Lh ⟨k1,k2⟩
    rw[<-ab,<-ac];clear ab ac;clear c0 c1 c2 c3 c4 c5 c6 c7;have s:Hid (Bw w wy):=Lh ((c.out.2.trans (X3.out.2.mono c.out.2.size)).trans (oQ.out.2.mono (c.out.2.trans (X3.out.2.mono c.out.2.size)).size));obtain⟨r,hr⟩:=Nm (J6 (bn.mk ⟨⟨D,E,F⟩,⟨I,J,K,L,M⟩,N⟩ O Q R S).p (bn.mk ⟨⟨Z,yl,yh⟩,⟨yn,ya,yt,yu,yv⟩,yr⟩ YK yz YN ZN).p);have HC:Hid (Calls prog 95 #[.agg (bn.mk ⟨⟨D,E,F⟩,⟨I,J,K,L,M⟩,N⟩ O Q R S).cells,.agg (bn.mk ⟨⟨Z,yl,yh⟩,⟨yn,ya,yt,yu,yv⟩,yr⟩ YK yz YN ZN).cells] wy (Below0 wy (.bool r))):=by
     rw[hr];exact Lh (CZ wy _ _ (HX.out.1.1.below s.out) (HY.out.1.1.below s.out) HX.out.1.2 HY.out.1.2)
    have YP:Hid (r=true↔(bn.mk ⟨⟨D,E,F⟩,⟨I,J,K,L,M⟩,N⟩ O Q R S).p=(bn.mk ⟨⟨Z,yl,yh⟩,⟨yn,ya,yt,yu,yv⟩,yr⟩ YK yz YN ZN).p):=by rw[hr];exact Lh (Ri _ _)
    clear hr;unfold bn.cells at HC;obtain⟨e0,e1,e2,e3,e4,e5,e6,e7⟩:=(X3.out.1.below oQ.out.2).d8;obtain⟨f0,f1,f2,f3,f4,f5,f6,f7⟩:=oQ.out.1.d8
    cases r with
    | false=>
     go_wp2_with fail;refine HC.out.mono ?_;rintro e w3 ⟨rfl,b⟩;have HZ:=Lh (Tb s.out b);clear b e0 e1 e2 e3 e4 e5 e6 e7 f0 f1 f2 f3 f4 f5 f6 f7;dsimp only;go_wp2_with fail;refine Yk.out _ (λh=>?_) HZ.out;have h3:=congrArg (λz=>z[i]?) h;simp only[bgf,HX.out.2,HY.out.2,Option.map_some,bf5]at h3;exact absurd (YP.out.2 h3) (by simp)
    | true=>
     go_wp2_with fail;refine HC.out.mono ?_;rintro e w3 ⟨rfl,b⟩;have HZ:=Lh (Tb s.out b);clear b e0 e1 e2 e3 e4 e5 e6 e7 f0 f1 f2 f3 f4 f5 f6 f7;dsimp only;go_wp2_with fail;refine⟨⟨i+1,by rw[<-d.out.1];exact HI.out.1,rfl,λj hj x' y' h1 h2=>?_,HZ.out⟩,by rw[dO,dO];have:=HI.out.1;omega⟩
     rcases bg1 j i with af | af
     ·exact c.out.1 j af x' y' h1 h2
     obtain rfl:j=i:=by omega
     have e1:=h1.symm.trans HX.out.2;have e2:=h2.symm.trans HY.out.2;cases e1
     cases e2
     exact YP.out.1 trivial
   obtain rfl:i=n:=by omega
   clear o;go_wp2_with fail;exact XY.out _ (Xl (d.out.1.symm.trans d.out.2) (λj hj=>c.out.1 j (by rw[d.out.1];exact hj))) c.out.2
 have ai:¬(n:Int)=(k:Int):=by omega
 have aj:((n:Int) !=(k:Int))=true:=bne_iff_ne.2 ai;go_enter func94,ntmps94;go_wp2_with fail;refine Yk.out _ (λh=>ad ?_) Br;have h3:=congrArg List.length h;rw[bfz,bfz,<-d.out.1,<-d.out.2]at h3;exact h3
theorem dZ.get {w:World} {a:Option Addr} {l:List bH}(h:dZ w a l) {t:Nat}(c:t<l.length):∃x b o,l[t]? =some x/\a=some ⟨b,o,none⟩/\w.cell? ⟨b,o+t*10,none⟩=some (.bool x.o.late)/\w.cell? ⟨b,o+t*10+1,none⟩=some (.int .i64 x.o.item.kind)/\w.cell? ⟨b,o+t*10+2,none⟩=some (Sv x.o.item.key)/\w.cell? ⟨b,o+t*10+3,none⟩=some (.int .i64 x.o.item.time)/\w.cell? ⟨b,o+t*10+4,none⟩=some (.int .i64 x.o.item.value)/\w.cell? ⟨b,o+t*10+5,none⟩=some (Sv x.o.w.key)/\w.cell? ⟨b,o+t*10+6,none⟩=some (.int .i64 x.o.w.lo)/\w.cell? ⟨b,o+t*10+7,none⟩=some (.int .i64 x.o.w.hi)/\w.cell? ⟨b,o+t*10+8,none⟩=some (.int .i64 x.o.r)/\w.cell? ⟨b,o+t*10+9,none⟩=some (x.tv):=by
 rcases h with h | ⟨b,o,h,d⟩
 ·rw[h]at c;simp at c
 exact⟨l[t],b,o,bfs c,h,d t _ (bfs c) 0 _ rfl,d t _ (bfs c) 1 _ rfl,d t _ (bfs c) 2 _ rfl,d t _ (bfs c) 3 _ rfl,d t _ (bfs c) 4 _ rfl,d t _ (bfs c) 5 _ rfl,d t _ (bfs c) 6 _ rfl,d t _ (bfs c) 7 _ rfl,d t _ (bfs c) 8 _ rfl,d t _ (bfs c) 9 _ rfl⟩
def XN(w:World)(l m:List bH)(v:Value)(wr:World):Prop:=∃i:Nat,i<=l.length/\v=.int .i64 (i:Int)/\(∀j<i,∀x y,l[j]? =some x->m[j]? =some y->x.o=y.o)/\Bw w wr
theorem Xk {l m:List bH}(d:l.length=m.length)(h:∀j<l.length,∀x y,l[j]? =some x->m[j]? =some y->x.o=y.o):l.map bH.o=m.map bH.o:=by
 apply List.ext_getElem?;intro j;rw[bgf,bgf];by_cases a:j<l.length
 ·have b:=bfs a;have c:=bfs (show j<m.length by omega)
  rw[b,c];exact congrArg some (h j a _ _ b c)
 rw[bgk (by omega),bgk (by omega)]
theorem Tc(w:World)(aa ba:Option Addr)(ca cb:Nat)(l m:List bH)(hA:dZ w aa l)(a:dZ w ba m)(gA:∀x∈l,dL w x/\x.o.v.length<=1000000)(gB:∀x∈m,dL w x/\x.o.v.length<=1000000)(hl:l.length<=1000000)(hm:m.length<=1000000):
  Calls prog 86 #[.slice aa l.length ca,.slice ba m.length cb,.func (.func 87) #[] #[]] w (Below0 w (.bool (decide (l.map bH.o=m.map bH.o)))):=by
 obtain⟨n,hN⟩:=Nm (l.length);obtain⟨k,hK⟩:=Nm (m.length);obtain⟨P,hP⟩:=Nm (Below0 w (.bool (decide (l.map bH.o=m.map bH.o))));rw[<-hP,<-hN,<-hK];have Yk:Hid (∀u,¬l.map bH.o=m.map bH.o->Bw w u->P (.returned (.bool false)) u):=Lh (λu h a=>by rw[hP,bfq h];exact⟨rfl,a⟩)
 have XY:Hid (∀u,l.map bH.o=m.map bH.o->Bw w u->P (.returned (.bool true)) u):=Lh (λu h a=>by rw[hP,bfr h];exact⟨rfl,a⟩)
 have HA:=Lh hA;have Oe:=Lh a;have Oj:=Lh gA;have Ol:=Lh gB;have ak:n<=1000000:=by omega
 have al:k<=1000000:=by omega
 have d:Hid (n=l.length/\k=m.length):=Lh ⟨hN,hK⟩;clear hN hK hA a gA gB hl hm hP;by_cases ad:n=k
 ·subst ad;go_enter func86,ntmps86;go_wp2_with fail;go_loopw[17] (XN w l m) (λv _=>n-(intOf v).toNat)
  case atStart=>exact⟨0,bgi _,rfl,λj h=>absurd h (Nat.not_lt_zero _),Br⟩
  case round=>
   obtain⟨i,hi,rfl,ae,a⟩:=hrel;rw[<-d.out.1]at hi;have c:=Lh (bfy ae a);clear ae a;by_cases p:i<n
   ·have am:(0:Int)<=(i:Int)/\(i:Int)<(n:Int):=by omega
    obtain⟨x,pa,oa,hx,ag,c0,c1,c2,c3,c4,c5,c6,c7,c8,c9⟩:=(HA.out.below c.out.2).get (t:=i) (by rw[<-d.out.1];exact p)
    subst ag;have HX:=Lh (bfy (Oj.out x (bf3 hx)) hx);have HI:=Lh (bfy p hi);clear hx hi p;obtain⟨⟨D,⟨E,F,I,b⟩,⟨J,K,L⟩,M,N⟩,O,Q⟩:=x;simp only at c0 c1 c2 c3 c4 c5 c6 c7 c8 c9;go_upto_region 5 with fail;refine bg4 ?_
    iterate 15 go_step
    refine bg6 rfl _ _ _ rfl wr.heap.size (bH.mk ⟨D,⟨E,F,I,b⟩,⟨J,K,L⟩,M,N⟩ O Q).cells rfl rfl 37 dD.cells (bg5 wr _) fE rfl (jl _) ?_;obtain⟨q,R⟩:=Nm ((wr.alloc (Obj.cells #[.bool false,.int .i64 0,.string ⟨#[]⟩,.int .i64 0,.int .i64 0,.string ⟨#[]⟩,.int .i64 0,.int .i64 0,.int .i64 0,.slice none 0 0] 37)).setRow wr.heap.size (bH.mk ⟨D,⟨E,F,I,b⟩,⟨J,K,L⟩,M,N⟩ O Q).cells);obtain⟨xb,S⟩:=Nm (wr.heap.size);have X3:Hid (fH q xb (bH.mk ⟨D,⟨E,F,I,b⟩,⟨J,K,L⟩,M,N⟩ O Q)/\Bw wr q):=by
     obtain⟨k1,k2⟩:=Cc wr (bH.mk ⟨D,⟨E,F,I,b⟩,⟨J,K,L⟩,M,N⟩ O Q);rw[R,S];exact Lh ⟨k1,k2⟩
    rw[<-R,<-S];clear R S;clear c0 c1 c2 c3 c4 c5 c6 c7 c8 c9;obtain⟨y,pc,oc,hy,ah,c0,c1,c2,c3,c4,c5,c6,c7,c8,c9⟩:=(Oe.out.below (c.out.2.trans (X3.out.2.mono c.out.2.size))).get (t:=i) (by rw[<-d.out.2];exact HI.out.1)
    subst ah;have HY:=Lh (bfy (Ol.out y (bf3 hy)) hy);clear hy;obtain⟨⟨U,⟨Y,Z,uw,uy⟩,⟨yk,yl,yh⟩,yr,uB⟩,YK,YN⟩:=y;simp only at c0 c1 c2 c3 c4 c5 c6 c7 c8 c9;go_upto_region 6 with fail;refine bg4 ?_
    iterate 15 go_step
    refine bg6 rfl _ _ _ rfl q.heap.size (bH.mk ⟨U,⟨Y,Z,uw,uy⟩,⟨yk,yl,yh⟩,yr,uB⟩ YK YN).cells rfl rfl 37 dD.cells (bg5 q _) fE rfl (jl _) ?_;obtain⟨wy,ab⟩:=Nm ((q.alloc (Obj.cells #[.bool false,.int .i64 0,.string ⟨#[]⟩,.int .i64 0,.int .i64 0,.string ⟨#[]⟩,.int .i64 0,.int .i64 0,.int .i64 0,.slice none 0 0] 37)).setRow q.heap.size (bH.mk ⟨U,⟨Y,Z,uw,uy⟩,⟨yk,yl,yh⟩,yr,uB⟩ YK YN).cells);obtain⟨yb,ac⟩:=Nm (q.heap.size);have oQ:Hid (fH wy yb (bH.mk ⟨U,⟨Y,Z,uw,uy⟩,⟨yk,yl,yh⟩,yr,uB⟩ YK YN)/\Bw q wy):=by
     obtain⟨k1,k2⟩:=Cc q (bH.mk ⟨U,⟨Y,Z,uw,uy⟩,⟨yk,yl,yh⟩,yr,uB⟩ YK YN);rw[ab,ac];exact Lh ⟨k1,k2⟩
    rw[<-ab,<-ac];clear ab ac;clear c0 c1 c2 c3 c4 c5 c6 c7 c8 c9;have s:Hid (Bw w wy):=Lh ((c.out.2.trans (X3.out.2.mono c.out.2.size)).trans (oQ.out.2.mono (c.out.2.trans (X3.out.2.mono c.out.2.size)).size));obtain⟨r,hr⟩:=Nm (J4 (bH.mk ⟨D,⟨E,F,I,b⟩,⟨J,K,L⟩,M,N⟩ O Q).o (bH.mk ⟨U,⟨Y,Z,uw,uy⟩,⟨yk,yl,yh⟩,yr,uB⟩ YK YN).o);have HC:Hid (Calls prog 87 #[.agg (bH.mk ⟨D,⟨E,F,I,b⟩,⟨J,K,L⟩,M,N⟩ O Q).cells,.agg (bH.mk ⟨U,⟨Y,Z,uw,uy⟩,⟨yk,yl,yh⟩,yr,uB⟩ YK YN).cells] wy (Below0 wy (.bool r))):=by
     rw[hr];exact Lh (Gl wy _ _ (HX.out.1.1.below s.out) (HY.out.1.1.below s.out) HX.out.1.2 HY.out.1.2)
    have YP:Hid (r=true↔(bH.mk ⟨D,⟨E,F,I,b⟩,⟨J,K,L⟩,M,N⟩ O Q).o=(bH.mk ⟨U,⟨Y,Z,uw,uy⟩,⟨yk,yl,yh⟩,yr,uB⟩ YK YN).o):=by rw[hr];exact Lh (DW _ _)
    clear hr;unfold bH.cells at HC;obtain⟨e0,e1,e2,e3,e4,e5,e6,e7,e8,e9⟩:=(X3.out.1.below oQ.out.2).d10;obtain⟨f0,f1,f2,f3,f4,f5,f6,f7,f8,f9⟩:=oQ.out.1.d10
    cases r with
    | false=>
     go_wp2_with fail;refine HC.out.mono ?_;rintro e w3 ⟨rfl,a⟩;have HZ:=Lh (Tb s.out a);clear a e0 e1 e2 e3 e4 e5 e6 e7 e8 e9 f0 f1 f2 f3 f4 f5 f6 f7 f8 f9;dsimp only;go_wp2_with fail;refine Yk.out _ (λh=>?_) HZ.out;have h3:=congrArg (λz=>z[i]?) h;simp only[bgf,HX.out.2,HY.out.2,Option.map_some,bf5]at h3;exact absurd (YP.out.2 h3) (by simp)
    | true=>
     go_wp2_with fail;refine HC.out.mono ?_;rintro e w3 ⟨rfl,a⟩;have HZ:=Lh (Tb s.out a);clear a e0 e1 e2 e3 e4 e5 e6 e7 e8 e9 f0 f1 f2 f3 f4 f5 f6 f7 f8 f9;dsimp only;go_wp2_with fail;refine⟨⟨i+1,by rw[<-d.out.1];exact HI.out.1,rfl,λj hj x' y' h1 h2=>?_,HZ.out⟩,by rw[dO,dO];have:=HI.out.1;omega⟩
     rcases bg1 j i with af | af
     ·exact c.out.1 j af x' y' h1 h2
     obtain rfl:j=i:=by omega
     have e1:=h1.symm.trans HX.out.2;have e2:=h2.symm.trans HY.out.2;cases e1
     cases e2
     exact YP.out.1 trivial
   obtain rfl:i=n:=by omega
   clear p;go_wp2_with fail;exact XY.out _ (Xk (d.out.1.symm.trans d.out.2) (λj hj=>c.out.1 j (by rw[d.out.1];exact hj))) c.out.2
 have ai:¬(n:Int)=(k:Int):=by omega
 have aj:((n:Int) !=(k:Int))=true:=bne_iff_ne.2 ai;go_enter func86,ntmps86;go_wp2_with fail;refine Yk.out _ (λh=>ad ?_) Br;have h3:=congrArg List.length h;rw[bfz,bfz,<-d.out.1,<-d.out.2]at h3;exact h3
end Go.Proofs.YtgfmbkoieacgoaaGreatDoor
set_option maxRecDepth 100000
set_option maxHeartbeats 2000000
namespace Go.Proofs.YtgfmbkoieacgoaaGreatDoor
open Go Go.RowKit Go.Shelf Go.Proofs.Tryz
theorem vJ(w:World)(x y:bf):Calls prog 45 #[.agg x.cells,.agg y.cells] w (λe w'=>e=.returned (.int .i64 (zZ x y))/\Bw w w'/\w.drawn<=w'.drawn):=by
 obtain⟨r,hr⟩:=Nm (zZ x y);rw[<-hr];obtain⟨N,p⟩:=Nm (w.alloc (.cells x.cells 34));obtain⟨l,q⟩:=Nm (w.heap.size);obtain⟨j,d⟩:=Nm (N.alloc (.cells y.cells 34));obtain⟨m,s⟩:=Nm (w.heap.size+1);have U:N.heap.size=w.heap.size+1:=by rw[p];exact bg w _
 have En:Hid (Bw w j):=by
  have Y:=(Below.refl _ w).alloc (bfx _) (.cells x.cells 34);rw[<-p]at Y;rw[d];exact Lh (Y.alloc Y.size _)
 have u:Hid (∀w',Bw j w'->D3 w' l x.key x.lo x.hi/\D3 w' m y.key y.lo y.hi):=by
  have Y:dH N l x:=by rw[p,q];exact bg5 w _
  have h2:dH j m y:=by rw[d,s,<-U];exact bg5 N _
  have h3:Bw N j:=by rw[d];exact(Below.refl _ N).alloc (bfx _) _
  exact Lh (λw' h=>⟨((Y.below h3).below h).d3,(h2.below h).d3⟩)
 have ad:Hid (Bw j j.drew/\j.drawn<=j.drew.drawn):=Lh ⟨(Below.refl _ j).drew,Nat.le_succ _⟩;have ae:Hid (w.drawn=j.drawn):=by rw[d,p];exact Lh rfl
 obtain⟨xk,xl,xh⟩:=x;obtain⟨yk,yl,yh⟩:=y;simp only at u;obtain⟨O,z⟩:=Nm (mD xh yh);obtain⟨Q,D⟩:=Nm (mD xl yl);obtain⟨R,E⟩:=Nm (vZ xk yk);have HR:Hid (r=lN O Q R):=by rw[hr,z,D,E];exact Lh rfl
 have F:Hid ((∀w',Calls prog 102 #[.int .i64 xh,.int .i64 yh] w' λe n=>e=.returned (.int .i64 O)/\n=w')/\(∀w',Calls prog 102 #[.int .i64 xl,.int .i64 yl] w' λe n=>e=.returned (.int .i64 Q)/\n=w')/\(∀w',Calls prog 103 #[Sv xk,Sv yk] w' λe n=>e=.returned (.int .i64 R)/\n=w')):=by
  rw[z,D,E];exact Lh ⟨λw'=>rH w' _ _,λw'=>rH w' _ _,λw'=>Jh w' _ _⟩
 unfold bf.cells at p d ⊢;clear hr z D E;go_enter func45,ntmps45;go_upto_region 1 with fail;rw[<-p,<-d,<-s,<-q];clear p d q s U;refine wp_region_seq_frame (by kernel_rfl) (NoF (NoF (NoF [none,none,none]))) [] (vOfT (stE (.pointer (some ⟨l,2,none⟩))::stE (.int .i64 xh)::stE (.pointer (some ⟨m,2,none⟩))::stE (.int .i64 yh)::stE (.int .i64 O)::stE (.pointer (some ⟨l,1,none⟩))::stE (.int .i64 xl)::stE (.pointer (some ⟨m,1,none⟩))::stE (.int .i64 yl)::stE (.int .i64 Q)::stE (.pointer (some ⟨l,0,none⟩))::stE (Sv xk)::stE (.pointer (some ⟨m,0,none⟩))::stE (Sv yk)::stE (.int .i64 R)::Xr j.heap.size O Q R::stE (.int .i64 r)::stE (.int .i64 r)::([]:List _))) (λ_ w'=>Bw j w'/\j.drawn<=w'.drawn) (λw w'=>Bw w w') (vOfT_st _) (by kernel_rfl) (by kernel_rfl) (by kernel_rfl) ad.out ⟨trivial,trivial,trivial,trivial,trivial,trivial,trivial,trivial,trivial,trivial,trivial,trivial,trivial,trivial,trivial,trivial,trivial,trivial,trivial⟩ ?_ ?_
 ·refine ⟨?_,?_,?_,?_,?_,?_,?_,?_,?_,?_,?_,?_,?_,?_,?_,?_,?_,?_,trivial⟩<;>intro k a w' b o c K S<;>replace o:=Lh o<;>replace c:=Lh c
  have q2:=FaA o 2 l 0;rotate_left;have q5:=Pa a 5 l 2 c.out.1;obtain⟨Z,d1,d2⟩:=(u.out w' b.1).1;rotate_left;have q3:=FaA o 3 m 0;rotate_left;have q7:=Pa a 7 m 2 c.out.1;obtain⟨Z,d1,d2⟩:=(u.out w' b.1).2;rotate_left
  ·have q6:=Pi a 6 xh c.out.1;have q8:=Pi a 8 yh c.out.2.1;have I:=Lh (F.out.1 w');go_step;refine I.out.mono ?_;rintro e J ⟨rfl,L⟩;subst J;exact S _ _ rfl b Br
  have q2:=FaA o 2 l 0;rotate_left;have af:=Pa a 10 l 1 c.out.1;obtain⟨Z,d1,d2⟩:=(u.out w' b.1).1;rotate_left;have q3:=FaA o 3 m 0;rotate_left;have ag:=Pa a 12 m 1 c.out.1;obtain⟨Z,d1,d2⟩:=(u.out w' b.1).2;rotate_left
  ·have q11:=Pi a 11 xl c.out.1;have ah:=Pi a 13 yl c.out.2.1;have I:=Lh (F.out.2.1 w');go_step;refine I.out.mono ?_;rintro e J ⟨rfl,L⟩;subst J;exact S _ _ rfl b Br
  have q2:=FaA o 2 l 0;rotate_left;have ai:=Pa a 15 l 0 c.out.1;obtain⟨Z,d1,d2⟩:=(u.out w' b.1).1;rotate_left;have q3:=FaA o 3 m 0;rotate_left;have aj:=Pa a 17 m 0 c.out.1;obtain⟨Z,d1,d2⟩:=(u.out w' b.1).2;rotate_left
  ·have ak:=Ep a 16 (Sv xk) c.out.1;have al:=Ep a 18 (Sv yk) c.out.2.1;have I:=Lh (F.out.2.2 w');go_step;refine I.out.mono ?_;rintro e J ⟨rfl,L⟩;subst J;exact S _ _ rfl b Br
  ·have q9:=Pi a 9 O c.out.1;have am:=Pi a 14 Q c.out.2.1;have an:=Pi a 19 R c.out.2.2.1;go_step;exact S _ _ ⟨w'.heap.size,rfl,b.1.size,bg5 w' _⟩ ⟨b.1.alloc b.1.size _,b.2⟩ ((Below.refl _ w').alloc (bfx _) _)
  ·obtain ⟨p0,_⟩:=c.out;obtain⟨gg,aa,_,ab⟩:=p0;have q0:=Ep a 20 (.slice (some ⟨gg,0,none⟩) 3 3) aa;have M:=Pj w' gg O Q R ab;rw[<-HR.out]at M;have I:=Lh M;clear M ab aa;go_step;refine I.out.mono ?_;rintro e J ⟨rfl,L⟩;subst J;exact S _ _ rfl b Br
  have ao:=Pi a 21 r c.out.1;rotate_left
  all_goals(go_step;exact S _ _ rfl b Br)
 intro vs n b ac hV
 match vs,ac,hV with
 | [v0,v1,v2,v3,v4,v5,v6,v7,v8,v9,v10,v11,v12,v13,v14,v15,v16,v17],_,hV=>
  obtain rfl:v17=.int .i64 r:=hV 17 4 v17 rfl rfl;clear hV;simp only[putsL,bf7,bf1];simp only[Act.put,bfw,bfu,bfv];have HZ:Hid (Bw w n/\w.drawn<=n.drawn):=Lh ⟨En.out.trans (b.1.mono En.out.size),by rw[ae.out];exact b.2⟩
  clear b;go_wp2_with fail;go_ret;exact⟨rfl,HZ.out⟩
def rf(a b:bf):Prop:=a.hi<b.hi∨a.hi=b.hi/\(a.lo<b.lo∨a.lo=b.lo/\zy a.key b.key=true)
theorem Ba(a b:bf):zZ a b=-1/\rf a b∨zZ a b=0/\a=b∨zZ a b=1/\rf b a:=by
 have h:zZ a b=lN (mD a.hi b.hi) (mD a.lo b.lo) (vZ a.key b.key):=rfl;rcases nM a.hi b.hi with⟨c,d⟩ | ⟨c,d⟩ | ⟨c,d⟩
 ·exact .inl ⟨by rw[h,d];rfl,.inl c⟩
 ·rcases nM a.lo b.lo with⟨e,j⟩ | ⟨e,j⟩ | ⟨e,j⟩
  ·exact .inl ⟨by rw[h,d,j];rfl,.inr ⟨c,.inl e⟩⟩
  ·rcases BJ a.key b.key with⟨l,m⟩ | ⟨l,m⟩ | ⟨l,m⟩
   ·exact .inl ⟨by rw[h,d,j,m];rfl,.inr ⟨c,.inr ⟨e,l⟩⟩⟩
   ·refine .inr (.inl ⟨by rw[h,d,j,m];rfl,?_⟩)
    obtain⟨k,lo,hi⟩:=a;obtain⟨p,n,o⟩:=b;simp only at c e l;rw[c,e,l]
   exact .inr (.inr ⟨by rw[h,d,j,m];rfl,.inr ⟨c.symm,.inr ⟨e.symm,l⟩⟩⟩)
  exact .inr (.inr ⟨by rw[h,d,j];rfl,.inr ⟨c.symm,.inl e⟩⟩)
 exact .inr (.inr ⟨by rw[h,d];rfl,.inl c⟩)
theorem rf.trans {a b c:bf}(h:rf a b)(d:rf b c):rf a c:=by
 unfold rf at*;rcases h with h | ⟨h,j⟩
 ·rcases d with d | ⟨d,_⟩ <;> exact .inl (by omega)
 rcases d with d | ⟨d,e⟩
 ·exact .inl (by omega)
 refine .inr ⟨by omega,?_⟩
 rcases j with n | ⟨n,k⟩
 ·rcases e with l | ⟨l,_⟩ <;> exact .inl (by omega)
 rcases e with l | ⟨l,m⟩
 ·exact .inl (by omega)
 exact .inr ⟨by omega,tC k m⟩
theorem rf.irrefl {a:bf}(h:rf a a):False:=by
 rcases h with h | ⟨_,h | ⟨_,h⟩⟩
 ·omega
 ·omega
 rw[lD]at h;cases h
theorem rf.asymm {a b:bf}(c:rf a b)(d:rf b a):False:=(c.trans d).irrefl
theorem kV(a b:bf):zZ a b<0↔rf a b:=by
 rcases Ba a b with⟨e,h⟩ | ⟨e,rfl⟩ | ⟨e,h⟩
 ·exact⟨λ_=>h,λ_=>by omega⟩
 ·exact⟨λh=>by omega,λh=>h.irrefl.elim⟩
 exact⟨λh=>by omega,λc=>(h.asymm c).elim⟩
theorem vO {a b:bf}(h:a≠b):rf a b∨rf b a:=by
 rcases Ba a b with⟨_,c⟩ | ⟨_,rfl⟩ | ⟨_,c⟩
 ·exact .inl c
 ·exact(h rfl).elim
 exact .inr c
def zU(x y:dE):Prop:=rf x.w y.w
theorem DC(l:List dE)(p:dE):(rO l p).Perm (p::l):=by
 induction l with
 | nil=>exact List.Perm.refl _
 | cons x l ih=>
  unfold rO
  split
  ·exact List.Perm.refl _
  exact(ih.cons x).trans (List.Perm.swap p x l)
theorem Jr {l:List dE} {p:dE}(b:l.Pairwise zU)(e:∀x∈l,x.w≠p.w):(rO l p).Pairwise zU:=by
 induction l with
 | nil=>simp[rO]
 | cons x l ih=>
  rw[List.pairwise_cons]at b;unfold rO
  split
  ·rename_i h;have c:zU p x:=(kV _ _).1 h;rw[List.pairwise_cons,List.pairwise_cons];refine⟨λy a=>?_,b⟩;rcases List.mem_cons.1 a with rfl | a
   ·exact c
   exact c.trans (b.1 y a)
  rename_i h;have d:zU x p:=(vO (e x (by simp))).resolve_right λj=>h ((kV _ _).2 j)
  rw[List.pairwise_cons];refine⟨λy a=>?_,ih b.2 (λz k=>e z (by simp[k]))⟩
  rcases List.mem_cons.1 ((DC l p).mem_iff.1 a)with rfl | a
  ·exact d
  exact b.1 y a
theorem Cb:∀(l out:List dE),out.Pairwise zU->((out++l).map dE.w).Nodup->(l.foldl rO out).Pairwise zU/\(l.foldl rO out).Perm (out++l)
 | [],out,hs,_=>⟨hs,by simp⟩
 | p::l,out,hs,hn=>by
  have c:∀x∈out,x.w≠p.w:=λx d e=>by
   rw[bgl,List.nodup_append]at hn;exact hn.2.2 x.w (List.mem_map.2 ⟨x,d,rfl⟩) p.w (by simp) e
  have b:(rO out p++l).Perm (out++p::l):=by
   refine((DC out p).append_right l).trans ?_;exact(List.perm_middle (l₁:=out) (a:=p) (l₂:=l)).symm
  have h:=Cb l (rO out p) (Jr hs c) ((b.map dE.w).nodup_iff.2 hn);exact⟨h.1,h.2.trans b⟩
theorem Nq {l:List dE}(b:(l.map dE.w).Nodup):(lX l).Pairwise zU/\(lX l).Perm l:=by
 have h:=Cb l [] List.Pairwise.nil (by simpa using b)
 have a:=h.2;rw[List.nil_append]at a;exact⟨h.1,a⟩
theorem DZ {l m:List dE}(e:(l.map dE.w).Nodup)(j:m.Perm l)(k:m.Pairwise (λa b=>¬zU b a)):m=lX l:=by
 obtain⟨n,o⟩:=Nq e;have c:(m.map dE.w).Nodup:=(j.map dE.w).nodup_iff.2 e;refine kY (R:=zU) (λa h=>rf.irrefl h) (λa b h d=>rf.asymm h d) ?_ n (λx=>j.mem_iff.trans o.mem_iff.symm);have p:m.Pairwise (λa b=>a.w≠b.w):=List.pairwise_map.1 c;exact(k.and p).imp λ⟨h,d⟩=>(vO d).resolve_right h
instance:Inhabited bH:=⟨dD⟩
def mi(x:bH):List Value:=[.bool x.o.late,.int .i64 x.o.item.kind,Sv x.o.item.key,.int .i64 x.o.item.time,.int .i64 x.o.item.value,Sv x.o.w.key,.int .i64 x.o.w.lo,.int .i64 x.o.w.hi,.int .i64 x.o.r,x.tv]
theorem vV(x:bH):(mi x).toArray=x.cells:=rfl
def CS(x y:bH):Int:=zZ x.o.w y.o.w
theorem rW(x y:bH):ltOf CS x y=decide (zZ x.o.w y.o.w<0):=rfl
theorem Pz:Sort.SWO (ltOf CS) where
 irrefl x:=by rw[rW];exact bfq λh=>((kV _ _).1 h).irrefl
 trans x y z h1 h2:=by
  rw[rW]at*;exact bfr ((kV _ _).2 (((kV _ _).1 (bgh h1)).trans ((kV _ _).1 (bgh h2))))
 ntrans x y z h1 h2:=by
  rw[rW]at*;refine bfq λh=>?_;have b:=of_decide_eq_false h1;have a:=of_decide_eq_false h2;rw[kV]at b a h;by_cases e:x.o.w=y.o.w
  ·rw[e]at h;exact a h
  have c:=(vO e).resolve_left b;exact a (c.trans h)
theorem NZ {w w':World}(h:Bw w w')(n:w.drawn<=w'.drawn):∃q b,w'=Sort.grow (w.drewN q) b:=by
 refine⟨w'.drawn-w.drawn,w'.heap.extract w.heap.size w'.heap.size,?_⟩;obtain⟨c,d,e,o,j⟩:=h;obtain⟨l,y,z,b,D⟩:=w;obtain⟨a,p,r,s,u⟩:=w';simp only at c d e o j n;subst c d e;have x:a=l++a.extract l.size a.size:=by
  apply Array.ext_getElem?;intro k;rw[Array.getElem?_append]
  split
  ·rename_i m;exact j k m
  rename_i m;rw[Array.getElem?_extract]
  split
  ·congr 1
   omega
  rw[Array.getElem?_eq_none (by omega)]
 unfold Sort.grow World.drewN;simp only[World.mk.injEq,true_and,and_true];exact⟨x,by omega⟩
theorem nX(l:List bH):(Sort.flatK mi 10 l.toArray).toList=fF l:=by
 apply List.ext_getElem?;intro t;by_cases a:t<l.length*10
 ·have c:t / 10<l.length:=by omega
  have j:l[t / 10]? =some l[t / 10]:=bfs c;have d:(Sort.flatK mi 10 l.toArray).size=l.length*10:=by rw[Sort.size_flatK];rfl
  have k:t % 10<10:=by omega
  have e:=vP l (t / 10) _ (t % 10) ((mi l[t / 10])[t % 10]!) j (by
   have b:(mi l[t / 10]).length=10:=rfl;rw[<-vV,List.getElem?_toArray,getElem!_pos _ _ (by rw[b];exact k)]
   exact bfs _)
  rw[show t / 10*10+t % 10=t by omega]at e
  rw[e,Array.getElem?_toList];have h:=Sort.get_flatK mi 10 l.toArray t (by simpa using a)
  rw[getElem!_pos _ _ (by rw[d];exact a)]at h
  rw[bgm (by rw[d];exact a),h]
  congr 3
  rw[getElem!_pos _ _ (by simpa using c)]
  rfl
 rw[bgk,bgk]
 ·rw[jM];omega
 rw[bgq,Sort.size_flatK];simp;omega
theorem vG(F a:Array Value)(h:F.size<=a.size):(Sort.putCells id 0 F a).toList.take F.size=F.toList:=by
 apply List.ext_getElem?;intro k;rw[List.getElem?_take]
 split
 ·rename_i b;rw[Array.getElem?_toList,Array.getElem?_toList];unfold Sort.putCells;rw[Array.getElem?_mapIdx,bgm (by omega),Option.map_some,if_pos (by omega),Nat.sub_zero,getElem!_pos F k b,bgm b]
  rfl
 rename_i b;rw[bgk (by rw[bgq];omega)]
theorem vF(F a:Array Value):(Sort.putCells id 0 F a).size=a.size:=by simp[Sort.putCells]
theorem JJ(w:World)(x y:bH):Calls prog 189 #[.agg x.cells,.agg y.cells] w (λe w'=>e=.returned (.int .i64 (CS x y))/\Bw w w'/\w.drawn<=w'.drawn):=by
 obtain⟨r,l⟩:=Nm (CS x y);rw[<-l];obtain⟨b,a⟩:=Nm ((w.alloc (.cells x.cells 37)).alloc (.cells y.cells 37));obtain⟨K,c⟩:=Nm (w.heap.size);obtain⟨L,d⟩:=Nm (w.heap.size+1);have k:Hid (fH b K x/\fH b L y/\Bw w b):=by rw[a,c,d];exact Lh (KR w x y)
 have m:Hid (Calls prog 45 #[.agg x.o.w.cells,.agg y.o.w.cells] b (λe w'=>e=.returned (.int .i64 r)/\Bw b w'/\b.drawn<=w'.drawn)):=by
  rw[l];exact Lh (vJ b x.o.w y.o.w)
 have h:Hid (Bw w b/\w.drawn=b.drawn):=by refine Lh ⟨k.out.2.2,?_⟩;rw[a];rfl
 have j:(w.alloc (.cells x.cells 37)).heap.size=w.heap.size+1:=bg w _;clear l;obtain⟨⟨p,⟨ik,XV,it,iv⟩,⟨xk,xl,xh⟩,rd,lv⟩,tv,ht⟩:=x;obtain⟨⟨n,⟨M,iU,N,O⟩,⟨Q,R,S⟩,U,Y⟩,Z,aa⟩:=y;obtain⟨e0,e1,e2,e3,e4,q,s,u,e8,e9⟩:=k.out.1.d10;obtain⟨f0,f1,f2,f3,f4,z,D,E,f8,f9⟩:=k.out.2.1.d10;unfold bH.cells at a j ⊢;unfold bf.cells at m;simp only at a j m q s u z D E;clear k e0 e1 e2 e3 e4 e8 e9 f0 f1 f2 f3 f4 f8 f9;go_enter func189,ntmps189;go_upto_region 1 with fail;rw[<-a,<-d,<-c];clear a d c j;go_wp2_with fail;refine m.out.mono ?_;rintro e F ⟨rfl,I,J⟩;have HZ:Hid (Bw w F/\w.drawn<=F.drawn):=Lh ⟨h.out.1.trans (I.mono h.out.1.size),by rw[h.out.2];exact J⟩
 clear I J q s u z D E;dsimp only;go_wp2_with fail;go_ret;exact⟨rfl,HZ.out⟩
def GY(w:World)(base:Nat)(v:Value)(l:List bH)(e:Ending)(w':World):Prop:=
 e=.returned (.tuple #[])/\∃l',l'.Perm l/\l'.Pairwise (λa b=>¬zZ b.o.w a.o.w<0)/\fU w' base v l'/\w.grownBy w' v.ownBlock
theorem Ro(w:World)(u:Nat)(v:Value)(l:List bH)(F:fU w u v l)(hn:l.length<=1000000):
  Calls prog 43 #[v,.func (.func 189) #[] #[]] w (GY w u v l):=by
 have EP:=F;by_cases h0:l.length=0
 ·obtain rfl:l=[]:=bg3 h0;obtain⟨a,c,rfl,_,_⟩:=F.form;refine(AnyF.slices_SortFunc_none Tryz.lX a c (.func (.func 189) #[] #[]) w).mono ?_;rintro e Q ⟨rfl,hw⟩;subst Q;exact⟨rfl,[],List.Perm.nil,List.Pairwise.nil,EP,⟨rfl,rfl,rfl,bfx _,λ_ _ _=>rfl⟩⟩
 obtain⟨g,c,rfl,hb,M⟩:=World.ownsRow.form F (by omega)
 obtain⟨b,X8,p,ab,z,D⟩:∃b:Array Value,w.heap[g]? =some (.cells b 37 (0,0))/\b.size=c*10/\b.toList.take (l.length*10)=fF l/\l.length<=c/\c<=maxLen:=by
  rcases F.2 with⟨N,_⟩ | ⟨g',aa,b,N,_,M,z,D,p,E⟩
  ·simp at N
  simp only[Value.slice.injEq,bf5,Addr.mk.injEq,and_true]at N;obtain⟨rfl,_,rfl⟩:=N;exact⟨b,M,p,E,z,D⟩
 have R:(Sort.flatK mi 10 l.toArray).size=l.length*10:=by rw[Sort.size_flatK];rfl
 have hH:Sort.HoldsK mi 10 w g 0 l.toArray:=by
  intro j r;rw[R]at r;refine⟨?_,frozen_of_row w g (0+j) b _ X8⟩;have O:=World.ownsRow.cellAt F j r;rw[bgu,O,<-nX,Array.getElem?_toList,bgm (by rw[R];exact r),getElem!_pos (Sort.flatK mi 10 l.toArray) j (by rw[R];exact r)]
  rfl
 have I:CmpLays prog 189 #[] mi 10 CS g 0 l.toArray.size w:=by
  intro m os dk _ x y;refine(JJ _ x y).mono ?_;rintro e Q ⟨rfl,hB,hD⟩;obtain⟨q,S,hq⟩:=NZ hB hD;exact⟨rfl,q,S,hq⟩
 have eg:∀args w,(callFunc 189 args).run prog w=.ok (.enter 189 args) w:=enters_of func189 (by kernel_rfl) rfl
 have J:=AnyQ.slices_SortFunc Tryz.lX 10 Tryz.isAgg37 sizeOf37 mi (λ_=>rfl) (λx v hv=>Array.all_eq_true'.1 (jl x) v (by rw[<-vV];simpa using hv)) CS Pz 189 #[] g 0 c l.toArray w eg I hH M (by simp;omega)
 refine J.mono ?_;rintro e Q ⟨rfl,d,n,os,hp,hs,rfl⟩;obtain⟨p1,_,p3⟩:=hp;have s:d.size=l.length:=by rw[p1];rfl
 have o:d.toList.Perm l:=by
  have e1:d.extract 0 l.toArray.size=d:=by rw[<-p1];simp
  have e2:l.toArray.extract 0 l.toArray.size=l.toArray:=by simp
  rw[e1,e2]at p3;exact p3
 have K:(Sort.flatK mi 10 d).size=l.length*10:=by rw[Sort.size_flatK,s]
 have L:(sortWorldK mi 10 w g 0 n d os).heap[g]? =some (.cells (Sort.putCells id 0 (Sort.flatK mi 10 d) b) 37 (0,0)):=by
  unfold sortWorldK Sort.grow Sort.putRowK Sort.putRow Sort.mapBlock Sort.ahead;simp only;rw[Array.getElem?_append,if_pos (by simpa using M),Array.getElem?_modify,if_pos rfl,X8]
  rfl
 refine⟨rfl,d.toList,o,?_,⟨?_,.inr ⟨g,c,_,?_,hb,L,?_,D,?_,?_⟩⟩,⟨rfl,rfl,rfl,?_,λk hk U=>?_⟩⟩
 ·rw[bgr];intro i j hi r Y;rw[bgq]at hi r;have h:=hs i j (bgi _) Y (by rw[s]at r;simpa using r)
  rw[rW,decide_eq_false_iff_not,getElem!_pos d i hi,getElem!_pos d j r]at h;simpa using h
 ·rw[jM]
 ·show Value.slice _ l.length c=Value.slice _ d.toList.length c;rw[show d.toList.length=l.length from o.length_eq]
 ·rw[bgq,s];exact z
 ·rw[vF,p]
 ·rw[bgq,s];have O:=vG (Sort.flatK mi 10 d) b (by rw[K,p];omega)
  rw[K]at O;rw[O];have:=nX d.toList;simpa using this
 ·unfold sortWorldK Sort.grow Sort.putRowK Sort.putRow Sort.mapBlock Sort.ahead;simp
 have Z:g≠k:=λe=>U (by rw[<-e];rfl)
 unfold sortWorldK Sort.grow Sort.putRowK Sort.putRow Sort.mapBlock Sort.ahead;simp only;rw[Array.getElem?_append,if_pos (by simpa using hk),Array.getElem?_modify,if_neg Z]
open Go Go.RowKit Go.MapKept Go.Proofs.Tryz
def jg:Nat->List bH->List MapEntry
 | _,[]=>[]
 | k,x::l=>⟨.agg x.o.w.cells,.agg x.cells,k⟩::jg (k+1) l
def mY(w:World)(b:Nat)(l:List bH):Prop:=w.heap[b]? =some (.map (jg 0 l).toArray l.length)
def su(W:bf):List bH->Nat->Option Nat
 | [],_=>none
 | x::l,i=>if x.o.w=W then some i else su W l (i+1)
def qK(l:List bH)(x:bH):List bH:=match su x.o.w l 0 with | some i=>l.set i x | none=>l++[x]
theorem FY(k:Nat)(l:List bH)(x:bH):jg k (l++[x])=jg k l++[⟨.agg x.o.w.cells,.agg x.cells,k+l.length⟩]:=by
 induction l generalizing k with
 | nil=>rfl
 | cons y l ih=>
  simp only[List.cons_append,jg,ih,bgy];rw[show k+1+l.length=k+(l.length+1) by omega]
theorem pO(k:Nat)(l:List bH)(i:Nat):(jg k l)[i]? =l[i]?.map (λx=>⟨.agg x.o.w.cells,.agg x.cells,k+i⟩):=by
 induction l generalizing k i with
 | nil=>simp[jg]
 | cons y l ih=>
  cases i with
  | zero=>simp[jg]
  | succ i=>
   simp only[jg,List.getElem?_cons_succ,ih];rw[show k+1+i=k+(i+1) by omega]
theorem wG {W:bf} {l:List bH} {i j:Nat}(h:su W l i=some j):i<=j/\∃x,l[j-i]? =some x/\x.o.w=W:=by
 induction l generalizing i with
 | nil=>cases h
 | cons y l ih=>
  unfold su at h
  split at h
  ·rename_i a;cases h
   exact⟨bfx _,y,by simp,a⟩
  obtain⟨d,x,b,c⟩:=ih h;refine⟨by omega,x,?_,c⟩
  rw[show j-i=(j-(i+1))+1 by omega]
  simpa using b
theorem Nl {W:bf} {l:List bH} {i:Nat}(h:su W l i=none):∀x∈l,x.o.w≠W:=by
 induction l generalizing i with
 | nil=>exact λx a=>by cases a
 | cons y l ih=>
  unfold su at h
  split at h
  ·cases h
  rename_i b;intro x a;rcases List.mem_cons.1 a with rfl | a
  ·exact b
  exact ih h x a
theorem Q5(w:World)(W:bf)(l:List bH)(k i:Nat):
  (Instr.findAsking 34 (.agg W.cells) (jg k l) i).run prog w=.ok ((su W l i).map (λj=>(j,.agg ((l.getD (j-i) dD).cells)))) w:=by
 induction l generalizing k i with
 | nil=>rfl
 | cons x l ih=>
  have c:(Op.equal 34 (.agg W.cells) (.agg x.o.w.cells)).run prog w=.ok (ku W x.o.w) w:=qf w W x.o.w;unfold jg Instr.findAsking;simp only[Sem.run_bind,c,Result.andThen_ok];by_cases a:x.o.w=W
  ·have b:ku W x.o.w=true:=by rw[jY];exact a.symm
   rw[b];simp[su,a]
  have b:ku W x.o.w=false:=by
   cases h:ku W x.o.w with
   | false=>rfl
   | true=>exact absurd ((jY _ _).1 h).symm a
  rw[b];simp only[Bool.false_eq_true,if_false,ih,su,if_neg a]
  cases hs:su W l (i+1)with
  | none=>rfl
  | some j=>
   obtain⟨d,_⟩:=wG hs;simp only[Option.map_some];rw[show j-i=(j-(i+1))+1 by omega]
   simp
theorem BV(w:World)(e:Bool)(W:bf):(Instr.checkKey e 10000 34 (.agg W.cells)).run prog w=.ok () w:=by
 kernel_rfl
theorem P5(s:ByteArray):(s==s)=true:=by
 obtain⟨d⟩:=s
 change (d==d)=true
 exact beq_self_eq_true d
theorem Rj(W:bf):Instr.sameBits 10000 (.agg W.cells) (.agg W.cells)=true:=by
 simp only[Instr.sameBits,bf.cells,Sv,List.zip_cons_cons,List.zip_nil_left,List.all_cons,List.all_nil,Bool.and_true,beq_self_eq_true,bgw];exact P5 _
theorem Q8(w:World)(W:bf):(Instr.keyThatStays (.agg W.cells) (.agg W.cells)).run prog w=.ok (.agg W.cells) w:=by
 unfold Instr.keyThatStays;rw[if_pos (Rj W)];rfl
theorem Gh {l:List bH} {i:Nat} {y x:bH}(b:l[i]? =some y)(_:y.o.w=x.o.w):
  ((jg 0 l).toArray.modify i λe=> { e with key:=.agg x.o.w.cells,val:=.agg x.cells })=(jg 0 (l.set i x)).toArray:=by
 have c:=(List.getElem?_eq_some_iff.1 b).1;refine Array.ext_getElem? λj=>?_;rw[Array.getElem?_modify,List.getElem?_toArray,List.getElem?_toArray,pO,pO,List.getElem?_set];by_cases a:i=j
 ·subst a;simp[c]
 simp[a]
theorem TY {w:World} {b:Nat} {l:List bH}(h:mY w b l)(x:bH):
  ∃w',(Instr.mapUpdate 83 (.map (some b)) (.agg x.o.w.cells) (.agg x.cells)).run prog w=.ok () w'/\mY w' b (qK l x)/\w.grownBy w' (some b):=by
 have n:=underlying83;have p:=Go.MapKept.run_getObj_map (P:=prog) h;have a:=λo=>Go.MapKept.run_setObj_map (P:=prog) o h;have d:(Instr.findKey 34 (.agg x.o.w.cells) (jg 0 l).toArray.toList).run prog w=_:=(run_findKey_eq w (by kernel_rfl) _ _).trans (Q5 w x.o.w l 0 0)
 unfold Instr.mapUpdate
 cases hs:su x.o.w l 0 with
 | none=>
  rw[hs]at d;refine⟨{ w with heap:=w.heap.setIfInBounds b (.map ((jg 0 l).toArray.push ⟨.agg x.o.w.cells,.agg x.cells,l.length⟩) (l.length+1)) },?_,?_,?_⟩
  ·simp only[Sem.run_bind,run_underlying n,Result.andThen_ok,p,BV,d,Option.map_none,a]
  ·have e:qK l x=l++[x]:=by unfold qK;rw[hs]
   unfold mY;rw[(heap_set h).1,e,FY];simp
  exact⟨rfl,rfl,rfl,by simp,λk m c=>(heap_set h).2 k (λe=>c (by rw[e]))⟩
 | some i=>
  rw[hs]at d;obtain⟨-,y,j,q⟩:=wG hs;rw[Nat.sub_zero]at j;have r:=(List.getElem?_eq_some_iff.1 j).1;refine⟨{ w with heap:=w.heap.setIfInBounds b (.map ((jg 0 l).toArray.modify i λe=> { e with key:=.agg x.o.w.cells,val:=.agg x.cells }) l.length) },?_,?_,?_⟩
  ·have m:(((jg 0 l).toArray[i]?).map (·.key)).getD (.agg x.o.w.cells)=.agg x.o.w.cells:=by
    rw[List.getElem?_toArray,pO,j];simp[q]
   simp only[Sem.run_bind,run_underlying n,Result.andThen_ok,p,BV,d,Option.map_some,m,Q8,a]
  ·have e:qK l x=l.set i x:=by unfold qK;rw[hs]
   unfold mY;rw[(heap_set h).1,e,List.length_set];rw[Gh j q]
  exact⟨rfl,rfl,rfl,by simp,λk m c=>(heap_set h).2 k (λe=>c (by rw[e]))⟩
open Go Go.RowKit Go.MapKept Go.Proofs.Tryz
open Go.ChangeMaps (setBlock)
theorem mY.lt {w:World} {b:Nat} {l:List bH}(h:mY w b l):b<w.heap.size:=(Array.getElem?_eq_some_iff.1 h).1
theorem mY.grown {w w':World} {b:Nat} {l:List bH} {row:Option Nat}(h:mY w b l)(c:w.grownBy w' row)(a:some b≠row):mY w' b l:=(c.block b h.lt a).trans h
theorem mY.below {w w':World} {b:Nat} {l:List bH}(h:mY w b l)(a:Bw w w'):mY w' b l:=(a.block b h.lt).trans h
def nS(w:World)(r b n:Nat)(js:List Nat):Prop:=∃c,n<=c/\w.heap[r]? =some (.mapIter (some b) n js.toArray c)
theorem nS.lt {w:World} {r b n:Nat} {a:List Nat}(h:nS w r b n a):r<w.heap.size:=by
 obtain⟨_,_,h⟩:=h;exact(Array.getElem?_eq_some_iff.1 h).1
theorem nS.grown {w w':World} {r b n:Nat} {d:List Nat} {row:Option Nat}(h:nS w r b n d)(e:w.grownBy w' row)(a:some r≠row):nS w' r b n d:=by
 have j:=h.lt;obtain⟨c,k,l⟩:=h;exact⟨c,k,(e.block r j a).trans l⟩
theorem nS.below {w w':World} {r b n:Nat} {a:List Nat}(h:nS w r b n a)(d:Bw w w'):nS w' r b n a:=by
 have e:=h.lt;obtain⟨c,j,k⟩:=h;exact⟨c,j,(d.block r e).trans k⟩
theorem Du {k:Nat} {l:List bH} {e:MapEntry}(h:e∈jg k l):∃i x,l[i]? =some x/\e=⟨.agg x.o.w.cells,.agg x.cells,k+i⟩:=by
 obtain⟨i,a⟩:=List.getElem?_of_mem h;rw[pO]at a;obtain⟨x,b,c⟩:=Option.map_eq_some_iff.1 a;exact⟨i,x,b,c.symm⟩
theorem LD(k:Nat)(l:List bH):(jg k l).map (·.born)=List.range' k l.length:=by
 induction l generalizing k with
 | nil=>rfl
 | cons x l ih=>simp[jg,ih,List.range'_succ]
theorem Nj {w:World} {b:Nat} {l:List bH}(h:mY w b l):
  (Instr.range 83 (.map (some b))).run prog w=.ok (.pointer (some ⟨w.heap.size,0,none⟩)) (w.alloc (.mapIter (some b) l.length #[] l.length)):=run_range_map w _ _ _ b _ _ underlying83 h
theorem Q7 {w:World} {b r:Nat} {l:List bH} {a:List Nat}(h:mY w b l)(L:nS w r b l.length a)(ty:TypeId):
  ((∀j<l.length,j∈a)/\(Instr.next (.pointer (some ⟨r,0,none⟩)) false ty).run prog w=.ok (.tuple #[.bool false]) w)∨
  ∃j x w',j ∉ a/\l[j]? =some x/\(Instr.next (.pointer (some ⟨r,0,none⟩)) false ty).run prog w=.ok (.tuple #[.bool true,.agg x.o.w.cells,.agg x.cells]) w'/\mY w' b l/\nS w' r b l.length (a++[j])/\
   w.grownBy w' (some r)/\w'.heap.size=w.heap.size/\(Instr.entry (.pointer (some ⟨r,0,none⟩))).run prog w'=.ok (.tuple #[.agg x.o.w.cells,.agg x.cells]) w':=by
 obtain⟨c,M,u⟩:=L;have z:r≠b:=by
  intro e;rw[e]at u;rw[mY,u]at h;cases h
 have hold:∀x∈(jg 0 l).toArray.toList,x.born<l.length:=λe y=>by
  obtain⟨i,x,p,rfl⟩:=Du y;have:=(List.getElem?_eq_some_iff.1 p).1;simp only[bgu];exact this
 have D:((jg 0 l).toArray.toList.map (·.born)).Nodup:=by
  show((jg 0 l).map (·.born)).Nodup
  rw[LD];exact List.nodup_range'
 rcases run_next_at (P:=prog) w ty r b l.length c a.toArray _ _ u h hold M with⟨N,d⟩ | ⟨e,y,E,m,d⟩
 ·refine .inl ⟨λj O=>?_,d⟩;obtain⟨x,p⟩:∃x,l[j]? =some x:=⟨_,bfs O⟩;have Q:(⟨.agg x.o.w.cells,.agg x.cells,0+j⟩:MapEntry)∈(jg 0 l).toArray:=by
   rw[List.mem_toArray];refine bf3 (i:=j) ?_;rw[pO,p];rfl
  by_cases q:j∈a
  ·exact q
  have K:(⟨.agg x.o.w.cells,.agg x.cells,0+j⟩:MapEntry)∈leftOf (jg 0 l).toArray a.toArray:=by
   unfold leftOf;rw[Array.mem_filter];exact⟨Q,by simpa using q⟩
  rw[Array.eq_empty_of_size_eq_zero N]at K;simp at K
 have n:e∈(jg 0 l)/\e.born ∉ a:=by
  unfold leftOf at y;simpa using y
 obtain⟨j,x,p,rfl⟩:=Du n.1;simp only[bgu]at n d;have F:E.heap[r]? =some (.mapIter (some b) l.length a.toArray c):=by rcases m with rfl | rfl <;> exact u
 have I:E.heap[b]? =some (.map (jg 0 l).toArray l.length):=by rcases m with rfl | rfl <;> exact h
 have k:=heap_set (o':=.mapIter (some b) l.length (a.toArray.push j) l.length) F;have s:(setBlock E r (.mapIter (some b) l.length (a.toArray.push j) l.length)).heap[b]? =some (.map (jg 0 l).toArray l.length):=(k.2 b (λJ=>z J.symm)).trans I;refine .inr ⟨j,x,_,n.2,p,d,s,⟨l.length,bfx _,?_⟩,?_,?_,?_⟩
 ·have e:(a++[j]).toArray=a.toArray.push j:=by simp
  rw[e];exact k.1
 ·rcases m with rfl | rfl <;> exact⟨rfl,rfl,rfl,Nat.le_of_eq (Array.size_setIfInBounds ..).symm,λi _ R=>k.2 i (λJ=>R (by rw[J]))⟩
 ·rcases m with rfl | rfl <;> exact Array.size_setIfInBounds ..
 exact run_entry_at (P:=prog) _ r b l.length a.toArray _ _ ⟨.agg x.o.w.cells,.agg x.cells,j⟩ k.1 s n.1 D
theorem G5 {n:Nat} {a:List Nat}(b:a.Nodup)(c:∀j∈a,j<n)(d:∀j<n,j∈a):a.Perm (List.range n):=
 (List.perm_ext_iff_of_nodup b List.nodup_range).2 λj=>⟨λh=>List.mem_range.2 (c j h),λh=>d j (List.mem_range.1 h)⟩
theorem BF(l:List bH):(List.range l.length).map (λj=>(l.getD j dD).o)=l.map bH.o:=by
 apply List.ext_getElem
 ·simp
 intro i b a;simp at b a;simp[List.getD,a]
open Go Go.RowKit Go.Shelf Go.Proofs.Tryz
theorem ML(w:World)(x y:bH):Calls prog 44 #[.agg x.cells,.agg y.cells] w (λe w'=>e=.returned (.int .i64 (CS x y))/\Bw w w'/\w.drawn<=w'.drawn):=by
 obtain⟨r,l⟩:=Nm (CS x y);rw[<-l];obtain⟨b,a⟩:=Nm ((w.alloc (.cells x.cells 37)).alloc (.cells y.cells 37));obtain⟨K,c⟩:=Nm (w.heap.size);obtain⟨L,d⟩:=Nm (w.heap.size+1);have k:Hid (fH b K x/\fH b L y/\Bw w b):=by rw[a,c,d];exact Lh (KR w x y)
 have m:Hid (Calls prog 45 #[.agg x.o.w.cells,.agg y.o.w.cells] b (λe w'=>e=.returned (.int .i64 r)/\Bw b w'/\b.drawn<=w'.drawn)):=by
  rw[l];exact Lh (vJ b x.o.w y.o.w)
 have h:Hid (Bw w b/\w.drawn=b.drawn):=by refine Lh ⟨k.out.2.2,?_⟩;rw[a];rfl
 have j:(w.alloc (.cells x.cells 37)).heap.size=w.heap.size+1:=bg w _;clear l;obtain⟨⟨p,⟨ik,XV,it,iv⟩,⟨xk,xl,xh⟩,rd,lv⟩,tv,ht⟩:=x;obtain⟨⟨n,⟨M,iU,N,O⟩,⟨Q,R,S⟩,U,Y⟩,Z,aa⟩:=y;obtain⟨e0,e1,e2,e3,e4,q,s,u,e8,e9⟩:=k.out.1.d10;obtain⟨f0,f1,f2,f3,f4,z,D,E,f8,f9⟩:=k.out.2.1.d10;unfold bH.cells at a j ⊢;unfold bf.cells at m;simp only at a j m q s u z D E;clear k e0 e1 e2 e3 e4 e8 e9 f0 f1 f2 f3 f4 f8 f9;go_enter func44,ntmps44;go_upto_region 1 with fail;rw[<-a,<-d,<-c];clear a d c j;go_wp2_with fail;refine m.out.mono ?_;rintro e F ⟨rfl,I,J⟩;have HZ:Hid (Bw w F/\w.drawn<=F.drawn):=Lh ⟨h.out.1.trans (I.mono h.out.1.size),by rw[h.out.2];exact J⟩
 clear I J q s u z D E;dsimp only;go_wp2_with fail;go_ret;exact⟨rfl,HZ.out⟩
theorem Rk(w:World)(u:Nat)(v:Value)(l:List bH)(F:fU w u v l)(hn:l.length<=1000000):
  Calls prog 43 #[v,.func (.func 44) #[] #[]] w (GY w u v l):=by
 have EP:=F;by_cases h0:l.length=0
 ·obtain rfl:l=[]:=bg3 h0;obtain⟨a,c,rfl,_,_⟩:=F.form;refine(AnyF.slices_SortFunc_none Tryz.lX a c (.func (.func 44) #[] #[]) w).mono ?_;rintro e Q ⟨rfl,hw⟩;subst Q;exact⟨rfl,[],List.Perm.nil,List.Pairwise.nil,EP,⟨rfl,rfl,rfl,bfx _,λ_ _ _=>rfl⟩⟩
 obtain⟨g,c,rfl,hb,M⟩:=World.ownsRow.form F (by omega)
 obtain⟨b,X8,p,ab,z,D⟩:∃b:Array Value,w.heap[g]? =some (.cells b 37 (0,0))/\b.size=c*10/\b.toList.take (l.length*10)=fF l/\l.length<=c/\c<=maxLen:=by
  rcases F.2 with⟨N,_⟩ | ⟨g',aa,b,N,_,M,z,D,p,E⟩
  ·simp at N
  simp only[Value.slice.injEq,bf5,Addr.mk.injEq,and_true]at N;obtain⟨rfl,_,rfl⟩:=N;exact⟨b,M,p,E,z,D⟩
 have R:(Sort.flatK mi 10 l.toArray).size=l.length*10:=by rw[Sort.size_flatK];rfl
 have hH:Sort.HoldsK mi 10 w g 0 l.toArray:=by
  intro j r;rw[R]at r;refine⟨?_,frozen_of_row w g (0+j) b _ X8⟩;have O:=World.ownsRow.cellAt F j r;rw[bgu,O,<-nX,Array.getElem?_toList,bgm (by rw[R];exact r),getElem!_pos (Sort.flatK mi 10 l.toArray) j (by rw[R];exact r)]
  rfl
 have I:CmpLays prog 44 #[] mi 10 CS g 0 l.toArray.size w:=by
  intro m os dk _ x y;refine(ML _ x y).mono ?_;rintro e Q ⟨rfl,hB,hD⟩;obtain⟨q,S,hq⟩:=NZ hB hD;exact⟨rfl,q,S,hq⟩
 have eg:∀args w,(callFunc 44 args).run prog w=.ok (.enter 44 args) w:=enters_of func44 (by kernel_rfl) rfl
 have J:=AnyQ.slices_SortFunc Tryz.lX 10 Tryz.isAgg37 sizeOf37 mi (λ_=>rfl) (λx v hv=>Array.all_eq_true'.1 (jl x) v (by rw[<-vV];simpa using hv)) CS Pz 44 #[] g 0 c l.toArray w eg I hH M (by simp;omega)
 refine J.mono ?_;rintro e Q ⟨rfl,d,n,os,hp,hs,rfl⟩;obtain⟨p1,_,p3⟩:=hp;have s:d.size=l.length:=by rw[p1];rfl
 have o:d.toList.Perm l:=by
  have e1:d.extract 0 l.toArray.size=d:=by rw[<-p1];simp
  have e2:l.toArray.extract 0 l.toArray.size=l.toArray:=by simp
  rw[e1,e2]at p3;exact p3
 have K:(Sort.flatK mi 10 d).size=l.length*10:=by rw[Sort.size_flatK,s]
 have L:(sortWorldK mi 10 w g 0 n d os).heap[g]? =some (.cells (Sort.putCells id 0 (Sort.flatK mi 10 d) b) 37 (0,0)):=by
  unfold sortWorldK Sort.grow Sort.putRowK Sort.putRow Sort.mapBlock Sort.ahead;simp only;rw[Array.getElem?_append,if_pos (by simpa using M),Array.getElem?_modify,if_pos rfl,X8]
  rfl
 refine⟨rfl,d.toList,o,?_,⟨?_,.inr ⟨g,c,_,?_,hb,L,?_,D,?_,?_⟩⟩,⟨rfl,rfl,rfl,?_,λk hk U=>?_⟩⟩
 ·rw[bgr];intro i j hi r Y;rw[bgq]at hi r;have h:=hs i j (bgi _) Y (by rw[s]at r;simpa using r)
  rw[rW,decide_eq_false_iff_not,getElem!_pos d i hi,getElem!_pos d j r]at h;simpa using h
 ·rw[jM]
 ·show Value.slice _ l.length c=Value.slice _ d.toList.length c;rw[show d.toList.length=l.length from o.length_eq]
 ·rw[bgq,s];exact z
 ·rw[vF,p]
 ·rw[bgq,s];have O:=vG (Sort.flatK mi 10 d) b (by rw[K,p];omega)
  rw[K]at O;rw[O];have:=nX d.toList;simpa using this
 ·unfold sortWorldK Sort.grow Sort.putRowK Sort.putRow Sort.mapBlock Sort.ahead;simp
 have Z:g≠k:=λe=>U (by rw[<-e];rfl)
 unfold sortWorldK Sort.grow Sort.putRowK Sort.putRow Sort.mapBlock Sort.ahead;simp only;rw[Array.getElem?_append,if_pos (by simpa using hk),Array.getElem?_modify,if_neg Z]
open Go Go.RowKit Go.Proofs.Tryz
theorem QD:∀(n:Nat) (j:Nat) (u:Value),(cO (List.replicate n bF))[j]? =some u->(madeCells #[.string ⟨#[]⟩,.int .i64 0,.int .i64 0] (n*3)).toList[j]? =some u:=by
 intro n j u b;have c:=(List.getElem?_eq_some_iff.1 b).1;rw[dX,List.length_replicate]at c;have k:(List.replicate n bF)[j / 3]? =some bF:=by rw[List.getElem?_replicate,if_pos (by omega)]
 have d:j % 3<3:=Nat.mod_lt _ (by decide)
 obtain⟨v,a⟩:∃v,bF.cells[j % 3]? =some v:=⟨_,bgm (show j % 3<bF.cells.size from d)⟩;have h:=vS _ (j / 3) _ (j % 3) v k a;rw[show j / 3*3+j % 3=j by omega,b]at h
 cases h
 have e:(madeCells #[.string ⟨#[]⟩,.int .i64 0,.int .i64 0] (n*3)).toList[j]? =some (#[Value.string ⟨#[]⟩,.int .i64 0,.int .i64 0][j % 3]!):=by
  rw[Array.getElem?_toList];unfold madeCells;simp;refine⟨j,?_,rfl⟩;rw[bgm (by simpa using c)]
  simp
 rw[e];have:bF.cells=#[Value.string ⟨#[]⟩,.int .i64 0,.int .i64 0]:=rfl;rw[this]at a
 match j % 3,d,a with
 | 0,_,a=>exact a
 | 1,_,a=>exact a
 | 2,_,a=>exact a
theorem made_zeros(n:Nat):(madeCells (Value.agg #[.string ⟨#[]⟩,.int .i64 0,.int .i64 0]).cells (n*3)).toList=cO (List.replicate n bF):=by
 apply List.ext_getElem?;intro j;show(madeCells #[.string ⟨#[]⟩,.int .i64 0,.int .i64 0] (n*3)).toList[j]? =_
 cases h:(cO (List.replicate n bF))[j]? with
 | some u=>exact QD n j u h
 | none=>
  have a:=List.getElem?_eq_none_iff.1 h;rw[dX,List.length_replicate]at a;rw[List.getElem?_eq_none_iff,bgq,size_madeCells];exact a
theorem GV(w:World) {h:Array Oper} {d:List Oper} {o:Oper} {a:Act} {Q:Exit->Act->World->Prop}(s:o.guard=none)(l c:Operand)(m:o.op=Op.makeSlice 115 l c)
  (b:Nat) (n:Nat) (u:a.eval l=.int .i64 (n:Int)) (x:a.eval c=.int .i64 (n:Int)) (J:n<=1000000) (y:b<=w.heap.size)
  (D:∀w',dQ w' b (.slice (some ⟨w.heap.size,0,none⟩) n n) (List.replicate n bF)->Bw w w'->wpList prog h Q d (a.put o.dst (.slice (some ⟨w.heap.size,0,none⟩) n n)) w'):wpList prog h Q (o::d) a w:=by
 obtain⟨i,E,p,q,r⟩:=info_parts (P:=prog) (e:=34) (z:=.agg #[.string ⟨#[]⟩,.int .i64 0,.int .i64 0]) (size:=3) (bytes:=32) (by kernel_rfl)
 refine wpList_make_full w s l c 115 m b 34 i _ 3 underlying115 E p q .i64 .i64 _ _ n u x rfl rfl (by rw[r];omega) (by unfold maxLen;omega) y ?_
 intro w' F j;refine D w' ?_ ⟨j.os,j.tape,j.output,j.size,λk I=>j.block k I (by simp)⟩
 unfold dQ;rw[List.length_replicate,<-made_zeros];exact F
theorem Ku {e:Array Oper} {b:List Oper} {o:Oper} {a:Act} {w:World} {Q:Exit->Act->World->Prop}(k:o.guard=none)(x y:Operand)(m:o.op=.store 34 x y) {d g c n i:Nat} {l:List bf}(u:bf)
  (j:dQ w d (.slice (some ⟨g,0,none⟩) n c) l) (p:n=l.length) (q:i<n) (r:a.eval x=.pointer (some ⟨g,i*3,none⟩)) (s:a.eval y=.agg u.cells)
  (h:∀w',dQ w' d (.slice (some ⟨g,0,none⟩) n c) (l.set i u)->w.grownBy w' (some g)->wpList prog e Q b (a.put o.dst undef) w'):wpList prog e Q (o::b) a w:=
 wpList_plain k λ_ z=>VM x y m u j p q r s (λw' D E=>z _ _ (h w' D E))
def nz(l:List bf)(i:Nat):List bf:=l.take i++List.replicate (l.length-i) bF
theorem FZ {l:List bf} {i:Nat}(h:i<=l.length):(nz l i).length=l.length:=by
 rw[nz,bft,bga,List.length_replicate];omega
theorem LM(l:List bf):nz l 0=List.replicate l.length bF:=by simp[nz]
theorem Qp(l:List bf):nz l l.length=l:=by simp[nz]
theorem Qq {l:List bf} {i:Nat} {x:bf}(h:l[i]? =some x):(nz l i).set i x=nz l (i+1):=by
 have b:=(List.getElem?_eq_some_iff.1 h).1;have e:l.length-i=(l.length-(i+1))+1:=by omega
 have a:(l.take i).length=i:=by rw[bga];omega
 rw[nz,nz,List.take_add_one,h,e,List.replicate_succ,List.set_append_right _ _ (by omega),a,Nat.sub_self,bfv]
 simp
def WRel(w:World)(g:Nat)(ws:List bf)(v:Value)(wr:World):Prop:=∃i:Nat,i<=ws.length/\v=.int .i64 (i:Int)/\dQ wr w.heap.size (.slice (some ⟨g,0,none⟩) ws.length ws.length) (nz ws i)/\Bw w wr
theorem xq(w:World)(sa:Option Addr)(sc:Nat)(l:List bn)(hA:dS w sa l)(hn:l.length<=1000000):
  Calls prog 182 #[.slice sa l.length sc] w (qm w (l.map λx=>x.p.w)):=by
 obtain⟨n,E⟩:=Nm (l.length);obtain⟨a,b⟩:=Nm (l.map λx=>x.p.w);obtain⟨P,hP⟩:=Nm (qm w a);rw[<-b,<-hP,<-E];have r:a.length=n:=by rw[b,bfz,E]
 have XY:Hid (∀F g,dQ F w.heap.size (.slice (some ⟨g,0,none⟩) n n) a->Bw w F->P (.returned (.slice (some ⟨g,0,none⟩) n n)) F):=Lh (λF g h I=>by rw[hP];exact⟨_,rfl,h,I⟩)
 have HA:=Lh hA;have aa:n<=1000000:=by omega
 have d:Hid (n=l.length/\a.length=n):=Lh ⟨E,r⟩;have HW:Hid (∀(i:Nat) (x:bn),l[i]? =some x->a[i]? =some x.p.w):=Lh (λi x h=>by rw[b,bgf,h];rfl)
 clear E hA hn hP b r;go_enter func182,ntmps182;go_upto_region 1 with fail;refine bg4 ?_
 iterate 6 go_step
 refine GV w rfl _ _ rfl w.heap.size n rfl rfl aa (bfx _) ?_;intro w1 o J;obtain⟨g,K⟩:=Nm (w.heap.size);have uG:Hid (dQ w1 w.heap.size (.slice (some ⟨g,0,none⟩) n n) (nz a 0)/\Bw w w1):=by
  rw[LM,d.out.2];rw[<-K]at o;rw[K]at o ⊢;exact Lh ⟨o,J⟩
 rw[<-K];clear o J K;go_wp2_with fail;go_loopw[11] (WRel w g a) (λv _=>n-(intOf v).toNat)
 case atStart=>exact⟨0,bgi _,rfl,by rw[d.out.2];exact uG.out.1,uG.out.2⟩
 case round=>
  obtain⟨i,hi,rfl,hO,I⟩:=hrel;rw[d.out.2]at hi hO;have q:=Lh (bfy hO I);clear hO I;by_cases j:i<n
  ·have ad:(0:Int)<=(i:Int)/\(i:Int)<(n:Int):=by omega
   obtain⟨x,pa,oa,hx,ab,c0,c1,c2,c3,c4,c5,c6,c7⟩:=(HA.out.below q.out.2).get (t:=i) (by rw[<-d.out.1];exact j)
   subst ab;have HX:=Lh (HW.out i x hx);have s:=Lh (bfy j hi);clear hx hi j;obtain⟨⟨⟨u,y,z⟩,⟨L,M,N,O,Q⟩,R⟩,S,U,Y,Z⟩:=x;simp only at c0 c1 c2 c3 c4 c5 c6 c7;go_upto_region 4 with fail;refine bg4 ?_
   iterate 15 go_step
   refine bg6 rfl _ _ _ rfl wr.heap.size (bn.mk ⟨⟨u,y,z⟩,⟨L,M,N,O,Q⟩,R⟩ S U Y Z).cells rfl rfl 131 dh.cells (bg5 wr _) fK rfl (fV _) ?_;obtain⟨wx,k⟩:=Nm ((wr.alloc (Obj.cells #[.string ⟨#[]⟩,.int .i64 0,.int .i64 0,.int .i64 0,.int .i64 0,.slice none 0 0,.complex .f64 0 0,.int .i64 0] 131)).setRow wr.heap.size (bn.mk ⟨⟨u,y,z⟩,⟨L,M,N,O,Q⟩,R⟩ S U Y Z).cells);obtain⟨xb,m⟩:=Nm (wr.heap.size);have X3:Hid (dw wx xb (bn.mk ⟨⟨u,y,z⟩,⟨L,M,N,O,Q⟩,R⟩ S U Y Z)/\Bw wr wx):=by
    obtain⟨o,J⟩:=jk wr (bn.mk ⟨⟨u,y,z⟩,⟨L,M,N,O,Q⟩,R⟩ S U Y Z);rw[k,m];exact Lh ⟨o,J⟩
   rw[<-k,<-m];clear k m c0 c1 c2 c3 c4 c5 c6 c7;have ed:Hid (dQ wx w.heap.size (.slice (some ⟨g,0,none⟩) n n) (nz a i)/\Bw w wx):=Lh ⟨q.out.1.far X3.out.2,q.out.2.trans (X3.out.2.mono q.out.2.size)⟩;obtain⟨e0,e1,e2,_⟩:=X3.out.1.d8;have ac:=s.out.1;go_upto_region 5 with fail;refine bg4 ?_
   iterate 15 go_step
   refine Ku (i:=i) (c:=n) (n:=n) (g:=g) rfl _ _ rfl ⟨u,y,z⟩ ed.out.1 (by rw[FZ (by rw[d.out.2];exact s.out.2),d.out.2]) s.out.1 (by first | rfl | (dsimp only;rfl) | trace_state) rfl ?_
   intro w3 j1 j2;have D:Hid (dQ w3 w.heap.size (.slice (some ⟨g,0,none⟩) n n) (nz a (i+1))/\Bw w w3):=by
    rw[Qq HX.out]at j1;exact Lh ⟨j1,ed.out.2.trans (ed.out.1.below j2 ed.out.2.size)⟩
   clear j1 j2 e0 e1 e2 ac;go_wp2_with fail;refine⟨⟨i+1,by rw[d.out.2];exact s.out.1,rfl,by rw[d.out.2];exact D.out.1,D.out.2⟩,by rw[dO,dO];have:=s.out.1;omega⟩
  obtain rfl:i=n:=by omega
  clear j;go_wp2_with fail;refine XY.out _ _ ?_ q.out.2;have h:=q.out.1;have e:nz a i=a:=by rw[<-d.out.2];exact Qp a
  rw[e]at h;exact h
theorem BK {l:List bf}(h:∀j,0<j->j<l.length->bK (sO l (j-1)) (sO l j)):l.Pairwise bK:=by
 refine List.pairwise_iff_getElem.2 λi j b m e=>?_;have a:∀i (h:i<l.length),sO l i=l[i]:=λi h=>fJ (bfs h);have far:∀d i (b:i+d+1<l.length),bK (l[i]'(by omega)) l[i+d+1]:=by
  intro d
  induction d with
  | zero=>
   intro i b;have:=h (i+1) (by omega) b
   rwa [a _ b,Nat.add_sub_cancel,a i (by omega)]at this
  | succ d ih=>
   intro i b;have k:=ih i (by omega)
   have c:=h (i+(d+1)+1) (by omega) b
   rw[a _ b,Nat.add_sub_cancel,a (i+(d+1)) (by omega)]at c
   exact k.trans c
 have:=far (j-i-1) i (by omega)
 simpa[show i+(j-i-1)+1=j by omega]using this
def Xd(w:World)(ws:List bf)(v:Value)(wr:World):Prop:=∃i:Nat,1<=i/\i<=ws.length+1/\v=.int .i64 (i:Int)/\(∀j,0<j->j<i->j<ws.length->bK (sO ws (j-1)) (sO ws j))/\Bw w wr
theorem JM(w:World)(q:bu)(sa:Option Addr)(D:Nat)(l:List bn)(hA:dS w sa l)(hk:∀x∈l,x.p.w.key.length<=1000000)(hn:l.length<=1000000):
  Calls prog 133 #[.agg q.cells,.slice sa l.length D] w (Below0 w (.bool (fG q (l.map bn.p)))):=by
 have mixed:prog.follows .mixedOrders=true:=by kernel_rfl
 obtain⟨n,hN⟩:=Nm (l.length);obtain⟨z,E⟩:=Nm (l.map λx=>x.p.w);have af:z.length=n:=by rw[E,bfz,hN]
 have he:gJ (l.map bn.p)=z:=by rw[E,gJ,List.map_map];rfl
 obtain⟨P,hP⟩:=Nm (Below0 w (.bool (fG q (l.map bn.p))));rw[<-hP,<-hN];have HS:Hid (∀M,q.kind=3->Bw w M->P (.returned (.bool (decide (dM z)))) M):=Lh (λM h r=>by rw[hP,fG,if_pos h,he];exact⟨rfl,r⟩)
 have Yk:Hid (∀M,q.kind≠3->¬z.Pairwise bK->Bw w M->P (.returned (.bool false)) M):=Lh (λM h h' r=>by rw[hP,fG,if_neg h,he,bfq h'];exact⟨rfl,r⟩)
 have XY:Hid (∀M,q.kind≠3->z.Pairwise bK->Bw w M->P (.returned (.bool true)) M):=Lh (λM h h' r=>by rw[hP,fG,if_neg h,he,bfr h'];exact⟨rfl,r⟩)
 obtain⟨w1,F⟩:=Nm (w.alloc (.cells q.cells 23));obtain⟨qb,XW⟩:=Nm (w.heap.size);have H1:Hid (dB w1 qb q/\Bw w w1):=by rw[F,XW];exact Lh (Hl w q)
 have HA:Hid (dS w1 sa l):=Lh (hA.below H1.out.2);have ak:n<=1000000:=by omega
 have L:Hid (n=l.length/\z.length=n):=Lh ⟨hN,af⟩;have HW:Hid (∀(i:Nat) (x:bn),l[i]? =some x->z[i]? =some x.p.w):=Lh (λi x h=>by rw[E,bgf,h];rfl)
 have Es:Hid (∀b,Bw w1 b->Calls prog 182 #[.slice sa n D] b (qm b z)):=by
  rw[E,hN];exact Lh (λb h=>xq b sa D l (HA.out.below h) hn)
 have ag:Hid (∀b a c,fZ b a z->Calls prog 181 #[.slice a z.length c] b (Below0 b (.bool (decide (dM z))))):=Lh (λb a c h=>xI b a c z h (λx hx=>by
  rw[E]at hx;obtain⟨y,hy,rfl⟩:=List.mem_map.1 hx;exact hk y hy) (by omega))
 clear hN hA hn hP E af he hk;obtain⟨kind,size,al,aC,agg,kq⟩:=q;unfold bu.cells at F ⊢;simp only at HS Yk XY;obtain⟨d0,d1,d2,d3,d4,d5⟩:=H1.out.1.d6;simp only at d0 d1 d2 d3 d4 d5;by_cases s:kind=3
 ·subst s;go_enter func133,ntmps133;go_upto_region 1 with fail;rw[<-F,<-XW];clear F XW;go_wp2_with fail;refine(Es.out w1 Br).mono ?_;rintro e w2 ⟨v,rfl,hO,r⟩;obtain⟨a,c,rfl,hc,hW⟩:=hO.form;have am:=Lh (H1.out.2.trans (r.mono H1.out.2.size));have an:=Lh (ag.out w2 a c hW);clear r hO hW hc d0 d1 d2 d3 d4 d5;dsimp only;go_wp2_with fail;refine an.out.mono ?_;rintro e w3 ⟨rfl,r⟩;have ao:=Lh (Tb am.out r);clear r;dsimp only;go_wp2_with fail;exact HS.out _ (by simp) ao.out
 have o8:(kind==3)=false:=by simpa using s
 have HK:=Lh s;clear s HS Es ag;go_enter func133,ntmps133;go_upto_region 1 with fail;rw[<-F,<-XW];clear F XW;go_wp2_with fail;clear d0 d1 d2 d3 d4 d5;go_loopw[5] (Xd w1 z) (λv _=>n+1-(intOf v).toNat)
 case atStart=>exact⟨1,bfx _,by omega,rfl,λj h h'=>by omega,Br⟩
 case round=>
  obtain⟨i,ah,hi,rfl,aa,r⟩:=hrel;rw[L.out.2]at hi aa;have R:=Lh (bfy aa r);clear aa r;by_cases S:i<n
  ·have N:(1:Int)<=(i:Int)/\(i:Int)<(n:Int):=by omega
   obtain⟨m,rfl⟩:∃m,i=m+1:=⟨i - 1,by omega⟩
   obtain⟨x,d,k,hx,ap,_⟩:=HA.out.get (t:=m) (by rw[<-L.out.1];omega)
   obtain⟨y,pc,oc,hy,ar,_⟩:=HA.out.get (t:=m+1) (by rw[<-L.out.1];omega)
   subst ap;have HX:=Lh (HW.out m x hx);have HY:=Lh (HW.out (m+1) y hy);obtain⟨xw,ab⟩:=Nm (x.p.w);obtain⟨yw,iT⟩:=Nm (y.p.w);have Zv:Hid (∀b,Bw wr b->b.cell? ⟨d,k+m*8,none⟩=some (Sv xw.key)/\b.cell? ⟨d,k+m*8+1,none⟩=some (.int .i64 xw.lo)/\b.cell? ⟨d,k+m*8+2,none⟩=some (.int .i64 xw.hi)):=Lh (λb h=>by
    obtain⟨x',b',o',O,ac,c⟩:=((HA.out.below R.out.2).below (h.mono (bfx _))).get (t:=m) (by rw[<-L.out.1];omega)
    rw[hx]at O;cases O
    cases ac
    rw[ab];exact⟨c.1,c.2.1,c.2.2.1⟩)
   have ad:Hid (∀b,Bw wr b->b.cell? ⟨d,k+(m+1)*8,none⟩=some (Sv yw.key)/\b.cell? ⟨d,k+(m+1)*8+1,none⟩=some (.int .i64 yw.lo)/\b.cell? ⟨d,k+(m+1)*8+2,none⟩=some (.int .i64 yw.hi)):=Lh (λb h=>by
    obtain⟨x',b',o',O,ac,c⟩:=((HA.out.below R.out.2).below (h.mono (bfx _))).get (t:=m+1) (by rw[<-L.out.1];omega)
    rw[hy]at O;cases O
    cases ac
    rw[iT];exact⟨c.1,c.2.1,c.2.2.1⟩)
   obtain⟨p,hp⟩:=Nm (jm xw yw);obtain⟨VX,YV⟩:=Nm (Value.agg xw.cells);obtain⟨VY,ZU⟩:=Nm (Value.agg yw.cells);have aJ:Hid (∀b,Calls prog 183 #[VX,VY] b (Below0 b (.int .i64 p))):=by
    rw[hp,YV,ZU];exact Lh (λb=>nO b xw yw)
   have eu:Hid (p<0↔bK (sO z m) (sO z (m+1))):=by
    rw[hp,fJ HX.out,fJ HY.out,<-ab,<-iT];exact Lh (jQ _ _)
   have HI:=Lh S;obtain⟨xk,xl,xh⟩:=xw;obtain⟨yk,yl,yh⟩:=yw;have ZQ:Hid (VX=.agg #[Sv xk,.int .i64 xl,.int .i64 xh]):=Lh YV;have iG:Hid (VY=.agg #[Sv yk,.int .i64 yl,.int .i64 yh]):=Lh ZU;simp only at Zv ad;have AO:Hid (((m+1:Nat):Int)-1=(m:Int)/\(0:Int)<=((m+1:Nat):Int)/\((m+1:Nat):Int)<=1000000):=Lh (by have:=ak;omega)
   have ai:Hid ((0:Int)<=(m:Int)/\(m:Int)<(n:Int)):=Lh (by omega)
   have aj:=Lh N;clear hx hy ar ab iT hp YV ZU hi S ah HX HY;by_cases U:p<0
   ·have I:decide (0<=p)=false:=bfq (by omega)
    have HG:=Lh I;have OH:=Lh (eu.out.1 U);clear U I eu;go_upto_region 6 with fail;have ae:Hid (Bw wr wr.drew):=Lh (Below.refl _ wr).drew;refine wp_region_skip_frame (λi=>([]:List Nat).contains i) (by kernel_rfl) (NoF (NoF [none,none,none])) [] (λi_ _ _ v_=>v_=(((Value.slice (some ⟨d,k,none⟩) n D)::(Value.int .i64 ((m+1:Nat):Int))::(Value.int .i64 (m:Int))::(Value.pointer (some ⟨d,k+m*8,none⟩))::(Value.pointer (some ⟨d,k+m*8,none⟩))::VX::(Value.slice (some ⟨d,k,none⟩) n D)::(Value.int .i64 ((m+1:Nat):Int))::(Value.pointer (some ⟨d,k+(m+1)*8,none⟩))::(Value.pointer (some ⟨d,k+(m+1)*8,none⟩))::VY::([.int .i64 p,.bool false]:List Value))).getD i_ undef) (λ_ b=>Bw wr b) (λw b=>Bw w b) (λ_ _ _ _ _ _ h=>h) (by kernel_rfl) (by kernel_rfl) (by kernel_rfl) ae.out (λ_=>⟨rfl,rfl,rfl,rfl,rfl,rfl,rfl,rfl,rfl,rfl,rfl,rfl,rfl,trivial⟩) (λ_ h=>by simp at h) ?_ ?_
    ·refine ⟨?_,?_,?_,?_,?_,?_,?_,?_,?_,?_,?_,?_,?_,trivial⟩<;>intro _ _ a b u J o K Y<;>replace J:=Lh J<;>replace o:=Lh o
     have q1:=FoA J 1 (.slice (some ⟨d,k,none⟩) n D);rotate_left;have q5:=FoA J 5 (.int .i64 ((m+1:Nat):Int));rotate_left;have au:=Ep a 19 (.int .i64 ((m+1:Nat):Int)) o.out.1;have av:=AO.out;rotate_left;have aw:=Ep a 18 (.slice (some ⟨d,k,none⟩) n D) o.out.1;have ax:=Pi a 20 m o.out.2.1;have N:=ai.out;rotate_left;have ay:=Ep a 21 (.pointer (some ⟨d,k+m*8,none⟩)) o.out.1;rotate_left
     ·have az:=Ep a 22 (.pointer (some ⟨d,k+m*8,none⟩)) o.out.1;obtain⟨c0,c1,c2⟩:=Zv.out _ u;go_step;exact Y _ _ ZQ.out.symm u Br
     have q1:=FoA J 1 (.slice (some ⟨d,k,none⟩) n D);rotate_left;have q5:=FoA J 5 (.int .i64 ((m+1:Nat):Int));rotate_left;have aA:=Ep a 24 (.slice (some ⟨d,k,none⟩) n D) o.out.1;have Zq:=Ep a 25 (.int .i64 ((m+1:Nat):Int)) o.out.2.1;have N:=aj.out;rotate_left;have ZM:=Ep a 26 (.pointer (some ⟨d,k+(m+1)*8,none⟩)) o.out.1;rotate_left
     ·have Zz:=Ep a 27 (.pointer (some ⟨d,k+(m+1)*8,none⟩)) o.out.1;obtain⟨c0,c1,c2⟩:=ad.out _ u;go_step;exact Y _ _ iG.out.symm u Br
     ·have aB:=Ep a 23 VX o.out.1;have aT:=Ep a 28 VY o.out.2.1;have HS:=Lh (aJ.out b);go_step;refine HS.out.mono ?_;rintro e w3 ⟨rfl,r⟩;exact Y _ _ rfl (Tb u r) r
     have aU:=Pi a 29 p o.out.1;have hg:=HG.out;rotate_left
     all_goals(go_step;exact Y _ _ rfl u Br)
    intro vs w2 u Q Z
    match vs,Q,Z with
    | [v0,v1,v2,v3,v4,v5,v6,v7,v8,v9,v10,v11,v12],_,Z=>
     obtain rfl:v12=.bool false:=(Z 12 30 v12 rfl rfl);clear Z;simp only[putsL,bf7,bf1];simp only[Act.put,bfw,bfu,bfv];have HZ:=Lh (R.out.2.trans (u.mono R.out.2.size));clear u;go_wp2_with fail;refine⟨⟨m+2,by omega,by rw[L.out.2];have:=HI.out;omega,by go_num,λj h0 h1 h2=>?_,HZ.out⟩,by rw[dO,dO];have:=HI.out;omega⟩
     rcases bg1 j (m+1)with h | h
     ·exact R.out.1 j h0 h (by rw[<-L.out.2];exact h2)
     obtain rfl:j=m+1:=by omega
     exact OH.out
   have I:decide (0<=p)=true:=bfr (by omega)
   have HG:=Lh I;have OH:Hid (¬bK (sO z m) (sO z (m+1))):=Lh (λh=>U (eu.out.2 h));clear U I eu;go_upto_region 6 with fail;have ae:Hid (Bw wr wr.drew):=Lh (Below.refl _ wr).drew;refine wp_region_skip_frame (λi=>([]:List Nat).contains i) (by kernel_rfl) (NoF (NoF [none,none,none])) [] (λi_ _ _ v_=>v_=(((Value.slice (some ⟨d,k,none⟩) n D)::(Value.int .i64 ((m+1:Nat):Int))::(Value.int .i64 (m:Int))::(Value.pointer (some ⟨d,k+m*8,none⟩))::(Value.pointer (some ⟨d,k+m*8,none⟩))::VX::(Value.slice (some ⟨d,k,none⟩) n D)::(Value.int .i64 ((m+1:Nat):Int))::(Value.pointer (some ⟨d,k+(m+1)*8,none⟩))::(Value.pointer (some ⟨d,k+(m+1)*8,none⟩))::VY::([.int .i64 p,.bool true]:List Value))).getD i_ undef) (λ_ b=>Bw wr b) (λw b=>Bw w b) (λ_ _ _ _ _ _ h=>h) (by kernel_rfl) (by kernel_rfl) (by kernel_rfl) ae.out (λ_=>⟨rfl,rfl,rfl,rfl,rfl,rfl,rfl,rfl,rfl,rfl,rfl,rfl,rfl,trivial⟩) (λ_ h=>by simp at h) ?_ ?_
   ·refine ⟨?_,?_,?_,?_,?_,?_,?_,?_,?_,?_,?_,?_,?_,trivial⟩<;>intro _ _ a b u J o K Y<;>replace J:=Lh J<;>replace o:=Lh o
    have q1:=FoA J 1 (.slice (some ⟨d,k,none⟩) n D);rotate_left;have q5:=FoA J 5 (.int .i64 ((m+1:Nat):Int));rotate_left;have au:=Ep a 19 (.int .i64 ((m+1:Nat):Int)) o.out.1;have av:=AO.out;rotate_left;have aw:=Ep a 18 (.slice (some ⟨d,k,none⟩) n D) o.out.1;have ax:=Pi a 20 m o.out.2.1;have N:=ai.out;rotate_left;have ay:=Ep a 21 (.pointer (some ⟨d,k+m*8,none⟩)) o.out.1;rotate_left
    ·have az:=Ep a 22 (.pointer (some ⟨d,k+m*8,none⟩)) o.out.1;obtain⟨c0,c1,c2⟩:=Zv.out _ u;go_step;exact Y _ _ ZQ.out.symm u Br
    have q1:=FoA J 1 (.slice (some ⟨d,k,none⟩) n D);rotate_left;have q5:=FoA J 5 (.int .i64 ((m+1:Nat):Int));rotate_left;have aA:=Ep a 24 (.slice (some ⟨d,k,none⟩) n D) o.out.1;have Zq:=Ep a 25 (.int .i64 ((m+1:Nat):Int)) o.out.2.1;have N:=aj.out;rotate_left;have ZM:=Ep a 26 (.pointer (some ⟨d,k+(m+1)*8,none⟩)) o.out.1;rotate_left
    ·have Zz:=Ep a 27 (.pointer (some ⟨d,k+(m+1)*8,none⟩)) o.out.1;obtain⟨c0,c1,c2⟩:=ad.out _ u;go_step;exact Y _ _ iG.out.symm u Br
    ·have aB:=Ep a 23 VX o.out.1;have aT:=Ep a 28 VY o.out.2.1;have HS:=Lh (aJ.out b);go_step;refine HS.out.mono ?_;rintro e w3 ⟨rfl,r⟩;exact Y _ _ rfl (Tb u r) r
    have aU:=Pi a 29 p o.out.1;have hg:=HG.out;rotate_left
    all_goals(go_step;exact Y _ _ rfl u Br)
   intro vs w2 u Q Z
   match vs,Q,Z with
   | [v0,v1,v2,v3,v4,v5,v6,v7,v8,v9,v10,v11,v12],_,Z=>
    obtain rfl:v12=.bool true:=(Z 12 30 v12 rfl rfl);clear Z;simp only[putsL,bf7,bf1];simp only[Act.put,bfw,bfu,bfv];have HZ:=Lh (R.out.2.trans (u.mono R.out.2.size));clear u;go_wp2_with fail;refine Yk.out _ HK.out (λh=>OH.out ?_) (H1.out.2.trans (HZ.out.mono H1.out.2.size));have h1:=List.pairwise_iff_getElem.1 h m (m+1) (by rw[L.out.2];have:=HI.out;omega) (by rw[L.out.2];exact HI.out) (by omega)
    rw[fJ (bfs (by rw[L.out.2];have:=HI.out;omega)),fJ (bfs (by rw[L.out.2];exact HI.out))]
    exact h1
  clear ah;have I:¬((i:Int)<(n:Int)):=by omega
  have HI:=Lh S;clear S;go_wp2_with fail;refine XY.out _ HK.out (BK λj h0 h1=>?_) (H1.out.2.trans (R.out.2.mono H1.out.2.size));rw[L.out.2]at h1;exact R.out.1 j h0 (by have:=HI.out;omega) h1
end Go.Proofs.YtgfmbkoieacgoaaGreatDoor
