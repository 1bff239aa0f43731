/-
  45.
-/
import Derived.Test.YtjeeghafachebaaGreatU30
set_option maxRecDepth 100000
set_option maxHeartbeats 8000000
namespace Go.Proofs.YtjeeghafachebaaGreat
open Go Go.RowKit Go.Proofs.Tryz
def Qk(w:World)(l m:List Int)(s:Value)(wr:World):Prop:=∃k:Nat,k<=l.length/\s=.int .i64 (k:Int)/\(∀j,j<k->l[j]? =m[j]?)/\Bw w wr
theorem CU {l m:List Int}(hn:l.length=m.length)(h:∀j,j<l.length->l[j]? =m[j]?):l=m:=by
 refine List.ext_getElem? λj=>?_;by_cases hj:j<l.length
 ·exact h j hj
 rw[bgk (by omega),bgk (by omega)]
theorem Cw(w:World)(t1 t2:Value)(l m:List Int)(h1:bA w t1 l)(h2:bA w t2 m)(hl:l.length<=1000000):
  Calls prog 18 #[t1,t2] w (bE w (.bool (decide (l=m)))):=by
 have HT1:=Lh h1;have HT2:=Lh h2;obtain⟨a1,c1,rfl,_,_⟩:=h1;obtain⟨a2,c2,rfl,_,_⟩:=h2;obtain⟨P,hP⟩:=Nm (bE w (.bool (decide (l=m))):Ending->World->Prop);rw[<-hP];by_cases hn:l.length=m.length
 ·rw[<-hn]at HT2 ⊢;have HY:Hid (∀wr,(∀j,j<l.length->l[j]? =m[j]?)->Bw w wr->P (.returned (.bool true)) wr):=Lh (λwr h hB=>by
   rw[hP,bfr (CU hn h)];exact⟨rfl,hB⟩)
  have HN:Hid (∀(wr:World) (k:Nat),l[k]?≠m[k]?->Bw w wr->P (.returned (.bool false)) wr):=Lh (λwr k h hB=>by
   rw[hP,bfq (λe=>h (by rw[e]))]
   exact⟨rfl,hB⟩)
  have Hn:=Lh hn;clear hP hn;have mixed:prog.follows .mixedOrders=true:=by kernel_rfl
  obtain⟨p,hp⟩:=Nm (l.length);rw[<-hp]at hl HT1 HT2 HY ⊢;have Hp:=Lh hp;clear hp;go_enter func18,ntmps18;go_wp2_with(fail);go_loopw[13] (Qk w l m) (λv _=>p-(intOf v).toNat)
  case atStart=>exact⟨0,bgi _,rfl,λj h=>absurd h (Nat.not_lt_zero _),Br⟩
  case round=>
   obtain⟨k,hk,rfl,hA,hB⟩:=hrel;rw[<-Hp.out]at hk;have HA:=Lh (bfy hA hB);clear hA hB;by_cases hlt:k<p
   ·have hk0:(0:Int)<=(k:Int)/\(k:Int)<(p:Int):=by omega
    obtain⟨x,pb,po,c',hx,hsa,c0⟩:=(HT1.out.below HA.out.2).get (t:=k) (by rw[<-Hp.out];exact hlt)
    obtain rfl:a1=some ⟨pb,po,none⟩:=by injection hsa
    obtain⟨y,qb,qo,c'',hy,hsb,e0⟩:=(HT2.out.below HA.out.2).get (t:=k) (by rw[<-Hn.out,<-Hp.out];exact hlt)
    obtain rfl:a2=some ⟨qb,qo,none⟩:=by injection hsb
    have Ti:=Lh (bfy hx (bfy hy hlt));clear hx hy hsa hsb hlt hk;by_cases hxy:x=y
    ·subst hxy;have HR:Hid (Qk w l m (.int .i64 ((k:Int)+1)) wr.drew):=Lh ⟨k+1,by have:=Ti.out.2.2;have:=Hp.out;omega,by simp,λj hj=>by
      by_cases e:j=k
      ·subst e;exact Ti.out.1.trans Ti.out.2.1.symm
      exact HA.out.1 j (by omega),HA.out.2.drew⟩
     go_wp2_with(fail);go_region_o;go_wp2_with(fail);go_roundw
     case rel=>exact HR.out
     case measure=>have:=Ti.out.2.2;simp[intOf];omega
    have HZ:=Lh (HN.out wr.drew k (by rw[Ti.out.1,Ti.out.2.1];exact λe=>hxy (by injection e)) HA.out.2.drew)
    go_wp2_with(fail);go_region_o;go_wp2_with(fail);exact HZ.out
   obtain rfl:k=p:=by omega
   have HZ:=Lh (HY.out wr HA.out.1 HA.out.2);go_wp2_with(fail);exact HZ.out
 have hd:decide (l=m)=false:=bfq λe=>hn (by rw[e])
 rw[hd]at hP;have HZ:Hid (P (.returned (.bool false)) w):=Lh (by rw[hP];exact⟨rfl,Br⟩)
 clear hd HT1 HT2 hP;obtain⟨p,hp⟩:=Nm (l.length);obtain⟨q,hq⟩:=Nm (m.length);rw[<-hp]at hl hn ⊢;rw[<-hq]at hn ⊢;clear hp hq;have hne:¬(p:Int)=(q:Int):=by omega
 go_enter func18,ntmps18;go_wp2_with(fail);exact HZ.out
theorem lU.Rv {z1 z2:Value} {u v a b:Int}(h:lU z1 u v)(k:lU z2 a b)(t:TypeId)(w:World):(binOp .neq t z1 z2).run prog w=.ok (.bool (!decide (u=a/\v=b))) w:=by
 obtain⟨x,x2,rfl,h1,h2⟩:=h;obtain⟨y,y2,rfl,k1,k2⟩:=k;have e1:(Op.Complex.cmp .eql .f64 x y).run prog w=.ok (decide (u=a)) w:=by
  show Result.ok (Ieee.double.order x y==some .eq) w=_;rw[kE h1 k1,cmp_eq]
 have e2:(Op.Complex.cmp .eql .f64 x2 y2).run prog w=.ok (decide (v=b)) w:=by
  show Result.ok (Ieee.double.order x2 y2==some .eq) w=_;rw[kE h2 k2,cmp_eq]
 show(Op.complexOp .neq .f64 x x2 y y2).run prog w=_;simp only[Op.complexOp,Sem.run_bind,e1,e2,Result.andThen_ok];simp
def Nc(w1:World)(l m:List Int)(s:Value)(wr:World):Prop:=∃k:Nat,k<=l.length/\s=.int .i64 (k:Int)/\(∀j,j<k->l[j]? =m[j]?)/\Bw w1 wr
theorem MC(w:World)(x y:dS)(Sk z1 Sq z2:Value)(h1:bA w Sk x.top)(h2:bA w Sq y.top)(k1:dw z1 x.u x.v)(k2:dw z2 y.u y.v)(hl:x.top.length<=1000000):
  Calls prog 23 #[.agg (bI x.n x.a Sk z1),.agg (bI y.n y.a Sq z2)] w (bE w (.bool (pR x y))):=by
 obtain⟨P,hP⟩:=Nm (bE w (.bool (pR x y)):Ending->World->Prop);rw[<-hP];obtain⟨rz,hrz⟩:=Nm (decide (x.u=y.u/\x.v=y.v));have hne:=lU.Rv k1.1 k2.1;have hgd:=lU.guard k1.1 k2.1;rw[<-hrz]at hne;obtain⟨n1,a1,l,u1,v1⟩:=x;obtain⟨n2,a2,m,u2,v2⟩:=y;simp only at h1 h2 hl hrz ⊢;have SF:Hid (∀wr,Bw w wr->(¬n1=n2∨¬a1=a2∨rz=false∨¬l=m)->P (.returned (.bool false)) wr):=Lh (λwr hB h=>by
  rw[hP];refine⟨?_,hB⟩;have e:pR ⟨n1,a1,l,u1,v1⟩ ⟨n2,a2,m,u2,v2⟩=false:=by
   rw[pR];refine bfq ?_;rintro⟨j1,j2,j3,j4,j5⟩;rcases h with h | h | h | h
   ·exact h j1
   ·exact h j2
   ·rw[hrz]at h;exact absurd ⟨j4,j5⟩ (of_decide_eq_false h)
   exact h j3
  rw[e])
 have Sl:Hid (∀wr,Bw w wr->n1=n2->a1=a2->rz=true->l=m->P (.returned (.bool true)) wr):=Lh (λwr hB j1 j2 j3 j4=>by
  rw[hP];refine⟨?_,hB⟩;have e:pR ⟨n1,a1,l,u1,v1⟩ ⟨n2,a2,m,u2,v2⟩=true:=by
   rw[pR];rw[hrz]at j3;have:=bgh j3;exact bfr ⟨j1,j2,j4,this.1,this.2⟩
  rw[e])
 obtain⟨w1,hw1⟩:=Nm ((w.alloc (.cells (bI n1 a1 Sk z1) 53)).alloc (.cells (bI n2 a2 Sq z2) 53));obtain⟨b1,hb1⟩:=Nm (w.heap.size);obtain⟨b2,hb2⟩:=Nm (w.heap.size+1);have hs1:(w.alloc (.cells (bI n1 a1 Sk z1) 53)).heap.size=w.heap.size+1:=bq w _;have H1:Hid (bW w1 b1 n1 a1 Sk z1/\bW w1 b2 n2 a2 Sq z2/\Bw w w1/\bA w1 Sk l/\bA w1 Sq m):=by
  have h:=NH w n1 a1 Sk z1 n2 a2 Sq z2;rw[<-hw1,<-hb2]at h;rw[hb1];exact Lh ⟨h.1,h.2.1,h.2.2,h1.below h.2.2,h2.below h.2.2⟩
 clear hP hrz k1 k2;have H0:=Lh (bfy h1 h2);obtain⟨ad1,c1,rfl,_,_⟩:=h1;obtain⟨ad2,c2,rfl,_,_⟩:=h2;have mixed:prog.follows .mixedOrders=true:=by kernel_rfl
 have HLen:Hid (¬l.length=m.length->¬l=m):=Lh (λh e=>h (by rw[e]))
 obtain⟨p,hp⟩:=Nm (l.length);obtain⟨q,hq⟩:=Nm (m.length);rw[<-hp]at hl hw1 hs1 H1 HLen ⊢;rw[<-hq]at hw1 H1 HLen ⊢;have aW:=Lh (bfy hp hq);clear hp hq H0;obtain⟨f0,f1,f2,f3⟩:=H1.out.1.d4;obtain⟨g0,g1,g2,g3⟩:=H1.out.2.1.d4;unfold bI at hw1 hs1 ⊢;go_enter func23,ntmps23;go_upto_region 1 with(fail);rw[<-hw1,<-hb2,<-hb1];clear hw1 hb1 hb2 hs1;by_cases hn:n1=n2
 ·by_cases ha:a1=a2
  ·subst hn;subst ha
   cases rz with
   | false=>
    have HZ:=Lh (SF.out w1 H1.out.2.2.1 (.inr (.inr (.inl rfl))));go_wp2_with(fail);exact HZ.out
   | true=>
   by_cases hpq:p=q
   ·subst hpq;go_wp2_with(fail);go_loopw[37] (Nc w1 l m) (λv _=>p-(intOf v).toNat)
    case atStart=>exact⟨0,bgi _,rfl,λj h=>absurd h (Nat.not_lt_zero _),Br⟩
    case round=>
     clear f0 f1 f2 f3 g0 g1 g2 g3;obtain⟨k,hk,rfl,hA,hB⟩:=hrel;rw[<-aW.out.1]at hk;have HA:=Lh (bfy hA hB);have Em:Hid (Bw w wr):=Lh (H1.out.2.2.1.trans (hB.mono H1.out.2.2.1.size));obtain⟨f0,f1,f2,f3⟩:=(H1.out.1.below hB).d4;obtain⟨g0,g1,g2,g3⟩:=(H1.out.2.1.below hB).d4;by_cases hlt:k<p
     ·have hk0:(0:Int)<=(k:Int)/\(k:Int)<(p:Int):=by omega
      obtain⟨x,pb,po,c',hx,hsa,c0⟩:=(H1.out.2.2.2.1.below hB).get (t:=k) (by rw[<-aW.out.1];exact hlt)
      obtain rfl:ad1=some ⟨pb,po,none⟩:=by injection hsa
      obtain⟨y,qb,qo,c'',hy,hsb,e0⟩:=(H1.out.2.2.2.2.below hB).get (t:=k) (by rw[<-aW.out.2];exact hlt)
      obtain rfl:ad2=some ⟨qb,qo,none⟩:=by injection hsb
      have Ti:=Lh (bfy hx (bfy hy hlt));clear hx hy hsa hsb hlt hk hA hB;by_cases hxy:x=y
      ·subst hxy;have HR:Hid (Nc w1 l m (.int .i64 ((k:Int)+1)) wr.drew):=Lh ⟨k+1,by have:=Ti.out.2.2;have:=aW.out.1;omega,by simp,λj hj=>by
        by_cases e:j=k
        ·subst e;exact Ti.out.1.trans Ti.out.2.1.symm
        exact HA.out.1 j (by omega),HA.out.2.drew⟩
       go_wp2_with(fail);go_region_o;go_wp2_with(fail);go_roundw
       case rel=>exact HR.out
       case measure=>have:=Ti.out.2.2;simp[intOf];omega
      have HZ:=Lh (SF.out wr.drew Em.out.drew (.inr (.inr (.inr (λe=>hxy (by have h:=Ti.out.1;rw[e,Ti.out.2.1]at h;injection h with h;exact h.symm))))))
      go_wp2_with(fail);go_region_o;go_wp2_with(fail);exact HZ.out
     obtain rfl:k=p:=by omega
     have HZ:=Lh (Sl.out wr Em.out (by simp) (by simp) (by simp) (CU (by rw[<-aW.out.1,<-aW.out.2]) (λj hj=>HA.out.1 j (by rw[aW.out.1];exact hj))))
     clear hA hB;go_wp2_with(fail);exact HZ.out
   have hne2:¬(p:Int)=(q:Int):=by omega
   have HZ:=Lh (SF.out w1 H1.out.2.2.1 (.inr (.inr (.inr (HLen.out hpq)))));go_wp2_with(fail);exact HZ.out
  have HZ:=Lh (SF.out w1 H1.out.2.2.1 (.inr (.inl ha)));subst hn;go_wp2_with(fail);exact HZ.out
 have HZ:=Lh (SF.out w1 H1.out.2.2.1 (.inl hn));go_wp2_with(fail);exact HZ.out
theorem Kj(w:World)(p:Nat)(u:Int)(h:jM p u)(hu: -1073741824<=u/\u<=1073741824):Calls prog 107 #[.float .f64 p] w (λe w'=>e=.returned (.bool true)/\w'=w):=by
 obtain⟨P,hP⟩:=Nm (λe w'=>e=.returned (.bool true)/\w'=w:Ending->World->Prop);rw[<-hP];have HZ:Hid (P (.returned (.bool true)) w):=Lh (by rw[hP];exact⟨rfl,rfl⟩)
 have c1:∀w,(convert 91 3 (.float .f64 p)).run prog w=.ok (.int .i64 u) w:=λw=>gP w (by rw[underlying91];rfl) underlying3 h (by simp[IntKind.min,IntKind.signed,IntKind.bits];omega) (by simp[IntKind.max,IntKind.signed,IntKind.bits];omega)
 have c2:∀w,(convert 3 91 (.int .i64 u)).run prog w=.ok (.float .f64 (F4 u)) w:=λw=>jP w underlying3 underlying91;have g1:∀t w,(binOp .geq t (.float .f64 p) (.float .f64 13965662444475908096)).run prog w=.ok (.bool true) w:=λt w=>by rw[He (t:=t) (w:=w) h KS,bfr hu.1]
 have g2:∀t w,(binOp .leq t (.float .f64 p) (.float .f64 4742290407621132288)).run prog w=.ok (.bool true) w:=λt w=>by rw[BI (t:=t) (w:=w) h wK,bfr hu.2]
 have g3:∀t w,(binOp .eql t (.float .f64 (F4 u)) (.float .f64 p)).run prog w=.ok (.bool true) w:=λt w=>by rw[Px (t:=t) (w:=w) (wG u (by omega)) h];simp
 obtain⟨V,hV⟩:=Nm (Value.float .f64 p);obtain⟨W,hW⟩:=Nm (Value.float .f64 (F4 u));rw[<-hV]at c1 g1 g2 g3 ⊢;rw[<-hW]at c2 g3;have hgd:∀op t o1 o2 w,(eqGuard op t o1 o2 W V).run prog w=.ok () w:=λop t o1 o2 w=>by rw[hV,hW];cases op <;> rfl
 clear h hu hV hW hP;go_enter func107,ntmps107;go_wp2_with(fail);exact HZ.out
theorem yX(w:World)(p:Nat)(u:Int)(h:jM p u)(hu: -1099511627776<=u/\u<=1099511627776):Calls prog 107 #[.float .f64 p] w (λe w'=>e=.returned (.bool (decide (-1073741824<=u/\u<=1073741824)))/\w'=w):=by
 by_cases hin: -1073741824<=u/\u<=1073741824
 ·rw[bfr hin];exact Kj w p u h hin
 rw[bfq hin];obtain⟨P,hP⟩:=Nm (λe w'=>e=.returned (.bool false)/\w'=w:Ending->World->Prop);rw[<-hP];have HZ:Hid (P (.returned (.bool false)) w):=Lh (by rw[hP];exact⟨rfl,rfl⟩)
 obtain⟨b1,hb1⟩:=Nm (decide (-1073741824<=u));obtain⟨b2,hb2⟩:=Nm (decide (u<=1073741824));have g1:∀t w,(binOp .geq t (.float .f64 p) (.float .f64 13965662444475908096)).run prog w=.ok (.bool b1) w:=λt w=>by rw[He (t:=t) (w:=w) h KS,hb1]
 have g2:∀t w,(binOp .leq t (.float .f64 p) (.float .f64 4742290407621132288)).run prog w=.ok (.bool b2) w:=λt w=>by rw[BI (t:=t) (w:=w) h wK,hb2]
 have hbb:b1=false∨b2=false:=by
  rw[hb1,hb2,decide_eq_false_iff_not,decide_eq_false_iff_not];omega
 obtain⟨V,hV⟩:=Nm (Value.float .f64 p);rw[<-hV]at g1 g2 ⊢;clear h hu hV hP hb1 hb2 hin
 cases b1 with
 | false=>
  clear hbb;go_enter func107,ntmps107;go_wp2_with(fail);exact HZ.out
 | true=>
  obtain rfl:b2=false:=by simpa using hbb
  clear hbb;go_enter func107,ntmps107;go_wp2_with(fail);exact HZ.out
theorem nO(q:bz)(x:dS):x.bB q=true↔q.bB=true/\(0<=x.n/\x.n<=1073741824)/\mr x.u x.v/\(-lL q.agg<=x.a/\x.a<=lL q.agg)/\(q.agg≠7->x.u=0/\x.v=0)/\(x.n=0->x.a=0/\x.u=0/\x.v=0)/\(x.top.length:Int)=(if q.agg=6 then min x.n q.k else 0)/\∀i<x.top.length,okF x.top i:=by
 rw[<-vH,wH];simp only[dS.bB,bf8,bf0];constructor
 ·rintro⟨⟨⟨⟨⟨⟨⟨⟨h1,h2⟩,h3⟩,h4⟩,h5⟩,h6⟩,h7⟩,h8⟩,h9⟩;exact⟨h1,h2,h3,h4,h5,h6,h7,h8,h9⟩
 rintro⟨h1,h2,h3,h4,h5,h6,h7,h8,h9⟩;exact⟨⟨⟨⟨⟨⟨⟨⟨h1,h2⟩,h3⟩,h4⟩,h5⟩,h6⟩,h7⟩,h8⟩,h9⟩
def zA(w1:World)(l:List Int)(v:Value)(wr:World):Prop:=∃i:Nat,i<=l.length/\v=.int .i64 (i:Int)/\(∀j<i,okF l j)/\wr=w1
def Qo(r1:Bool)(n av M agg u v T:Int)(l:List Int):Prop:=r1=true/\(0<=n/\n<=1073741824)/\mr u v/\(-M<=av/\av<=M)/\(agg≠7->u=0/\v=0)/\(n=0->av=0/\u=0/\v=0)/\(l.length:Int)=T/\∀i<l.length,okF l i
def vY(n av M agg:Int)(rz:Bool):Bool:=decide (av < -M) || (decide (M<av) || ((!decide (agg=7) && !rz) || (decide (n=0) && (!decide (av=0) || !rz))))
theorem vO(w:World)(q:bz)(x:dS)(tv z:Value)(hT:bA w tv x.top)(hz:lU z x.u x.v)(hzb:(-1099511627776<=x.u/\x.u<=1099511627776)/\(-1099511627776<=x.v/\x.v<=1099511627776))(hl:x.top.length<=1000000):
  Calls prog 72 #[.agg q.cells,.agg (bI x.n x.a tv z)] w (bE w (.bool (x.bB q))):=by
 obtain⟨P,hP⟩:=Nm (bE w (.bool (x.bB q)));rw[<-hP];have XA:=nO q x;obtain⟨r1,hr1⟩:=Nm (q.bB);rw[<-hr1]at XA;obtain⟨M,hM⟩:=Nm (lL q.agg);obtain⟨T,Zg⟩:=Nm (if q.agg=6 then min x.n q.k else 0)
 rw[<-hM,<-Zg]at XA;obtain⟨rz,hrz⟩:=Nm (decide (x.u=0/\x.v=0));have hne:∀t w,(binOp .neq t z (.complex .f64 0 0)).run prog w=.ok (.bool (!rz)) w:=by
  rw[hrz];exact lU.Rv hz gL.1
 have hgd:∀op t o1 o2 w,(eqGuard op t o1 o2 z (.complex .f64 0 0)).run prog w=.ok () w:=lU.guard hz gL.1;obtain⟨n,av,l,u,v⟩:=x;simp only at hT hz hzb hl XA Zg hrz ⊢;have SF:Hid (∀wr,Bw w wr->¬Qo r1 n av M q.agg u v T l->P (.returned (.bool false)) wr):=Lh (λwr hB h=>by
  rw[hP,show dS.bB q ⟨n,av,l,u,v⟩=false from Bool.eq_false_iff.2 (λe=>h (XA.1 e))];exact⟨rfl,hB⟩)
 have Sl:Hid (∀wr,Bw w wr->Qo r1 n av M q.agg u v T l->P (.returned (.bool true)) wr):=Lh (λwr hB h=>by
  rw[hP,show dS.bB q ⟨n,av,l,u,v⟩=true from XA.2 h];exact⟨rfl,hB⟩)
 have HT:=Lh hT;obtain⟨ta,tc,rfl,_,_⟩:=hT;have HL:=Lh hl;obtain⟨L,hL⟩:=Nm (l.length);rw[<-hL]at HT HL hl ⊢;have Y0:=Lh hL;have uS:0<=M/\M<=4398046511104:=by rw[hM];exact wR _
 obtain⟨zp,zq,rfl,k1,k2⟩:=hz;obtain⟨bu,hbu⟩:=Nm (decide (-1073741824<=u/\u<=1073741824));obtain⟨bv,hbv⟩:=Nm (decide (-1073741824<=v/\v<=1073741824));have HW:Hid ((∀w',Calls prog 107 #[.float .f64 zp] w' (λe w''=>e=.returned (.bool bu)/\w''=w'))/\∀w',Calls prog 107 #[.float .f64 zq] w' (λe w''=>e=.returned (.bool bv)/\w''=w')):=by
  rw[hbu,hbv];exact Lh ⟨λw'=>yX w' zp u k1 hzb.1,λw'=>yX w' zq v k2 hzb.2⟩
 have YI:Hid ((mr u v↔bu=true/\bv=true)):=by
  rw[hbu,hbv,bf0,bf0];unfold mr;exact Lh ⟨λh=>by omega,λh=>by omega⟩
 obtain⟨Z,hZ⟩:=Nm (Value.complex .f64 zp zq);have hre:∀ts t w,(Builtin.real_ ts t #[Z]).run prog w=.ok (.float .f64 zp) w:=λts t w=>by rw[hZ];rfl
 have him:∀ts t w,(Builtin.imag_ ts t #[Z]).run prog w=.ok (.float .f64 zq) w:=λts t w=>by rw[hZ];rfl
 rw[<-hZ]at hne hgd ⊢;have Hrz:=Lh hrz;have UZ:=Lh (bfy hne hgd);obtain⟨w1,hw1⟩:=Nm ((w.alloc (.cells q.cells 23)).alloc (.cells (bI n av (.slice ta L tc) Z) 53));obtain⟨qb,Sm⟩:=Nm (w.heap.size);obtain⟨ab,hab⟩:=Nm (w.heap.size+1);have H1:Hid (dn w1 qb q/\bW w1 ab n av (.slice ta L tc) Z/\Bw w w1):=by rw[hw1,Sm,hab];exact Lh (qK w q n av _ Z)
 have hs1:(w.alloc (.cells q.cells 23)).heap.size=w.heap.size+1:=bq w _;have VO:Hid (∀w',Calls prog 14 #[.agg q.cells] w' (bE w' (.bool r1))):=by rw[hr1];exact Lh (λw'=>su w' q)
 obtain⟨Q,hQ⟩:=Nm q;rw[<-hQ]at H1;obtain⟨kind,size,slide,late,agg,kq⟩:=q;have SV:Hid (∀w',dn w' qb Q->D6 w' qb kind size slide late agg kq):=by rw[hQ];exact Lh (λw' h=>h.d6)
 unfold bz.cells at hw1 hs1 VO ⊢;unfold bI at hw1 ⊢;simp only at hM Zg SF Sl;have UY:=Lh (bfy hM Zg);clear hP XA hr1 hM Zg hrz hL k1 k2 hZ hQ hl hzb hbu hbv hne hgd;obtain⟨d0,d1,d2,d3,d4,d5⟩:=SV.out w1 H1.out.1;go_enter func72,ntmps72;go_upto_region 1 with(fail);rw[<-hw1,<-hab,<-Sm];clear hw1 hab Sm hs1;go_wp2_with(fail);refine(VO.out w1).mono ?_;rintro e w2 ⟨rfl,hB⟩;have H2:Hid (dn w2 qb Q/\bW w2 ab n av (.slice ta L tc) Z/\Bw w w2/\bA w2 (.slice ta L tc) l):=by
  obtain⟨j1,j2,j3⟩:=H1.out;have hb:=Tb j3 hB;exact Lh ⟨j1.below hB,j2.below hB,hb,HT.out.below hb⟩
 clear hB d0 d1 d2 d3 d4 d5 H1 VO HT;dsimp only;obtain⟨d0,d1,d2,d3,d4,d5⟩:=SV.out w2 H2.out.1;obtain⟨f0,f1,f2,f3⟩:=H2.out.2.1.d4
 cases r1 with
 | false=>
  have HZ:=Lh (SF.out w2 H2.out.2.2.1 (λh=>by have:=h.1;simp at this))
  go_wp2_with(fail);exact HZ.out
 | true=>
 by_cases hn0:n<0
 ·have HZ:=Lh (SF.out w2 H2.out.2.2.1 (λh=>by have:=h.2.1;omega))
  go_wp2_with(fail);exact HZ.out
 by_cases hn1:1073741824<n
 ·have HZ:=Lh (SF.out w2 H2.out.2.2.1 (λh=>by have:=h.2.1;omega))
  go_wp2_with(fail);exact HZ.out
 go_wp2_with(fail);refine(HW.out.1 w2).mono ?_;rintro e w' ⟨rfl,hw'⟩;subst w';dsimp only
 cases bu with
 | false=>
  have HZ:=Lh (SF.out w2 H2.out.2.2.1 (λh=>by have:=(YI.out.1 h.2.2.1).1;simp at this))
  go_wp2_with(fail);exact HZ.out
 | true=>
 go_wp2_with(fail);refine(HW.out.2 w2).mono ?_;rintro e w' ⟨rfl,hw'⟩;subst w';dsimp only
 cases bv with
 | false=>
  have HZ:=Lh (SF.out w2 H2.out.2.2.1 (λh=>by have:=(YI.out.1 h.2.2.1).2;simp at this))
  go_wp2_with(fail);exact HZ.out
 | true=>
 have IC:Hid (mr u v):=Lh (YI.out.2 (by simp))
 clear YI HW hre him;obtain⟨b1,hb1⟩:=Nm (decide (agg=2) || decide (agg=5))
 obtain⟨b2,hb2⟩:=Nm (decide (agg=3) || decide (agg=4))
 obtain⟨M1,hM1⟩:=Nm (if b1=true then 4398046511104 else 0:Int)
 have o9:Hid (M=if b2=true then 1099511627776 else M1):=by
  refine Lh ?_;rw[UY.out.1,hM1,hb1,hb2];unfold lL;by_cases a1:agg=2∨agg=5
  ·rw[if_pos a1];rcases a1 with rfl | rfl <;> rfl
  rw[if_neg a1];by_cases a2:agg=3∨agg=4
  ·rw[if_pos a2];rcases a2 with rfl | rfl <;> rfl
  rw[if_neg a2];have:agg≠2/\agg≠5/\agg≠3/\agg≠4:=by omega
  simp[this]
 have HB1:=Lh hb1;have HB2:=Lh hb2;have Yc:=Lh hM1;clear hb1 hb2 hM1;go_upto_region 4 with(fail);go_cut[43]from 36 to 43 (λs wx=>s=.bool b1/\wx=w2)
 case first=>
  by_cases a1:agg=2
  ·have HQ:Hid (b1=true):=by rw[HB1.out,bfr a1];exact Lh rfl
   have Og:(agg==2)=true:=by simpa using a1
   clear a1;go_wp2_with(fail);go_meet;exact⟨by rw[HQ.out],by first | trivial | rfl⟩
  have Og:(agg==2)=false:=by simpa using a1
  by_cases a2:agg=5
  ·have HQ:Hid (b1=true):=by rw[HB1.out,bfr a2,Bool.or_true];exact Lh rfl
   have Oh:(agg==5)=true:=by simpa using a2
   clear a1 a2;go_wp2_with(fail);go_meet;exact⟨by rw[HQ.out],by first | rfl | trivial⟩
  have HQ:Hid (b1=false):=by rw[HB1.out,bfq a1,bfq a2];exact Lh rfl
  have Oh:(agg==5)=false:=by simpa using a2
  clear a1 a2;go_wp2_with(fail);go_meet;exact⟨by rw[HQ.out],by first | rfl | trivial⟩
 case rest=>
  obtain⟨rfl,hw⟩:=hcut;subst wc;go_upto_if 43 with(fail);go_cut[5]from 36 to 43 (λs wx=>s=.int .i64 M1/\wx=w2)
  case first=>
   cases b1 with
   | true=>
    have HQ:Hid (M1=4398046511104):=Lh (Yc.out.trans (if_pos rfl));go_wp2_with(fail);go_meet;exact⟨by rw[HQ.out],by first | rfl | trivial⟩
   | false=>
    have HQ:Hid (M1=0):=Lh (Yc.out.trans (if_neg (by decide)))
    go_wp2_with(fail);go_meet;exact⟨by rw[HQ.out],by first | rfl | trivial⟩
  case rest=>
   obtain⟨rfl,hw⟩:=hcut;subst wc;go_upto_region 6 with(fail);go_cut[51]from 44 to 51 (λs wx=>s=.bool b2/\wx=w2)
   case first=>
    by_cases a1:agg=3
    ·have HQ:Hid (b2=true):=by rw[HB2.out,bfr a1];exact Lh rfl
     have Og:(agg==3)=true:=by simpa using a1
     clear a1;go_wp2_with(fail);go_meet;exact⟨by rw[HQ.out],by first | rfl | trivial⟩
    have Og:(agg==3)=false:=by simpa using a1
    by_cases a2:agg=4
    ·have HQ:Hid (b2=true):=by rw[HB2.out,bfr a2,Bool.or_true];exact Lh rfl
     have Oh:(agg==4)=true:=by simpa using a2
     clear a1 a2;go_wp2_with(fail);go_meet;exact⟨by rw[HQ.out],by first | rfl | trivial⟩
    have HQ:Hid (b2=false):=by rw[HB2.out,bfq a1,bfq a2];exact Lh rfl
    have Oh:(agg==4)=false:=by simpa using a2
    clear a1 a2;go_wp2_with(fail);go_meet;exact⟨by rw[HQ.out],by first | rfl | trivial⟩
   case rest=>
    obtain⟨rfl,hw⟩:=hcut;subst wc;go_upto_if 51 with(fail);go_cut[5]from 44 to 51 (λs wx=>s=.int .i64 M/\wx=w2)
    case first=>
     cases b2 with
     | true=>
      have HQ:Hid (M=1099511627776):=Lh (o9.out.trans (if_pos rfl));go_wp2_with(fail);go_meet;exact⟨by rw[HQ.out],by first | rfl | trivial⟩
     | false=>
      have HQ:Hid (M=M1):=Lh (o9.out.trans (if_neg (by decide)))
      go_wp2_with(fail);go_meet;exact⟨by rw[HQ.out],by first | rfl | trivial⟩
    case rest=>
     obtain⟨rfl,hw⟩:=hcut;subst wc;obtain⟨bad,hbad⟩:=Nm (vY n av M agg rz);have Vh:=Lh hbad;clear hbad;go_upto_region 8 with(fail);go_cut[87]from 52 to 87 (λs wx=>s=.bool bad/\wx=w2)
     case first=>
      obtain⟨hne,hgd⟩:=UZ.out;by_cases c1:av < -M
      ·have HQ:Hid (bad=true):=by rw[Vh.out];exact Lh (by simp[vY,c1])
       have c1d:decide (av < -M)=true:=bfr c1;go_wp2_with(fail);go_meet;exact⟨by rw[HQ.out],by first | rfl | trivial⟩
      have c1d:decide (av < -M)=false:=bfq c1;by_cases c2:M<av
      ·have HQ:Hid (bad=true):=by rw[Vh.out];exact Lh (by simp[vY,c2])
       have c2d:decide (M<av)=true:=bfr c2;go_wp2_with(fail);go_meet;exact⟨by rw[HQ.out],by first | rfl | trivial⟩
      have c2d:decide (M<av)=false:=bfq c2;by_cases c3:agg=7
      ·have c3n:(agg !=7)=false:=by simpa using c3
       by_cases c4:n=0
       ·have Oj:(n==0)=true:=by simpa using c4
        by_cases c5:av=0
        ·have Ol:(av !=0)=false:=by simpa using c5
         cases rz with
         | true=>
          have HQ:Hid (bad=false):=by rw[Vh.out];exact Lh (by unfold vY;rw[bfq c1,bfq c2,bfr c3,bfr c4,bfr c5];rfl)
          clear c4 c5 c3;go_wp2_with(fail);go_meet;exact⟨by rw[HQ.out],by first | rfl | trivial⟩
         | false=>
          have HQ:Hid (bad=true):=by rw[Vh.out];exact Lh (by unfold vY;rw[bfq c1,bfq c2,bfr c3,bfr c4,bfr c5];rfl)
          clear c4 c5 c3;go_wp2_with(fail);go_meet;exact⟨by rw[HQ.out],by first | rfl | trivial⟩
        have Ol:(av !=0)=true:=by simpa using c5
        have HQ:Hid (bad=true):=by rw[Vh.out];exact Lh (by unfold vY;rw[bfq c1,bfq c2,bfr c3,bfr c4,bfq c5];rfl)
        clear c4 c5 c3;go_wp2_with(fail);go_meet;exact⟨by rw[HQ.out],by first | rfl | trivial⟩
       have Oj:(n==0)=false:=by simpa using c4
       have HQ:Hid (bad=false):=by rw[Vh.out];exact Lh (by unfold vY;rw[bfq c1,bfq c2,bfr c3,bfq c4];rfl)
       clear c4 c3;go_wp2_with(fail);go_meet;exact⟨by rw[HQ.out],by first | rfl | trivial⟩
      have c3n:(agg !=7)=true:=by simpa using c3
      cases rz with
      | false=>
       have HQ:Hid (bad=true):=by rw[Vh.out];exact Lh (by simp[vY,c3])
       clear c3;go_wp2_with(fail);go_meet;exact⟨by rw[HQ.out],by first | rfl | trivial⟩
      | true=>
       by_cases c4:n=0
       ·have Oj:(n==0)=true:=by simpa using c4
        by_cases c5:av=0
        ·have Ol:(av !=0)=false:=by simpa using c5
         have HQ:Hid (bad=false):=by rw[Vh.out];exact Lh (by unfold vY;rw[bfq c1,bfq c2,bfq c3,bfr c4,bfr c5];rfl)
         clear c4 c5 c3;go_wp2_with(fail);go_meet;exact⟨by rw[HQ.out],by first | rfl | trivial⟩
        have Ol:(av !=0)=true:=by simpa using c5
        have HQ:Hid (bad=true):=by rw[Vh.out];exact Lh (by unfold vY;rw[bfq c1,bfq c2,bfq c3,bfr c4,bfq c5];rfl)
        clear c4 c5 c3;go_wp2_with(fail);go_meet;exact⟨by rw[HQ.out],by first | rfl | trivial⟩
       have Oj:(n==0)=false:=by simpa using c4
       have HQ:Hid (bad=false):=by rw[Vh.out];exact Lh (by unfold vY;rw[bfq c1,bfq c2,bfq c3,bfq c4];rfl)
       clear c4 c3;go_wp2_with(fail);go_meet;exact⟨by rw[HQ.out],by first | rfl | trivial⟩
     case rest=>
      obtain⟨rfl,hw⟩:=hcut;subst wc;clear UZ HB1 HB2 Yc o9
      cases bad with
      | true=>
       have HZ:=Lh (SF.out w2 H2.out.2.2.1 (λh=>by
        obtain⟨_,_,_,h4,h5,h6,_⟩:=h;have hb:=Vh.out;rw[Hrz.out]at hb;have:vY n av M agg (decide (u=0/\v=0))=false:=by
         unfold vY;have e1:¬av < -M:=by omega
         have e2:¬M<av:=by omega
         rw[bfq e1,bfq e2];by_cases a7:agg=7
         ·rw[bfr a7];by_cases n0:n=0
          ·rw[bfr n0,bfr (h6 n0).1,bfr (h6 n0).2];rfl
          rw[bfq n0];rfl
         rw[bfq a7,bfr (h5 a7)];by_cases n0:n=0
         ·rw[bfr n0,bfr (h6 n0).1];rfl
         rw[bfq n0];rfl
        rw[this]at hb;cases hb))
       go_wp2_with(fail);exact HZ.out
      | false=>
      have Tn:Hid ((-M<=av/\av<=M)/\(agg≠7->u=0/\v=0)/\(n=0->av=0/\u=0/\v=0)):=by
       have hb:=Vh.out.symm;rw[Hrz.out]at hb;unfold vY at hb;simp only[Bool.or_eq_false_iff,Bool.and_eq_false_iff,decide_eq_false_iff_not,Bool.not_eq_false',bf0]at hb;obtain⟨e1,e2,e3,e4⟩:=hb;refine Lh ⟨by omega,λh7=>?_,λh0=>?_⟩
       ·rcases e3 with e3 | e3
        ·exact absurd e3 h7
        exact e3
       rcases e4 with e4 | ⟨e4,e5⟩
       ·exact absurd h0 e4
       exact⟨e4,e5⟩
      obtain⟨b6,hb6⟩:=Nm (decide (agg=6));have Ik:=Lh hb6;have IZ:Hid (T=if b6=true then min n kq else 0):=by
       rw[UY.out.2,hb6];by_cases a6:agg=6
       ·rw[if_pos a6,bfr a6,if_pos rfl];exact Lh rfl
       rw[if_neg a6,bfq a6,if_neg (by decide)]
       exact Lh rfl
      clear hb6;go_upto_region 11 with(fail);go_cut[90]from 88 to 90 (λs wx=>s=.bool b6/\wx=w2)
      case first=>
       by_cases a6:agg=6
       ·have HQ:Hid (b6=true):=by rw[Ik.out,bfr a6];exact Lh rfl
        have a6e:(agg==6)=true:=by simpa using a6
        clear a6;go_wp2_with(fail);go_meet;exact⟨by rw[HQ.out],by first | rfl | trivial⟩
       have HQ:Hid (b6=false):=by rw[Ik.out,bfq a6];exact Lh rfl
       have a6e:(agg==6)=false:=by simpa using a6
       clear a6;go_wp2_with(fail);go_meet;exact⟨by rw[HQ.out],by first | rfl | trivial⟩
      case rest=>
       obtain⟨rfl,hw⟩:=hcut;subst wc;go_upto_if 90 with(fail);go_cut[6]from 91 to 95 (λs wx=>s=.int .i64 T/\wx=w2)
       case first=>
        cases b6 with
        | true=>
         have HQ:Hid (min n kq=T/\(if kq<n then kq else n)=T):=by
          have e:min n kq=T:=(IZ.out.trans (if_pos rfl)).symm;refine Lh ⟨e,?_⟩;rw[<-e]
          split <;> omega
         go_wp2_with(fail);go_meet;exact⟨by first | rw[HQ.out.1] | rw[HQ.out.2],rfl⟩
        | false=>
         have HQ:Hid (T=0):=Lh (IZ.out.trans (if_neg (by decide)))
         go_wp2_with(fail);go_meet;exact⟨by rw[HQ.out],by first | rfl | trivial⟩
       case rest=>
        obtain⟨rfl,hw⟩:=hcut;subst wc;clear IZ Ik;by_cases Ze:(L:Int)=T
        ·have hLn:((L:Int) !=T)=false:=by simpa using Ze
         have HC:Hid (∀wr,wr=w2->(∀i<l.length,okF l i)->P (.returned (.bool true)) wr):=Lh (λwr hw h=>by rw[hw];exact Sl.out w2 H2.out.2.2.1 ⟨rfl,by omega,IC.out,Tn.out.1,Tn.out.2.1,Tn.out.2.2,by rw[<-Y0.out];exact Ze,h⟩)
         have HN:Hid (∀i,i<L->¬okF l i->P (.returned (.bool false)) w2):=Lh (λi hi h=>SF.out w2 H2.out.2.2.1 (λhc=>h (hc.2.2.2.2.2.2.2 i (by rw[<-Y0.out];exact hi))))
         clear Ze;have hLb:=HL.out;go_wp2_with(fail);go_loopw[104] (zA w2 l) (λv _=>L-(intOf v).toNat)
         case atStart=>exact⟨0,bgi _,rfl,λj h=>absurd h (Nat.not_lt_zero _),rfl⟩
         case round=>
          obtain⟨i,hi,rfl,hok,hwr⟩:=hrel;obtain rfl:w2=wr:=hwr.symm;rw[<-Y0.out]at hi;have HO:=Lh hok;clear hok;by_cases hlt:i<L
          ·have hi0:(0:Int)<=(i:Int)/\(i:Int)<(L:Int):=by omega
           obtain⟨x,pb,po,c',hx,hsa,c0⟩:=H2.out.2.2.2.get (t:=i) (by rw[<-Y0.out];exact hlt)
           obtain rfl:ta=some ⟨pb,po,none⟩:=by injection hsa
           have HX:=Lh (bfy (rW hx) hlt);clear hx hsa hi hlt;by_cases x1:x < -1099511627776
           ·have HZ:=Lh (HN.out i HX.out.2 (λh=>by have:=h.1;rw[HX.out.1]at this;rw[jL]at this;have:=bgh this;omega))
            go_wp2_with(fail);exact HZ.out
           by_cases x2:1099511627776<x
           ·have HZ:=Lh (HN.out i HX.out.2 (λh=>by have:=h.1;rw[HX.out.1]at this;rw[jL]at this;have:=bgh this;omega))
            go_wp2_with(fail);exact HZ.out
           have Xl:Hid (jL x 1099511627776=true):=Lh (by simp[jL];omega)
           by_cases hz0:i=0
           ·subst hz0;have HR:Hid (zA w2 l (.int .i64 ((0:Int)+1)) w2):=Lh ⟨1,by have:=Y0.out;have:=HX.out.2;omega,rfl,λj hj=>by
             obtain rfl:j=0:=by omega
             exact⟨by rw[HX.out.1];exact Xl.out,λh=>absurd h (Nat.lt_irrefl _)⟩,rfl⟩
            rw[Nat.add_zero]at c0;rw[show((0:Nat):Int)=0 from rfl]at hi0 ⊢;go_wp2_with(fail);go_roundw
            case rel=>exact HR.out
            case measure=>have:=HX.out.2;simp[intOf];omega
           obtain⟨m,rfl⟩:∃m,i=m+1:=⟨i - 1,by omega⟩
           obtain⟨y,pb',Ug,c'',hy,hsa,cy⟩:=H2.out.2.2.2.get (t:=m) (by have:=HX.out.2;have:=Y0.out;omega)
           obtain⟨rfl,rfl⟩:pb=pb'/\po=Ug:=by
            injection hsa with h1
            injection h1 with h1
            injection h1 with h1 h2
            exact⟨h1,h2⟩
           have HY:=Lh (rW hy);have hgt:(0:Int)<((m+1:Nat):Int):=by omega
           have him:((m+1:Nat):Int)-1=(m:Int):=by omega
           have hi1:(0:Int)<=(m:Int)/\(m:Int)<(L:Int):=by omega
           have Tn:Hid (okF l (m+1)↔x<=y):=by
            refine Lh ?_;unfold okF;rw[HX.out.1,Nat.add_sub_cancel,HY.out];exact⟨λh=>h.2 (by omega),λh=>⟨Xl.out,λ_=>h⟩⟩
           clear hy hsa hz0;by_cases hxy:y<x
           ·have HZ:=Lh (HN.out (m+1) HX.out.2 (λh=>by have:=Tn.out.1 h;omega))
            go_wp2_with(fail);exact HZ.out
           have HR:Hid (zA w2 l (.int .i64 (((m+1:Nat):Int)+1)) w2):=Lh ⟨m+2,by have:=Y0.out;have:=HX.out.2;omega,by go_num,λj hj=>by
            by_cases e:j=m+1
            ·subst e;exact Tn.out.2 (by omega)
            exact HO.out j (by omega),rfl⟩
           go_wp2_with(fail);go_roundw
           case rel=>exact HR.out
           case measure=>have:=HX.out.2;simp[intOf];omega
          obtain rfl:i=L:=by omega
          have HZ:=Lh (HC.out w2 rfl (by rw[<-Y0.out];exact HO.out))
          go_wp2_with(fail);exact HZ.out
        have hLn:((L:Int) !=T)=true:=by simpa using Ze
        have HZ:=Lh (SF.out w2 H2.out.2.2.1 (λh=>Ze (by have:=h.2.2.2.2.2.2.1;rw[<-Y0.out]at this;exact this)))
        clear Ze;go_wp2_with(fail);exact HZ.out
def mE(v:Int)(l:List Int):Bool:=l.any (λx=>decide (x<v))
def jX(v:Int)(l:List Int):List Int:=if mE v l=true then jD v l else l
theorem KU(v:Int):∀l m:List Int,mE v l=true->jD v (l++m)=jD v l++m
 | [],_,h=>by simp[mE]at h
 | x::l,m,h=>by
  by_cases hx:x<v
  ·simp[jD,hx]
  have hl:mE v l=true:=by simpa[mE,hx]using h
  simp[jD,hx,KU v l m hl]
theorem Bc(v:Int):∀l m:List Int,mE v l=false->jD v (l++m)=l++jD v m
 | [],_,_=>rfl
 | x::l,m,h=>by
  have hx:¬x<v:=by
   intro hx;simp[mE,hx]at h
  have hl:mE v l=false:=by simpa[mE,hx]using h
  simp[jD,hx,Bc v l m hl]
theorem mX(v x:Int)(l:List Int):mE v (l++[x])=(mE v l || decide (x<v)):=by simp[mE]
theorem NY {v x:Int} {l:List Int}(h:mE v l=true):jX v (l++[x])=jX v l++[x]:=by
 have e:mE v (l++[x])=true:=by rw[mX,h];rfl
 rw[jX,jX,if_pos h,if_pos e,KU v l [x] h]
theorem NW {v x:Int} {l:List Int}(h:mE v l=false)(hx:x<v):jX v (l++[x])=jX v l++[v]++[x]:=by
 have e:mE v (l++[x])=true:=by rw[mX,h];simp[hx]
 have e0:jX v l=l:=by rw[jX,h];rfl
 rw[e0,jX,if_pos e,Bc v l [x] h];simp[jD,hx]
theorem P6 {v x:Int} {l:List Int}(h:mE v l=false)(hx:¬x<v):jX v (l++[x])=jX v l++[x]:=by
 have e:mE v (l++[x])=false:=by rw[mX,h];simp[hx]
 have e0:jX v l=l:=by rw[jX,h];rfl
 rw[e0,jX,e];rfl
theorem LY {v:Int} {l:List Int}(h:mE v l=true):jX v l=jD v l:=by rw[jX,if_pos h]
theorem NV {v:Int} {l:List Int}(h:mE v l=false):jX v l++[v]=jD v l:=by
 rw[jX,h];have:=Bc v l [] h;rw[bg2]at this;rw[this];simp[jD]
theorem Gz(v:Int)(l:List Int):(jX v l).length<=l.length+1:=by
 rw[jX]
 split
 ·rw[nI];omega
 omega
def DI(w:World)(l:List Int)(v:Int)(s7 s8 s13:Value)(wr:World):Prop:=
 ∃k:Nat,k<=l.length/\s13=.int .i64 (k:Int)/\s8=.bool (mE v (l.take k))/\gF wr w.heap.size s7 (jX v (l.take k))/\Bw w wr
def xJ(w:World)(l:List Int)(e:Ending)(w':World):Prop:=∃tv,e=.returned tv/\bA w' tv l/\(∀a n c,tv=.slice (some a) n c->w.heap.size<=a.block)/\Bw w w'
theorem KV {w w':World} {s:Value} {l:List Int}(h:gF w' w.heap.size s l)(hB:Bw w w')(k:Nat):∃a c m,s=.slice a l.length c/\m=min l.length k/\(∀wz,(Instr.slice 48 (.slice a l.length c) none (some (.int .i64 (m:Int))) none).run prog wz=.ok (.slice a m c) wz)/\xJ w (l.take k) (.returned (.slice a m c)) w':=by
 obtain⟨a,c,rfl,hc,hI⟩:=h.ints;refine⟨a,c,min l.length k,rfl,rfl,λwz=>xg wz a l.length c _ (by omega),_,rfl,?_,?_,hB⟩
 ·have:=h.ints.take (min l.length k) (Nat.min_le_left _ _);have e:l.take (min l.length k)=l.take k:=by
   rw[Nat.min_comm,<-List.take_take,bgs]
  rw[e]at this;exact this
 intro b n c' e;injection e with e1 e2 e3
 subst e1;exact(h.lt (k:=b.block) rfl).1
theorem yS(w:World)(tv:Value)(l:List Int)(v:Int)(k:Nat)(h1:bA w tv l)(hl:l.length<=1000):
  Calls prog 111 #[tv,.int .i64 v,.int .i64 (k:Int)] w (xJ w ((jD v l).take k)):=by
 obtain⟨P,hP⟩:=Nm (xJ w ((jD v l).take k));rw[<-hP];have HT:=Lh h1;obtain⟨ta,tc,rfl,_,_⟩:=h1;have HP:Hid (P=xJ w ((jD v l).take k)):=Lh hP;clear hP;obtain⟨n,hn⟩:=Nm (l.length);rw[<-hn]at HT hl ⊢;have HN:=Lh hn;have Tx:n<=1000:=hl;clear hn hl;go_enter func111,ntmps111;go_wp2_with(fail);go_loopw[7,8,13] (DI w l v) (λ_ _ i _=>n-(intOf i).toNat)
 case atStart=>exact⟨0,bgi _,rfl,rfl,gF.nil _ _,Br⟩
 case round=>
  obtain⟨i,hi,rfl,hd,hO,hB⟩:=hrel;obtain⟨d,hdd⟩:=Nm (mE v (l.take i));rw[<-hdd]at hd;subst hd;rw[<-HN.out]at hi;obtain⟨vb,hvb⟩:=Nm u7;subst hvb;have HO:=Lh (bfy hO (bfy hB hdd));have o8:Hid ((jX v (l.take i)).length<=n+1):=Lh (by have:=Gz v (l.take i);rw[bga,<-HN.out]at this;omega)
  clear hO hB hdd;by_cases hlt:i<n
  ·have hi0:(0:Int)<=(i:Int)/\(i:Int)<(n:Int):=by omega
   obtain⟨x,pb,po,c',hx,hsa,c0⟩:=(HT.out.below HO.out.2.1).get (t:=i) (by rw[<-HN.out];exact hlt)
   obtain rfl:ta=some ⟨pb,po,none⟩:=by injection hsa
   have HX:Hid (l.take (i+1)=l.take i++[x]/\i<n):=Lh ⟨by rw[List.take_add_one,hx];rfl,hlt⟩
   clear hx hsa hi hlt
   cases d with
   | true=>
    have HA:Hid (mE v (l.take (i+1))=true/\jX v (l.take (i+1))=jX v (l.take i)++[x]):=by
     rw[HX.out.1,mX,<-HO.out.2.2];exact Lh ⟨rfl,NY HO.out.2.2.symm⟩
    go_upto_region 9 with(fail);refine bg4 ?_
    iterate 9 go_step
    refine jQ rfl (.tmp 28) (.tmp 30) rfl w.heap.size vb (jX v (l.take i)) [x] rfl (gF.far (HO.out.1) ((Below.refl _ wr).alloc (bfx _) _)) (.slice (some ⟨wr.heap.size,0,none⟩) 1 1) rfl (bA.cell1 (bg5 wr _)) (by have:=o8.out;simp;omega) (by rw[bq];have:=(HO.out.2.1).size;omega) ?_
    intro v9 w9 g1 g2;have H9:Hid (gF w9 w.heap.size v9 (jX v (l.take i)++[x])/\Bw w w9):=by
     have hb0:=((Below.refl _ wr).alloc (bfx _) (Obj.cells #[.int .i64 x] 3)).mono (HO.out.2.1).size;exact Lh ⟨g1,(HO.out.2.1).trans (hb0.trans (gF.below (gF.far (HO.out.1) ((Below.refl _ wr).alloc (bfx _) _)) g2 (by rw[bq];have:=(HO.out.2.1).size;omega)))⟩
    clear g1 g2;have HR:Hid (DI w l v v9 (.bool true) (.int .i64 ((i:Int)+1)) w9):=by
     refine Lh ⟨i+1,by have:=HX.out.2;have:=HN.out;omega,by go_num,by rw[HA.out.1],?_,H9.out.2⟩
     rw[HA.out.2];exact H9.out.1
    clear c0;go_wp2_with(fail);go_roundw
    case rel=>exact HR.out
    case measure=>have:=HX.out.2;simp[intOf];omega
   | false=>
    by_cases hxv:x<v
    ·have HA:Hid (mE v (l.take (i+1))=true/\jX v (l.take (i+1))=jX v (l.take i)++[v]++[x]):=by
      rw[HX.out.1,mX,<-HO.out.2.2];exact Lh ⟨by simp[hxv],NW HO.out.2.2.symm hxv⟩
     go_upto_region 7 with(fail);refine bg4 ?_
     iterate 9 go_step
     refine jQ rfl (.tmp 24) (.tmp 26) rfl w.heap.size vb (jX v (l.take i)) [v] rfl (gF.far (HO.out.1) ((Below.refl _ wr).alloc (bfx _) _)) (.slice (some ⟨wr.heap.size,0,none⟩) 1 1) rfl (bA.cell1 (bg5 wr _)) (by have:=o8.out;simp;omega) (by rw[bq];have:=(HO.out.2.1).size;omega) ?_
     intro v8 w8 g1 g2;have H8:Hid (gF w8 w.heap.size v8 (jX v (l.take i)++[v])/\Bw w w8):=by
      have hb0:=((Below.refl _ wr).alloc (bfx _) (Obj.cells #[.int .i64 v] 3)).mono (HO.out.2.1).size;exact Lh ⟨g1,(HO.out.2.1).trans (hb0.trans (gF.below (gF.far (HO.out.1) ((Below.refl _ wr).alloc (bfx _) _)) g2 (by rw[bq];have:=(HO.out.2.1).size;omega)))⟩
     clear g1 g2;go_upto_region 9 with(fail);refine bg4 ?_
     iterate 9 go_step
     refine jQ rfl (.tmp 28) (.tmp 30) rfl w.heap.size v8 (jX v (l.take i)++[v]) [x] rfl (gF.far (H8.out.1) ((Below.refl _ w8).alloc (bfx _) _)) (.slice (some ⟨w8.heap.size,0,none⟩) 1 1) rfl (bA.cell1 (bg5 w8 _)) (by have:=o8.out;simp;omega) (by rw[bq];have:=(H8.out.2).size;omega) ?_
     intro v9 w9 g1 g2;have H9:Hid (gF w9 w.heap.size v9 (jX v (l.take i)++[v]++[x])/\Bw w w9):=by
      have hb0:=((Below.refl _ w8).alloc (bfx _) (Obj.cells #[.int .i64 x] 3)).mono (H8.out.2).size;exact Lh ⟨g1,(H8.out.2).trans (hb0.trans (gF.below (gF.far (H8.out.1) ((Below.refl _ w8).alloc (bfx _) _)) g2 (by rw[bq];have:=(H8.out.2).size;omega)))⟩
     clear g1 g2;have HR:Hid (DI w l v v9 (.bool true) (.int .i64 ((i:Int)+1)) w9):=by
      refine Lh ⟨i+1,by have:=HX.out.2;have:=HN.out;omega,by go_num,by rw[HA.out.1],?_,H9.out.2⟩
      rw[HA.out.2];exact H9.out.1
     clear c0;go_wp2_with(fail);go_roundw
     case rel=>exact HR.out
     case measure=>have:=HX.out.2;simp[intOf];omega
    ·have HA:Hid (mE v (l.take (i+1))=false/\jX v (l.take (i+1))=jX v (l.take i)++[x]):=by
      rw[HX.out.1,mX,<-HO.out.2.2];exact Lh ⟨by simp[hxv],P6 HO.out.2.2.symm hxv⟩
     go_upto_region 9 with(fail);refine bg4 ?_
     iterate 9 go_step
     refine jQ rfl (.tmp 28) (.tmp 30) rfl w.heap.size vb (jX v (l.take i)) [x] rfl (gF.far (HO.out.1) ((Below.refl _ wr).alloc (bfx _) _)) (.slice (some ⟨wr.heap.size,0,none⟩) 1 1) rfl (bA.cell1 (bg5 wr _)) (by have:=o8.out;simp;omega) (by rw[bq];have:=(HO.out.2.1).size;omega) ?_
     intro v9 w9 g1 g2;have H9:Hid (gF w9 w.heap.size v9 (jX v (l.take i)++[x])/\Bw w w9):=by
      have hb0:=((Below.refl _ wr).alloc (bfx _) (Obj.cells #[.int .i64 x] 3)).mono (HO.out.2.1).size;exact Lh ⟨g1,(HO.out.2.1).trans (hb0.trans (gF.below (gF.far (HO.out.1) ((Below.refl _ wr).alloc (bfx _) _)) g2 (by rw[bq];have:=(HO.out.2.1).size;omega)))⟩
     clear g1 g2;have HR:Hid (DI w l v v9 (.bool false) (.int .i64 ((i:Int)+1)) w9):=by
      refine Lh ⟨i+1,by have:=HX.out.2;have:=HN.out;omega,by go_num,by rw[HA.out.1],?_,H9.out.2⟩
      rw[HA.out.2];exact H9.out.1
     clear c0;go_wp2_with(fail);go_roundw
     case rel=>exact HR.out
     case measure=>have:=HX.out.2;simp[intOf];omega
  obtain rfl:i=n:=by omega
  have WV:Hid (l.take i=l):=Lh (by rw[HN.out,bgs])
  cases d with
  | true=>
   have IM:Hid (gF wr w.heap.size vb (jD v l)):=by
    have h:=HO.out.1;rw[WV.out,LY (by rw[HO.out.2.2,WV.out])]at h
    exact Lh h
   obtain⟨ea,ec,em,rfl,hem,hsl,hE⟩:=KV IM.out HO.out.2.1 k;have HZ:Hid (P (.returned (.slice ea em ec)) wr):=Lh (by rw[HP.out];exact hE)
   have IG:=Lh (bfy hem (nI v l));obtain⟨N,hN⟩:=Nm ((jD v l).length);rw[<-hN]at hsl hem IG;rw[<-hN];have e3:(if (k:Int)<(N:Int)then (k:Int)else (N:Int))=(em:Int):=by
    rw[hem]
    split <;> omega
   have e4:min (N:Int) (k:Int)=(em:Int):=by omega
   clear hE hN hem;go_wp2_with(fail);exact HZ.out
  | false=>
   have HA:Hid (jX v (l.take i)++[v]=jD v l):=Lh (by rw[WV.out];exact NV (by rw[HO.out.2.2,WV.out]))
   go_upto_region 12 with(fail);refine bg4 ?_
   iterate 9 go_step
   refine jQ rfl (.tmp 35) (.tmp 37) rfl w.heap.size vb (jX v (l.take i)) [v] rfl (gF.far (HO.out.1) ((Below.refl _ wr).alloc (bfx _) _)) (.slice (some ⟨wr.heap.size,0,none⟩) 1 1) rfl (bA.cell1 (bg5 wr _)) (by have:=o8.out;simp;omega) (by rw[bq];have:=(HO.out.2.1).size;omega) ?_
   intro v8 w8 g1 g2;have H8:Hid (gF w8 w.heap.size v8 (jX v (l.take i)++[v])/\Bw w w8):=by
    have hb0:=((Below.refl _ wr).alloc (bfx _) (Obj.cells #[.int .i64 v] 3)).mono (HO.out.2.1).size;exact Lh ⟨g1,(HO.out.2.1).trans (hb0.trans (gF.below (gF.far (HO.out.1) ((Below.refl _ wr).alloc (bfx _) _)) g2 (by rw[bq];have:=(HO.out.2.1).size;omega)))⟩
   clear g1 g2;have IM:Hid (gF w8 w.heap.size v8 (jD v l)):=by
    have h:=H8.out.1;rw[HA.out]at h;exact Lh h
   obtain⟨ea,ec,em,rfl,hem,hsl,hE⟩:=KV IM.out H8.out.2 k;have HZ:Hid (P (.returned (.slice ea em ec)) w8):=Lh (by rw[HP.out];exact hE)
   have IG:=Lh (bfy hem (nI v l));obtain⟨N,hN⟩:=Nm ((jD v l).length);rw[<-hN]at hsl hem IG;rw[<-hN];have e3:(if (k:Int)<(N:Int)then (k:Int)else (N:Int))=(em:Int):=by
    rw[hem]
    split <;> omega
   have e4:min (N:Int) (k:Int)=(em:Int):=by omega
   clear hE hN hem;go_wp2_with(fail);exact HZ.out
end Go.Proofs.YtjeeghafachebaaGreat
