/- 17. -/
import Derived.Lib.Overlaps
import Derived.Test.YtgfmbkoieacgoaaGreatDoorW14
set_option maxRecDepth 100000
set_option maxHeartbeats 4000000
namespace Go.Proofs.YtgfmbkoieacgoaaGreatDoor
open Go Go.RowKit Go.Proofs.Tryz
theorem vX {a b:bf}(c:a.rightB=true)(d:b.rightB=true):qX a b=dP a b:=by
 rw[Jz,c,d];rfl
theorem TI {a b c:bf}(n:b.rightB=true)(e:bK a b)(d:bK b c)(j:qX a b=false):qX a c=false:=by
 have o:=bU n;rw[qX,decide_eq_false_iff_not]at j ⊢;intro h;apply j;obtain⟨k,_,_⟩:=h;unfold bK at e d;rcases e with e | ⟨l,e⟩
 ·rcases d with d | ⟨m,d⟩
  ·have:=tC e d;rw[k,lD]at this;cases this
  rw[k,<-m,lD]at e;cases e
 rcases d with d | ⟨m,d⟩
 ·rw[<-k,l,lD]at d;cases d
 exact⟨l,by omega,by omega⟩
def CY(l:List bf)(i:Nat):Prop:=(sO l i).rightB=true/\(0<i->apartB (sO l (i-1)) (sO l i)=true)
theorem vH(l:List bf):dM l↔∀i<l.length,CY l i:=by
 have b:∀i (h:i<l.length),sO l i=l[i]:=λi h=>fJ (bfs h);constructor
 ·intro h i a;refine⟨by rw[b i a];exact h.1 _ (List.getElem_mem _),λr=>?_⟩
  obtain⟨o,p2⟩:=List.pairwise_iff_getElem.1 h.2 (i - 1) i (by omega) a (by omega)
  rw[b _ a,b (i-1) (by omega),apartB,vX (h.1 _ (List.getElem_mem _)) (h.1 _ (List.getElem_mem _)),p2,bfr ((jQ _ _).2 o)]
  rfl
 intro h;have c:∀i (a:i<l.length),l[i].rightB=true:=λi a=>by
  have:=(h i a).1
  rwa [b i a]at this
 have step:∀i (a:i+1<l.length),bK (l[i]'(by omega)) l[i+1]/\qX (l[i]'(by omega)) l[i+1]=false:=by
  intro i a;have:=(h (i+1) a).2 (by omega)
  rw[Nat.add_sub_cancel,b _ a,b i (by omega),apartB,bf8,bf0,Bool.not_eq_true']at this
  exact⟨(jQ _ _).1 this.1,this.2⟩
 have far:∀d i (a:i+d+1<l.length),bK (l[i]'(by omega)) l[i+d+1]/\qX (l[i]'(by omega)) l[i+d+1]=false:=by
  intro d
  induction d with
  | zero=>intro i a;exact step i a
  | succ d ih=>
   intro i a;obtain⟨e,k⟩:=ih i (by omega)
   obtain⟨m,s⟩:=step (i+d+1) a;exact⟨e.trans m,TI (c _ (by omega)) e m k⟩
 refine⟨λx p=>?_,List.pairwise_iff_getElem.2 λi j a n q=>?_⟩
 ·obtain⟨i,a,rfl⟩:=List.getElem_of_mem p;exact c i a
 obtain⟨d,rfl⟩:∃d,j=i+d+1:=⟨j - i - 1,by omega⟩
 obtain⟨e,k⟩:=far d i n;exact⟨e,by rw[<-vX (c i a) (c _ n)];exact k⟩
theorem SQ {l:List bf} {i:Nat}(a:i<l.length)(h:¬CY l i):decide (dM l)=false:=
 bfq λb=>h ((vH l).1 b i a)
def Sm(w:World)(l:List bf)(v:Value)(wr:World):Prop:=∃i:Nat,i<=l.length/\v=.int .i64 (i:Int)/\(∀j<i,CY l j)/\Bw w wr
theorem xI(w:World)(sa:Option Addr)(sc:Nat)(l:List bf)(hA:fZ w sa l)(hk:∀x∈l,x.key.length<=1000000)(hn:l.length<=1000000):
  Calls prog 181 #[.slice sa l.length sc] w (Below0 w (.bool (decide (dM l)))):=by
 obtain⟨n,hN⟩:=Nm (l.length);obtain⟨P,hP⟩:=Nm (Below0 w (.bool (decide (dM l))));rw[<-hP,<-hN];have HN:Hid (n=l.length/\n<=1000000):=Lh ⟨hN,by omega⟩
 have aC:n<=1000000:=by omega
 have HA:=Lh hA;have HK:Hid (∀(i:Nat) (x:bf),l[i]? =some x->x.key.length<=1000000):=Lh (λi x h=>hk x (bf3 h));have Yk:Hid (∀wz i,i<n->¬CY l i->Bw w wz->P (.returned (.bool false)) wz):=Lh (λwz i hi h q=>by rw[hP,SQ (by omega) h];exact⟨rfl,q⟩)
 have XY:Hid (∀wz,(∀j<n,CY l j)->Bw w wz->P (.returned (.bool true)) wz):=Lh (λwz h q=>by
  rw[hP,bfr ((vH l).2 (by rw[hN]at h;exact h))]
  exact⟨rfl,q⟩)
 clear hN hA hk hn hP;go_enter func181,ntmps181;go_wp2_with fail;go_loopw[7] (Sm w l) (λv _=>n-(intOf v).toNat)
 case atStart=>exact⟨0,bgi _,rfl,λj h=>absurd h (Nat.not_lt_zero _),Br⟩
 case round=>
  obtain⟨i,hi,rfl,ah,q⟩:=hrel;rw[<-HN.out.1]at hi;have HO:=Lh (bfy ah q);clear ah q;by_cases R:i<n
  ·have S:(0:Int)<=(i:Int)/\(i:Int)<(n:Int):=by omega
   obtain⟨x,I,J,hx,ao,c0,c1,c2⟩:=(HA.out.below HO.out.2).get (t:=i) (by rw[<-HN.out.1];exact R)
   subst ao;have L:=Lh (bfy (HK.out i x hx) (bfy (fJ hx) R));have aD:=Lh S;obtain⟨N,O,Q⟩:=x;simp only at c0 c1 c2;clear hx hi R;go_upto_region 3 with fail;refine bg4 ?_
   iterate 15 go_step
   refine bg6 rfl _ _ _ rfl wr.heap.size (bf.mk N O Q).cells rfl rfl 34 bF.cells (bg5 wr _) bz rfl (bG _) ?_;obtain⟨E,aa⟩:=Nm ((wr.alloc (Obj.cells #[.string ⟨#[]⟩,.int .i64 0,.int .i64 0] 34)).setRow wr.heap.size (bf.mk N O Q).cells);obtain⟨xb,ab⟩:=Nm (wr.heap.size);have X3:Hid (dH E xb (bf.mk N O Q)/\Bw wr E):=by
    obtain⟨k1,k2⟩:=kH wr (bf.mk N O Q);rw[aa,ab];exact Lh ⟨k1,k2⟩
   rw[<-aa,<-ab];clear aa ab c0 c1 c2;have U:Hid (Bw w E):=Lh (HO.out.2.trans (X3.out.2.mono HO.out.2.size));have Y:Hid (Bw E E.drew):=(Below.refl _ E).drew;obtain⟨F,YY⟩:=Nm (Value.agg (bf.mk N O Q).cells);have HD:Hid (∀c,Bw E c->D3 c xb N O Q):=Lh (λc h=>(X3.out.1.below h).d3);obtain⟨r,hr⟩:=Nm ((bf.mk N O Q).rightB);have oq:Hid (∀c,Calls prog 62 #[F] c (Below0 c (.bool r))):=by
    rw[hr,YY];exact Lh (λc=>gQ c ⟨N,O,Q⟩ L.out.1)
   have HV:=Lh YY;have Hr:=Lh hr;have OD:Hid (∀c,Bw E c->CY l i->Sm w l (.int .i64 ((i:Int)+1)) c):=by
    refine Lh (λc h hb=>⟨i+1,?_,by go_num,λj hj=>?_,Tb U.out h⟩)
    ·have:=HN.out.1;have:=L.out.2.2;omega
    by_cases e:j=i
    ·rw[e];exact hb
    exact HO.out.1 j (by omega)
   clear hr YY
   cases r with
   | false=>
    have ac:Hid (∀c,Bw E c->P (.returned (.bool false)) c):=by
     refine Lh (λc h=>Yk.out c i L.out.2.2 (λhk=>?_) (Tb U.out h));have:=hk.1;rw[L.out.2.1,<-Hr.out]at this;cases this
    go_upto_region 4 with fail;refine wp_region_skip_frame (λi=>([4,5,6,7,8,9,10,11,12,13,14,15]:List Nat).contains i) (by kernel_rfl) (NoF (NoF (NoF [none,none]))) [] (λi_ _ _ v_=>v_=((F::([.bool false,.bool true,.bool true,undef,undef,undef,undef,undef,undef,undef,undef,undef,undef,undef,undef,.bool true]:List Value))).getD i_ undef) (λ_ c=>Bw E c) (λw c=>Bw w c) (λ_ _ _ _ _ _ h=>h) (by kernel_rfl) (by kernel_rfl) (by kernel_rfl) Y.out (λ_=>⟨rfl,rfl,rfl,rfl,IlA,IlA,IlA,λ_ _ h=> .inr ⟨rfl,h⟩,λ_ _ h=> .inr ⟨rfl,h⟩,λ_ _ h=> .inr ⟨rfl,h⟩,λ_ _ h=> .inr ⟨rfl,h⟩,λ_ _ h=> .inr ⟨rfl,h⟩,λ_ _ h=> .inr ⟨rfl,h⟩,λ_ _ h=> .inr ⟨rfl,h⟩,λ_ _ h=> .inr ⟨rfl,h⟩,IlA,rfl,trivial⟩) (λi hi=>by have hm:=List.contains_iff_mem.1 hi;simp only[bf2,bf9,or_false]at hm;rcases hm with rfl | rfl | rfl | rfl | rfl | rfl | rfl | rfl | rfl | rfl | rfl | rfl <;> exact⟨rfl,λ_ _=>rfl⟩) ?_ ?_
    ·refine ⟨?_,?_,?_,?_,?_,?_,?_,?_,?_,?_,?_,?_,?_,?_,?_,?_,?_,trivial⟩<;>(first|exact λh=>absurd h (by decide)|intro _ k a c p s o K z)<;>replace s:=Lh s<;>replace o:=Lh o
     ·have q4:=FaA s 4 xb 0;obtain⟨d0,d1,d2⟩:=HD.out c p;go_step;exact z _ _ HV.out.symm p Br
     ·have ad:=Ep a 12 F o.out.1;have M:=Lh (oq.out c);go_step;refine M.out.mono ?_;rintro e w3 ⟨rfl,q⟩;exact z _ _ rfl (Tb p q) q
     have ae:=Ep a 13 (.bool false) o.out.1;rotate_left;have af:=Ep a 14 (.bool true) o.out.1;rotate_left;have ag:=Ep a 15 (.bool true) o.out.1;have Zz:=Ep a 27 undef o.out.2.1;rotate_left
     all_goals(go_step;exact z _ _ rfl p Br)
    intro vs w2 p u D
    match vs,u,D with
    | [v0,v1,v2,v3,v4,v5,v6,v7,v8,v9,v10,v11,v12,v13,v14,v15,v16],_,D=>
     obtain rfl:v16=.bool true:=(D 16 28 v16 rfl rfl);clear D;simp only[putsL,bf7,bf1];simp only[Act.put,bfw,bfu,bfv];have Z:=Lh (ac.out w2 p);clear p;go_wp2_with fail;exact Z.out
   | true=>
    by_cases hz:i=0
    ·subst hz;have AB:Hid (CY l 0):=Lh ⟨by rw[L.out.2.1];exact Hr.out.symm,λh=>absurd h (Nat.lt_irrefl _)⟩
     rw[show((0:Nat):Int)=0 from rfl]at S ⊢;rw[show((0:Nat):Int)=0 from rfl]at OD;go_upto_region 4 with fail;refine wp_region_skip_frame (λi=>([7,8,9,10,11,12,13,14]:List Nat).contains i) (by kernel_rfl) (NoF (NoF (NoF [none,none]))) [] (λi_ _ _ v_=>v_=((F::([.bool true,.bool false,.bool false,.int .i64 (0:Int),.bool false,.bool false,undef,undef,undef,undef,undef,undef,undef,undef,.bool false,.bool false]:List Value))).getD i_ undef) (λ_ c=>Bw E c) (λw c=>Bw w c) (λ_ _ _ _ _ _ h=>h) (by kernel_rfl) (by kernel_rfl) (by kernel_rfl) Y.out (λ_=>⟨rfl,rfl,rfl,rfl,IlA,IlA,IlA,IlA,IlA,IlA,IlA,IlA,IlA,IlA,IlA,IlA,rfl,trivial⟩) (λi hi=>by have hm:=List.contains_iff_mem.1 hi;simp only[bf2,bf9,or_false]at hm;rcases hm with rfl | rfl | rfl | rfl | rfl | rfl | rfl | rfl <;> exact⟨rfl,λ_ _=>rfl⟩) ?_ ?_
     ·refine ⟨?_,?_,?_,?_,?_,?_,?_,?_,?_,?_,?_,?_,?_,?_,?_,?_,?_,trivial⟩<;>(first|exact λh=>absurd h (by decide)|intro _ k a c p s o K z)<;>replace s:=Lh s<;>replace o:=Lh o
      ·have q4:=FaA s 4 xb 0;obtain⟨d0,d1,d2⟩:=HD.out c p;go_step;exact z _ _ HV.out.symm p Br
      ·have ad:=Ep a 12 F o.out.1;have M:=Lh (oq.out c);go_step;refine M.out.mono ?_;rintro e w3 ⟨rfl,q⟩;exact z _ _ rfl (Tb p q) q
      have ae:=Ep a 13 (.bool true) o.out.1;rotate_left;have af:=Ep a 14 (.bool false) o.out.1;rotate_left;have q3:=FiA s 3 0;rotate_left;have ai:=Pi a 16 0 o.out.1;rotate_left;have aj:=Ep a 17 (.bool false) o.out.1;rotate_left;have ak:=Ep a 18 (.bool false) o.out.1;have ZM:=Ep a 26 undef o.out.2.1;rotate_left;have ag:=Ep a 15 (.bool false) o.out.1;have Zz:=Ep a 27 (.bool false) o.out.2.1;rotate_left
      all_goals(go_step;exact z _ _ rfl p Br)
     intro vs w2 p u D
     match vs,u,D with
     | [v0,v1,v2,v3,v4,v5,v6,v7,v8,v9,v10,v11,v12,v13,v14,v15,v16],_,D=>
      obtain rfl:v16=.bool false:=(D 16 28 v16 rfl rfl);clear D;simp only[putsL,bf7,bf1];simp only[Act.put,bfw,bfu,bfv];have Z:=Lh (OD.out w2 p AB.out);have HJ:=Lh L.out.2.2;clear p;go_wp2_with fail;go_roundw
      case rel=>exact Z.out
      case measure=>have:=HJ.out;simp[intOf];omega
    obtain⟨m,rfl⟩:∃m,i=m+1:=⟨i - 1,by omega⟩
    obtain⟨y,pc,oc,hy,ap,_⟩:=HA.out.get (t:=m) (by have:=L.out.2.2;rw[<-HN.out.1];omega)
    cases ap
    obtain⟨b,hb⟩:=Nm (apartB y ⟨N,O,Q⟩);obtain⟨VP,ZU⟩:=Nm (Value.agg y.cells);have U6:Hid (∀c,Calls prog 217 #[VP,F] c (Below0 c (.bool b))):=by
     rw[ZU,HV.out,hb];exact Lh (λc=>Nk c y ⟨N,O,Q⟩)
    have iE:Hid (CY l (m+1)↔b=true):=by
     refine Lh ?_;unfold CY;rw[L.out.2.1,<-Hr.out,Nat.add_sub_cancel,fJ hy,<-hb];exact⟨λh=>h.2 (by omega),λh=>⟨rfl,λ_=>h⟩⟩
    have HY:Hid (∀c,Bw E c->c.cell? ⟨I,J+m*3,none⟩=some (Sv y.key)/\c.cell? ⟨I,J+m*3+1,none⟩=some (.int .i64 y.lo)/\c.cell? ⟨I,J+m*3+2,none⟩=some (.int .i64 y.hi)):=by
     refine Lh (λc h=>?_);obtain⟨x',b',o',al,ar,d⟩:=(HA.out.below (Tb U.out h)).get (t:=m) (by have:=L.out.2.2;rw[<-HN.out.1];omega)
     cases ar
     rw[hy]at al;cases al
     exact d
    obtain⟨yk,yl,yh⟩:=y;have am:=Lh ZU;have AC:Hid ((0:Int)<((m+1:Nat):Int)):=Lh (by omega)
    have AO:Hid (((m+1:Nat):Int)-1=(m:Int)/\(0:Int)<=((m+1:Nat):Int)/\((m+1:Nat):Int)<=1000000):=Lh (by have:=L.out.2.2;have:=HN.out.2;omega)
    have an:Hid ((0:Int)<=(m:Int)/\(m:Int)<(n:Int)):=Lh (by have:=L.out.2.2;omega)
    clear hy hz ZU hb
    cases b with
    | false=>
     have ac:Hid (∀c,Bw E c->P (.returned (.bool false)) c):=by
      refine Lh (λc h=>Yk.out c (m+1) L.out.2.2 (λhk=>?_) (Tb U.out h));have:=iE.out.1 hk;cases this
     go_upto_region 4 with fail;refine wp_region_skip_frame (λi=>([]:List Nat).contains i) (by kernel_rfl) (NoF (NoF (NoF [none,none]))) [] (λi_ _ _ v_=>v_=((F::(Value.bool true)::(Value.bool false)::(Value.bool false)::(Value.int .i64 (((m+1:Nat)):Int))::(Value.bool true)::(Value.bool true)::(Value.slice (some ⟨I,J,none⟩) n sc)::(Value.int .i64 (((m+1:Nat)):Int))::(Value.int .i64 (m:Int))::(Value.pointer (some ⟨I,J+m*3,none⟩))::VP::F::([.bool false,.bool true,.bool true,.bool true]:List Value))).getD i_ undef) (λ_ c=>Bw E c) (λw c=>Bw w c) (λ_ _ _ _ _ _ h=>h) (by kernel_rfl) (by kernel_rfl) (by kernel_rfl) Y.out (λ_=>⟨rfl,rfl,rfl,rfl,IlA,IlA,IlA,IlA,IlA,IlA,IlA,IlA,IlA,IlA,IlA,IlA,rfl,trivial⟩) (λ_ h=>by simp at h) ?_ ?_
     ·refine ⟨?_,?_,?_,?_,?_,?_,?_,?_,?_,?_,?_,?_,?_,?_,?_,?_,?_,trivial⟩<;>intro _ k a c p s o K z<;>replace s:=Lh s<;>replace o:=Lh o
      ·have q4:=FaA s 4 xb 0;obtain⟨d0,d1,d2⟩:=HD.out c p;go_step;exact z _ _ HV.out.symm p Br
      ·have ad:=Ep a 12 F o.out.1;have M:=Lh (oq.out c);go_step;refine M.out.mono ?_;rintro e w3 ⟨rfl,q⟩;exact z _ _ rfl (Tb p q) q
      have ae:=Ep a 13 (.bool true) o.out.1;rotate_left;have af:=Ep a 14 (.bool false) o.out.1;rotate_left;have q3:=FoA s 3 (.int .i64 (((m+1:Nat)):Int));rotate_left;have ai:=Ep a 16 (.int .i64 (((m+1:Nat)):Int)) o.out.1;have au:=AC.out;rotate_left;have aj:=Ep a 17 (.bool true) o.out.1;rotate_left;have q0:=FoA s 0 (.slice (some ⟨I,J,none⟩) n sc);rotate_left;have q3:=FoA s 3 (.int .i64 (((m+1:Nat)):Int));rotate_left;have av:=Ep a 20 (.int .i64 (((m+1:Nat)):Int)) o.out.1;have aw:=AO.out;rotate_left;have ax:=Ep a 19 (.slice (some ⟨I,J,none⟩) n sc) o.out.1;have ay:=Pi a 21 m o.out.2.1;have S:=an.out;rotate_left
      ·have az:=Ep a 22 (.pointer (some ⟨I,J+m*3,none⟩)) o.out.1;obtain⟨d0,d1,d2⟩:=HY.out c p;go_step;exact z _ _ am.out.symm p Br
      ·have q4:=FaA s 4 xb 0;obtain⟨d0,d1,d2⟩:=HD.out c p;go_step;exact z _ _ HV.out.symm p Br
      ·have aA:=Ep a 23 VP o.out.1;have aB:=Ep a 24 F o.out.2.1;have M:=Lh (U6.out c);go_step;refine M.out.mono ?_;rintro e w3 ⟨rfl,q⟩;exact z _ _ rfl (Tb p q) q
      have Zq:=Ep a 25 (.bool false) o.out.1;rotate_left;have ak:=Ep a 18 (.bool true) o.out.1;have ZM:=Ep a 26 (.bool true) o.out.2.1;rotate_left;have ag:=Ep a 15 (.bool false) o.out.1;have Zz:=Ep a 27 (.bool true) o.out.2.1;rotate_left
      all_goals(go_step;exact z _ _ rfl p Br)
     intro vs w2 p u D
     match vs,u,D with
     | [v0,v1,v2,v3,v4,v5,v6,v7,v8,v9,v10,v11,v12,v13,v14,v15,v16],_,D=>
      obtain rfl:v16=.bool true:=(D 16 28 v16 rfl rfl);clear D;simp only[putsL,bf7,bf1];simp only[Act.put,bfw,bfu,bfv];have Z:=Lh (ac.out w2 p);clear p;go_wp2_with fail;exact Z.out
    | true=>
     have AB:Hid (CY l (m+1)):=Lh (iE.out.2 rfl);go_upto_region 4 with fail;refine wp_region_skip_frame (λi=>([]:List Nat).contains i) (by kernel_rfl) (NoF (NoF (NoF [none,none]))) [] (λi_ _ _ v_=>v_=((F::(Value.bool true)::(Value.bool false)::(Value.bool false)::(Value.int .i64 (((m+1:Nat)):Int))::(Value.bool true)::(Value.bool true)::(Value.slice (some ⟨I,J,none⟩) n sc)::(Value.int .i64 (((m+1:Nat)):Int))::(Value.int .i64 (m:Int))::(Value.pointer (some ⟨I,J+m*3,none⟩))::VP::F::([.bool true,.bool false,.bool false,.bool false]:List Value))).getD i_ undef) (λ_ c=>Bw E c) (λw c=>Bw w c) (λ_ _ _ _ _ _ h=>h) (by kernel_rfl) (by kernel_rfl) (by kernel_rfl) Y.out (λ_=>⟨rfl,rfl,rfl,rfl,IlA,IlA,IlA,IlA,IlA,IlA,IlA,IlA,IlA,IlA,IlA,IlA,rfl,trivial⟩) (λ_ h=>by simp at h) ?_ ?_
     ·refine ⟨?_,?_,?_,?_,?_,?_,?_,?_,?_,?_,?_,?_,?_,?_,?_,?_,?_,trivial⟩<;>intro _ k a c p s o K z<;>replace s:=Lh s<;>replace o:=Lh o
      ·have q4:=FaA s 4 xb 0;obtain⟨d0,d1,d2⟩:=HD.out c p;go_step;exact z _ _ HV.out.symm p Br
      ·have ad:=Ep a 12 F o.out.1;have M:=Lh (oq.out c);go_step;refine M.out.mono ?_;rintro e w3 ⟨rfl,q⟩;exact z _ _ rfl (Tb p q) q
      have ae:=Ep a 13 (.bool true) o.out.1;rotate_left;have af:=Ep a 14 (.bool false) o.out.1;rotate_left;have q3:=FoA s 3 (.int .i64 (((m+1:Nat)):Int));rotate_left;have ai:=Ep a 16 (.int .i64 (((m+1:Nat)):Int)) o.out.1;have au:=AC.out;rotate_left;have aj:=Ep a 17 (.bool true) o.out.1;rotate_left;have q0:=FoA s 0 (.slice (some ⟨I,J,none⟩) n sc);rotate_left;have q3:=FoA s 3 (.int .i64 (((m+1:Nat)):Int));rotate_left;have av:=Ep a 20 (.int .i64 (((m+1:Nat)):Int)) o.out.1;have aw:=AO.out;rotate_left;have ax:=Ep a 19 (.slice (some ⟨I,J,none⟩) n sc) o.out.1;have ay:=Pi a 21 m o.out.2.1;have S:=an.out;rotate_left
      ·have az:=Ep a 22 (.pointer (some ⟨I,J+m*3,none⟩)) o.out.1;obtain⟨d0,d1,d2⟩:=HY.out c p;go_step;exact z _ _ am.out.symm p Br
      ·have q4:=FaA s 4 xb 0;obtain⟨d0,d1,d2⟩:=HD.out c p;go_step;exact z _ _ HV.out.symm p Br
      ·have aA:=Ep a 23 VP o.out.1;have aB:=Ep a 24 F o.out.2.1;have M:=Lh (U6.out c);go_step;refine M.out.mono ?_;rintro e w3 ⟨rfl,q⟩;exact z _ _ rfl (Tb p q) q
      have Zq:=Ep a 25 (.bool true) o.out.1;rotate_left;have ak:=Ep a 18 (.bool true) o.out.1;have ZM:=Ep a 26 (.bool false) o.out.2.1;rotate_left;have ag:=Ep a 15 (.bool false) o.out.1;have Zz:=Ep a 27 (.bool false) o.out.2.1;rotate_left
      all_goals(go_step;exact z _ _ rfl p Br)
     intro vs w2 p u D
     match vs,u,D with
     | [v0,v1,v2,v3,v4,v5,v6,v7,v8,v9,v10,v11,v12,v13,v14,v15,v16],_,D=>
      obtain rfl:v16=.bool false:=(D 16 28 v16 rfl rfl);clear D;simp only[putsL,bf7,bf1];simp only[Act.put,bfw,bfu,bfv];have Z:=Lh (OD.out w2 p AB.out);have HJ:=Lh L.out.2.2;clear p;go_wp2_with fail;go_roundw
      case rel=>exact Z.out
      case measure=>have:=HJ.out;simp[intOf];omega
  obtain rfl:i=n:=by omega
  have Z:Hid (P (.returned (.bool true)) wr):=XY.out _ HO.out.1 HO.out.2;clear R hi;go_wp2_with fail;exact Z.out
def jH(l:List bf)(t:bf)(p:Nat):Prop:=p<=l.length/\(∀i<p,bK (sO l i) t)/\(∀i,p<=i->i<l.length->¬bK (sO l i) t)
def FD(w:World)(l:List bf)(t:bf)(e:Ending)(w':World):Prop:=∃(p:Nat) (b:Bool),e=.returned (.tuple #[.int .i64 (p:Int),.bool b])/\jH l t p/\Bw w w'
def PE(w:World)(l:List bf)(t:bf)(s9 s10:Value)(wr:World):Prop:=
 ∃lo hi:Nat,s9=.int .i64 (lo:Int)/\s10=.int .i64 (hi:Int)/\lo<=hi/\hi<=l.length/\(∀i<lo,bK (sO l i) t)/\(∀i,hi<=i->i<l.length->¬bK (sO l i) t)/\Bw w wr
def Vw(a b:Value):Nat:=(intOf b).toNat-(intOf a).toNat
theorem Hw(w:World)(sa:Option Addr)(R:Nat)(l:List bf)(t:bf)(hA:fZ w sa l)(hs:l.Pairwise bK)(hn:l.length<=1000000):
  Calls prog 251 #[.slice sa l.length R,.agg t.cells,.func (.func 183) #[] #[]] w (FD w l t):=by
 obtain⟨n,hN⟩:=Nm (l.length);obtain⟨P,hP⟩:=Nm (FD w l t);rw[<-hP,<-hN];have F:Hid (n=l.length/\n<=1000000):=Lh ⟨hN,by omega⟩
 have aj:n<=1000000:=by omega
 have HA:=Lh hA;have XY:Hid (∀wz (p:Nat) b,jH l t p->Bw w wz->P (.returned (.tuple #[.int .i64 (p:Int),.bool b])) wz):=Lh (λwz p b h I=>by
  rw[hP];exact⟨p,b,rfl,h,I⟩)
 have HM:Hid (∀i j,i<=j->j<n->bK (sO l j) t->bK (sO l i) t):=by
  refine Lh (λi j ao hj h=>?_);rw[hN]at hj;rcases bg1 i j with h' | h'
  ·have:=List.pairwise_iff_getElem.1 hs i j (by omega) hj h'
   rw[fJ (bfs hj)]at h;rw[fJ (bfs (show i<l.length by omega))]
   exact this.trans h
  obtain rfl:i=j:=by omega
  exact h
 obtain⟨w1,J⟩:=Nm (w.alloc (.cells t.cells 34));obtain⟨tb,ab⟩:=Nm (w.heap.size);have H1:Hid (dH w1 tb t/\Bw w w1):=by
  rw[J,ab];exact Lh ⟨bg5 w _,(Below.refl _ w).alloc (bfx _) _⟩
 obtain⟨T,hT⟩:=Nm t;have HT:=Lh hT;rw[<-hT]at H1 XY HM;obtain⟨tk,tl,th⟩:=t;unfold bf.cells at J ⊢;simp only at J ⊢;clear hN hA hn hP hs hT;go_enter func251,ntmps251;go_upto_region 1 with fail;rw[<-J,<-ab];clear J ab;go_wp2_with fail;go_loopw[9,10] (PE w1 l T) (λa b _=>Vw a b)
 case atStart=>exact⟨0,n,rfl,rfl,bgi _,by rw[F.out.1];exact bfx _,λi h=>absurd h (Nat.not_lt_zero _),λi h1 h2=>by have:=F.out.1;omega,Br⟩
 case round=>
  obtain⟨lo,hi,rfl,rfl,L,z,h1,h2,I⟩:=hrel;rw[<-F.out.1]at z h2;have HB:=Lh (bfy h1 (bfy h2 (bfy I (bfy L z))));clear h1 h2 I;have S:Hid (Bw wr wr.drew):=(Below.refl _ wr).drew;have ac:Hid (∀c,Bw wr c->D3 c tb tk tl th):=by
   refine Lh (λc h=>?_);have:=((H1.out.1.below HB.out.2.2.1).below h).d3;rw[HT.out]at this;exact this
  obtain⟨VT,YQ⟩:=Nm (Value.agg #[Sv tk,.int .i64 tl,.int .i64 th]);have oN:=Lh YQ;have M:Hid (∀c,Bw wr c->Bw w1 c):=Lh (λc h=>HB.out.2.2.1.trans (h.mono HB.out.2.2.1.size));by_cases U:lo<hi
  ·obtain⟨m,hm⟩:=Nm ((lo+hi) / 2);have N:lo<=m/\m<hi:=by omega
   have ag:((lo:Int)+(hi:Int)) / 2=(m:Int):=by omega
   obtain⟨x,s,u,hx,ad,_⟩:=HA.out.get (t:=m) (by rw[<-F.out.1];omega)
   subst ad;have HX:Hid (∀c,Bw wr c->c.cell? ⟨s,u+m*3,none⟩=some (Sv x.key)/\c.cell? ⟨s,u+m*3+1,none⟩=some (.int .i64 x.lo)/\c.cell? ⟨s,u+m*3+2,none⟩=some (.int .i64 x.hi)):=by
    refine Lh (λc h=>?_);obtain⟨x',b',o',O,ae,d⟩:=((HA.out.below H1.out.2).below (M.out c h)).get (t:=m) (by rw[<-F.out.1];omega)
    cases ae
    rw[hx]at O;cases O
    exact d
   obtain⟨Y,YV⟩:=Nm (Value.agg x.cells);obtain⟨p,hp⟩:=Nm (jm x T);have Zu:Hid (∀c,Calls prog 183 #[Y,VT] c (Below0 c (.int .i64 p))):=by
    rw[YV,YQ,hp,HT.out];exact Lh (λc=>nO c x ⟨tk,tl,th⟩)
   have ZQ:=Lh YV;have ah:Hid (p<0↔bK (sO l m) T):=by
    rw[hp,fJ hx];exact Lh (jQ _ _)
   have E:Hid ((0:Int)<=(m:Int)/\(m:Int)<(n:Int)):=Lh (by omega)
   have Z:=Lh (bfy N (bfy z aj));obtain⟨xk,xl,xh⟩:=x;clear hx YV hp hm;by_cases Q:p<0
   ·have ZE:Hid (p<0):=Lh Q;have HZ:Hid (∀c,Bw wr c->PE w1 l T (.int .i64 ((m:Int)+1)) (.int .i64 (hi:Int)) c):=by
     refine Lh (λc h=>⟨m+1,hi,by go_num,rfl,by have:=Z.out;omega,by rw[<-F.out.1];exact Z.out.2.1,λi h1=>?_,by rw[<-F.out.1];exact HB.out.2.1,M.out c h⟩)
     exact HM.out i m (by omega) (by have:=Z.out;omega) (ah.out.1 ZE.out)
    clear Q;go_upto_region 5 with fail;clear ag N U L z YQ;refine wp_region_skip_frame (λi=>([]:List Nat).contains i) (by kernel_rfl) (NoF [none,none,none]) [] (λi_ _ _ v_=>v_=(((Value.func (.func 183) #[] #[])::(Value.slice (some ⟨s,u,none⟩) n R)::(Value.int .i64 (m:Int))::(Value.pointer (some ⟨s,u+m*3,none⟩))::Y::VT::([.int .i64 p,.bool true]:List Value))).getD i_ undef) (λ_ c=>Bw wr c) (λw c=>Bw w c) (λ_ _ _ _ _ _ h=>h) (by kernel_rfl) (by kernel_rfl) (by kernel_rfl) S.out (λ_=>⟨rfl,rfl,rfl,rfl,rfl,rfl,rfl,rfl,trivial⟩) (λ_ h=>by simp at h) ?_ ?_
    ·refine ⟨?_,?_,?_,?_,?_,?_,?_,?_,trivial⟩<;>intro _ _ a c o q k K D<;>replace q:=Lh q<;>replace k:=Lh k
     have q2:=FoA q 2 (.func (.func 183) #[] #[]);rotate_left;have q0:=FoA q 0 (.slice (some ⟨s,u,none⟩) n R);rotate_left;have q11:=FiA q 11 m;rotate_left;have Zq:=Ep a 25 (.slice (some ⟨s,u,none⟩) n R) k.out.1;have ZM:=Pi a 26 m k.out.2.1;have aa:=E.out;rotate_left
     ·have Zz:=Ep a 27 (.pointer (some ⟨s,u+m*3,none⟩)) k.out.1;obtain⟨d0,d1,d2⟩:=HX.out c o;go_step;exact D _ _ ZQ.out.symm o Br
     ·have q4:=FaA q 4 tb 0;obtain⟨d0,d1,d2⟩:=ac.out c o;go_step;exact D _ _ oN.out.symm o Br
     ·have ak:=Ep a 24 (.func (.func 183) #[] #[]) k.out.1;have aT:=Ep a 28 Y k.out.2.1;have aU:=Ep a 29 VT k.out.2.2.1;have HS:=Lh (Zu.out c);go_step;refine HS.out.mono ?_;rintro e w3 ⟨rfl,I⟩;exact D _ _ rfl (Tb o I) I
     have al:=Pi a 30 p k.out.1;have hp:=ZE.out;rotate_left
     all_goals(go_step;exact D _ _ rfl o Br)
    intro vs w2 o r y
    match vs,r,y with
    | [v0,v1,v2,v3,v4,v5,v6,v7],_,y=>
     obtain rfl:v7=.bool true:=(y 7 31 v7 rfl rfl);clear y;simp only[putsL,bf7,bf1];simp only[Act.put,bfw,bfu,bfv];have Zk:=Lh (HZ.out w2 o);have oH:=Lh Z.out;have iO:(m:Int)<=1000000:=by have:=Z.out;omega
     clear o;go_wp2_with fail;go_roundw
     case rel=>exact Zk.out
     case measure=>have:=oH.out;simp[Vw,intOf];omega
   have ZE:Hid (decide (p<0)=false):=Lh (bfq Q);have HZ:Hid (∀c,Bw wr c->PE w1 l T (.int .i64 (lo:Int)) (.int .i64 (m:Int)) c):=by
    refine Lh (λc h=>⟨lo,m,rfl,rfl,Z.out.1.1,by rw[<-F.out.1];have:=Z.out;omega,HB.out.1,λi h1 h2 hc=>?_,M.out c h⟩)
    exact Q (ah.out.2 (HM.out m i h1 (by rw[F.out.1];exact h2) hc))
   clear Q;go_upto_region 5 with fail;clear ag N U L z YQ;refine wp_region_skip_frame (λi=>([]:List Nat).contains i) (by kernel_rfl) (NoF [none,none,none]) [] (λi_ _ _ v_=>v_=(((Value.func (.func 183) #[] #[])::(Value.slice (some ⟨s,u,none⟩) n R)::(Value.int .i64 (m:Int))::(Value.pointer (some ⟨s,u+m*3,none⟩))::Y::VT::([.int .i64 p,.bool false]:List Value))).getD i_ undef) (λ_ c=>Bw wr c) (λw c=>Bw w c) (λ_ _ _ _ _ _ h=>h) (by kernel_rfl) (by kernel_rfl) (by kernel_rfl) S.out (λ_=>⟨rfl,rfl,rfl,rfl,rfl,rfl,rfl,rfl,trivial⟩) (λ_ h=>by simp at h) ?_ ?_
   ·refine ⟨?_,?_,?_,?_,?_,?_,?_,?_,trivial⟩<;>intro _ _ a c o q k K D<;>replace q:=Lh q<;>replace k:=Lh k
    have q2:=FoA q 2 (.func (.func 183) #[] #[]);rotate_left;have q0:=FoA q 0 (.slice (some ⟨s,u,none⟩) n R);rotate_left;have q11:=FiA q 11 m;rotate_left;have Zq:=Ep a 25 (.slice (some ⟨s,u,none⟩) n R) k.out.1;have ZM:=Pi a 26 m k.out.2.1;have aa:=E.out;rotate_left
    ·have Zz:=Ep a 27 (.pointer (some ⟨s,u+m*3,none⟩)) k.out.1;obtain⟨d0,d1,d2⟩:=HX.out c o;go_step;exact D _ _ ZQ.out.symm o Br
    ·have q4:=FaA q 4 tb 0;obtain⟨d0,d1,d2⟩:=ac.out c o;go_step;exact D _ _ oN.out.symm o Br
    ·have ak:=Ep a 24 (.func (.func 183) #[] #[]) k.out.1;have aT:=Ep a 28 Y k.out.2.1;have aU:=Ep a 29 VT k.out.2.2.1;have HS:=Lh (Zu.out c);go_step;refine HS.out.mono ?_;rintro e w3 ⟨rfl,I⟩;exact D _ _ rfl (Tb o I) I
    have al:=Pi a 30 p k.out.1;have hp:=ZE.out;rotate_left
    all_goals(go_step;exact D _ _ rfl o Br)
   intro vs w2 o r y
   match vs,r,y with
   | [v0,v1,v2,v3,v4,v5,v6,v7],_,y=>
    obtain rfl:v7=.bool false:=(y 7 31 v7 rfl rfl);clear y;simp only[putsL,bf7,bf1];simp only[Act.put,bfw,bfu,bfv];have Zk:=Lh (HZ.out w2 o);have oH:=Lh Z.out;have iO:(m:Int)<=1000000:=by have:=Z.out;omega
    clear o;go_wp2_with fail;go_roundw
    case rel=>exact Zk.out
    case measure=>have:=oH.out;simp[Vw,intOf];omega
  obtain rfl:hi=lo:=by omega
  have aJ:Hid (jH l T hi):=Lh ⟨by rw[<-F.out.1];exact z,HB.out.1,by rw[<-F.out.1];exact HB.out.2.1⟩
  have Yw:Hid (∀c b,Bw wr c->P (.returned (.tuple #[.int .i64 (hi:Int),.bool b])) c):=Lh (λc b h=>XY.out c hi b aJ.out (H1.out.2.trans ((M.out c h).mono H1.out.2.size)));by_cases af:hi<n
  ·obtain⟨x,s,u,hx,ad,_⟩:=HA.out.get (t:=hi) (by rw[<-F.out.1];omega)
   subst ad;have HX:Hid (∀c,Bw wr c->c.cell? ⟨s,u+hi*3,none⟩=some (Sv x.key)/\c.cell? ⟨s,u+hi*3+1,none⟩=some (.int .i64 x.lo)/\c.cell? ⟨s,u+hi*3+2,none⟩=some (.int .i64 x.hi)):=by
    refine Lh (λc h=>?_);obtain⟨x',b',o',O,ae,d⟩:=((HA.out.below H1.out.2).below (M.out c h)).get (t:=hi) (by rw[<-F.out.1];omega)
    cases ae
    rw[hx]at O;cases O
    exact d
   obtain⟨Y,YV⟩:=Nm (Value.agg x.cells);obtain⟨p,hp⟩:=Nm (jm x T);have Zu:Hid (∀c,Calls prog 183 #[Y,VT] c (Below0 c (.int .i64 p))):=by
    rw[YV,YQ,hp,HT.out];exact Lh (λc=>nO c x ⟨tk,tl,th⟩)
   have ZQ:=Lh YV;have E:Hid ((0:Int)<=(hi:Int)/\(hi:Int)<(n:Int)):=Lh (by omega)
   obtain⟨xk,xl,xh⟩:=x;obtain⟨qz,ai⟩:=Nm (p==0);have HQ:=Lh ai;clear hx YV hp af U L z YQ ai;go_upto_region 8 with fail;refine wp_region_skip_frame (λi=>([]:List Nat).contains i) (by kernel_rfl) (NoF (NoF (NoF [none]))) [] (λi_ _ _ v_=>v_=(((Value.int .i64 (hi:Int))::(Value.int .i64 (hi:Int))::(Value.int .i64 (n:Int))::(Value.bool true)::(Value.bool true)::(Value.func (.func 183) #[] #[])::(Value.slice (some ⟨s,u,none⟩) n R)::(Value.int .i64 (hi:Int))::(Value.pointer (some ⟨s,u+hi*3,none⟩))::Y::VT::([.int .i64 p,.bool qz,.bool qz,.int .i64 (hi:Int),.bool qz]:List Value))).getD i_ undef) (λ_ c=>Bw wr c) (λw c=>Bw w c) (λ_ _ _ _ _ _ h=>h) (by kernel_rfl) (by kernel_rfl) (by kernel_rfl) S.out (λ_=>⟨rfl,rfl,rfl,rfl,rfl,IlA,IlA,IlA,IlA,IlA,IlA,IlA,IlA,rfl,rfl,rfl,trivial⟩) (λ_ h=>by simp at h) ?_ ?_
   ·refine ⟨?_,?_,?_,?_,?_,?_,?_,?_,?_,?_,?_,?_,?_,?_,?_,?_,trivial⟩<;>intro _ _ a c o q k K D<;>replace q:=Lh q<;>replace k:=Lh k
    have q9:=FiA q 9 hi;rotate_left;have q9:=FiA q 9 hi;rotate_left;have q8:=FiA q 8 n;rotate_left;have Aj:=Pi a 36 hi k.out.1;have am:=Pi a 37 n k.out.2.1;have aa:=E.out;rotate_left;have ZX:=Ep a 38 (.bool true) k.out.1;rotate_left;have q2:=FoA q 2 (.func (.func 183) #[] #[]);rotate_left;have q0:=FoA q 0 (.slice (some ⟨s,u,none⟩) n R);rotate_left;have q9:=FiA q 9 hi;rotate_left;have UR:=Ep a 41 (.slice (some ⟨s,u,none⟩) n R) k.out.1;have I8:=Pi a 42 hi k.out.2.1;have aa:=E.out;rotate_left
    ·have Ak:=Ep a 43 (.pointer (some ⟨s,u+hi*3,none⟩)) k.out.1;obtain⟨d0,d1,d2⟩:=HX.out c o;go_step;exact D _ _ ZQ.out.symm o Br
    ·have q4:=FaA q 4 tb 0;obtain⟨d0,d1,d2⟩:=ac.out c o;go_step;exact D _ _ oN.out.symm o Br
    ·have uj:=Ep a 40 (.func (.func 183) #[] #[]) k.out.1;have Io:=Ep a 44 Y k.out.2.1;have UT:=Ep a 45 VT k.out.2.2.1;have HS:=Lh (Zu.out c);go_step;refine HS.out.mono ?_;rintro e w3 ⟨rfl,I⟩;exact D _ _ rfl (Tb o I) I
    have Am:=Pi a 46 p k.out.1;have e:=HQ.out.symm;rotate_left;have iy:=Ep a 39 (.bool true) k.out.1;have uk:=Ep a 47 (.bool qz) k.out.2.1;rotate_left;have an:=Pi a 35 hi k.out.1;rotate_left;have iW:=Ep a 48 (.bool qz) k.out.1;rotate_left
    all_goals(go_step;exact D _ _ rfl o Br)
   intro vs w2 o r y
   match vs,r,y with
   | [v0,v1,v2,v3,v4,v5,v6,v7,v8,v9,v10,v11,v12,v13,v14,v15],_,y=>
    obtain rfl:v14=.int .i64 (hi:Int):=(y 14 6 v14 rfl rfl);obtain rfl:v15=.bool qz:=(y 15 7 v15 rfl rfl);clear y;simp only[putsL,bf7,bf1];simp only[Act.put,bfw,bfu,bfv];have Zk:=Lh (Yw.out w2 qz o);clear o;go_wp2_with fail;exact Zk.out
  have E:Hid (decide (hi<n)=false):=Lh (bfq af);clear af U L z YQ;go_upto_region 8 with fail;refine wp_region_skip_frame (λi=>([5,6,7,8,9,10,11,12]:List Nat).contains i) (by kernel_rfl) (NoF (NoF (NoF [none]))) [] (λi_ _ _ v_=>v_=((([.int .i64 (hi:Int),.int .i64 (hi:Int),.int .i64 (n:Int),.bool false,.bool false,undef,undef,undef,undef,undef,undef,undef,undef,.bool false,.int .i64 (hi:Int),.bool false]:List Value))).getD i_ undef) (λ_ c=>Bw wr c) (λw c=>Bw w c) (λ_ _ _ _ _ _ h=>h) (by kernel_rfl) (by kernel_rfl) (by kernel_rfl) S.out (λ_=>⟨rfl,rfl,rfl,rfl,rfl,IlA,IlA,IlA,IlA,IlA,IlA,IlA,IlA,rfl,rfl,rfl,trivial⟩) (λi hi=>by have hm:=List.contains_iff_mem.1 hi;simp only[bf2,bf9,or_false]at hm;rcases hm with rfl | rfl | rfl | rfl | rfl | rfl | rfl | rfl <;> exact⟨rfl,λ_ _=>rfl⟩) ?_ ?_
  ·refine ⟨?_,?_,?_,?_,?_,?_,?_,?_,?_,?_,?_,?_,?_,?_,?_,?_,trivial⟩<;>(first|exact λh=>absurd h (by decide)|intro _ _ a c o q k K D)<;>replace q:=Lh q<;>replace k:=Lh k
   have q9:=FiA q 9 hi;rotate_left;have q9:=FiA q 9 hi;rotate_left;have q8:=FiA q 8 n;rotate_left;have Aj:=Pi a 36 hi k.out.1;have am:=Pi a 37 n k.out.2.1;have aa:=E.out;rotate_left;have ZX:=Ep a 38 (.bool false) k.out.1;rotate_left;have iy:=Ep a 39 (.bool false) k.out.1;have uk:=Ep a 47 undef k.out.2.1;rotate_left;have an:=Pi a 35 hi k.out.1;rotate_left;have iW:=Ep a 48 (.bool false) k.out.1;rotate_left
   all_goals(go_step;exact D _ _ rfl o Br)
  intro vs w2 o r y
  match vs,r,y with
  | [v0,v1,v2,v3,v4,v5,v6,v7,v8,v9,v10,v11,v12,v13,v14,v15],_,y=>
   obtain rfl:v14=.int .i64 (hi:Int):=(y 14 6 v14 rfl rfl);obtain rfl:v15=.bool false:=(y 15 7 v15 rfl rfl);clear y;simp only[putsL,bf7,bf1];simp only[Act.put,bfw,bfu,bfv];have Zk:=Lh (Yw.out w2 false o);clear o;go_wp2_with fail;exact Zk.out
theorem kU(l m:List bf):cO (l++m)=cO l++cO m:=by simp[cO]
theorem FW(l:List bf)(i:Nat)(h:i<=l.length):cO (l.take i)=(cO l).take (i*3):=by
 have e:cO l=cO (l.take i)++cO (l.drop i):=by rw[<-kU,List.take_append_drop]
 have a:(cO (l.take i)).length=i*3:=by rw[dX,bga,Nat.min_eq_left h]
 rw[e,List.take_left' a]
theorem FV(l:List bf)(i:Nat)(h:i<=l.length):cO (l.drop i)=(cO l).drop (i*3):=by
 have e:cO l=cO (l.take i)++cO (l.drop i):=by rw[<-kU,List.take_append_drop]
 have a:(cO (l.take i)).length=i*3:=by rw[dX,bga,Nat.min_eq_left h]
 rw[e,List.drop_left' a]
theorem FN(w:World) {a g n c:Nat} {l:List bf}(d:dQ w a (.slice (some ⟨g,0,none⟩) n c) l)(h:n=l.length) {y:bf} {q:Nat}(k:∀j z,y.cells[j]? =some z->w.cell? ⟨q,j,none⟩=some z)(b:n+1<=c)(ty:TypeId):
  ∃w',(Builtin.append_ #[115,115] ty #[.slice (some ⟨g,0,none⟩) n c,.slice (some ⟨q,0,none⟩) 1 1]).run prog w=.ok (.slice (some ⟨g,0,none⟩) (n+1) c) w'/\
   dQ w' a (.slice (some ⟨g,0,none⟩) (n+1) c) (l++[y])/\w.grownBy w' (some g):=by
 subst h;obtain⟨i,m,e,o,p⟩:=info_parts mP;obtain⟨w',r,s,x⟩:=run_append_fits (P:=prog) w a 115 ty 34 i 3 underlying115 m o g l.length c (cO l) d ⟨q,0,none⟩ 1 1 y.cells.toList rfl
  (λj u D=>by rw[addr_add,bgu];exact k j u (by simpa using D)) (λz e=>Array.all_eq_true'.1 (bG y) z (by simpa using e)) b
 refine⟨w',r,?_,x⟩;unfold dQ;rw[wW,bft];exact s
theorem xU {k:Array Oper} {b:List Oper} {o:Oper} {a:Act} {Q:Exit->Act->World->Prop} {w:World}(p:o.guard=none)(s x:Operand)
  (r:o.op=.call { callee:=.builtin .append,args:=#[s,x],argTypes:=#[115,115] }) {d g n c:Nat} {l:List bf} (u:a.eval s=.slice (some ⟨g,0,none⟩) n c)
  (m:dQ w d (.slice (some ⟨g,0,none⟩) n c) l) (D:n=l.length) (y:bf) (q:Nat) (E:a.eval x=.slice (some ⟨q,0,none⟩) 1 1) (F:∀j z,y.cells[j]? =some z->w.cell? ⟨q,j,none⟩=some z) (e:n+1<=c)
  (h:∀w',dQ w' d (.slice (some ⟨g,0,none⟩) (n+1) c) (l++[y])->w.grownBy w' (some g)->wpList prog k Q b (a.put o.dst (.slice (some ⟨g,0,none⟩) (n+1) c)) w'):wpList prog k Q (o::b) a w:=by
 refine wpList_plain p λK I=>?_;obtain⟨w',J,L,M⟩:=FN w m D F e o.type;unfold Oper.wp execOp;simp only[r,resolve,invoke,builtin,Sem.run_bind,Sem.run_pure,Result.andThen_ok,bgb,bgc,bge,u,E,J];exact I _ _ (h w' L M)
theorem Q4(w:World)(ty:TypeId)(b o d l:Nat)(a:Addr)(e m k:Nat)(h:List Value)(c:Array Value)(s:w.heap[b]? =some (.cells c 34 (0,0)))
  (u:k=Nat.min e d) (x:h.length=k*3) (n:∀j v,h[j]? =some v->w.cell? (a.add j)=some v) (y:∀v∈h,v.oneCell'=true) (p:o+h.length<=c.size):
  (Builtin.copy_ #[115,115] ty #[.slice (some ⟨b,o,none⟩) d l,.slice (some a) e m]).run prog w=.ok (goInt k) (w.setRow b (c.toList.take o++h++c.toList.drop (o+h.length)).toArray):=by
 have r:=run_loadCells_list (P:=prog) w a h n;have q:=run_storeCells_at prog b o 34 h 0 c w s (by simpa using p) y
 have z:∀w,(sizeOf 34).run prog w=.ok 3 w:=sizeOf34;rw[x]at r;simp[Builtin.copy_,run_underlying underlying115,Builtin.lenOf,Builtin.firstCells,z,<-u,r];simp only[Nat.add_zero]at q;rw[q];simp only[Result.andThen_ok,bgz]
theorem Kw {o:Oper} {a:Act} {w:World} {K:Act->World->Prop} {Q:Exit->Act->World->Prop}(d s:Operand)(u:o.op=.call { callee:=.builtin .copy,args:=#[d,s],argTypes:=#[115,115] })
  (b off c m:Nat) (x:Addr) (e n k:Nat) (p:List Value) (l:Array Value) (y:a.eval d=.slice (some ⟨b,off,none⟩) c m) (z:a.eval s=.slice (some x) e n) (D:w.heap[b]? =some (.cells l 34 (0,0)))
  (E:k=Nat.min e c) (F:p.length=k*3) (q:∀j v,p[j]? =some v->w.cell? (x.add j)=some v) (I:∀v∈p,v.oneCell'=true) (r:off+p.length<=l.size)
  (h:K (a.put o.dst (goInt k)) (w.setRow b (l.toList.take off++p++l.toList.drop (off+p.length)).toArray)):o.wp prog a w K Q:=by
 unfold Oper.wp execOp;simp only[u,resolve,invoke,builtin,Sem.run_bind,Sem.run_pure,Result.andThen_ok,bgb,bgc,bge,y,z,Q4 w o.type b off c m x e n k p l D E F q I r];exact h
theorem GN {r:Array Oper} {m:List Oper} {o:Oper} {a:Act} {w:World} {Q:Exit->Act->World->Prop}(z:o.guard=none)(d s:Operand)(D:o.op=.call { callee:=.builtin .copy,args:=#[d,s],argTypes:=#[115,115] })
  (b off c n:Nat) (x:Addr) (e p k:Nat) (q:List Value) (l:Array Value) (E:a.eval d=.slice (some ⟨b,off,none⟩) c n) (F:a.eval s=.slice (some x) e p) (I:w.heap[b]? =some (.cells l 34 (0,0)))
  (J:k=Nat.min e c) (K:q.length=k*3) (u:∀j v,q[j]? =some v->w.cell? (x.add j)=some v) (L:∀v∈q,v.oneCell'=true) (y:off+q.length<=l.size)
  (h:wpList prog r Q m (a.put o.dst (goInt k)) (w.setRow b (l.toList.take off++q++l.toList.drop (off+q.length)).toArray)):wpList prog r Q (o::m) a w:=
 wpList_plain z λ_ M=>Kw d s D b off c n x e p k q l E F I J K u L y (M _ _ h)
theorem qM(w:World)(g o n c i:Nat)(h:i<=n)(b:i<c):
  (Instr.slice 115 (.slice (some ⟨g,o,none⟩) n c) (some (.int .i64 (i:Int))) none none).run prog w=.ok (.slice (some ⟨g,o+i*3,none⟩) (n-i) (c-i)) w:=by
 have a:∀w,(sizeOf 34).run prog w=.ok 3 w:=sizeOf34;have e:¬c=i:=by omega
 simp[Instr.slice,run_underlying underlying115,Instr.sliceBounds,run_sliceBound,a,h,addr_add,e]
def WY(g q:Nat)(y:bf)(w:World)(cur X7:Array Value)(k:Nat)(w':World):Prop:=
 cond (Nat.beq k 0) (w'.heap[g]? =some (.cells cur 34 (0,0))) (w'.heap[g]? =some (.cells X7 34 (0,0)))/\dH w' q y/\w.grownBy w' (some g)
theorem J9 {α:Type} {A B C D:List α}(n:Nat)(h:n=A.length+B.length+C.length):(A++B++(C++D)).take n=A++B++C:=by
 rw[<-bgz];exact List.take_left' (by simp[h];omega)
theorem L6(w:World)(o g c i q:Nat)(l:List bf)(y:bf)(hO:dQ w o (.slice (some ⟨g,0,none⟩) l.length c) l)(hq:dH w q y)(ab:q≠g)(hi:i<=l.length)(hc:l.length+1<=c)(hn:c<=1000000):
  Calls prog 252 #[.slice (some ⟨g,0,none⟩) l.length c,.int .i64 (i:Int),.slice (some ⟨q,0,none⟩) 1 1] w (λe w'=>e=.returned (.slice (some ⟨g,0,none⟩) (l.length+1) c)/\dQ w' o (.slice (some ⟨g,0,none⟩) (l.length+1) c) (l.take i++[y]++l.drop i)/\w.grownBy w' (some g)):=by
 obtain⟨n,hN⟩:=Nm (l.length);obtain⟨P,hP⟩:=Nm (λe w'=>e=.returned (.slice (some ⟨g,0,none⟩) (n+1) c)/\dQ w' o (.slice (some ⟨g,0,none⟩) (n+1) c) (l.take i++[y]++l.drop i)/\w.grownBy w' (some g):Ending->World->Prop);rw[<-hN]at hO hi hc ⊢;rw[<-hP];have XY:Hid (∀w',dQ w' o (.slice (some ⟨g,0,none⟩) (n+1) c) (l.take i++[y]++l.drop i)->w.grownBy w' (some g)->P (.returned (.slice (some ⟨g,0,none⟩) (n+1) c)) w'):=Lh (λw' h1 h2=>by rw[hP];exact⟨rfl,h1,h2⟩)
 have S:∀w',(Instr.slice 115 (.slice (some ⟨g,0,none⟩) n c) (some (.int .i64 (i:Int))) none none).run prog w'=.ok (.slice (some ⟨g,i*3,none⟩) (n-i) (c-i)) w':=λw'=>by
  have h:=qM w' g 0 n c i hi (by omega)
  rwa [bgu]at h
 have s:=Lh (bfy hO (bfy hN hq));clear hP hN hO hq;have ag:((1:Int)==0)=false:=rfl;by_cases Y:i=n
 ·subst Y;have e1:((i:Int)==(i:Int))=true:=by simp
  have HU:Hid (∀j z,y.cells[j]? =some z->w.cell? ⟨q,j,none⟩=some z):=Lh (λj z hz=>s.out.2.2.cell j hz);go_enter func252,ntmps252;go_upto_region 7 with fail;refine bg4 ?_
  iterate 6 go_step
  refine xU rfl (.tmp 23) (.tmp 24) rfl rfl s.out.1 s.out.2.1 y q rfl HU.out hc ?_;intro w' k1 k2;have HZ:Hid (P (.returned (.slice (some ⟨g,0,none⟩) (i+1) c)) w'):=Lh (XY.out w' (by rw[s.out.2.1,bgs,List.drop_length,bg2,<-s.out.2.1];exact k1) k2)
  clear k1 k2 S;go_wp2_with fail;exact HZ.out
 have I:i<n:=by omega
 have e1:((i:Int)==(n:Int))=false:=by simpa using λh:(i:Int)=(n:Int)=>Y (by omega)
 obtain⟨b,N,O,u,x,Q⟩:∃b:Array Value,w.heap[g]? =some (.cells b 34 (0,0))/\b.size=c*3/\b.toList.take (n*3)=cO l/\c<=maxLen/\o<=g:=by
  have h:=s.out.1;rcases h.2 with⟨h',_⟩ | ⟨g',af,b,h',hb,hg,_,x,m,J⟩
  ·simp at h'
  simp only[Value.slice.injEq,bf5,Addr.mk.injEq,and_true]at h';obtain⟨rfl,_,rfl⟩:=h';rw[<-s.out.2.1]at J;exact⟨b,hg,m,J,x,hb⟩
 have hL:(cO l).length=n*3:=by rw[dX,s.out.2.1]
 obtain⟨Z,m⟩:=Nm ((cO l).drop (i*3));have D:Z.length=(n-i)*3:=by rw[m,bgx,hL];omega
 obtain⟨E,p⟩:=Nm ((b.toList.take ((i+1)*3)++Z++b.toList.drop ((i+1)*3+Z.length)).toArray);have aa:E.size=c*3:=by
  rw[p];simp only[List.size_toArray,bft,bga,bgx,bgq];omega
 have HC:=Lh (bfy N (bfy O (bfy u (bfy x (bfy Q (bfy m (bfy D (bfy p aa))))))));have ac:∀lb cb,(callFunc 266 #[.slice (some ⟨q,0,none⟩) 1 1,.slice (some ⟨g,(i+1)*3,none⟩) lb cb]).run prog w=.ok (.value (.bool false)) w:=λlb cb=>by
  rw[run_callFunc_extern func266 (by kernel_rfl) (by kernel_rfl) (by kernel_rfl) (e:=Extern.SlicesOverlaps.overlaps #[115,115] #[4]) (by kernel_rfl),
   Lib.run_overlaps_apart w 115 4 34 underlying115 3 sizeOf34 ⟨q,0,none⟩ ⟨g,(i+1)*3,none⟩ 1 1 lb cb ab 34 34 3 b.size
    (by have h:=s.out.2.2;unfold dH at h;simp[World.shape?,h,bf.cells]) (by simp[World.shape?,N]) (by omega) (s.out.2.2.fro 0) (s.out.2.2.fro 3)]
  rfl
 have ZK:∀w',(Instr.slice 115 (.slice (some ⟨g,0,none⟩) n c) none (some (.int .i64 ((n:Int)+1))) none).run prog w'=.ok (.slice (some ⟨g,0,none⟩) (n+1) c) w':=λw'=>by
  have h:=Gv w' (some ⟨g,0,none⟩) n c (n+1) (by omega)
  rwa [show((n+1:Nat):Int)=(n:Int)+1 by omega]at h
 have aA:∀w',(Instr.slice 115 (.slice (some ⟨g,0,none⟩) (n+1) c) (some (.int .i64 ((i:Int)+1))) none none).run prog w'=.ok (.slice (some ⟨g,(i+1)*3,none⟩) (n-i) (c-(i+1))) w':=λw'=>by
  have h:=qM w' g 0 (n+1) c (i+1) (by omega) (by omega)
  rwa [show((i+1:Nat):Int)=(i:Int)+1 by omega,bgu,show n+1-(i+1)=n-i by omega]at h
 have az:∀w',(Instr.slice 115 (.slice (some ⟨g,0,none⟩) (n+1) c) (some (.int .i64 (i:Int))) none none).run prog w'=.ok (.slice (some ⟨g,i*3,none⟩) (n+1-i) (c-i)) w':=λw'=>by
  have h:=qM w' g 0 (n+1) c i (by omega) (by omega)
  rwa [bgu]at h
 have ah:¬((c:Int)<(n:Int)+1):=by omega
 have HS:=Lh (bfy aA az);have ad:Hid (WY g q y w b E 0 w.drew):=Lh ⟨N,s.out.2.2,⟨rfl,rfl,rfl,bfx _,λ_ _ _=>rfl⟩⟩;have Yv:Hid (i<n/\n+1<=c/\c<=1000000):=Lh ⟨I,hc,hn⟩;clear N O u x Q m D p aa hL Y;go_enter func252,ntmps252;go_wp2_with(simp only[ac]);refine wp_region_skip_frame (λi=>([]:List Nat).contains i) (by kernel_rfl) (NoF [none,none,none,some 0]) [8] (V4 ((Value.slice (some ⟨g,0,none⟩) (n+1) c)::(Value.int .i64 (i:Int))::(Value.int .i64 (1:Int))::(Value.int .i64 ((i:Int)+1))::(Value.slice (some ⟨g,(i+1)*3,none⟩) (n-i) (c-(i+1)))::(Value.slice (some ⟨g,0,none⟩) (n+1) c)::(Value.int .i64 (i:Int))::(Value.slice (some ⟨g,i*3,none⟩) (n+1-i) (c-i))::goInt ((n-i:Nat):Int)::([]:List Value)) 99 (λ_ _ _=>True) 98 (λ_ _ _=>True) 97 (λ_ _ _=>True) 96 (λ_ _ _=>True)) (WY g q y w b E) (λw w'=>Bw w w') (wP _ (λ_ _ _ _ _ h=>h) (λ_ _ _ _ _ h=>h) (λ_ _ _ _ _ h=>h) (λ_ _ _ _ _ h=>h)) (by kernel_rfl) (by kernel_rfl) (by kernel_rfl) ad.out (λ_=>⟨rfl,rfl,rfl,rfl,rfl,rfl,rfl,rfl,rfl,trivial⟩) (λ_ h=>by simp at h) ?_ ?_
 ·refine ⟨?_,?_,?_,?_,?_,?_,?_,?_,?_,trivial⟩<;>(first|(intro _ _ a w' hG U M K hK;guard_hyp w':World)|intro _ a w' hG U M K hK)<;>replace U:=Lh U<;>replace M:=Lh M
  have q0:=FoA U 0 (.slice (some ⟨g,0,none⟩) (n+1) c);rotate_left;have q1:=FiA U 1 i;rotate_left;have q7:=FiA U 7 1;rotate_left;have ai:=Pi a 70 i M.out.1;have aj:=Pi a 71 1 M.out.2.1;have I:=Yv.out;rotate_left;have ak:=Ep a 69 (.slice (some ⟨g,0,none⟩) (n+1) c) M.out.1;have al:=Ep a 72 (.int .i64 ((i:Int)+1)) M.out.2.1;have ae:=HS.out.1;rotate_left;have q0:=FoA U 0 (.slice (some ⟨g,0,none⟩) (n+1) c);rotate_left;have q1:=FiA U 1 i;rotate_left;have am:=Ep a 74 (.slice (some ⟨g,0,none⟩) (n+1) c) M.out.1;have an:=Pi a 75 i M.out.2.1;have ae:=HS.out.2;rotate_left
  ·obtain ⟨p0,p1,_⟩:=M.out;have UW:=(show a.eval (.tmp 73)=.slice (some ⟨g,(i+1)*3,none⟩) (n-i) (c-(i+1))from p0);have UX:=(show a.eval (.tmp 76)=.slice (some ⟨g,i*3,none⟩) (n+1-i) (c-i)from p1);clear p0 p1;obtain⟨N,hq,d⟩:=(show(w'.heap[g]? =some (.cells b 34 (0,0))/\dH w' q y/\w.grownBy w' (some g))from hG);obtain⟨_,O,u,_,_,m,D,p,_⟩:=HC.out;have I:=Yv.out;refine Kw (.tmp 73) (.tmp 76) rfl g ((i+1)*3) (n-i) (c-(i+1)) ⟨g,i*3,none⟩ (n+1-i) (c-i) (n-i) Z b UW UX N (Nat.min_eq_right (by omega)).symm D (λj v F=>?_) (λv hv=>?_) (by omega) ?_
   ·rw[addr_add,cell_of_row w' g _ b _ _ N];rw[m,List.getElem?_drop,<-u,List.getElem?_take]at F
    split at F
    ·simpa using F
    cases F
   ·rw[m]at hv;exact yS l v (List.mem_of_mem_drop hv)
   rw[<-p];have k:=bD w' g E;exact hK _ _ rfl ⟨setRow_heap w' g _ _ _ _ N,hq.grown k (by simp;exact ab),⟨k.os.trans d.os,k.tape.trans d.tape,k.output.trans d.output,bgn d.size k.size,λj F L=>(k.block j (Nat.lt_of_lt_of_le F d.size) L).trans (d.block j F L)⟩⟩ (jE (.inr λ_ h=>h) (.inr λ_ h=>h) (.inr λ_ h=>h) (.inr λ_ h=>h))
  all_goals(go_step;exact hK _ _ rfl hG Br)
 intro vs w2 hG r hV
 match vs,r,hV with
 | [v0,v1,v2,v3,v4,v5,v6,v7,v8],_,hV=>
  clear hV;simp only[putsL,bf7,bf1];simp only[Act.put,bfw,bfu,bfv];have H2:Hid (w2.heap[g]? =some (.cells E 34 (0,0))/\dH w2 q y/\w.grownBy w2 (some g)):=Lh hG;clear hG aA ZK ac;go_upto_region 16 with fail;refine bg4 ?_
  iterate 12 go_step
  refine GN rfl (.tmp 80) (.tmp 81) rfl g (i*3) (n+1-i) (c-i) ⟨q,0,none⟩ 1 1 1 y.cells.toList E rfl rfl H2.out.1 (Nat.min_eq_left (by have:=Yv.out;omega)).symm rfl (λj v F=>by rw[addr_add,bgu];exact H2.out.2.1.cell j (by simpa using F)) (λv hv=>Array.all_eq_true'.1 (bG y) v (by simpa using hv)) (by have h3:y.cells.toList.length=3:=rfl;have h:=HC.out.2.2.2.2.2.2.2.2;omega) ?_
  obtain⟨wz,R⟩:=Nm (w2.setRow g (E.toList.take (i*3)++y.cells.toList++E.toList.drop (i*3+y.cells.toList.length)).toArray);have HZ:Hid (P (.returned (.slice (some ⟨g,0,none⟩) (n+1) c)) wz):=by
   obtain⟨N,O,u,x,Q,m,D,p,aa⟩:=HC.out;have I:=Yv.out;have hN:=s.out.2.1;have hL:(cO l).length=n*3:=by rw[dX,hN]
   have h3:y.cells.toList.length=3:=rfl;have k:=bD w2 g (E.toList.take (i*3)++y.cells.toList++E.toList.drop (i*3+y.cells.toList.length)).toArray;rw[<-R]at k;have d:=H2.out.2.2;refine Lh (XY.out wz ?_ ⟨k.os.trans d.os,k.tape.trans d.tape,k.output.trans d.output,bgn d.size k.size,λj F L=>(k.block j (Nat.lt_of_lt_of_le F d.size) L).trans (d.block j F L)⟩);have r:(l.take i++[y]++l.drop i).length=n+1:=by simp;omega
   unfold dQ;rw[r];refine⟨by rw[dX,r],.inr ⟨g,c,_,rfl,Q,by rw[R];exact setRow_heap w2 g _ _ _ _ H2.out.1,I.2.1,x,?_,?_⟩⟩
   ·simp only[List.size_toArray,bft,bga,bgx,bgq];have h4:y.cells.size=3:=rfl;omega
   have e1:cO (l.take i++[y]++l.drop i)=(cO l).take (i*3)++y.cells.toList++Z:=by
    rw[kU,kU,FW l i (by omega),FV l i (by omega),m]
    simp[cO]
   have e2:E.toList.take (i*3)=(cO l).take (i*3):=by
    rw[p,bgz,List.take_append_of_le_length (by rw[bga,bgq];omega),List.take_take,<-u,List.take_take]
    congr 1
    omega
   have e3:E.toList.drop (i*3+y.cells.toList.length)=Z++b.toList.drop ((i+1)*3+Z.length):=by
    rw[p,bgz,h3];exact List.drop_left' (by rw[bga,bgq];omega)
   rw[e1,e2,e3];exact J9 _ (by rw[bga,hL,h3,D];omega)
  rw[<-R];clear R az S;go_wp2_with fail;exact HZ.out
end Go.Proofs.YtgfmbkoieacgoaaGreatDoor
set_option maxRecDepth 100000
set_option maxHeartbeats 4000000
namespace Go.Proofs.YtgfmbkoieacgoaaGreatDoor
open Go Go.RowKit Go.Proofs.Tryz
theorem xO {l:List bf} {w:bf} {p:Nat}(I:dM l)(J:w.rightB=true)(O:jH (kF l w) (became l w) p):
  (kF l w).take p++[became l w]++(kF l w).drop p=qh l w:=by
 obtain⟨Q,M,N⟩:=O;have n:=(gZ (l:=l) J).1;have k:dP (became l w) (became l w)=true:=by
  have r:=bU n;exact(dU _ _).2 ⟨n,n,rfl,by omega,by omega⟩
 have j:∀x∈kF l w,dP x (became l w)=false:=λx d=>ww I J d;have o:(kF l w).Pairwise (λa b=>bK a b/\dP a b=false):=I.2.sublist List.filter_sublist;obtain⟨y,K⟩:=Nm (became l w);obtain⟨r,s⟩:=Nm (kF l w);have m:=Ji (l:=l) J;have u:=wJ I J;have D:∀x∈r,x.rightB=true:=λx d=>by rw[s]at d;exact I.1 x (mW.1 d).1
 rw[<-K,<-s]at M N m;rw[<-s]at Q o;rw[<-K]at n k j;rw[<-s]at j;rw[<-K,<-s];have E:∀i (h:i<r.length),sO r i=r[i]:=λi h=>fJ (bfs h);have R:∀x∈r.take p,bK x y:=by
  intro x d;obtain⟨i,L,e⟩:=List.getElem_of_mem d;rw[bga]at L;have h:=M i (by omega)
  rw[E i (by omega)]at h
  rw[<-e,List.getElem_take];exact h
 have S:∀x∈r.drop p,bK y x:=by
  intro x d;obtain⟨i,L,e⟩:=List.getElem_of_mem d;rw[bgx]at L;have h:=N (p+i) (by omega) (by omega)
  rw[E _ (by omega)]at h
  rw[List.getElem_drop]at e;rw[e]at h;refine(lZ (λU=>?_)).resolve_right h;have:=j x (List.mem_of_mem_drop d);rw[<-U,k]at this;cases this
 have Y:dM (r.take p++[y]++r.drop p):=by
  refine⟨λx d=>?_,?_⟩
  ·simp only[bgg,bgd]at d;rcases d with(d | rfl) | d
   ·exact D x (List.mem_of_mem_take d)
   ·exact n
   exact D x (List.mem_of_mem_drop d)
  rw[List.pairwise_append,List.pairwise_append];refine⟨⟨o.sublist (List.take_sublist _ _),by simp,λx d z F=>?_⟩,o.sublist (List.drop_sublist _ _),λx d z F=>?_⟩
  ·rw[List.mem_singleton.1 F];exact⟨R x d,j x (List.mem_of_mem_take d)⟩
  rcases List.mem_append.1 d with d | d
  ·have e:=List.take_append_drop p r;rw[<-e,List.pairwise_append]at o;exact o.2.2 x d z F
  rw[List.mem_singleton.1 d];exact⟨S z F,by rw[rQ];exact j z (List.mem_of_mem_drop F)⟩
 refine Y.ext u.1 λq c=>?_;rw[u.2,<-m];refine NK (λx=>?_) q c;have:x∈r↔x∈r.take p∨x∈r.drop p:=by
  rw[<-bgg,List.take_append_drop]
 simp only[bgg,bgd,this];constructor
 ·rintro((h | h) | h)
  ·exact .inl (.inl h)
  ·exact .inr h
  exact .inl (.inr h)
 rintro((h | h) | h)
 ·exact .inl (.inl h)
 ·exact .inr h
 exact .inl (.inr h)
theorem Jp {x y o:bf}(h:dP o x=true):jF x y o=qP y o:=by
 rw[jF,if_pos h];rfl
def lg(w:World)(B b1 b2 g b3 c:Nat)(x y:bf)(out:List bf)(v9:Value)(gv:List Nat)(wr:World):Prop:=
 (w.heap.size<=b1/\b1<b2/\b2<g/\g<b3/\b3<B/\B<=wr.heap.size)/\Bw w wr/\dH wr b1 x/\dH wr b2 bF/\dH wr b3 y/\dQ wr (b2+1) (.slice (some ⟨g,0,none⟩) out.length c) out/\zL wr B v9 gv
theorem lg.below {w:World} {B b d g e c:Nat} {x y:bf} {out:List bf} {j:Value} {k:List Nat} {wr l:World}(h:lg w B b d g e c x y out j k wr)(a:Bw wr l):lg w B b d g e c x y out j k l:=by
 obtain⟨⟨m,n,o,p,q,r⟩,s,u,z,D,E,F⟩:=h;exact⟨⟨m,n,o,p,q,bgn r a.size⟩,Tb s a,u.below a,z.below a,D.below a,E.far a,F.far a⟩
theorem lg.V3 {w:World} {B l e g m c:Nat} {x y:bf} {out a:List bf} {n:Value} {o:List Nat} {wr d:World}(h:lg w B l e g m c x y out n o wr)(q:dQ d (e+1) (.slice (some ⟨g,0,none⟩) a.length c) a)(b:wr.grownBy d (some g)):lg w B l e g m c x y a n o d:=by
 obtain⟨⟨r,s,u,z,D,E⟩,F,I,J,K,L,p⟩:=h;have j:Below w.heap.size wr d:=⟨b.os,b.tape,b.output,b.size,λk M=>b.block k (by omega) (by simp;omega)⟩
 exact⟨⟨r,s,u,z,D,bgn E b.size⟩,F.trans j,I.grown b (by simp;omega),J.grown b (by simp;omega),K.grown b (by simp;omega),q,p.kept b (rows_apart L p)⟩
theorem lg.Xn {w:World} {B o p g q c:Nat} {x y:bf} {out:List bf} {l b:Value} {u d:List Nat} {wr e:World}(h:lg w B o p g q c x y out l u wr)(z:zL e B b d)(a:wr.grownBy e l.ownBlock):lg w B o p g q c x y out b d e:=by
 obtain⟨⟨D,E,F,I,J,K⟩,L,M,N,O,r,s⟩:=h;have j:∀k,l.ownBlock=some k->B<=k/\k<wr.heap.size:=λk m=>Own.lt s m;have n:Below B wr e:=⟨a.os,a.tape,a.output,a.size,λk m=>a.block k (by omega) (zI j m)⟩
 exact⟨⟨D,E,F,I,J,bgn K a.size⟩,L.trans (n.mono (by omega)),M.grown a (zI j (by omega)),N.grown a (zI j (by omega)),O.grown a (zI j (by omega)),r.kept a (JY r s),z⟩
theorem lg.set {w:World} {B m n g b c:Nat} {x y o:bf} {out:List bf} {j:Value} {p:List Nat} {wr d:World}(h:lg w B m n g b c x y out j p wr)(r:dH d b o)(a:wr.grownBy d (some b)):lg w B m n g b c x o out j p d:=by
 obtain⟨⟨s,u,z,D,E,F⟩,I,J,K,M,L,q⟩:=h;have n6:j.ownBlock≠some b:=λe=>by have:=Own.lt q e;omega
 have l:Below w.heap.size wr d:=⟨a.os,a.tape,a.output,a.size,λk N=>a.block k (by omega) (by simp;omega)⟩
 exact⟨⟨s,u,z,D,E,bgn F a.size⟩,I.trans l,J.grown a (by simp;omega),K.grown a (by simp;omega),r,L.kept a (.inr (by simp[Value.ownBlock];omega)),q.kept a (.inr n6)⟩
def RZ(w:World)(B b1 b2 g b3 c:Nat)(l:List bf)(x:bf)(v7 v9 i:Value)(wr:World):Prop:=
 ∃j:Nat,j<=l.length/\i=.int .i64 (j:Int)/\v7=.slice (some ⟨g,0,none⟩) (gW l x j).length c/\lg w B b1 b2 g b3 c x (kP l x j) (gW l x j) v9 (jh l x j) wr
def PG(w:World)(B b1 b2 g b3 c:Nat)(X y:bf)(out M:List bf)(v9:Value)(gv:List Nat)(k:Nat)(w':World):Prop:=
 cond (Nat.ble k 1) (lg w B b1 b2 g b3 c X y out v9 gv w') (cond (Nat.ble k 2) (lg w B b1 b2 g b3 c X y M v9 gv w') (dH w' b3 y/\dH w' b2 y/\dQ w' (b2+1) (.slice (some ⟨g,0,none⟩) M.length c) M/\zL w' B v9 gv/\Bw w w'))
theorem PG.row {w:World} {B b d g a c:Nat} {X y:bf} {out M:List bf} {e:Value} {j:List Nat} {k:Nat} {w':World}(h:PG w B b d g a c X y out M e j k w'):dH w' a y:=by
 unfold PG at h;cases h1:Nat.ble k 1 <;> rw[h1]at h
 ·cases h2:Nat.ble k 2 <;> rw[h2]at h
  ·exact h.1
  exact h.2.2.2.2.1
 exact h.2.2.2.2.1
theorem tX {l:List bf} {w:bf}(a:dM l)(b:w.rightB=true):pq l w=(qh l w,became l w,vg l w):=by rw[pq,if_pos ⟨a,b⟩]
theorem J8 {l:List bf} {w:bf}(h:¬(dM l/\w.rightB=true)):pq l w=(l,bF,[]):=by rw[pq,if_neg h]
theorem GU(w:World) {h:Array Oper} {d:List Oper} {o:Oper} {a:Act} {Q:Exit->Act->World->Prop}(s:o.guard=none)(l c:Operand)(m:o.op=Op.makeSlice 115 l c)
  (b:Nat) (C:Int) (n:Nat) (u:a.eval l=.int .i64 0) (x:a.eval c=.int .i64 C) (y:C=(n:Int)) (K:n<=1000000) (D:b<=w.heap.size)
  (E:∀w',dQ w' b (.slice (some ⟨w.heap.size,0,none⟩) 0 n) []->Bw w w'->wpList prog h Q d (a.put o.dst (.slice (some ⟨w.heap.size,0,none⟩) 0 n)) w'):wpList prog h Q (o::d) a w:=by
 obtain⟨i,F,p,q,r⟩:=info_parts (P:=prog) (e:=34) (z:=.agg #[.string ⟨#[]⟩,.int .i64 0,.int .i64 0]) (size:=3) (bytes:=32) (by kernel_rfl)
 refine wpList_make_own w s l c 115 m b 34 i _ 3 underlying115 F p q .i64 .i64 C n u x y (by rw[r];omega) (by unfold maxLen;omega) D ?_
 intro w' I j;exact E w' I ⟨j.os,j.tape,j.output,j.size,λk J=>j.block k J (by simp)⟩
theorem dQ.row_ne {w:World} {B b:Nat} {v:Value} {l:List bf}(h:dQ w B v l)(c:b<B):v.ownBlock=none∨v.ownBlock≠some b:=by
 cases e:v.ownBlock with
 | none=>exact .inl rfl
 | some k=>
  right
  intro a;cases a
  have:=h.lt e;omega
theorem Ru(w:World)(sa:Option Addr)(sc:Nat)(l:List bf)(x:bf)(hA:fZ w sa l)(hk:∀y∈l,y.key.length<=1000000)(hx:x.key.length<=1000000)(hn:l.length<=900):
  Calls prog 219 #[.slice sa l.length sc,.agg x.cells] w (FH w (pq l x).1 (pq l x).2.1 (pq l x).2.2):=by
 obtain⟨n,hN⟩:=Nm (l.length);obtain⟨P,hP⟩:=Nm (FH w (pq l x).1 (pq l x).2.1 (pq l x).2.2);rw[<-hP,<-hN];have HN:Hid (n=l.length/\n<=900):=Lh ⟨hN,by omega⟩
 have aG:n<=900:=by omega
 have HA:=Lh hA;have HP:=Lh hP;obtain⟨sb,ao⟩:=Nm (decide (dM l));obtain⟨rb,ap⟩:=Nm (x.rightB);have U8:Hid (∀q,Bw w q->Calls prog 181 #[.slice sa n sc] q (Below0 q (.bool sb))):=by
  rw[ao,hN];exact Lh (λq h=>xI q sa sc l (hA.below h) hk (by omega))
 obtain⟨X,hX⟩:=Nm x;have oq:Hid (∀q,Calls prog 62 #[.agg X.cells] q (Below0 q (.bool rb))):=by
  rw[ap,hX];exact Lh (λq=>gQ q x hx)
 have O6:=Lh ao;have IM:=Lh ap;obtain⟨w2,Z⟩:=Nm ((w.alloc (.cells x.cells 34)).alloc (.cells #[.string ⟨#[]⟩,.int .i64 0,.int .i64 0] 34));obtain⟨D,ad⟩:=Nm (w.heap.size);obtain⟨b,ar⟩:=Nm (w.heap.size+1);have ae:(w.alloc (.cells x.cells 34)).heap.size=w.heap.size+1:=bg w _;have H2:Hid (dH w2 D x/\dH w2 b bF/\Bw w w2/\w.heap.size=D/\b=D+1/\w2.heap.size=D+2):=by
  have I:=(Below.refl _ w).alloc (bfx _) (.cells x.cells 34);have r:=(Below.refl _ (w.alloc (.cells x.cells 34))).alloc (bfx _) (.cells #[.string ⟨#[]⟩,.int .i64 0,.int .i64 0] 34);refine Lh ⟨?_,?_,?_,ad.symm,by omega,by rw[Z,bg,ae,ad]⟩
  ·rw[Z,ad];exact dH.below (bg5 w _) r
  ·rw[Z,ar,<-ae];exact bg5 _ _
  rw[Z];exact Tb I r
 have aj:Hid (w.heap.size<=b):=Lh (by omega)
 clear hN hA hn hP hk hx ao ap;obtain⟨xk,xl,xh⟩:=x;have Yp:Hid (X=⟨xk,xl,xh⟩):=Lh hX;have Aw:Hid (∀q,Calls prog 62 #[.agg #[Sv xk,.int .i64 xl,.int .i64 xh]] q (Below0 q (.bool rb))):=by
  have h:=oq.out;rw[Yp.out]at h;exact Lh h
 rw[<-hX]at H2 HP IM;unfold bf.cells at Z ae ⊢;simp only at Z ae;obtain⟨Q,R,d2⟩:=H2.out.1.d3;rw[Yp.out]at Q R d2;simp only at Q R d2;clear hX oq;go_enter func219,ntmps219;go_upto_region 1 with fail;rw[<-Z,<-ar,<-ad];clear Z ad ar ae;go_wp2_with fail;refine(U8.out w2 H2.out.2.2.1).mono ?_;rintro e w3 ⟨rfl,E⟩;have H3:Hid (dH w3 D X/\dH w3 b bF/\Bw w w3/\w.heap.size=D/\b=D+1/\D+2<=w3.heap.size):=by
  obtain⟨I,r,k3,k4,k5,k6⟩:=H2.out;exact Lh ⟨I.below E,r.below E,Tb k3 E,k4,k5,by have:=E.size;omega⟩
 clear E Q R d2 U8 H2;obtain⟨Q,R,d2⟩:=H3.out.1.d3;rw[Yp.out]at Q R d2;simp only at Q R d2;dsimp only
 cases sb with
 | false=>
  have HT:Hid (pq l X=(l,bF,[])):=Lh (J8 (λh=>absurd h.1 (of_decide_eq_false O6.out.symm)));have ZY:Hid (dH w3 b bF/\Bw w w3/\fZ w3 sa l/\b+1<=w3.heap.size):=Lh ⟨H3.out.2.1,H3.out.2.2.1,HA.out.below H3.out.2.2.1,by have:=H3.out.2.2.2;omega⟩
  clear Q R d2;go_upto_region 2 with fail;refine bg4 ?_
  iterate 3 go_step
  refine sG rfl (.const (Value.slice none 0 0)) (.tmp 22) rfl (b+1) (.slice none 0 0) [] l rfl (dQ.nil _ _) sa sc n HN.out.1 rfl ZY.out.2.2.1 (by have:=HN.out;simp;omega) ZY.out.2.2.2 ?_
  intro vq wq I r _;rw[List.nil_append]at I;have L:Hid (dH wq b bF/\Bw w wq/\dQ wq (b+1) vq l):=by
   have E:Bw w3 wq:=⟨r.os,r.tape,r.output,r.size,λk hk=>r.block k hk (by simp[Value.ownBlock])⟩
   exact Lh ⟨ZY.out.1.below E,ZY.out.2.1.trans (E.mono ZY.out.2.1.size),I⟩
  clear I r
  iterate 6 go_step
  refine bg6 rfl _ _ _ rfl b bF.cells rfl rfl 34 bF.cells L.out.1 bz rfl (bG _) ?_;obtain⟨wz,ab⟩:=Nm (wq.setRow b bF.cells);have HZ:Hid (dH wz b bF/\P (.returned (.tuple #[vq,.agg bF.cells,.slice none 0 0])) wz):=by
   have N:=bD wq b bF.cells;have af:Below w.heap.size wq (wq.setRow b bF.cells):=⟨N.os,N.tape,N.output,N.size,λk hk=>N.block k (by have:=L.out.2.1.size;omega) (by have:=aj.out;simp;omega)⟩
   rw[ab,HP.out,HT.out];refine Lh ⟨L.out.1.reset bF,vq,.slice none 0 0,rfl,?_,Own.nil _ _ _,L.out.2.1.trans af⟩;exact(L.out.2.2.kept N (L.out.2.2.row_ne (Nat.lt_succ_self _))).mono (by have:=aj.out;omega)
  rw[<-ab];clear ab;go_wp2_with fail;exact bodyPost_ret (v:=.tuple #[vq,.agg bF.cells,.slice none 0 0]) ((jR (s:=4) (p:=5) (u:=6) (ty:=34) rfl _ _ b 34 bF.cells (0,0) _ rfl HZ.out.1 underlying34 rfl bz).trans rfl) rfl HZ.out.2
 | true=>
  go_wp2_with fail;refine(Aw.out w3).mono ?_;rintro e w4 ⟨rfl,E⟩;have iZ:Hid (dH w4 D X/\dH w4 b bF/\Bw w w4/\w.heap.size=D/\b=D+1/\D+2<=w4.heap.size):=by
   obtain⟨I,r,k3,k4,k5,k6⟩:=H3.out;exact Lh ⟨I.below E,r.below E,Tb k3 E,k4,k5,by have:=E.size;omega⟩
  clear E Q R d2 Aw H3;dsimp only
  cases rb with
  | false=>
   have HT:Hid (pq l X=(l,bF,[])):=Lh (J8 (λh=>by rw[<-IM.out]at h;cases h.2))
   have ZY:Hid (dH w4 b bF/\Bw w w4/\fZ w4 sa l/\b+1<=w4.heap.size):=Lh ⟨iZ.out.2.1,iZ.out.2.2.1,HA.out.below iZ.out.2.2.1,by have:=iZ.out.2.2.2;omega⟩
   go_upto_region 2 with fail;refine bg4 ?_
   iterate 3 go_step
   refine sG rfl (.const (Value.slice none 0 0)) (.tmp 22) rfl (b+1) (.slice none 0 0) [] l rfl (dQ.nil _ _) sa sc n HN.out.1 rfl ZY.out.2.2.1 (by have:=HN.out;simp;omega) ZY.out.2.2.2 ?_
   intro vq wq I r _;rw[List.nil_append]at I;have L:Hid (dH wq b bF/\Bw w wq/\dQ wq (b+1) vq l):=by
    have E:Bw w4 wq:=⟨r.os,r.tape,r.output,r.size,λk hk=>r.block k hk (by simp[Value.ownBlock])⟩
    exact Lh ⟨ZY.out.1.below E,ZY.out.2.1.trans (E.mono ZY.out.2.1.size),I⟩
   clear I r
   iterate 6 go_step
   refine bg6 rfl _ _ _ rfl b bF.cells rfl rfl 34 bF.cells L.out.1 bz rfl (bG _) ?_;obtain⟨wz,ab⟩:=Nm (wq.setRow b bF.cells);have HZ:Hid (dH wz b bF/\P (.returned (.tuple #[vq,.agg bF.cells,.slice none 0 0])) wz):=by
    have N:=bD wq b bF.cells;have af:Below w.heap.size wq (wq.setRow b bF.cells):=⟨N.os,N.tape,N.output,N.size,λk hk=>N.block k (by have:=L.out.2.1.size;omega) (by have:=aj.out;simp;omega)⟩
    rw[ab,HP.out,HT.out];refine Lh ⟨L.out.1.reset bF,vq,.slice none 0 0,rfl,?_,Own.nil _ _ _,L.out.2.1.trans af⟩;exact(L.out.2.2.kept N (L.out.2.2.row_ne (Nat.lt_succ_self _))).mono (by have:=aj.out;omega)
   rw[<-ab];clear ab;go_wp2_with fail;exact bodyPost_ret (v:=.tuple #[vq,.agg bF.cells,.slice none 0 0]) ((jR (s:=4) (p:=5) (u:=6) (ty:=34) rfl _ _ b 34 bF.cells (0,0) _ rfl HZ.out.1 underlying34 rfl bz).trans rfl) rfl HZ.out.2
  | true=>
   have HS:Hid (dM l/\X.rightB=true/\pq l X=(qh l X,became l X,vg l X)):=Lh ⟨bgh O6.out.symm,IM.out.symm,tX (bgh O6.out.symm) IM.out.symm⟩;go_upto_region 3 with fail;refine bg4 ?_
   iterate 9 go_step
   refine GU w4 rfl (.const (.int .i64 0)) (.tmp 27) rfl (b+1) ((n:Int)+1) (n+1) rfl rfl (by omega) (by omega) (by have:=iZ.out.2.2.2.2;omega) ?_
   intro w5 I r;obtain⟨g,N⟩:=Nm (w4.heap.size);rw[<-N]at I ⊢;have H5:Hid (dH w5 D X/\dH w5 b bF/\Bw w w5/\w.heap.size=D/\b=D+1/\b<g/\g<w5.heap.size/\dQ w5 (b+1) (.slice (some ⟨g,0,none⟩) 0 (n+1)) []):=by
    obtain⟨j1,j2,j3,j4,j5,j6⟩:=iZ.out;have:=I.lt rfl;exact Lh ⟨j1.below r,j2.below r,Tb j3 r,j4,j5,by omega,this.2,I⟩
   clear I r N iZ;obtain⟨Q,R,d2⟩:=H5.out.1.d3;rw[Yp.out]at Q R d2;simp only at Q R d2;go_upto_region 4 with fail;refine bg4 ?_
   iterate 6 go_step
   refine bg6 rfl _ _ _ rfl w5.heap.size (bf.mk xk xl xh).cells rfl rfl 34 bF.cells (bg5 w5 _) bz rfl (bG _) ?_;obtain⟨w6,ac⟩:=Nm ((w5.alloc (Obj.cells #[.string ⟨#[]⟩,.int .i64 0,.int .i64 0] 34)).setRow w5.heap.size (bf.mk xk xl xh).cells);obtain⟨d,ak⟩:=Nm (w5.heap.size);have ax:Hid (dH w6 d (bf.mk xk xl xh)/\Bw w5 w6):=by
    obtain⟨I,r⟩:=kH w5 (bf.mk xk xl xh);rw[ac,ak];exact Lh ⟨I,r⟩
   have ay:Hid (d=w5.heap.size):=Lh ak;rw[<-ac,<-ak];clear ac ak;have H6:Hid (lg w (d+1) D b g d (n+1) X X [] (.slice none 0 0) [] w6):=by
    obtain⟨h1,h2,h3,h4,h5,h6,h7,h8⟩:=H5.out;obtain⟨I,r⟩:=ax.out;have e:=ay.out;have ag:=I.lt;rw[<-Yp.out]at I;exact Lh ⟨⟨by omega,by omega,by omega,by omega,by omega,by omega⟩,Tb h3 r,h1.below r,h2.below r,I,h8.far r,Own.nil _ _ _⟩
   clear Q R d2 H5 ax ay;go_wp2_with fail;go_loopw[7,9,32] (RZ w (d+1) D b g d (n+1) l X) (λ_ _ i _=>n-(intOf i).toNat)
   case atStart=>exact⟨0,bgi _,rfl,rfl,H6.out⟩
   case round=>
    obtain⟨j,hj,rfl,hv,hT⟩:=hrel;obtain⟨m,hm⟩:=Nm ((gW l X j).length);rw[<-hm]at hv;subst hv;rw[<-HN.out.1]at hj;have HT:=Lh hT;have Hm:=Lh hm;have al:m<=j:=by rw[hm];exact QY _ _ _
    clear hT hm;obtain⟨J,UL⟩:=Nm u9;subst UL;by_cases ag:j<n
    ·have aT:(0:Int)<=(j:Int)/\(j:Int)<(n:Int):=by omega
     obtain⟨o,pa,po,ho,aH,c0,c1,c2⟩:=(HA.out.below HT.out.2.1).get (t:=j) (by rw[<-HN.out.1];exact ag)
     subst aH;have HO:=Lh (bfy ho (bfy ag al));have aI:Hid (o.rightB=true):=Lh (HS.out.1.1 o (bf3 ho));obtain⟨ok,S,U⟩:=o;simp only at c0 c1 c2;clear ho hj ag al;go_upto_region 8 with fail;refine bg4 ?_
     iterate 15 go_step
     refine bg6 rfl _ _ _ rfl wr.heap.size (bf.mk ok S U).cells rfl rfl 34 bF.cells (bg5 wr _) bz rfl (bG _) ?_;obtain⟨W1,au⟩:=Nm ((wr.alloc (Obj.cells #[.string ⟨#[]⟩,.int .i64 0,.int .i64 0] 34)).setRow wr.heap.size (bf.mk ok S U).cells);obtain⟨ob,am⟩:=Nm (wr.heap.size);have X3:Hid (dH W1 ob (bf.mk ok S U)/\Bw wr W1):=by
      obtain⟨I,r⟩:=kH wr (bf.mk ok S U);rw[au,am];exact Lh ⟨I,r⟩
     have aJ:Hid (d+1<=ob):=Lh (by rw[am];exact HT.out.1.2.2.2.2.2)
     rw[<-au,<-am];clear au am;clear c0 c1 c2;have H1:Hid (lg w (d+1) D b g d (n+1) X (kP l X j) (gW l X j) J (jh l X j) W1):=Lh (HT.out.below X3.out.2);clear HT;obtain⟨jb,av⟩:=Nm (dP ⟨ok,S,U⟩ X);have HJ:Hid (∀q,Calls prog 249 #[.agg #[Sv ok,.int .i64 S,.int .i64 U],.agg #[Sv xk,.int .i64 xl,.int .i64 xh]] q (Below0 q (.bool jb))):=by
      rw[av,<-vX aI.out HS.out.2.1,Yp.out];exact Lh (λq=>DY q ⟨ok,S,U⟩ ⟨xk,xl,xh⟩)
     have O3:=Lh av;clear av;obtain⟨Q,R,d2⟩:=H1.out.2.2.1.d3;rw[Yp.out]at Q R d2;obtain⟨e0,e1,e2⟩:=X3.out.1.d3;simp only at Q R d2 e0 e1 e2;go_wp2_with fail;refine(HJ.out W1).mono ?_;rintro e O ⟨rfl,E⟩;have L:Hid (lg w (d+1) D b g d (n+1) X (kP l X j) (gW l X j) J (jh l X j) O/\dH O ob ⟨ok,S,U⟩/\d+1<=ob):=Lh ⟨H1.out.below E,X3.out.1.below E,aJ.out⟩;clear E Q R d2 e0 e1 e2;dsimp only
     cases jb with
     | true=>
      have HG:Hid (jh l X (j+1)=jh l X j++[j]/\gW l X (j+1)=gW l X j/\kP l X (j+1)=qP (kP l X j) ⟨ok,S,U⟩):=by
       rw[yY HO.out.1,zi HO.out.1,yZ HO.out.1,<-O3.out];exact Lh ⟨rfl,by simp,Jp O3.out.symm⟩
      obtain⟨y,hy⟩:=Nm (kP l X j);rw[<-hy]at L HG;clear hy;obtain⟨yk,yl,yh⟩:=y;obtain⟨u,hu⟩:=Nm (qP ⟨yk,yl,yh⟩ ⟨ok,S,U⟩);have aL:Hid (∀q,Calls prog 250 #[.agg #[Sv yk,.int .i64 yl,.int .i64 yh],.agg #[Sv ok,.int .i64 S,.int .i64 U]] q (Below0 q (.agg u.cells))):=by
       rw[hu];exact Lh (λq=>Nu q ⟨yk,yl,yh⟩ ⟨ok,S,U⟩)
      rw[<-hu]at HG;clear hu;obtain⟨Q,R,d2⟩:=L.out.1.2.2.2.2.1.d3;obtain⟨e0,e1,e2⟩:=L.out.2.1.d3;simp only at Q R d2 e0 e1 e2;go_upto_region 11 with fail;refine bg4 ?_
      iterate 6 go_step
      refine wpList_plain rfl λK hK=>?_;go_step;refine(aL.out O).mono ?_;rintro e w5 ⟨rfl,E⟩;refine hK _ _ ?_;clear hK;have H5:Hid (lg w (d+1) D b g d (n+1) X ⟨yk,yl,yh⟩ (gW l X j) J (jh l X j) w5):=Lh (L.out.1.below E);clear E Q R d2 e0 e1 e2 L;refine bg6 rfl _ _ _ rfl d u.cells rfl rfl 34 (bf.mk yk yl yh).cells H5.out.2.2.2.2.1 bz rfl (bG _) ?_;obtain⟨ah,ac⟩:=Nm (w5.setRow d u.cells);have aM:Hid (lg w (d+1) D b g d (n+1) X u (gW l X j) J (jh l X j) ah):=by
       rw[ac];exact Lh (H5.out.set (H5.out.2.2.2.2.1.reset u) (bD w5 d u.cells))
      rw[<-ac];clear ac H5;go_upto_region 12 with fail;refine bg4 ?_
      iterate 9 go_step
      have aN:Hid ((DI (jh l X j)).length+1<=1000):=Lh (by have h:=Qu l X j;have:=HO.out.2.1;simp only[DI,bfz];omega)
      have H7:Hid (lg w (d+1) D b g d (n+1) X u (gW l X j) J (jh l X j) (ah.alloc (.cells #[.int .i64 (j:Int)] 3))):=by
       have E:=(Below.refl _ ah).alloc (bfx _) (.cells #[.int .i64 (j:Int)] 3);exact Lh (aM.out.below E)
      refine wpList_push underlying35 Xj rfl rfl (.tmp 48) (.tmp 50) rfl (d+1) J (DI (jh l X j)) rfl H7.out.2.2.2.2.2.2 (.int .i64 (j:Int)) ah.heap.size rfl (by rw[cell_of_row _ _ _ _ _ _ (bg5 ah _)];rfl) rfl aN.out H7.out.1.2.2.2.2.2 (by decide) ?_
      intro g' w7 I r k3;have H8:Hid (RZ w (d+1) D b g d (n+1) l X (.slice (some ⟨g,0,none⟩) m (n+1)) g' (.int .i64 ((j:Int)+1)) w7):=by
       have aO:zL w7 (d+1) g' (jh l X (j+1)):=by
        rw[HG.out.1];unfold zL DI;rw[bgl];exact I
       have h:=H7.out.Xn aO r;refine Lh ⟨j+1,by have:=HO.out.2.1;have:=HN.out.1;omega,by go_num,by rw[HG.out.2.1,Hm.out],?_⟩
       rw[HG.out.2.1,HG.out.2.2];exact h
      clear I r k3;have Ou:=Lh HO.out.2.1;go_wp2_with fail;go_roundw
      case rel=>exact H8.out
      case measure=>have:=Ou.out;simp[intOf];omega
     | false=>
      have HG:Hid (jh l X (j+1)=jh l X j/\gW l X (j+1)=gW l X j++[⟨ok,S,U⟩]/\kP l X (j+1)=kP l X j):=by
       rw[yY HO.out.1,zi HO.out.1,yZ HO.out.1,jF,<-O3.out];exact Lh ⟨by simp,rfl,rfl⟩
      obtain⟨e0,e1,e2⟩:=L.out.2.1.d3;simp only at e0 e1 e2;go_upto_region 10 with fail;refine bg4 ?_
      iterate 6 go_step
      refine wpList_slice1_W rfl (.tmp 42) rfl ⟨ok,S,U⟩ rfl ?_;obtain⟨w8,an⟩:=Nm (O.alloc (.cells (bf.mk ok S U).cells 34));obtain⟨gb,ai⟩:=Nm (O.heap.size);have H8:Hid (lg w (d+1) D b g d (n+1) X (kP l X j) (gW l X j) J (jh l X j) w8/\(∀j z,(bf.mk ok S U).cells[j]? =some z->w8.cell? ⟨gb,j,none⟩=some z)):=by
       have E:Bw O w8:=by rw[an];exact(Below.refl _ O).alloc (bfx _) _
       refine Lh ⟨L.out.1.below E,λj z hz=>?_⟩;rw[an,ai,cell_of_row _ _ _ _ _ _ (bg5 O _)];exact hz
      rw[<-an,<-ai];clear an ai e0 e1 e2;have O5:Hid (dQ w8 (b+1) (.slice (some ⟨g,0,none⟩) m (n+1)) (gW l X j)):=by
       have h:=H8.out.1.2.2.2.2.2.1;rw[<-Hm.out]at h;exact Lh h
      refine xU rfl (.tmp 41) (.tmp 43) rfl rfl O5.out Hm.out ⟨ok,S,U⟩ gb rfl H8.out.2 (by have:=HO.out.2;omega) ?_
      intro w9 g1 g2;have H9:Hid (RZ w (d+1) D b g d (n+1) l X (.slice (some ⟨g,0,none⟩) (m+1) (n+1)) J (.int .i64 ((j:Int)+1)) w9):=by
       have e:(gW l X j++[bf.mk ok S U]).length=m+1:=by rw[bft,Hm.out];rfl
       refine Lh ⟨j+1,by have:=HO.out.2;have:=HN.out.1;omega,by go_num,by rw[HG.out.2.1,e],?_⟩
       rw[HG.out.1,HG.out.2.1,HG.out.2.2];exact H8.out.1.V3 (by rw[e];exact g1) g2
      clear g1 g2;have Ou:=Lh HO.out.2.1;go_wp2_with fail;go_roundw
      case rel=>exact H9.out
      case measure=>have:=Ou.out;simp[intOf];omega
    obtain rfl:j=n:=by omega
    have aK:Hid (lg w (d+1) D b g d (j+1) X (became l X) (kF l X) J (vg l X) wr/\m=(kF l X).length):=by
     have h:=HT.out;have h2:=Hm.out;rw[HN.out.1]at h2;rw[BP]at h2;have e:lg w (d+1) D b g d (j+1) X (kP l X l.length) (gW l X l.length) J (jh l X l.length) wr:=by
      have:=h;rw[<-HN.out.1];exact this
     rw[LW,BP,LU]at e;exact Lh ⟨e,h2⟩
    obtain⟨out,XR⟩:=Nm (kF l X);obtain⟨y,hy⟩:=Nm (became l X);obtain⟨gv,aw⟩:=Nm (vg l X);have AP:Hid (∀p,jH out y p->out.take p++[y]++out.drop p=qh l X):=by
     rw[XR,hy];exact Lh (λp hp=>xO HS.out.1 HS.out.2.1 hp)
    have az:Hid (out.Pairwise bK):=by
     rw[XR];exact Lh ((HS.out.1.2.imp (λh=>h.1)).sublist List.filter_sublist)
    have Yw:Hid (∀wz v4 B,dQ wz B v4 (qh l X)->zL wz (d+1) J gv->Bw w wz->w.heap.size<=B->w.heap.size<=d->P (.returned (.tuple #[v4,.agg y.cells,J])) wz):=by
     refine Lh (λwz v4 B h1 h2 h3 h4 h5=>?_);rw[HP.out,HS.out.2.2];refine⟨v4,J,by rw[hy],h1.mono h4,?_,h3⟩
     rw[<-aw];exact Own.mono h2 (by omega)
    rw[<-XR,<-hy,<-aw]at aK;have O4:Hid (m<=j/\j<=900):=Lh ⟨al,aG⟩;clear XR hy aw HT Hm ag hj al HS;obtain⟨VY,ZU⟩:=Nm (Value.agg y.cells);have HV:=Lh ZU;have Iw:Hid (∀q,fZ q (some ⟨g,0,none⟩) out->Calls prog 251 #[.slice (some ⟨g,0,none⟩) m (j+1),VY,.func (.func 183) #[] #[]] q (FD q out y)):=by
     rw[ZU,aK.out.2];exact Lh (λq h=>Hw q _ _ out y h az.out (by rw[<-aK.out.2];have:=O4.out;omega))
    have aP:Hid (∀wz v4 B,dQ wz B v4 (qh l X)->zL wz (d+1) J gv->Bw w wz->w.heap.size<=B->w.heap.size<=d->P (.returned (.tuple #[v4,VY,J])) wz):=by rw[ZU];exact Yw
    clear ZU;obtain⟨yk,yl,yh⟩:=y;have aA:Hid (VY=.agg #[Sv yk,.int .i64 yl,.int .i64 yh]):=Lh HV.out;obtain⟨Q,R,d2⟩:=aK.out.1.2.2.2.2.1.d3;simp only at Q R d2;go_wp2_with fail;rw[<-aA.out];refine(Iw.out wr (by obtain⟨a,c,e,_,hW⟩:=aK.out.1.2.2.2.2.2.1.form;cases e;exact hW)).mono ?_
    rintro e O ⟨p,fb,rfl,hp,E⟩;have aU:p<=m:=by rw[aK.out.2];exact hp.1
    obtain⟨M,hM⟩:=Nm (out.take p++[⟨yk,yl,yh⟩]++out.drop p);have HM:Hid (M=qh l X/\M=out.take p++[⟨yk,yl,yh⟩]++out.drop p/\M.length=m+1/\p<=out.length/\m=out.length):=by
     refine Lh ⟨hM.trans (AP.out p hp),hM,?_,hp.1,aK.out.2⟩;rw[hM];simp;have:=aK.out.2;omega
    have L:Hid (lg w (d+1) D b g d (j+1) X ⟨yk,yl,yh⟩ out J gv O):=Lh (aK.out.1.below E);clear E hp hM Q R d2 Iw AP aK az;obtain⟨Y,hY⟩:=Nm (bf.mk yk yl yh);rw[<-hY]at L HM HV;have iG:Hid (VY=Value.agg Y.cells):=Lh HV.out;have Ey:Hid (Value.agg Y.cells=Value.agg (bf.mk yk yl yh).cells):=by rw[hY];exact Lh rfl
    clear hY HV aA Yw;have aB:Hid (w.heap.size<=b+1/\w.heap.size<=d):=Lh (by have:=L.out.1;omega)
    have aQ:Hid (PG w (d+1) D b g d (j+1) X Y out M J gv 0 O.drew):=Lh (L.out.below (Below.refl _ O).drew);have aC:Hid (∀k q,PG w (d+1) D b g d (j+1) X Y out M J gv k q->dH q d Y):=Lh (λk q h=>PG.row h);clear L;dsimp only;go_upto_region 15 with fail;refine wp_region_skip_frame (λi=>([]:List Nat).contains i) (by kernel_rfl) [none,none,none,some 0,some 1,none,none,none,some 2,none] [3,4,8] (V4 ((Value.slice (some ⟨g,0,none⟩) m (j+1))::(Value.int .i64 (p:Int))::VY::undef::(Value.slice (some ⟨g,0,none⟩) (m+1) (j+1))::VY::J::(Value.slice (some ⟨g,0,none⟩) (m+1) (j+1))::undef::J::([]:List Value)) 3 (λk q v=>k=1->∃gb,v=.slice (some ⟨gb,0,none⟩) 1 1/\dH q gb Y/\d<gb) 99 (λ_ _ _=>True) 98 (λ_ _ _=>True) 97 (λ_ _ _=>True)) (PG w (d+1) D b g d (j+1) X Y out M J gv) (λw q=>Bw w q) (wP _ (λk w q v h ha hk=>by obtain⟨gb,h1,h2,h3⟩:=ha hk;exact⟨gb,h1,h2.below h,h3⟩) (λ_ _ _ _ _ h=>h) (λ_ _ _ _ _ h=>h) (λ_ _ _ _ _ h=>h)) (by kernel_rfl) (by kernel_rfl) (by kernel_rfl) aQ.out (λ_=>⟨rfl,rfl,rfl,rfl,rfl,rfl,rfl,rfl,rfl,rfl,trivial⟩) (λ_ h=>by simp at h) ?_ ?_
    ·refine ⟨?_,?_,?_,?_,?_,?_,?_,?_,?_,?_,trivial⟩<;>(first|(intro _ _ a q hG XR XU K hK;guard_hyp q:World)|intro _ a q hG XR XU K hK)<;>replace XR:=Lh XR<;>replace XU:=Lh XU
     have q7:=FoA XR 7 (.slice (some ⟨g,0,none⟩) m (j+1));rotate_left;have aV:=FiA XR 12 p;rotate_left
     ·have q8:=FaA XR 8 d 0;obtain⟨Q,R,d2⟩:=(aC.out _ _ hG).d3;go_step;exact hK _ _ iG.out.symm hG Br
     ·obtain ⟨p0,_⟩:=XU.out;have aD:=(show a.eval (.tmp 61)=VY from p0);clear p0;rw[iG.out]at aD;refine Ky (.tmp 61) rfl Y aD ?_;have E:Bw q (q.alloc (.cells Y.cells 34)):=(Below.refl _ q).alloc (bfx _) _;have F:lg w (d+1) D b g d (j+1) X Y out J gv q:=hG;exact hK _ _ (λ_=>⟨q.heap.size,rfl,bg5 q _,F.1.2.2.2.2.2⟩) (F.below E) (jE (.inl rfl) (.inr λ_ h=>h) (.inr λ_ h=>h) (.inr λ_ h=>h))
     ·obtain ⟨p0,p1,p2,_⟩:=XU.out;have aW:=Ep a 59 (.slice (some ⟨g,0,none⟩) m (j+1)) p0;have aX:=Pi a 60 p p1;obtain⟨gb,hv,hr,ai⟩:=(show(1=1)->(∃gb,a.eval (.tmp 62)=.slice (some ⟨gb,0,none⟩) 1 1/\dH q gb Y/\d<gb)from p2) rfl;have aY:=ev_of hv;have F:lg w (d+1) D b g d (j+1) X Y out J gv q:=hG;have aR:Hid (Calls prog 252 #[.slice (some ⟨g,0,none⟩) m (j+1),.int .i64 (p:Int),.slice (some ⟨gb,0,none⟩) 1 1] q (λe w3=>e=.returned (.slice (some ⟨g,0,none⟩) (m+1) (j+1))/\dQ w3 (b+1) (.slice (some ⟨g,0,none⟩) (m+1) (j+1)) M/\q.grownBy w3 (some g))):=by
       have h:=L6 q (b+1) g (j+1) p gb out Y F.2.2.2.2.2.1 hr (by have:=F.1;omega) HM.out.2.2.2.1 (by have:=HM.out.2.2.2.2;have:=O4.out;omega) (by have:=O4.out;omega)
       rw[<-HM.out.2.2.2.2,<-HM.out.2.1]at h;exact Lh h
      have aS:=Lh F;clear p0 p1 p2 hv hr ai hG F;go_step;refine aR.out.mono ?_;rintro e w3 ⟨rfl,I,r⟩;exact hK _ _ rfl (aS.out.V3 (by rw[HM.out.2.2.1];exact I) r) (jE (.inr λu _ hk=>absurd hk (by decide)) (.inr λ_ h=>h) (.inr λ_ h=>h) (.inr λ_ h=>h))
     ·have q8:=FaA XR 8 d 0;obtain⟨Q,R,d2⟩:=(aC.out _ _ hG).d3;go_step;exact hK _ _ iG.out.symm hG Br
     have q9:=FoA XR 9 J;rotate_left;have aZ:=Ep a 63 (.slice (some ⟨g,0,none⟩) (m+1) (j+1)) XU.out.1;rotate_left
     ·obtain ⟨p0,_⟩:=XU.out;have aE:=(show a.eval (.tmp 64)=VY from p0);have q5:=((XR.out 5 rfl).trans (show _=Value.pointer (some ⟨b,0,none⟩)from rfl));have F:lg w (d+1) D b g d (j+1) X Y M J gv q:=hG;rw[iG.out]at aE;clear p0 hG;refine Ff (.tmp 5) (.tmp 64) rfl b Y bF q5 aE F.2.2.2.1 ?_;obtain⟨⟨a1,a2,a3,a4,a5,a6⟩,h1,h2,h3,h4,h5,h6⟩:=F;have N:=bD q b Y.cells;have af:Below w.heap.size q (q.setRow b Y.cells):=⟨N.os,N.tape,N.output,N.size,λk hk=>N.block k (by have:=h1.size;omega) (by simp;omega)⟩
      exact hK _ _ rfl ⟨h4.grown N (by simp;omega),h3.reset Y,h5.kept N (.inr (by simp[Value.ownBlock];omega)),h6.kept N (.inr (λe=>by have:=Own.lt h6 e;omega)),h1.trans af⟩ (jE (.inr λu _ hk=>absurd hk (by decide)) (.inr λ_ h=>h) (.inr λ_ h=>h) (.inr λ_ h=>h))
     have a0:=Ep a 65 J XU.out.1;rotate_left
     all_goals(go_step;exact hK _ _ rfl hG Br)
    intro vs aa hG aF hV
    match vs,aF,hV with
    | [v0,v1,v2,v3,v4,v5,v6,v7,v8,v9_],_,hV=>
     obtain rfl:v7=.slice (some ⟨g,0,none⟩) (m+1) (j+1):=hV 7 4 v7 rfl rfl;obtain rfl:v9_=J:=hV 9 6 v9_ rfl rfl;have F:dH aa d Y/\dH aa b Y/\dQ aa (b+1) (.slice (some ⟨g,0,none⟩) M.length (j+1)) M/\zL aa (d+1) v9_ gv/\Bw w aa:=hG;have HZ:Hid (dH aa b Y/\P (.returned (.tuple #[.slice (some ⟨g,0,none⟩) (m+1) (j+1),.agg Y.cells,v9_])) aa):=by
      have h:=aP.out aa (.slice (some ⟨g,0,none⟩) (m+1) (j+1)) (b+1) (by rw[<-HM.out.1,<-HM.out.2.2.1];exact F.2.2.1) F.2.2.2.1 F.2.2.2.2 aB.out.1 aB.out.2
      rw[iG.out]at h;exact Lh ⟨F.2.1,h⟩
     clear hV hG F;simp only[putsL,bf7,bf1];simp only[Act.put,bfw,bfu,bfv];go_wp2_with fail;exact bodyPost_ret (v:=.tuple #[.slice (some ⟨g,0,none⟩) (m+1) (j+1),.agg Y.cells,v9_]) ((jR (s:=4) (p:=5) (u:=6) (ty:=34) rfl _ _ b 34 Y.cells (0,0) _ rfl HZ.out.1 underlying34 rfl bz).trans rfl) rfl HZ.out.2
end Go.Proofs.YtgfmbkoieacgoaaGreatDoor
