/- 15. -/
import Derived.Test.YtgfmbkoieacgoaaGreatDoorW11
import Derived.Test.YtgfmbkoieacgoaaGreatDoorW12
import Derived.Test.YtgfmbkoieacgoaaGreatDoorW13
import Derived.Test.YtgfmbkoieacgoaaGreatDoorW14
set_option maxRecDepth 100000
set_option maxHeartbeats 2000000
namespace Go.Proofs.YtgfmbkoieacgoaaGreatDoor
open Go Go.RowKit Go.Proofs.Tryz
theorem Bv {w:World} {v:Value} {l:List Int}(h:bC w v l):∃a c,v=.slice a l.length c/\l.length<=c/\((a=none/\l=[])∨∃b o,a=some ⟨b,o,none⟩/\∀j u,(jG l)[j]? =some u->w.cell? ⟨b,o+j,none⟩=some u):=by
 obtain⟨a,c,e,k,h⟩:=h;refine⟨a,c,e,k,?_⟩;rcases h with h | ⟨b,o,h,_,m⟩
 ·exact .inl h
 refine .inr ⟨b,o,h,λj u d=>?_⟩;rw[jG,bgf]at d
 cases hx:l[j]? with
 | none=>rw[hx]at d;cases d
 | some x=>
  rw[hx]at d;cases d
  exact m j x hx
theorem DD(l:List Int):∀u∈jG l,u.oneCell'=true:=by
 intro u a;obtain⟨x,_,rfl⟩:=List.mem_map.1 a;rfl
theorem vT(w:World)(v:Value)(l:List Int)(h:bC w v l)(D:l.length<=1000000):
  Calls prog 42 #[v] w (λe w'=>∃j,e=.returned j/\bC w' j l/\Bw w w'/\∀a n c,j=.slice (some a) n c->w.heap.size<=a.block):=by
 obtain⟨a,c,rfl,E,d⟩:=Bv h;clear h;rcases d with⟨rfl,rfl⟩ | ⟨b,o,rfl,h⟩
 ·refine(AnyE.slices_Clone_nil Tryz.SS _ c w).mono ?_;rintro e w' ⟨rfl,F⟩;subst w';exact⟨_,rfl,bC.nil w,Below.refl _ _,λ_ _ _ h=>by cases h⟩
 obtain⟨i,r,k,m,p⟩:=info_parts (P:=prog) (e:=3) (z:=.int .i64 0) (size:=1) (bytes:=8) (by kernel_rfl)
 refine(AnyE.slices_Clone Tryz.SS i _ 1 8 r k m p rfl (by decide) sizeOf3 b o l.length c (jG l) w (by rw[fC];omega) (by unfold maxLen;omega) (by omega) h (DD l)).mono ?_
 rintro e w' ⟨j,rfl,q,_,s⟩;refine⟨j,rfl,?_,s,λa n c e=>?_⟩
 rotate_left
 ·rcases q.2 with⟨d,_⟩ | ⟨g,u,x,d,y,_⟩
  ·rw[d]at e;cases e
  rw[d]at e;cases e
  exact y
 have d:gV w' w.heap.size j l:=by
  unfold gV Own;rw[fC];exact q
 exact d.ints
theorem Jg(w:World)(x y:Int):Calls prog 282 #[.int .i64 x,.int .i64 y] w (λe w'=>e=.returned (.int .i64 (mD y x))/\w'=w):=by
 have a:=Lh (rH w y x);obtain⟨r,b⟩:=Nm (mD y x);rw[<-b]at a ⊢;clear b;go_enter func282,ntmps282;go_wp2_with fail;refine a.out.mono ?_;rintro e w' ⟨rfl,c⟩;subst w';dsimp only;go_wp2_with fail;go_ret;exact⟨rfl,rfl⟩
theorem sV(x y:Int):ltOf (λx y=>mD y x) x y=decide (y<x):=by
 unfold ltOf;refine decide_eq_decide.2 ?_;show mD y x<0↔y<x;rcases nM y x with⟨h,e⟩ | ⟨h,e⟩ | ⟨h,e⟩ <;> omega
theorem Va:Sort.SWO (ltOf (λx y:Int=>mD y x)) where
 irrefl x:=by rw[sV];exact bfq (by omega)
 trans x y z h1 h2:=by
  rw[sV]at*;have:=bgh h1;have:=bgh h2;exact bfr (by omega)
 ntrans x y z h1 h2:=by
  rw[sV]at*;have:=of_decide_eq_false h1;have:=of_decide_eq_false h2;exact bfq (by omega)
theorem Qs(l:List Int)(a:Array Value)(h:l.length<=a.size):(Sort.putCells (Value.int .i64) 0 l.toArray a).toList.take l.length=jG l:=by
 apply List.ext_getElem?;intro k;rw[List.getElem?_take];by_cases b:k<l.length
 ·rw[if_pos b,Array.getElem?_toList];have c:k<(Sort.putCells (Value.int .i64) 0 l.toArray a).size:=by
   simp[Sort.putCells];omega
  rw[bgm c,jG,bgf,bfs b];simp[Sort.putCells,b]
 rw[if_neg b,bgk (by rw[fC];omega)]
def GZ(w:World)(base:Nat)(v:Value)(l:List Int)(e:Ending)(w':World):Prop:=
 e=.returned (.tuple #[])/\∃l',l'.Perm l/\Falling l'/\gV w' base v l'/\w.grownBy w' v.ownBlock
theorem Rl(w:World)(r:Nat)(v:Value)(l:List Int)(M:gV w r v l)(hn:l.length<=1000000):
  Calls prog 281 #[v,.func (.func 282) #[] #[]] w (GZ w r v l):=by
 have EP:=M;have d:=M;unfold gV Own at d;rw[fC]at d;by_cases h0:l.length=0
 ·obtain rfl:l=[]:=bg3 h0;obtain⟨a,c,rfl,_,_⟩:=M.ints;refine(AnyF.slices_SortFunc_none { Tryz.V5 with } a c (.func (.func 282) #[] #[]) w).mono ?_
  rintro e N ⟨rfl,Y⟩;subst N;exact⟨rfl,[],List.Perm.nil,List.Pairwise.nil,EP,⟨rfl,rfl,rfl,bfx _,λ_ _ _=>rfl⟩⟩
 obtain⟨g,c,rfl,hb,K⟩:=World.ownsRow.form d (by omega)
 obtain⟨b,Z,q,ab,D,s⟩:∃b:Array Value,w.heap[g]? =some (.cells b 3 (0,0))/\b.size=c*1/\b.toList.take (l.length*1)=jG l/\l.length<=c/\c<=maxLen:=by
  rcases d.2 with⟨L,_⟩ | ⟨g',aa,b,L,_,K,D,s,q,u⟩
  ·simp at L
  simp only[Value.slice.injEq,bf5,Addr.mk.injEq,and_true]at L;obtain⟨rfl,_,rfl⟩:=L;exact⟨b,K,q,u,D,s⟩
 have hH:Sort.Holds (Value.int .i64) w g 0 l.toArray:=by
  intro j z;have O:j<l.length:=by simpa using z
  refine⟨?_,frozen_of_row w g (0+j) b _ Z⟩;rw[bgu,World.ownsRow.cellAt d j (by omega),jG,bgf,bfs O,getElem!_pos l.toArray j z]
  simp
 have E:CmpLays1 prog 282 #[] (Value.int .i64) (λx y:Int=>mD y x) g 0 l.toArray.size w:=by
  intro m os dk _ x y;refine(Jg _ x y).mono ?_;rintro e N ⟨rfl,Y⟩;exact⟨rfl,0,#[],by rw[Y];simp[Sort.grow,World.drewN]⟩
 have eg:∀args w,(callFunc 282 args).run prog w=.ok (.enter 282 args) w:=enters_of func282 (by kernel_rfl) rfl
 have F:=Any.slices_SortFunc Tryz.V5 (Value.int .i64) (λ_=>rfl) (λx y:Int=>mD y x) Va 282 #[] g 0 c l.toArray w eg E hH K (by simp;omega)
 refine F.mono ?_;rintro e N ⟨rfl,o,n,os,hp,hs,rfl⟩;obtain⟨p1,_,p3⟩:=hp;have Q:o.size=l.length:=by rw[p1];rfl
 have p:o.toList.Perm l:=by
  have e1:o.extract 0 l.toArray.size=o:=by rw[<-p1];simp
  have e2:l.toArray.extract 0 l.toArray.size=l.toArray:=by simp
  rw[e1,e2]at p3;exact p3
 have I:(sortWorld (Value.int .i64) w g 0 n o os).heap[g]? =some (.cells (Sort.putCells (Value.int .i64) 0 o b) 3 (0,0)):=by
  unfold sortWorld Sort.grow Sort.putRow Sort.mapBlock Sort.ahead;simp only;rw[Array.getElem?_append,if_pos (by simpa using K),Array.getElem?_modify,if_pos rfl,Z]
  rfl
 refine⟨rfl,o.toList,p,?_,?_,⟨rfl,rfl,rfl,?_,λk hk R=>?_⟩⟩
 ·unfold Falling;rw[bgr];intro i j hi z S;rw[bgq]at hi z;have h:=hs i j (bgi _) S (by rw[Q]at z;simpa using z)
  rw[sV,decide_eq_false_iff_not,getElem!_pos o i hi,getElem!_pos o j z]at h;simp only[Array.getElem_toList];omega
 ·have J:o.toList.length=l.length:=p.length_eq;unfold gV Own;rw[fC];refine⟨by rw[fC];omega,.inr ⟨g,c,_,by rw[J],hb,I,by omega,s,by simp[Sort.putCells,q],?_⟩⟩
  have:=Qs o.toList b (by rw[J,q];omega)
  rw[Nat.mul_one];simpa using this
 ·unfold sortWorld Sort.grow Sort.putRow Sort.mapBlock Sort.ahead;simp
 have U:g≠k:=λe=>R (by rw[<-e];rfl)
 unfold sortWorld Sort.grow Sort.putRow Sort.mapBlock Sort.ahead;simp only;rw[Array.getElem?_append,if_pos (by simpa using hk),Array.getElem?_modify,if_neg U]
theorem G9(w:World)(k:Nat)(v:Value)(n l:List Int)(m:gV w k v n)(u:Value)(h:bC w u l)(Q:n.length+l.length<=1000000)(y:k<=w.heap.size)(ty:TypeId):
  ∃p w',(Builtin.append_ #[35,35] ty #[v,u]).run prog w=.ok p w'/\gV w' k p (n++l)/\w.grownBy w' v.ownBlock/\(p.ownBlock=v.ownBlock∨p.ownBlock=some w.heap.size):=by
 obtain⟨i,q,D,E,r⟩:=info_parts (P:=prog) (e:=3) (z:=.int .i64 0) (size:=1) (bytes:=8) (by kernel_rfl)
 have d:=m;unfold gV Own at d;rw[fC]at d;obtain⟨a,c,rfl,R,F⟩:=Bv h;clear h;rcases F with⟨rfl,rfl⟩ | ⟨b,o,rfl,h⟩
 ·refine⟨v,w,?_,by simpa using m,⟨rfl,rfl,rfl,bfx _,λ_ _ _=>rfl⟩,.inl rfl⟩
  rcases d.2 with⟨s,S⟩ | ⟨g,I,J,s,_,U,x,_⟩
  ·rw[s];simp[Builtin.append_,run_underlying underlying35,sizeOf,typeInfo,q,Builtin.lenOf,Builtin.firstCells]
  rw[s];simp[Builtin.append_,run_underlying underlying35,sizeOf,typeInfo,q,Builtin.lenOf,Builtin.firstCells,storeCells,loadCells,x]
 obtain⟨p,w',K,L,M,_,N⟩:=run_append_own_at (P:=prog) w k 35 ty 3 i _ 1 8 underlying35 q D E r rfl (by decide) v n.length (jG n) d ⟨b,o,none⟩ l.length c (jG l) (by rw[fC];omega) (λj u O=>by rw[addr_add];exact h j u O) (DD l)
  (by unfold maxLen;omega) (by omega) y
 refine⟨p,w',K,?_,M,N⟩;unfold gV Own;rw[fC,bft,show jG (n++l)=jG n++jG l by simp[jG]]
 exact L
theorem Cm {d:Array Oper} {c:List Oper} {o:Oper} {a:Act} {Q:Exit->Act->World->Prop} {w:World}(m:o.guard=none)(s x:Operand)
  (n:o.op=.call { callee:=.builtin .append,args:=#[s,x],argTypes:=#[35,35] }) (b:Nat) (v:Value) (j k:List Int) (p:a.eval s=v) (e:gV w b v j)
  (u:Value) (q:a.eval x=u) (r:bC w u k) (y:j.length+k.length<=1000000) (z:b<=w.heap.size)
  (h:∀l w',gV w' b l (j++k)->w.grownBy w' v.ownBlock->wpList prog d Q c (a.put o.dst l) w'):wpList prog d Q (o::c) a w:=by
 refine wpList_plain m λK D=>?_;obtain⟨l,w',E,F,I,J⟩:=G9 w b v j k e u r y z o.type;unfold Oper.wp execOp;simp only[n,resolve,invoke,builtin,Sem.run_bind,Sem.run_pure,Result.andThen_ok,bgb,bgc,bge,p,q,E];exact D _ _ (h l w' F I)
theorem gV.nil(w:World)(a:Nat):gV w a (.slice none 0 0) []:=Own.nil _ _ _
theorem gV.lt {w:World} {a:Nat} {v:Value} {l:List Int}(h:gV w a v l) {k:Nat}(b:v.ownBlock=some k):a<=k/\k<w.heap.size:=Own.lt h b
theorem gV.below {w w':World} {a:Nat} {v:Value} {l:List Int}(h:gV w a v l)(b:w.grownBy w' v.ownBlock)(d:a<=w.heap.size):Below a w w':=
 ⟨b.os,b.tape,b.output,b.size,λk e=>b.block k (by omega) (λc=>by have:=h.lt c.symm;omega)⟩
theorem Qw(w:World)(n:Nat)(o:n<=1000000):Calls prog 286 #[.slice none 0 0,.int .i64 (n:Int)] w (λe w'=>∃v,e=.returned v/\gV w' w.heap.size v []/\Bw w w'):=by
 by_cases j:n=0
 ·subst j;refine(Any8.slices_Grow_room Tryz.growI none 0 0 0 w (bfx _) (by decide) (by decide) (by decide)).mono ?_
  rintro e w' ⟨rfl,p⟩;subst w';exact⟨_,rfl,gV.nil w _,Br⟩
 obtain⟨i,k,l,q,b⟩:=info_parts (P:=prog) (e:=3) (z:=.int .i64 0) (size:=1) (bytes:=8) (by kernel_rfl)
 refine(Any8.slices_Grow_grow Tryz.growI i _ k l (by omega) none 0 0 n [] w (bfx _) (by omega) (by rw[b];omega) (by omega) (by simp) (λ_=>rfl) (λa h=>by cases h)).mono ?_
 rintro e w' ⟨rfl,rfl⟩;have c:=grownCap_ge w (0+n) 0 (Tryz.yB.t 25);have d:=grownCap_le_maxLen w (0+n) 0 (Tryz.yB.t 25) (by unfold maxLen;omega)
 have m:Bw w (w.drew.alloc (.cells (([]:List Value).toArray++Builtin.zeroCells (Value.int .i64 0).cells (0+n-0)++Builtin.zeroCells (Value.int .i64 0).cells (grownCap w (0+n) 0 3-(0+n))) 3)):=
  ((Below.refl _ w).drew).alloc (bfx _) _
 refine⟨_,rfl,?_,m⟩;refine⟨rfl,.inr ⟨w.heap.size,_,_,rfl,bfx _,bg5 w.drew _,bgi _,d,?_,by simp[jG]⟩⟩
 simp only[bgu]at c;simp[Builtin.zeroCells,Value.cells];omega
def FB(w:World)(b:Nat)(t1 t2:Value):Prop:=w.heap[b]? =some (.cells #[t1,t2] 35 (0,0))
theorem FB.lt {w:World} {b:Nat} {a c:Value}(h:FB w b a c):b<w.heap.size:=(Array.getElem?_eq_some_iff.1 h).1
theorem FB.below {w w':World} {b:Nat} {a c:Value}(h:FB w b a c)(d:Bw w w'):FB w' b a c:=(d.block b h.lt).trans h
def zf {α:Type}(x y:α)(j:Nat):α:=if j=0 then x else y
theorem FB.cell {w:World} {b:Nat} {a c:Value}(h:FB w b a c) {j:Nat}(d:j<2):w.cell? ⟨b,j,none⟩=some (zf a c j):=by
 rw[cell_of_row _ _ _ _ _ _ h];obtain rfl | rfl:j=0∨j=1:=by omega
 ·rfl
 rfl
def yR(l1 l2:List Int)(j:Nat):List Int:=if j=0 then []else if j=1 then l1 else l1++l2
theorem qx(a b:List Int) {j:Nat}(c:j<2):yR a b (j+1)=yR a b j++zf a b j:=by
 obtain rfl | rfl:j=0∨j=1:=by omega
 ·rfl
 rfl
def NI(w:World)(l1 l2:List Int)(s i:Value)(wr:World):Prop:=∃j:Nat,j<=2/\i=.int .i64 (j:Int)/\s=.int .i64 ((yR l1 l2 j).length:Int)/\wr=w
def NJ(w:World)(l1 l2:List Int)(v i:Value)(wr:World):Prop:=∃j:Nat,j<=2/\i=.int .i64 (j:Int)/\gV wr w.heap.size v (yR l1 l2 j)/\Bw w wr
theorem zX(a b:List Int)(j:Nat):(yR a b j).length<=a.length+b.length:=by
 unfold yR
 split
 ·simp
 split <;> simp
theorem Ls(w:World)(x:Nat)(m n:Value)(b c:List Int)(y:FB w x m n)(o:bC w m b)(p:bC w n c)(J:b.length+c.length<=1000):
  Calls prog 280 #[.slice (some ⟨x,0,none⟩) 2 2] w (λe w'=>∃v,e=.returned v/\gV w' w.heap.size v (b++c)/\Bw w w'):=by
 obtain⟨P,z⟩:∃P:Ending->World->Prop,P=λe w'=>∃v,e=.returned v/\gV w' w.heap.size v (b++c)/\Bw w w':=⟨_,rfl⟩;rw[<-z];have HP:Hid (∀w' v,gV w' w.heap.size v (b++c)->Bw w w'->P (.returned v) w'):=Lh (λw' v o p=>by rw[z];exact⟨v,rfl,o,p⟩)
 have HR:=Lh (bfy y (bfy o p));have L:Hid (∀w' j,j<2->Bw w w'->bC w' (zf m n j) (zf b c j)/\w'.cell? ⟨x,j,none⟩=some (zf m n j)):=by
  refine Lh (λw' j h k=>⟨?_,(y.below k).cell h⟩);obtain rfl | rfl:j=0∨j=1:=by omega
  ·exact o.below k
  exact p.below k
 have D:=Lh J;clear z y o p J;go_enter func280,ntmps280;go_wp2_with fail;go_loopw[3,11] (NI w b c) (λ_ i _=>2-(intOf i).toNat)
 case atStart=>exact⟨0,bgi _,rfl,rfl,rfl⟩
 case round=>
  obtain⟨j,h,rfl,M,hw⟩:=hrel;obtain rfl:w=wr:=hw.symm;obtain⟨S,r⟩:=Nm ((yR b c j).length);rw[<-r]at M;subst M;have aa:S<=1000:=by rw[r];exact bgn (zX b c j) D.out
  have N:=Lh r;clear r;by_cases a:j<2
  ·have E:(0:Int)<=(j:Int)/\(j:Int)<2:=by omega
   obtain⟨q,s⟩:=L.out w j a Br;obtain⟨ta,tc,e,_,_⟩:=q;obtain⟨K,u⟩:=Nm ((zf b c j).length);have ab:S+K<=1000:=by
    have:=zX b c (j+1);rw[qx b c a,bft,<-u,<-N.out]at this;exact bgn this D.out
   rw[e,<-u]at s;have F:Hid (NI w b c (.int .i64 ((S:Int)+(K:Int))) (.int .i64 ((j:Int)+1)) w):=by
    refine Lh ⟨j+1,by omega,by go_num,?_,rfl⟩
    rw[qx b c a,bft,<-u,<-N.out]
    congr 1
   have l:=Lh a;have O:decide ((S:Int)+(K:Int)<0)=false:=bfq (by omega)
   clear e u a h;go_wp2_with fail;go_roundw
   case rel=>exact F.out
   case measure=>have:=l.out;simp[intOf];omega
  obtain rfl:j=2:=by omega
  have HG:Hid (Calls prog 286 #[.slice none 0 0,.int .i64 (S:Int)] w (λe w'=>∃v,e=.returned v/\gV w' w.heap.size v []/\Bw w w')):=Lh (Qw w S (by omega))
  clear a h;rw[show((2:Nat):Int)=2 from rfl];go_wp2_with fail;refine HG.out.mono ?_;rintro e w2 ⟨v,rfl,Q,R⟩;have U:=Lh (bfy Q R);clear Q R;dsimp only;go_wp2_with fail;go_loopw[6,27] (NJ w b c) (λ_ i _=>2-(intOf i).toNat)
  case atStart=>exact⟨0,bgi _,rfl,U.out.1,U.out.2⟩
  case round=>
   obtain⟨j,h,rfl,Y,k⟩:=hrel;have d:=Lh (bfy Y k);clear Y k;obtain⟨Z,I⟩:=Nm u6;subst I;by_cases a:j<2
   ·have E:(0:Int)<=(j:Int)/\(j:Int)<2:=by omega
    obtain⟨q,s⟩:=L.out wr j a d.out.2;obtain⟨tv,YC⟩:=Nm (zf m n j);rw[<-YC]at s q;have HI:=Lh q;have l:=Lh a;clear q YC a h;go_upto_region 13 with fail;refine bg4 ?_
    iterate 6 go_step
    refine Cm rfl (.tmp 31) (.tmp 32) rfl w.heap.size Z (yR b c j) (zf b c j) rfl d.out.1 tv rfl HI.out (by have:=zX b c (j+1);rw[qx b c l.out,bft]at this;have:=D.out;omega) d.out.2.size ?_
    intro v' w9 g1 g2;have H9:Hid (NJ w b c v' (.int .i64 ((j:Int)+1)) w9):=by
     refine Lh ⟨j+1,l.out,by go_num,by rw[qx b c l.out];exact g1,d.out.2.trans (gV.below d.out.1 g2 d.out.2.size)⟩
    clear g1 g2 s;go_wp2_with fail;go_roundw
    case rel=>exact H9.out
    case measure=>have:=l.out;simp[intOf];omega
   obtain rfl:j=2:=by omega
   have F:=Lh (HP.out wr Z d.out.1 d.out.2);clear a h;rw[show((2:Nat):Int)=2 from rfl];go_wp2_with fail;exact F.out
theorem zD {l:Array Oper} {b:List Oper} {o:Oper} {a:Act} {w:World} {Q:Exit->Act->World->Prop}(p:o.guard=none)(y z:Operand)(q:o.op=.buildSlice 293 2 #[(0,y),(1,z)])(j k:Value)(r:∃a n c,j=.slice a n c)(s:∃a n c,k=.slice a n c)(u:a.eval y=j)(x:a.eval z=k)
  (h:wpList prog l Q b (a.put o.dst (.slice (some ⟨w.heap.size,0,none⟩) 2 2)) (w.alloc (.cells #[j,k] 35))):wpList prog l Q (o::b) a w:=by
 have D:Instr.fill (λi=>some (i*1,1)) ((Array.range (2*1)).map ((Value.slice none 0 0).cells[· % (Value.slice none 0 0).cells.size]!)) [(0,j),(1,k)]=some #[j,k]:=by
  obtain⟨_,_,_,rfl⟩:=r;obtain⟨_,_,_,rfl⟩:=s
  kernel_rfl
 obtain⟨i,E,m,d,F⟩:=info_parts (P:=prog) (e:=35) (z:=.slice none 0 0) (size:=1) (bytes:=24) (by kernel_rfl)
 refine wpList_buildSlice p 293 35 2 _ q #[j,k] i _ underlying293 E m (by rw[d];decide) (by rw[d];decide) ?_ h
 rw[d];simp only[bgb,bgc,bge,u,x];exact D
theorem Gu(w:World)(a:Option Addr)(n c i:Nat)(h:i<=c):
  (Instr.slice 35 (.slice a n c) none (some (.int .i64 (i:Int))) none).run prog w=.ok (.slice a i c) w:=by
 have b:∀w,(sizeOf 3).run prog w=.ok 1 w:=sizeOf3;have d:∀p:Addr,p.add 0=p:=λ_=>rfl;cases a <;> simp[Instr.slice,run_underlying underlying35,Instr.sliceBounds,run_sliceBound,b,h,d]
theorem Tu {l a:List Int}(b:a.Perm l)(c:Falling a)(k:Nat):topL k l=a.take k:=by
 rw[topL]
 congr 1
 exact Jm (xe l) c λx=>by rw[Je,SN b]
theorem bC.take {w:World} {a:Option Addr} {n c:Nat} {l:List Int}(h:bC w (.slice a n c) l)(m:Nat)(p:m<=l.length):bC w (.slice a m c) (l.take m):=by
 obtain⟨r,s,e,u,h⟩:=h;injection e with e1 e2 e3
 subst e1 e3;have k:(l.take m).length=m:=by rw[bga,Nat.min_eq_left p]
 refine⟨a,c,by rw[k],by rw[k];omega,?_⟩
 rcases h with⟨j,h⟩ | ⟨b,o,j,q,h⟩
 ·exact .inl ⟨j,by rw[h];simp⟩
 refine .inr ⟨b,o,j,q.imp (λe=>by rw[e];simp) id,λi x d=>h i x ?_⟩
 rw[List.getElem?_take]at d
 split at d
 ·exact d
 cases d
theorem SC(w:World)(q:bu)(Y Z:Int)(l z1:Value)(o:List Int)(n2 a2:Int)(x z2:Value)(p:List Int)(h1:bC w l o)(h2:bC w x p)(hn:o.length+p.length<=1000)(hk:0<=q.k/\q.k<=1000):
  Calls prog 269 #[.agg q.cells,.agg (bJ Y Z l z1),.agg (bJ n2 a2 x z2)] w (λe w'=>∃v,e=.returned v/\bC w' v (topL q.k.toNat (o++p))/\(∀a n c,v=.slice (some a) n c->w.heap.size<=a.block)/\Bw w w'):=by
 obtain⟨P,hP⟩:∃P:Ending->World->Prop,P=λe w'=>∃v,e=.returned v/\bC w' v (topL q.k.toNat (o++p))/\(∀a n c,v=.slice (some a) n c->w.heap.size<=a.block)/\Bw w w':=⟨_,rfl⟩;rw[<-hP];obtain⟨K,hK⟩:=Nm (q.k.toNat);have aa:q.k=(K:Int):=by omega
 have HP:Hid (∀w' v,bC w' v (topL K (o++p))->(∀a n c,v=.slice (some a) n c->w.heap.size<=a.block)->Bw w w'->P (.returned v) w'):=Lh (λw' v k1 k3 k2=>by rw[hP,<-hK];exact⟨v,rfl,k1,k3,k2⟩)
 obtain⟨y,d⟩:=Nm (((w.alloc (.cells q.cells 23)).alloc (.cells (bJ Y Z l z1) 120)).alloc (.cells (bJ n2 a2 x z2) 120));obtain⟨qb,XW⟩:=Nm (w.heap.size);obtain⟨b1,L⟩:=Nm (w.heap.size+1);obtain⟨b2,M⟩:=Nm (w.heap.size+2);have U:Hid (dB y qb q/\dA y b1 Y Z l z1/\dA y b2 n2 a2 x z2/\Bw w y):=by
  have h:=zG w q Y Z l z1 n2 a2 x z2;rw[d,XW,L,M];exact Lh ⟨h.1,h.2.1,h.2.2.1,h.2.2.2.1⟩
 have O:(w.alloc (.cells q.cells 23)).heap.size=w.heap.size+1:=bg w _;have z:((w.alloc (.cells q.cells 23)).alloc (.cells (bJ Y Z l z1) 120)).heap.size=w.heap.size+2:=by rw[bg,bg]
 have H0:=Lh (bfy h1 (bfy h2 hn));have ab:∃a n c,l=.slice a n c:=by obtain⟨_,_,rfl,_⟩:=h1;exact⟨_,_,_,rfl⟩
 have ac:∃a n c,x=.slice a n c:=by obtain⟨_,_,rfl,_⟩:=h2;exact⟨_,_,_,rfl⟩
 have HK:Hid (K<=1000):=Lh (by omega)
 have Hc:=Lh (bfy ab ac);obtain⟨r,size,b,s,agg,k⟩:=q;simp only at aa;subst aa;unfold bu.cells at d O z ⊢;unfold bJ at d z ⊢;simp only at d O z;obtain⟨f0,f1,f2,f3⟩:=U.out.2.1.d4;obtain⟨g0,g1,g2,g3⟩:=U.out.2.2.1.d4;clear hP hk hK h1 h2 hn ab ac;go_enter func269,ntmps269;go_upto_region 1 with fail;rw[<-d,<-M,<-L,<-XW];clear d XW L M O z;refine bg4 ?_
 iterate 12 go_step
 refine zD rfl (.tmp 9) (.tmp 11) rfl l x Hc.out.1 Hc.out.2 rfl rfl ?_;obtain⟨j,D⟩:=Nm (y.alloc (.cells #[l,x] 35));obtain⟨tb,Q⟩:=Nm (y.heap.size);have E:Hid (dB j qb ⟨r,size,b,s,agg,K⟩/\FB j tb l x/\Bw w j):=by
  have u:Bw y j:=by rw[D];exact(Below.refl _ y).alloc (bfx _) _
  exact Lh ⟨U.out.1.below u,by rw[D,Q];exact bg5 y _,U.out.2.2.2.trans (u.mono U.out.2.2.2.size)⟩
 rw[<-D,<-Q];clear D Q f0 f1 f2 f3 g0 g1 g2 g3 U;refine wpList_plain rfl λK_ hK=>?_;go_step;refine(Ls j tb l x o p E.out.2.1 (H0.out.1.below E.out.2.2) (H0.out.2.1.below E.out.2.2) H0.out.2.2).mono ?_;rintro e F ⟨v,rfl,k1,u⟩;refine hK _ _ ?_;clear hK;obtain⟨R,I,e,_,_⟩:=k1.ints;obtain⟨N,hN⟩:=Nm ((o++p).length);rw[<-hN]at e;subst e;have J:Hid (dB F qb ⟨r,size,b,s,agg,K⟩/\gV F j.heap.size (.slice R N I) (o++p)/\Bw w F/\w.heap.size<=j.heap.size/\N=(o++p).length/\j.heap.size<=F.heap.size/\qb<j.heap.size):=Lh ⟨E.out.1.below u,k1,E.out.2.2.trans (u.mono E.out.2.2.size),E.out.2.2.size,hN,u.size,E.out.1.lt⟩;clear k1 u hN E;have HS:Hid (Calls prog 281 #[.slice R N I,.func (.func 282) #[] #[]] F (GZ F j.heap.size (.slice R N I) (o++p))):=Lh (Rl F j.heap.size _ (o++p) J.out.2.1 (by have:=H0.out.2.2;rw[bft];omega))
 go_wp2_with fail;refine HS.out.mono ?_;rintro e w4 ⟨rfl,l',p1,p2,p3,p4⟩;have u:Below j.heap.size F w4:=gV.below J.out.2.1 p4 J.out.2.2.2.2.2.1;obtain⟨m,hm⟩:=Nm (min N K);have S:l'.length=N:=by rw[p1.length_eq,J.out.2.2.2.2.1]
 have H4:Hid (dB w4 qb ⟨r,size,b,s,agg,K⟩/\P (.returned (.slice R m I)) w4):=by
  obtain⟨j1,j2,j3,j4,j5,j6,j7⟩:=J.out;refine Lh ⟨(u.block _ j7).trans j1,HP.out w4 _ ?_ (λa n c e=>by injection e with e1;have:=(j2.lt (k:=a.block) (by rw[e1];rfl)).1;omega) (j3.trans (u.mono j4))⟩
  have h:=p3.ints.take m (by rw[S];omega)
  rw[Tu p1 p2];have e:l'.take K=l'.take m:=by
   rw[hm,<-S,List.take_eq_take_min]
   congr 1
   omega
  rw[e];exact h
 have ad:N<=I:=by
  obtain⟨_,c',e,hc,_⟩:=J.out.2.1.ints;injection e with e1 e2 e3
  subst e3;rw[J.out.2.2.2.2.1];exact hc
 have ae:∀w',(Instr.slice 35 (.slice R N I) none (some (.int .i64 (m:Int))) none).run prog w'=.ok (.slice R m I) w':=λw'=>Gu w' R N I m (by omega)
 have e3:(if (K:Int)<(N:Int)then (K:Int)else (N:Int))=(m:Int):=by
  rw[hm]
  split <;> omega
 have e4:min (N:Int) (K:Int)=(m:Int):=by omega
 clear p1 p2 p3 p4 u hm S ad J HS;obtain⟨d0,d1,d2,d3,d4,d5⟩:=H4.out.1.d6;simp only at d0 d1 d2 d3 d4 d5;dsimp only;go_wp2_with fail;exact H4.out.2
end Go.Proofs.YtgfmbkoieacgoaaGreatDoor
set_option maxRecDepth 100000
set_option maxHeartbeats 2000000
namespace Go.Proofs.YtgfmbkoieacgoaaGreatDoor
open Go Go.RowKit Go.Proofs.Tryz
def GH(q:bu)(x y:fP):Int:=if q.agg=2∨q.agg=5 then x.a+y.a else if q.agg=3∨q.agg=4 then Bd q.agg x.n x.a y.n y.a else 0
def jJ(q:bu)(x y:fP):Bool:=decide (q.agg=7) && !decide (wL (x.u+y.u) (x.v+y.v))
def sF(q:bu)(x y:fP):fP:=
 ⟨x.n+y.n,GH q x y,if q.agg=6 then topL q.k.toNat (x.top++y.top)else [],if q.agg=7/\jJ q x y=false then x.u+y.u else 0,if q.agg=7/\jJ q x y=false then x.v+y.v else 0⟩
def wK(q:bu)(x y:fP):Int:=if jJ q x y=true then 20 else 0
def kT(w:World)(m:fP)(er:Int)(e:Ending)(w':World):Prop:=∃tv z,e=.returned (.tuple #[.agg (bJ m.n m.a tv z),.int .i64 er])/\bC w' tv m.top/\dN z m.u m.v/\Bw w w'/\∀a n c,tv=.slice (some a) n c->w.heap.size<=a.block
theorem gm {w:World} {n a:Int} {b z:Value} {l:List Int} {u v:Int}(c:bC w b l)(d:dN z u v):(bJ n a b z).all (·.oneCell')=true:=kJ c.one d.1.one
theorem QK(a b:Int):∃u v,dN (Vj a b) u v/\(wL a b->u=a/\v=b)/\(¬wL a b->u=0/\v=0):=by
 unfold Vj;by_cases h:wL a b
 ·rw[if_pos h];exact⟨a,b,MJ h,λ_=>⟨rfl,rfl⟩,λc=>absurd h c⟩
 rw[if_neg h];exact⟨0,0,jd,λc=>absurd c h,λ_=>⟨rfl,rfl⟩⟩
theorem wI(w:World)(n a:Int)(b z:Value):dA ((w.alloc (Obj.cells zeroC 120)).setRow w.heap.size (bJ n a b z)) w.heap.size n a b z/\Bw w ((w.alloc (Obj.cells zeroC 120)).setRow w.heap.size (bJ n a b z)):=
 ⟨setRow_heap _ _ _ _ _ _ (bg5 w _),((Below.refl _ w).alloc (bfx _) _).trans ⟨rfl,rfl,rfl,by simp[World.setRow],λk c=>setRow_other _ _ _ _ (by omega)⟩⟩
def lV(w:World)(qb b1 b2 b6 b8:Nat)(Q:bu)(n1 a1:Int)(XX z1:Value)(n2 a2:Int)(XZ z2:Value)(n a:Int)(tv z:Value)(w':World):Prop:=
 (w.heap.size<=qb/\qb<b8/\b1<b8/\b2<b8/\b6<b8/\w.heap.size<=b6/\w.heap.size<=b8)/\dB w' qb Q/\dA w' b1 n1 a1 XX z1/\dA w' b2 n2 a2 XZ z2/\dA w' b6 0 0 bM dC/\dA w' b8 n a tv z/\Bw w w'
theorem lV.below {w:World} {d e j k l:Nat} {Q:bu} {m o:Int} {p q:Value} {r s:Int} {u x:Value} {n a:Int} {y z:Value} {w' c:World}(h:lV w d e j k l Q m o p q r s u x n a y z w')(b:Bw w' c):lV w d e j k l Q m o p q r s u x n a y z c:=by
 obtain⟨D,E,F,I,J,K,L⟩:=h;exact⟨D,E.below b,F.below b,I.below b,J.below b,K.below b,Tb L b⟩
theorem lV.turn {w:World} {e k l m j:Nat} {Q:bu} {o p:Int} {q r:Value} {s u:Int} {x y:Value} {n a:Int} {K z:Value} {w' b:World} {D E:Int} {c F:Value}(h:lV w e k l m j Q o p q r s u x y n a K z w')(d:w'.grownBy b (some j))(L:dA b j D E c F):lV w e k l m j Q o p q r s u x y D E c F b:=by
 obtain⟨M,I,N,O,R,U,J⟩:=h;have S:dB b e Q:=(d.block e I.lt (by simp;omega)).trans I
 exact⟨M,S,N.grown d (by simp;omega),O.grown d (by simp;omega),R.grown d (by simp;omega),L,J.trans (bQ d (by omega) J.size)⟩
theorem bC.grown {w w':World} {v:Value} {l:List Int} {b:Nat}(h:bC w v l)(y:w.grownBy w' (some b))(z:∀a n c,v=.slice (some a) n c->l≠[]->a.block≠b):bC w' v l:=by
 obtain⟨a,c,e,E,h⟩:=h;refine⟨a,c,e,E,?_⟩;rcases h with h | ⟨j,o,q,d,D⟩
 ·exact .inl h
 refine .inr ⟨j,o,q,?_,λi x p=>?_⟩
 ·by_cases r:l=[]
  ·exact .inl r
  rcases d with d | d
  ·exact absurd d r
  have k:=d.lt;obtain⟨s,d⟩:=d;have m:j≠b:=z ⟨j,o,none⟩ l.length c (by rw[e,q]) r
  exact .inr ⟨s,(y.block j k (by simpa using m)).trans d⟩
 have k:=block_lt_of_cell (D i x p);have m:j≠b:=z ⟨j,o,none⟩ l.length c (by rw[e,q]) (λF=>by rw[F]at p;simp at p)
 have u:=y.block j k (by simpa using m)
 rw[<-D i x p];unfold World.cell?;simp only;rw[u]
theorem CQ(w:World)(q:bu)(x y:fP)(Z R XZ S:Value)(h1:bC w Z x.top)(h2:bC w XZ y.top)(k1:dN R x.u x.v)(k2:dN S y.u y.v)(hn:x.top.length+y.top.length<=1000)
  (hk:0<=q.k/\q.k<=1000) (hb:(0<=x.n/\x.n<=1073741824)/\(0<=y.n/\y.n<=1073741824)/\(-4398046511104<=x.a/\x.a<=4398046511104)/\(-4398046511104<=y.a/\y.a<=4398046511104)):
  Calls prog 253 #[.agg q.cells,.agg (bJ x.n x.a Z R),.agg (bJ y.n y.a XZ S)] w (kT w (sF q x y) (wK q x y)):=by
 obtain⟨P,hP⟩:=Nm (kT w (sF q x y) (wK q x y));rw[<-hP];obtain⟨b,j,l1,u1,v1⟩:=x;obtain⟨d,m,l2,u2,v2⟩:=y;simp only at h1 h2 k1 k2 hn hb ⊢;have H0:=Lh (bfy h1 (bfy h2 (bfy k1 (bfy k2 (bfy hn hk)))));have Yw:Hid (∀D tv z a l u v er,bC D tv l->dN z u v->Bw w D->(∀a n c,tv=.slice (some a) n c->w.heap.size<=a.block)->sF q ⟨b,j,l1,u1,v1⟩ ⟨d,m,l2,u2,v2⟩=⟨b+d,a,l,u,v⟩->wK q ⟨b,j,l1,u1,v1⟩ ⟨d,m,l2,u2,v2⟩=er->P (.returned (.tuple #[.agg #[.int .i64 (b+d),.int .i64 a,tv,z],.int .i64 er])) D):=by
  refine Lh (λD tv z a l u v er j1 j2 j3 j6 j4 j5=>?_);rw[hP,j4,j5];exact⟨tv,z,rfl,j1,j2,j3,j6⟩
 obtain⟨Q,hQ⟩:=Nm q;have Ef:Hid (∀D,Bw w D->Calls prog 269 #[.agg Q.cells,.agg #[.int .i64 b,.int .i64 j,Z,R],.agg #[.int .i64 d,.int .i64 m,XZ,S]] D (λe ae=>∃v,e=.returned v/\bC ae v (topL q.k.toNat (l1++l2))/\(∀a n c,v=.slice (some a) n c->D.heap.size<=a.block)/\Bw D ae)):=by
  rw[hQ];exact Lh (λD h=>SC D q b j Z R l1 d m XZ S l2 (h1.below h) (h2.below h) hn hk)
 have Oh:Hid (∀D,Calls prog 268 #[.agg Q.cells,.agg #[.int .i64 b,.int .i64 j,Z,R],.agg #[.int .i64 d,.int .i64 m,XZ,S]] D (Below0 D (.int .i64 (Bd q.agg b j d m)))):=by
  rw[hQ];exact Lh (λD=>PR D q b j Z R d m XZ S)
 have Iu:Hid (∀D,Calls prog 270 #[R,S] D (NM D (u1+u2) (v1+v2))):=Lh (λD=>Vo D R S u1 v1 u2 v2 k1 k2);obtain⟨w1,ad⟩:=Nm ((((w.alloc (.cells q.cells 23)).alloc (.cells (bJ b j Z R) 120)).alloc (.cells (bJ d m XZ S) 120)).alloc (.cells zeroC 120));obtain⟨qb,XW⟩:=Nm (w.heap.size);obtain⟨b1,aj⟩:=Nm (w.heap.size+1);obtain⟨b2,ak⟩:=Nm (w.heap.size+2);obtain⟨r,al⟩:=Nm (w.heap.size+3);have am:(w.alloc (.cells q.cells 23)).heap.size=w.heap.size+1:=bg w _;have an:((w.alloc (.cells q.cells 23)).alloc (.cells (bJ b j Z R) 120)).heap.size=w.heap.size+2:=by rw[bg,bg]
 have ag:(((w.alloc (.cells q.cells 23)).alloc (.cells (bJ b j Z R) 120)).alloc (.cells (bJ d m XZ S) 120)).heap.size=w.heap.size+3:=by rw[bg,bg,bg]
 have H1:Hid (dB w1 qb Q/\dA w1 b1 b j Z R/\dA w1 b2 d m XZ S/\dA w1 r 0 0 bM dC/\Bw w w1/\w.heap.size<=r/\r<w1.heap.size):=by
  have h:=zG w q b j Z R d m XZ S;have hB:=(Below.refl _ (((w.alloc (.cells q.cells 23)).alloc (.cells (bJ b j Z R) 120)).alloc (.cells (bJ d m XZ S) 120))).alloc (bfx _) (.cells zeroC 120);rw[<-ad]at hB;have hz:dA w1 r 0 0 bM dC:=by rw[ad,al,<-ag];exact bg5 _ _
  rw[XW,aj,ak,hQ];exact Lh ⟨h.1.below hB,h.2.1.below hB,h.2.2.1.below hB,hz,h.2.2.2.1.trans (hB.mono h.2.2.2.1.size),by omega,hz.lt⟩
 have ab:=bfy hb.1 (bfy hb.2.1 (bfy hb.2.2.1 hb.2.2.2));clear hP h1 h2 k1 k2 hn hk hb;obtain⟨F,size,s,I,agg,k⟩:=q;have Zx:Hid (Q.cells=#[.int .i64 F,.int .i64 size,.int .i64 s,.int .i64 I,.int .i64 agg,.int .i64 k]):=Lh (by rw[hQ];rfl)
 unfold bu.cells at ad am an ag ⊢;unfold bJ zeroC at*;unfold bJ at*;simp only[bM,dC]at ad am an ag Yw Ef Oh;obtain⟨d0,d1,d2,d3,d4,d5⟩:D6 w1 qb F size s I agg k:=by
  have h:=H1.out.1.d6;rw[hQ]at h;exact h
 obtain⟨f0,f1,f2,f3⟩:=H1.out.2.1.d4;obtain⟨g0,g1,g2,g3⟩:=H1.out.2.2.1.d4;have UA:0<=b+d/\b+d<=2147483648:=by omega
 have OL:Hid (Q=⟨F,size,s,I,agg,k⟩):=Lh hQ;have ax:Hid (w.heap.size<=qb):=Lh (by omega)
 clear hQ;go_enter func253,ntmps253;go_upto_region 1 with fail;rw[<-ad,<-al,<-ak,<-aj,<-XW];clear ad XW aj ak al am an ag;refine bg4 ?_
 iterate 21 go_step
 refine bg6 rfl _ _ _ rfl w1.heap.size (bJ (b+d) 0 bM dC) rfl rfl 120 zeroC (bg5 w1 _) bW rfl (kJ rfl rfl) ?_;obtain⟨w2,ao⟩:=Nm ((w1.alloc (Obj.cells #[.int .i64 0,.int .i64 0,.slice none 0 0,.complex .f64 0 0] 120)).setRow w1.heap.size (bJ (b+d) 0 bM dC));obtain⟨J,ap⟩:=Nm (w1.heap.size);have H2:Hid (lV w qb b1 b2 r J Q b j Z R d m XZ S (b+d) 0 (.slice none 0 0) (.complex .f64 0 0) w2):=by
  obtain⟨k1,k2⟩:=wI w1 (b+d) 0 bM dC;obtain⟨j1,j2,j3,j4,j5,j6,j7⟩:=H1.out;rw[ao,ap];exact Lh ⟨⟨ax.out,j1.lt,j2.lt,j3.lt,j4.lt,j6,j5.size⟩,j1.below k2,j2.below k2,j3.below k2,j4.below k2,k1,Tb j5 k2⟩
 rw[<-ao,<-ap];clear ao ap d0 d1 d2 d3 d4 d5 f0 f1 f2 f3 g0 g1 g2 g3 H1 UA;have Yz:Hid (dN (.complex .f64 0 0) 0 0):=Lh jd;have aB:Hid (bC w (.slice none 0 0) []):=Lh (bC.nil _);have uC:Hid (∀a n c,Value.slice none 0 0=.slice (some a) n c->([]:List Int)≠[]->a.block≠r):=Lh (λ_ _ _ h=>by cases h)
 have uD:Hid (∀a n c,Value.slice none 0 0=.slice (some a) n c->w.heap.size<=a.block):=Lh (λ_ _ _ h=>by cases h)
 obtain⟨d0,d1,d2,d3,d4,d5⟩:D6 w2 qb F size s I agg k:=by
  have h:=H2.out.2.1.d6;rw[OL.out]at h;exact h
 obtain⟨f0,f1,f2,f3⟩:=H2.out.2.2.1.d4;obtain⟨g0,g1,g2,g3⟩:=H2.out.2.2.2.1.d4;obtain⟨x0,x1,x2,x3⟩:=H2.out.2.2.2.2.2.1.d4;have Zm:=ab;by_cases h2:agg=2
 ·subst h2;have ah:Hid (bC w2 (.slice none 0 0) []):=Lh (bC.nil _);have ar: -8796093022208<=j+m/\j+m<=8796093022208:=by omega
  clear ab Zm;go_upto_region 5 with fail;refine bg4 ?_
  iterate 18 go_step
  refine wpList_store1 rfl _ (.tmp 26) (.tmp 25) rfl ⟨J,1,none⟩ (.int .i64 (j+m)) (.int .i64 0) rfl rfl rfl rfl sizeOf3 x1 (dA.fro H2.out.2.2.2.2.2.1 1) ?_;obtain⟨L,M⟩:=Nm ((w2).setCell ⟨J,1,none⟩ (.int .i64 (j+m)));have U:Hid (lV w qb b1 b2 r J Q b j Z R d m XZ S (b+d) (j+m) (.slice none 0 0) (.complex .f64 0 0) L):=by
   have O:(w2).grownBy L (some J):=by rw[M];exact grown_setCell _ _ _ _
   exact Lh (H2.out.turn O (by rw[M];exact dA.set1 H2.out.2.2.2.2.2.1 (j+m)))
  have aY:Hid ((w2).grownBy L (some J)):=by rw[M];exact Lh (grown_setCell _ _ _ _)
  rw[<-M];clear M;have aa:Hid (bC L (.slice none 0 0) []):=Lh (bC.nil _);clear d0 d1 d2 d3 d4 d5 f0 f1 f2 f3 g0 g1 g2 g3 x0 x1 x2 x3 ar;obtain⟨y0,y1,y2,y3⟩:=U.out.2.2.2.2.2.1.d4;go_upto_region 13 with fail;refine bg4 ?_
  iterate 6 go_step
  refine bg6 rfl _ _ _ rfl r (bJ (b+d) (j+m) (.slice none 0 0) (.complex .f64 0 0)) rfl rfl 120 zeroC U.out.2.2.2.2.1 bW rfl (gm aa.out Yz.out) ?_;obtain⟨wy,o⟩:=Nm (L.setRow r (bJ (b+d) (j+m) (.slice none 0 0) (.complex .f64 0 0)));have HZ:Hid (dA wy r (b+d) (j+m) (.slice none 0 0) (.complex .f64 0 0)/\P (.returned (.tuple #[.agg #[.int .i64 (b+d),.int .i64 (j+m),(.slice none 0 0),(.complex .f64 0 0)],.int .i64 0])) wy):=by
   have O:=bD L r (bJ (b+d) (j+m) (.slice none 0 0) (.complex .f64 0 0));obtain⟨h0,h1,h2,h3,h4,h5,Y⟩:=U.out;rw[o];refine Lh ⟨h4.reset _ _ _ _,Yw.out _ (.slice none 0 0) (.complex .f64 0 0) (j+m) [] 0 0 0 (aa.out.grown O uC.out) Yz.out (Y.trans (bQ O (by omega) Y.size)) uD.out ?_ ?_⟩
   ·simp[sF,GH]
   simp[wK,jJ]
  rw[<-o];clear o y0 y1 y2 y3;go_wp2_with fail;exact bodyPost_ret (v:=.tuple #[.agg (bJ (b+d) (j+m) (.slice none 0 0) (.complex .f64 0 0)),.int .i64 0]) ((bI (p:=6) (u:=7) (ty:=120) rfl _ _ r 120 (bJ (b+d) (j+m) (.slice none 0 0) (.complex .f64 0 0)) (0,0) _ rfl HZ.out.1 underlying120 rfl bW).trans rfl) rfl HZ.out.2
 have e2:(agg==2)=false:=by simpa using h2
 by_cases h5:agg=5
 ·subst h5;clear h2;have ah:Hid (bC w2 (.slice none 0 0) []):=Lh (bC.nil _);have ar: -8796093022208<=j+m/\j+m<=8796093022208:=by omega
  clear ab Zm;go_upto_region 5 with fail;refine bg4 ?_
  iterate 18 go_step
  refine wpList_store1 rfl _ (.tmp 26) (.tmp 25) rfl ⟨J,1,none⟩ (.int .i64 (j+m)) (.int .i64 0) rfl rfl rfl rfl sizeOf3 x1 (dA.fro H2.out.2.2.2.2.2.1 1) ?_;obtain⟨L,M⟩:=Nm ((w2).setCell ⟨J,1,none⟩ (.int .i64 (j+m)));have U:Hid (lV w qb b1 b2 r J Q b j Z R d m XZ S (b+d) (j+m) (.slice none 0 0) (.complex .f64 0 0) L):=by
   have O:(w2).grownBy L (some J):=by rw[M];exact grown_setCell _ _ _ _
   exact Lh (H2.out.turn O (by rw[M];exact dA.set1 H2.out.2.2.2.2.2.1 (j+m)))
  have aY:Hid ((w2).grownBy L (some J)):=by rw[M];exact Lh (grown_setCell _ _ _ _)
  rw[<-M];clear M;have aa:Hid (bC L (.slice none 0 0) []):=Lh (bC.nil _);clear d0 d1 d2 d3 d4 d5 f0 f1 f2 f3 g0 g1 g2 g3 x0 x1 x2 x3 ar;obtain⟨y0,y1,y2,y3⟩:=U.out.2.2.2.2.2.1.d4;go_upto_region 13 with fail;refine bg4 ?_
  iterate 6 go_step
  refine bg6 rfl _ _ _ rfl r (bJ (b+d) (j+m) (.slice none 0 0) (.complex .f64 0 0)) rfl rfl 120 zeroC U.out.2.2.2.2.1 bW rfl (gm aa.out Yz.out) ?_;obtain⟨wy,o⟩:=Nm (L.setRow r (bJ (b+d) (j+m) (.slice none 0 0) (.complex .f64 0 0)));have HZ:Hid (dA wy r (b+d) (j+m) (.slice none 0 0) (.complex .f64 0 0)/\P (.returned (.tuple #[.agg #[.int .i64 (b+d),.int .i64 (j+m),(.slice none 0 0),(.complex .f64 0 0)],.int .i64 0])) wy):=by
   have O:=bD L r (bJ (b+d) (j+m) (.slice none 0 0) (.complex .f64 0 0));obtain⟨h0,h1,h2,h3,h4,h5,Y⟩:=U.out;rw[o];refine Lh ⟨h4.reset _ _ _ _,Yw.out _ (.slice none 0 0) (.complex .f64 0 0) (j+m) [] 0 0 0 (aa.out.grown O uC.out) Yz.out (Y.trans (bQ O (by omega) Y.size)) uD.out ?_ ?_⟩
   ·simp[sF,GH]
   simp[wK,jJ]
  rw[<-o];clear o y0 y1 y2 y3;go_wp2_with fail;exact bodyPost_ret (v:=.tuple #[.agg (bJ (b+d) (j+m) (.slice none 0 0) (.complex .f64 0 0)),.int .i64 0]) ((bI (p:=6) (u:=7) (ty:=120) rfl _ _ r 120 (bJ (b+d) (j+m) (.slice none 0 0) (.complex .f64 0 0)) (0,0) _ rfl HZ.out.1 underlying120 rfl bW).trans rfl) rfl HZ.out.2
 have e5:(agg==5)=false:=by simpa using h5
 by_cases h3:agg=3
 ·subst h3;clear h2 h5 ab Zm;obtain⟨E,hE⟩:=Nm (Bd 3 b j d m);have HE:=Lh hE;have oz:Hid (∀D,Calls prog 268 #[.agg #[.int .i64 F,.int .i64 size,.int .i64 s,.int .i64 I,.int .i64 3,.int .i64 k],.agg #[.int .i64 b,.int .i64 j,Z,R],.agg #[.int .i64 d,.int .i64 m,XZ,S]] D (Below0 D (.int .i64 E))):=by
   have h:=Oh.out;rw[Zx.out]at h;rw[hE];exact Lh h
  clear hE;go_upto_region 8 with fail;refine bg4 ?_
  iterate 9 go_step
  refine wpList_plain rfl λK hK=>?_;go_step;refine(oz.out w2).mono ?_;rintro e L ⟨rfl,hB⟩;refine hK _ _ ?_;have U:Hid (lV w qb b1 b2 r J Q b j Z R d m XZ S (b+d) 0 (.slice none 0 0) (.complex .f64 0 0) L):=Lh (H2.out.below hB);clear hK hB d0 d1 d2 d3 d4 d5 f0 f1 f2 f3 g0 g1 g2 g3 x0 x1 x2 x3;obtain⟨x0,x1,x2,x3⟩:=U.out.2.2.2.2.2.1.d4
  iterate 3 go_step
  refine wpList_store1 rfl _ (.tmp 34) (.tmp 33) rfl ⟨J,1,none⟩ (.int .i64 E) (.int .i64 0) rfl rfl rfl rfl sizeOf3 x1 (dA.fro U.out.2.2.2.2.2.1 1) ?_;obtain⟨w4,M⟩:=Nm ((L).setCell ⟨J,1,none⟩ (.int .i64 E));have H4:Hid (lV w qb b1 b2 r J Q b j Z R d m XZ S (b+d) E (.slice none 0 0) (.complex .f64 0 0) w4):=by
   have O:(L).grownBy w4 (some J):=by rw[M];exact grown_setCell _ _ _ _
   exact Lh (U.out.turn O (by rw[M];exact dA.set1 U.out.2.2.2.2.2.1 E))
  have aY:Hid ((L).grownBy w4 (some J)):=by rw[M];exact Lh (grown_setCell _ _ _ _)
  rw[<-M];clear M;have ac:Hid (bC w4 (.slice none 0 0) []):=Lh (bC.nil _);clear x0 x1 x2 x3;obtain⟨y0,y1,y2,y3⟩:=H4.out.2.2.2.2.2.1.d4;go_upto_region 13 with fail;refine bg4 ?_
  iterate 6 go_step
  refine bg6 rfl _ _ _ rfl r (bJ (b+d) E (.slice none 0 0) (.complex .f64 0 0)) rfl rfl 120 zeroC H4.out.2.2.2.2.1 bW rfl (gm ac.out Yz.out) ?_;obtain⟨wy,o⟩:=Nm (w4.setRow r (bJ (b+d) E (.slice none 0 0) (.complex .f64 0 0)));have HZ:Hid (dA wy r (b+d) E (.slice none 0 0) (.complex .f64 0 0)/\P (.returned (.tuple #[.agg #[.int .i64 (b+d),.int .i64 E,(.slice none 0 0),(.complex .f64 0 0)],.int .i64 0])) wy):=by
   have O:=bD w4 r (bJ (b+d) E (.slice none 0 0) (.complex .f64 0 0));obtain⟨h0,h1,h2,h3,h4,h5,Y⟩:=H4.out;rw[o];refine Lh ⟨h4.reset _ _ _ _,Yw.out _ (.slice none 0 0) (.complex .f64 0 0) E [] 0 0 0 (ac.out.grown O uC.out) Yz.out (Y.trans (bQ O (by omega) Y.size)) uD.out ?_ ?_⟩
   ·(simp[sF,GH];exact HE.out.symm)
   simp[wK,jJ]
  rw[<-o];clear o y0 y1 y2 y3;go_wp2_with fail;exact bodyPost_ret (v:=.tuple #[.agg (bJ (b+d) E (.slice none 0 0) (.complex .f64 0 0)),.int .i64 0]) ((bI (p:=6) (u:=7) (ty:=120) rfl _ _ r 120 (bJ (b+d) E (.slice none 0 0) (.complex .f64 0 0)) (0,0) _ rfl HZ.out.1 underlying120 rfl bW).trans rfl) rfl HZ.out.2
 have e3:(agg==3)=false:=by simpa using h3
 by_cases h4:agg=4
 ·subst h4;clear h2 h5 h3 ab Zm;obtain⟨E,hE⟩:=Nm (Bd 4 b j d m);have HE:=Lh hE;have oz:Hid (∀D,Calls prog 268 #[.agg #[.int .i64 F,.int .i64 size,.int .i64 s,.int .i64 I,.int .i64 4,.int .i64 k],.agg #[.int .i64 b,.int .i64 j,Z,R],.agg #[.int .i64 d,.int .i64 m,XZ,S]] D (Below0 D (.int .i64 E))):=by
   have h:=Oh.out;rw[Zx.out]at h;rw[hE];exact Lh h
  clear hE;go_upto_region 8 with fail;refine bg4 ?_
  iterate 9 go_step
  refine wpList_plain rfl λK hK=>?_;go_step;refine(oz.out w2).mono ?_;rintro e L ⟨rfl,hB⟩;refine hK _ _ ?_;have U:Hid (lV w qb b1 b2 r J Q b j Z R d m XZ S (b+d) 0 (.slice none 0 0) (.complex .f64 0 0) L):=Lh (H2.out.below hB);clear hK hB d0 d1 d2 d3 d4 d5 f0 f1 f2 f3 g0 g1 g2 g3 x0 x1 x2 x3;obtain⟨x0,x1,x2,x3⟩:=U.out.2.2.2.2.2.1.d4
  iterate 3 go_step
  refine wpList_store1 rfl _ (.tmp 34) (.tmp 33) rfl ⟨J,1,none⟩ (.int .i64 E) (.int .i64 0) rfl rfl rfl rfl sizeOf3 x1 (dA.fro U.out.2.2.2.2.2.1 1) ?_;obtain⟨w4,M⟩:=Nm ((L).setCell ⟨J,1,none⟩ (.int .i64 E));have H4:Hid (lV w qb b1 b2 r J Q b j Z R d m XZ S (b+d) E (.slice none 0 0) (.complex .f64 0 0) w4):=by
   have O:(L).grownBy w4 (some J):=by rw[M];exact grown_setCell _ _ _ _
   exact Lh (U.out.turn O (by rw[M];exact dA.set1 U.out.2.2.2.2.2.1 E))
  have aY:Hid ((L).grownBy w4 (some J)):=by rw[M];exact Lh (grown_setCell _ _ _ _)
  rw[<-M];clear M;have ac:Hid (bC w4 (.slice none 0 0) []):=Lh (bC.nil _);clear x0 x1 x2 x3;obtain⟨y0,y1,y2,y3⟩:=H4.out.2.2.2.2.2.1.d4;go_upto_region 13 with fail;refine bg4 ?_
  iterate 6 go_step
  refine bg6 rfl _ _ _ rfl r (bJ (b+d) E (.slice none 0 0) (.complex .f64 0 0)) rfl rfl 120 zeroC H4.out.2.2.2.2.1 bW rfl (gm ac.out Yz.out) ?_;obtain⟨wy,o⟩:=Nm (w4.setRow r (bJ (b+d) E (.slice none 0 0) (.complex .f64 0 0)));have HZ:Hid (dA wy r (b+d) E (.slice none 0 0) (.complex .f64 0 0)/\P (.returned (.tuple #[.agg #[.int .i64 (b+d),.int .i64 E,(.slice none 0 0),(.complex .f64 0 0)],.int .i64 0])) wy):=by
   have O:=bD w4 r (bJ (b+d) E (.slice none 0 0) (.complex .f64 0 0));obtain⟨h0,h1,h2,h3,h4,h5,Y⟩:=H4.out;rw[o];refine Lh ⟨h4.reset _ _ _ _,Yw.out _ (.slice none 0 0) (.complex .f64 0 0) E [] 0 0 0 (ac.out.grown O uC.out) Yz.out (Y.trans (bQ O (by omega) Y.size)) uD.out ?_ ?_⟩
   ·(simp[sF,GH];exact HE.out.symm)
   simp[wK,jJ]
  rw[<-o];clear o y0 y1 y2 y3;go_wp2_with fail;exact bodyPost_ret (v:=.tuple #[.agg (bJ (b+d) E (.slice none 0 0) (.complex .f64 0 0)),.int .i64 0]) ((bI (p:=6) (u:=7) (ty:=120) rfl _ _ r 120 (bJ (b+d) E (.slice none 0 0) (.complex .f64 0 0)) (0,0) _ rfl HZ.out.1 underlying120 rfl bW).trans rfl) rfl HZ.out.2
 have e4:(agg==4)=false:=by simpa using h4
 by_cases Y:agg=6
 ·subst Y;clear h2 h5 h3 h4 ab Zm;have Eg:Hid (∀D,Bw w D->Calls prog 269 #[.agg #[.int .i64 F,.int .i64 size,.int .i64 s,.int .i64 I,.int .i64 6,.int .i64 k],.agg #[.int .i64 b,.int .i64 j,Z,R],.agg #[.int .i64 d,.int .i64 m,XZ,S]] D (λe ae=>∃v,e=.returned v/\bC ae v (topL k.toNat (l1++l2))/\(∀a n c,v=.slice (some a) n c->D.heap.size<=a.block)/\Bw D ae)):=by
   have h:=Ef.out;rw[Zx.out]at h;exact Lh h
  go_upto_region 10 with fail;refine bg4 ?_
  iterate 9 go_step
  refine wpList_plain rfl λK hK=>?_;go_step;refine(Eg.out w2 H2.out.2.2.2.2.2.2).mono ?_;rintro e L ⟨v,rfl,hI,af,hB⟩;refine hK _ _ ?_;have U:Hid (lV w qb b1 b2 r J Q b j Z R d m XZ S (b+d) 0 (.slice none 0 0) (.complex .f64 0 0) L):=Lh (H2.out.below hB);have aa:=Lh hI;obtain⟨ta,tc,rfl,_,ay⟩:=hI;obtain⟨N,hN⟩:=Nm ((topL k.toNat (l1++l2)).length);rw[<-hN]at aa;rw[<-hN]at af;rw[<-hN];have az:Hid (∀a n c,Value.slice ta N tc=.slice (some a) n c->w.heap.size<=a.block):=by
   have hs:=H2.out.2.2.2.2.2.2.size;exact Lh (λa n c e=>by have:=af a n c e;omega)
  have EE:Hid ((∀a n c,Value.slice ta N tc=.slice (some a) n c->topL k.toNat (l1++l2)≠[]->a.block≠J)/\∀a n c,Value.slice ta N tc=.slice (some a) n c->topL k.toNat (l1++l2)≠[]->a.block≠r):=by
   have l8:=H2.out.2.2.2.2.2.1.lt;have l6:=H2.out.2.2.2.2.1.lt;exact Lh ⟨λa n c e _=>by have:=af a n c e;omega,λa n c e _=>by have:=af a n c e;omega⟩
  clear hK hB d0 d1 d2 d3 d4 d5 f0 f1 f2 f3 g0 g1 g2 g3 x0 x1 x2 x3 hN ay af;obtain⟨x0,x1,x2,x3⟩:=U.out.2.2.2.2.2.1.d4
  iterate 3 go_step
  refine wpList_store1 rfl _ (.tmp 41) (.tmp 40) rfl ⟨J,2,none⟩ (.slice ta N tc) (.slice none 0 0) rfl rfl rfl rfl sizeOf35 x2 (dA.fro U.out.2.2.2.2.2.1 2) ?_;obtain⟨w4,M⟩:=Nm ((L).setCell ⟨J,2,none⟩ (.slice ta N tc));have H4:Hid (lV w qb b1 b2 r J Q b j Z R d m XZ S (b+d) 0 (.slice ta N tc) (.complex .f64 0 0) w4):=by
   have O:(L).grownBy w4 (some J):=by rw[M];exact grown_setCell _ _ _ _
   exact Lh (U.out.turn O (by rw[M];exact dA.set2 U.out.2.2.2.2.2.1 (.slice ta N tc)))
  have aY:Hid ((L).grownBy w4 (some J)):=by rw[M];exact Lh (grown_setCell _ _ _ _)
  rw[<-M];clear M;have ac:Hid (bC w4 (.slice ta N tc) (topL k.toNat (l1++l2))):=by
   exact Lh (aa.out.grown aY.out EE.out.1)
  clear x0 x1 x2 x3;obtain⟨y0,y1,y2,y3⟩:=H4.out.2.2.2.2.2.1.d4;go_upto_region 13 with fail;refine bg4 ?_
  iterate 6 go_step
  refine bg6 rfl _ _ _ rfl r (bJ (b+d) 0 (.slice ta N tc) (.complex .f64 0 0)) rfl rfl 120 zeroC H4.out.2.2.2.2.1 bW rfl (gm ac.out Yz.out) ?_;obtain⟨wy,o⟩:=Nm (w4.setRow r (bJ (b+d) 0 (.slice ta N tc) (.complex .f64 0 0)));have HZ:Hid (dA wy r (b+d) 0 (.slice ta N tc) (.complex .f64 0 0)/\P (.returned (.tuple #[.agg #[.int .i64 (b+d),.int .i64 0,(.slice ta N tc),(.complex .f64 0 0)],.int .i64 0])) wy):=by
   have O:=bD w4 r (bJ (b+d) 0 (.slice ta N tc) (.complex .f64 0 0));obtain⟨h0,h1,h2,h3,h4,h5,Y⟩:=H4.out;rw[o];refine Lh ⟨h4.reset _ _ _ _,Yw.out _ (.slice ta N tc) (.complex .f64 0 0) 0 (topL k.toNat (l1++l2)) 0 0 0 (ac.out.grown O EE.out.2) Yz.out (Y.trans (bQ O (by omega) Y.size)) az.out ?_ ?_⟩
   ·simp[sF,GH]
   simp[wK,jJ]
  rw[<-o];clear o y0 y1 y2 y3;go_wp2_with fail;exact bodyPost_ret (v:=.tuple #[.agg (bJ (b+d) 0 (.slice ta N tc) (.complex .f64 0 0)),.int .i64 0]) ((bI (p:=6) (u:=7) (ty:=120) rfl _ _ r 120 (bJ (b+d) 0 (.slice ta N tc) (.complex .f64 0 0)) (0,0) _ rfl HZ.out.1 underlying120 rfl bW).trans rfl) rfl HZ.out.2
 have e6:(agg==6)=false:=by simpa using Y
 by_cases h7:agg=7
 ·subst h7;clear h2 h5 h3 h4 Y ab Zm;obtain⟨Zr,Uu⟩:=Nm (Vj (u1+u2) (v1+v2));obtain⟨er,au⟩:=Nm (VC (u1+u2) (v1+v2));have Oc:Hid (Calls prog 270 #[R,S] w2 (λe D=>e=.returned (.tuple #[Zr,.int .i64 er])/\D=w2)):=by
   have h:=Iu.out w2;unfold NM at h;rw[<-Uu,<-au]at h;exact Lh h
  obtain⟨ru,rv,hW,av,aw⟩:=QK (u1+u2) (v1+v2);rw[<-Uu]at hW;have ai:=Lh (bfy hW (bfy av (bfy aw au)));obtain⟨p,q,aA,_,_⟩:=hW.1;subst aA;clear Uu au hW av aw;go_upto_region 12 with fail;refine bg4 ?_
  iterate 12 go_step
  refine wpList_plain rfl λK hK=>?_;go_step;refine Oc.out.mono ?_;rintro e D ⟨rfl,aC⟩;subst D;refine hK _ _ ?_;clear hK
  iterate 12 go_step
  refine wpList_store1 rfl _ (.tmp 52) (.tmp 50) rfl ⟨J,3,none⟩ (.complex .f64 p q) (.complex .f64 0 0) rfl rfl rfl rfl sizeOf118 x3 (dA.fro H2.out.2.2.2.2.2.1 3) ?_;obtain⟨L,M⟩:=Nm ((w2).setCell ⟨J,3,none⟩ (.complex .f64 p q));have U:Hid (lV w qb b1 b2 r J Q b j Z R d m XZ S (b+d) 0 (.slice none 0 0) (.complex .f64 p q) L):=by
   have O:(w2).grownBy L (some J):=by rw[M];exact grown_setCell _ _ _ _
   exact Lh (H2.out.turn O (by rw[M];exact dA.Xp H2.out.2.2.2.2.2.1 (.complex .f64 p q)))
  have aY:Hid ((w2).grownBy L (some J)):=by rw[M];exact Lh (grown_setCell _ _ _ _)
  rw[<-M];clear M;have aa:Hid (bC L (.slice none 0 0) []):=Lh (bC.nil _);have Eu:Hid (dN (.complex .f64 p q) ru rv):=Lh ai.out.1;clear d0 d1 d2 d3 d4 d5 f0 f1 f2 f3 g0 g1 g2 g3 x0 x1 x2 x3;have oC:Hid (sF ⟨F,size,s,I,7,k⟩ ⟨b,j,l1,u1,v1⟩ ⟨d,m,l2,u2,v2⟩=⟨b+d,0,[],ru,rv⟩):=by
   refine Lh ?_;by_cases h:wL (u1+u2) (v1+v2)
   ·obtain⟨rfl,rfl⟩:=ai.out.2.1 h;simp[sF,GH,jJ,h]
   obtain⟨rfl,rfl⟩:=ai.out.2.2.1 h;simp[sF,GH,jJ,h]
  have oD:Hid (wK ⟨F,size,s,I,7,k⟩ ⟨b,j,l1,u1,v1⟩ ⟨d,m,l2,u2,v2⟩=er):=by
   refine Lh ?_;rw[ai.out.2.2.2,wK,jJ,VC];by_cases h:wL (u1+u2) (v1+v2) <;> simp[h]
  obtain⟨y0,y1,y2,y3⟩:=U.out.2.2.2.2.2.1.d4;go_upto_region 13 with fail;refine bg4 ?_
  iterate 6 go_step
  refine bg6 rfl _ _ _ rfl r (bJ (b+d) 0 (.slice none 0 0) (.complex .f64 p q)) rfl rfl 120 zeroC U.out.2.2.2.2.1 bW rfl (gm aa.out Eu.out) ?_;obtain⟨wy,o⟩:=Nm (L.setRow r (bJ (b+d) 0 (.slice none 0 0) (.complex .f64 p q)));have HZ:Hid (dA wy r (b+d) 0 (.slice none 0 0) (.complex .f64 p q)/\P (.returned (.tuple #[.agg #[.int .i64 (b+d),.int .i64 0,(.slice none 0 0),(.complex .f64 p q)],.int .i64 er])) wy):=by
   have O:=bD L r (bJ (b+d) 0 (.slice none 0 0) (.complex .f64 p q));obtain⟨h0,h1,h2,h3,h4,h5,Y⟩:=U.out;rw[o];refine Lh ⟨h4.reset _ _ _ _,Yw.out _ (.slice none 0 0) (.complex .f64 p q) 0 [] ru rv er (aa.out.grown O uC.out) Eu.out (Y.trans (bQ O (by omega) Y.size)) uD.out ?_ ?_⟩
   ·exact oC.out
   exact oD.out
  rw[<-o];clear o y0 y1 y2 y3;go_wp2_with fail;exact bodyPost_ret (v:=.tuple #[.agg (bJ (b+d) 0 (.slice none 0 0) (.complex .f64 p q)),.int .i64 er]) ((bI (p:=6) (u:=7) (ty:=120) rfl _ _ r 120 (bJ (b+d) 0 (.slice none 0 0) (.complex .f64 p q)) (0,0) _ rfl HZ.out.1 underlying120 rfl bW).trans rfl) rfl HZ.out.2
 have e7:(agg==7)=false:=by simpa using h7
 have oC:Hid (sF ⟨F,size,s,I,agg,k⟩ ⟨b,j,l1,u1,v1⟩ ⟨d,m,l2,u2,v2⟩=⟨b+d,0,[],0,0⟩):=by
  refine Lh ?_;simp[sF,GH,h2,h5,h3,h4,Y,h7]
 have oD:Hid (wK ⟨F,size,s,I,agg,k⟩ ⟨b,j,l1,u1,v1⟩ ⟨d,m,l2,u2,v2⟩=0):=Lh (by simp[wK,jJ,h7])
 have ah:Hid (bC w2 (.slice none 0 0) []):=Lh (bC.nil _);clear h2 h5 h3 h4 Y h7 ab Zm f0 f1 f2 f3 g0 g1 g2 g3 x0 x1 x2 x3;obtain⟨y0,y1,y2,y3⟩:=H2.out.2.2.2.2.2.1.d4;go_upto_region 13 with fail;refine bg4 ?_
 iterate 6 go_step
 refine bg6 rfl _ _ _ rfl r (bJ (b+d) 0 (.slice none 0 0) (.complex .f64 0 0)) rfl rfl 120 zeroC H2.out.2.2.2.2.1 bW rfl (gm ah.out Yz.out) ?_;obtain⟨wy,o⟩:=Nm (w2.setRow r (bJ (b+d) 0 (.slice none 0 0) (.complex .f64 0 0)));have HZ:Hid (dA wy r (b+d) 0 (.slice none 0 0) (.complex .f64 0 0)/\P (.returned (.tuple #[.agg #[.int .i64 (b+d),.int .i64 0,(.slice none 0 0),(.complex .f64 0 0)],.int .i64 0])) wy):=by
  have O:=bD w2 r (bJ (b+d) 0 (.slice none 0 0) (.complex .f64 0 0));obtain⟨h0,h1,h2,h3,h4,h5,Y⟩:=H2.out;rw[o];refine Lh ⟨h4.reset _ _ _ _,Yw.out _ (.slice none 0 0) (.complex .f64 0 0) 0 [] 0 0 0 (ah.out.grown O uC.out) Yz.out (Y.trans (bQ O (by omega) Y.size)) uD.out ?_ ?_⟩
  ·exact oC.out
  exact oD.out
 rw[<-o];clear o y0 y1 y2 y3;go_wp2_with fail;exact bodyPost_ret (v:=.tuple #[.agg (bJ (b+d) 0 (.slice none 0 0) (.complex .f64 0 0)),.int .i64 0]) ((bI (p:=6) (u:=7) (ty:=120) rfl _ _ r 120 (bJ (b+d) 0 (.slice none 0 0) (.complex .f64 0 0)) (0,0) _ rfl HZ.out.1 underlying120 rfl bW).trans rfl) rfl HZ.out.2
def JK(agg v:Int):Int:=if agg=2∨agg=3∨agg=4∨agg=5 then v else 0
def vY(agg v:Int):fP:=⟨1,JK agg v,if agg=6 then [v]else [],if agg=7 then (nN v).1 else 0,if agg=7 then (nN v).2 else 0⟩
def KE(w:World)(m:fP)(e:Ending)(w':World):Prop:=∃tv z,e=.returned (.agg (bJ m.n m.a tv z))/\bC w' tv m.top/\dN z m.u m.v/\Bw w w'
def nU(w:World)(qb b4 b5:Nat)(Q:bu)(a:Int)(tv z:Value)(w':World):Prop:=
 (w.heap.size<=b4/\b4<b5/\qb<b5/\w.heap.size<=b5)/\dB w' qb Q/\dA w' b4 0 0 bM dC/\dA w' b5 1 a tv z/\Bw w w'
theorem nU.below {w:World} {d e j:Nat} {Q:bu} {a:Int} {k z:Value} {w' b:World}(h:nU w d e j Q a k z w')(c:Bw w' b):nU w d e j Q a k z b:=by
 obtain⟨l,m,n,o,p⟩:=h;exact⟨l,m.below c,n.below c,o.below c,Tb p c⟩
theorem nU.turn {w:World} {e k d:Nat} {Q:bu} {a:Int} {p z:Value} {w' b:World} {l:Int} {c m:Value}(h:nU w e k d Q a p z w')(j:w'.grownBy b (some d))(q:dA b d 1 l c m):nU w e k d Q l c m b:=by
 obtain⟨r,n,s,u,o⟩:=h;exact⟨r,(j.block e n.lt (by simp;omega)).trans n,s.grown j (by simp;omega),q,o.trans (bQ j (by omega) o.size)⟩
theorem SA(w:World)(q:bu)(v:Int):Calls prog 254 #[.agg q.cells,.int .i64 v] w (KE w (vY q.agg v)):=by
 obtain⟨P,hP⟩:=Nm (KE w (vY q.agg v));rw[<-hP];have Yw:Hid (∀w' tv z a l u v',bC w' tv l->dN z u v'->Bw w w'->vY q.agg v=⟨1,a,l,u,v'⟩->P (.returned (.agg #[.int .i64 1,.int .i64 a,tv,z])) w'):=by
  refine Lh (λw' tv z a l u v' j1 j2 j3 j4=>?_);rw[hP,j4];exact⟨tv,z,rfl,j1,j2,j3⟩
 obtain⟨w1,R⟩:=Nm ((w.alloc (.cells q.cells 23)).alloc (.cells zeroC 120));obtain⟨qb,XW⟩:=Nm (w.heap.size);obtain⟨d,af⟩:=Nm (w.heap.size+1);have H1:Hid (dB w1 qb q/\dA w1 d 0 0 bM dC/\Bw w w1/\w.heap.size<=d):=by
  have h:=rG w q 0 0 bM dC;rw[R,XW,af];exact Lh ⟨h.1,h.2.1,h.2.2,by omega⟩
 have ag:(w.alloc (.cells q.cells 23)).heap.size=w.heap.size+1:=bg w _;obtain⟨Q,hQ⟩:=Nm q;rw[<-hQ]at H1;clear hP;obtain⟨ad,size,aa,ae,agg,k⟩:=q;unfold bu.cells at R ag ⊢;unfold zeroC bJ at R;simp only[bM,dC]at R ag Yw;have OL:Hid (Q=⟨ad,size,aa,ae,agg,k⟩):=Lh hQ;clear hQ;go_enter func254,ntmps254;go_upto_region 1 with fail;rw[<-R,<-af,<-XW];clear R XW af ag;refine bg4 ?_
 iterate 6 go_step
 refine bg6 rfl _ _ _ rfl w1.heap.size (bJ 1 0 bM dC) rfl rfl 120 zeroC (bg5 w1 _) bW rfl (kJ rfl rfl) ?_;obtain⟨y,ah⟩:=Nm ((w1.alloc (Obj.cells #[.int .i64 0,.int .i64 0,.slice none 0 0,.complex .f64 0 0] 120)).setRow w1.heap.size (bJ 1 0 bM dC));obtain⟨r,ai⟩:=Nm (w1.heap.size);have F:Hid (nU w qb d r Q 0 (.slice none 0 0) (.complex .f64 0 0) y):=by
  obtain⟨k1,k2⟩:=wI w1 1 0 bM dC;obtain⟨j1,j2,j3,j4⟩:=H1.out;rw[ah,ai];exact Lh ⟨⟨j4,j2.lt,j1.lt,j3.size⟩,j1.below k2,j2.below k2,k1,Tb j3 k2⟩
 rw[<-ah,<-ai];clear ah ai H1;have Yz:Hid (dN (.complex .f64 0 0) 0 0):=Lh jd;have S:Hid (∀a n c,Value.slice none 0 0=.slice (some a) n c->([]:List Int)≠[]->a.block≠d):=Lh (λ_ _ _ h=>by cases h)
 obtain⟨d0,d1,d2,d3,d4,d5⟩:D6 y qb ad size aa ae agg k:=by
  have h:=F.out.2.1.d6;rw[OL.out]at h;exact h
 obtain⟨x0,U,x2,x3⟩:=F.out.2.2.2.1.d4;by_cases E:agg=2
 ·subst E;go_upto_region 7 with fail;refine bg4 ?_
  iterate 6 go_step
  refine wpList_store1 rfl _ (.tmp 15) (.tmp 14) rfl ⟨r,1,none⟩ (.int .i64 v) (.int .i64 0) rfl rfl rfl rfl sizeOf3 U (dA.fro F.out.2.2.2.1 1) ?_;obtain⟨j,s⟩:=Nm ((y).setCell ⟨r,1,none⟩ (.int .i64 v));have N:Hid (nU w qb d r Q v (.slice none 0 0) (.complex .f64 0 0) j/\(y).grownBy j (some r)):=by
   have m:(y).grownBy j (some r):=by rw[s];exact grown_setCell _ _ _ _
   exact Lh ⟨F.out.turn m (by rw[s];exact dA.set1 F.out.2.2.2.1 v),m⟩
  rw[<-s];clear s;have o:Hid (bC j (.slice none 0 0) []):=Lh (bC.nil _);have L:=Lh N.out.1;clear d0 d1 d2 d3 d4 d5 x0 U x2 x3;obtain⟨Y,Z,y2,y3⟩:=L.out.2.2.2.1.d4;go_upto_region 12 with fail;refine bg4 ?_
  iterate 3 go_step
  refine bg6 rfl _ _ _ rfl d (bJ 1 v (.slice none 0 0) (.complex .f64 0 0)) rfl rfl 120 zeroC L.out.2.2.1 bW rfl (gm o.out Yz.out) ?_;obtain⟨I,b⟩:=Nm (j.setRow d (bJ 1 v (.slice none 0 0) (.complex .f64 0 0)));have J:Hid (dA I d 1 v (.slice none 0 0) (.complex .f64 0 0)/\P (.returned (.agg #[.int .i64 1,.int .i64 v,(.slice none 0 0),(.complex .f64 0 0)])) I):=by
   have m:=bD j d (bJ 1 v (.slice none 0 0) (.complex .f64 0 0));obtain⟨h0,h1,E,O,D⟩:=L.out;rw[b];refine Lh ⟨E.reset _ _ _ _,Yw.out _ (.slice none 0 0) (.complex .f64 0 0) v [] 0 0 (o.out.grown m S.out) Yz.out (D.trans (bQ m (by omega) D.size)) ?_⟩
   simp[vY,JK]
  rw[<-b];clear b Y Z y2 y3;go_wp2_with fail;exact bodyPost_ret (v:=.agg (bJ 1 v (.slice none 0 0) (.complex .f64 0 0))) (results_cell_row (p:=4) (ty:=120) rfl _ _ d 120 (bJ 1 v (.slice none 0 0) (.complex .f64 0 0)) (0,0) _ rfl J.out.1 underlying120 rfl bW) rfl J.out.2
 have e2:(agg==2)=false:=by simpa using E
 by_cases O:agg=3
 ·subst O;clear E;go_upto_region 7 with fail;refine bg4 ?_
  iterate 6 go_step
  refine wpList_store1 rfl _ (.tmp 15) (.tmp 14) rfl ⟨r,1,none⟩ (.int .i64 v) (.int .i64 0) rfl rfl rfl rfl sizeOf3 U (dA.fro F.out.2.2.2.1 1) ?_;obtain⟨j,s⟩:=Nm ((y).setCell ⟨r,1,none⟩ (.int .i64 v));have N:Hid (nU w qb d r Q v (.slice none 0 0) (.complex .f64 0 0) j/\(y).grownBy j (some r)):=by
   have m:(y).grownBy j (some r):=by rw[s];exact grown_setCell _ _ _ _
   exact Lh ⟨F.out.turn m (by rw[s];exact dA.set1 F.out.2.2.2.1 v),m⟩
  rw[<-s];clear s;have o:Hid (bC j (.slice none 0 0) []):=Lh (bC.nil _);have L:=Lh N.out.1;clear d0 d1 d2 d3 d4 d5 x0 U x2 x3;obtain⟨Y,Z,y2,y3⟩:=L.out.2.2.2.1.d4;go_upto_region 12 with fail;refine bg4 ?_
  iterate 3 go_step
  refine bg6 rfl _ _ _ rfl d (bJ 1 v (.slice none 0 0) (.complex .f64 0 0)) rfl rfl 120 zeroC L.out.2.2.1 bW rfl (gm o.out Yz.out) ?_;obtain⟨I,b⟩:=Nm (j.setRow d (bJ 1 v (.slice none 0 0) (.complex .f64 0 0)));have J:Hid (dA I d 1 v (.slice none 0 0) (.complex .f64 0 0)/\P (.returned (.agg #[.int .i64 1,.int .i64 v,(.slice none 0 0),(.complex .f64 0 0)])) I):=by
   have m:=bD j d (bJ 1 v (.slice none 0 0) (.complex .f64 0 0));obtain⟨h0,h1,E,O,D⟩:=L.out;rw[b];refine Lh ⟨E.reset _ _ _ _,Yw.out _ (.slice none 0 0) (.complex .f64 0 0) v [] 0 0 (o.out.grown m S.out) Yz.out (D.trans (bQ m (by omega) D.size)) ?_⟩
   simp[vY,JK]
  rw[<-b];clear b Y Z y2 y3;go_wp2_with fail;exact bodyPost_ret (v:=.agg (bJ 1 v (.slice none 0 0) (.complex .f64 0 0))) (results_cell_row (p:=4) (ty:=120) rfl _ _ d 120 (bJ 1 v (.slice none 0 0) (.complex .f64 0 0)) (0,0) _ rfl J.out.1 underlying120 rfl bW) rfl J.out.2
 have e3:(agg==3)=false:=by simpa using O
 by_cases D:agg=4
 ·subst D;clear E O;go_upto_region 7 with fail;refine bg4 ?_
  iterate 6 go_step
  refine wpList_store1 rfl _ (.tmp 15) (.tmp 14) rfl ⟨r,1,none⟩ (.int .i64 v) (.int .i64 0) rfl rfl rfl rfl sizeOf3 U (dA.fro F.out.2.2.2.1 1) ?_;obtain⟨j,s⟩:=Nm ((y).setCell ⟨r,1,none⟩ (.int .i64 v));have N:Hid (nU w qb d r Q v (.slice none 0 0) (.complex .f64 0 0) j/\(y).grownBy j (some r)):=by
   have m:(y).grownBy j (some r):=by rw[s];exact grown_setCell _ _ _ _
   exact Lh ⟨F.out.turn m (by rw[s];exact dA.set1 F.out.2.2.2.1 v),m⟩
  rw[<-s];clear s;have o:Hid (bC j (.slice none 0 0) []):=Lh (bC.nil _);have L:=Lh N.out.1;clear d0 d1 d2 d3 d4 d5 x0 U x2 x3;obtain⟨Y,Z,y2,y3⟩:=L.out.2.2.2.1.d4;go_upto_region 12 with fail;refine bg4 ?_
  iterate 3 go_step
  refine bg6 rfl _ _ _ rfl d (bJ 1 v (.slice none 0 0) (.complex .f64 0 0)) rfl rfl 120 zeroC L.out.2.2.1 bW rfl (gm o.out Yz.out) ?_;obtain⟨I,b⟩:=Nm (j.setRow d (bJ 1 v (.slice none 0 0) (.complex .f64 0 0)));have J:Hid (dA I d 1 v (.slice none 0 0) (.complex .f64 0 0)/\P (.returned (.agg #[.int .i64 1,.int .i64 v,(.slice none 0 0),(.complex .f64 0 0)])) I):=by
   have m:=bD j d (bJ 1 v (.slice none 0 0) (.complex .f64 0 0));obtain⟨h0,h1,E,O,D⟩:=L.out;rw[b];refine Lh ⟨E.reset _ _ _ _,Yw.out _ (.slice none 0 0) (.complex .f64 0 0) v [] 0 0 (o.out.grown m S.out) Yz.out (D.trans (bQ m (by omega) D.size)) ?_⟩
   simp[vY,JK]
  rw[<-b];clear b Y Z y2 y3;go_wp2_with fail;exact bodyPost_ret (v:=.agg (bJ 1 v (.slice none 0 0) (.complex .f64 0 0))) (results_cell_row (p:=4) (ty:=120) rfl _ _ d 120 (bJ 1 v (.slice none 0 0) (.complex .f64 0 0)) (0,0) _ rfl J.out.1 underlying120 rfl bW) rfl J.out.2
 have e4:(agg==4)=false:=by simpa using D
 by_cases h5:agg=5
 ·subst h5;clear E O D;go_upto_region 7 with fail;refine bg4 ?_
  iterate 6 go_step
  refine wpList_store1 rfl _ (.tmp 15) (.tmp 14) rfl ⟨r,1,none⟩ (.int .i64 v) (.int .i64 0) rfl rfl rfl rfl sizeOf3 U (dA.fro F.out.2.2.2.1 1) ?_;obtain⟨j,s⟩:=Nm ((y).setCell ⟨r,1,none⟩ (.int .i64 v));have N:Hid (nU w qb d r Q v (.slice none 0 0) (.complex .f64 0 0) j/\(y).grownBy j (some r)):=by
   have m:(y).grownBy j (some r):=by rw[s];exact grown_setCell _ _ _ _
   exact Lh ⟨F.out.turn m (by rw[s];exact dA.set1 F.out.2.2.2.1 v),m⟩
  rw[<-s];clear s;have o:Hid (bC j (.slice none 0 0) []):=Lh (bC.nil _);have L:=Lh N.out.1;clear d0 d1 d2 d3 d4 d5 x0 U x2 x3;obtain⟨Y,Z,y2,y3⟩:=L.out.2.2.2.1.d4;go_upto_region 12 with fail;refine bg4 ?_
  iterate 3 go_step
  refine bg6 rfl _ _ _ rfl d (bJ 1 v (.slice none 0 0) (.complex .f64 0 0)) rfl rfl 120 zeroC L.out.2.2.1 bW rfl (gm o.out Yz.out) ?_;obtain⟨I,b⟩:=Nm (j.setRow d (bJ 1 v (.slice none 0 0) (.complex .f64 0 0)));have J:Hid (dA I d 1 v (.slice none 0 0) (.complex .f64 0 0)/\P (.returned (.agg #[.int .i64 1,.int .i64 v,(.slice none 0 0),(.complex .f64 0 0)])) I):=by
   have m:=bD j d (bJ 1 v (.slice none 0 0) (.complex .f64 0 0));obtain⟨h0,h1,E,O,D⟩:=L.out;rw[b];refine Lh ⟨E.reset _ _ _ _,Yw.out _ (.slice none 0 0) (.complex .f64 0 0) v [] 0 0 (o.out.grown m S.out) Yz.out (D.trans (bQ m (by omega) D.size)) ?_⟩
   simp[vY,JK]
  rw[<-b];clear b Y Z y2 y3;go_wp2_with fail;exact bodyPost_ret (v:=.agg (bJ 1 v (.slice none 0 0) (.complex .f64 0 0))) (results_cell_row (p:=4) (ty:=120) rfl _ _ d 120 (bJ 1 v (.slice none 0 0) (.complex .f64 0 0)) (0,0) _ rfl J.out.1 underlying120 rfl bW) rfl J.out.2
 have e5:(agg==5)=false:=by simpa using h5
 by_cases h6:agg=6
 ·subst h6;clear E O D h5;go_upto_region 9 with fail;refine bg4 ?_
  iterate 6 go_step
  obtain⟨j,ab⟩:=Nm (y.alloc (.cells #[.int .i64 v] 3));obtain⟨M,ac⟩:=Nm (y.heap.size);have N:Hid (nU w qb d r Q 0 (.slice none 0 0) (.complex .f64 0 0) j):=by
   rw[ab];exact Lh (F.out.below ((Below.refl _ y).alloc (bfx _) _))
  have o:Hid (bC j (.slice (some ⟨M,0,none⟩) 1 1) [v]/\r<M):=by
   refine Lh ⟨⟨_,1,rfl,bfx _,.inr ⟨M,0,rfl,.inr ⟨_,by rw[ab,ac];exact bg5 y _⟩,λi x hx=>?_⟩⟩,by rw[ac];exact F.out.2.2.2.1.lt⟩
   cases i with
   | zero=>
    simp only[bgp,bf5]at hx;subst hx;rw[ab,ac,cell_of_row _ _ _ _ _ _ (bg5 y _)];rfl
   | succ i=>simp at hx
  rw[<-ab,<-ac];clear ab ac d0 d1 d2 d3 d4 d5 x0 U x2 x3;obtain⟨x0,U,x2,x3⟩:=N.out.2.2.2.1.d4
  iterate 3 go_step
  refine wpList_store1 rfl _ (.tmp 20) (.tmp 19) rfl ⟨r,2,none⟩ (.slice (some ⟨M,0,none⟩) 1 1) (.slice none 0 0) rfl rfl rfl rfl sizeOf35 x2 (dA.fro N.out.2.2.2.1 2) ?_;obtain⟨w4,s⟩:=Nm ((j).setCell ⟨r,2,none⟩ (.slice (some ⟨M,0,none⟩) 1 1));have H4:Hid (nU w qb d r Q 0 (.slice (some ⟨M,0,none⟩) 1 1) (.complex .f64 0 0) w4/\(j).grownBy w4 (some r)):=by
   have m:(j).grownBy w4 (some r):=by rw[s];exact grown_setCell _ _ _ _
   exact Lh ⟨N.out.turn m (by rw[s];exact dA.set2 N.out.2.2.2.1 (.slice (some ⟨M,0,none⟩) 1 1)),m⟩
  rw[<-s];clear s;have ak:Hid (bC w4 (.slice (some ⟨M,0,none⟩) 1 1) [v]):=Lh (o.out.1.grown H4.out.2 (λa n c e _=>by injection e with e1;injection e1 with e1;rw[<-e1];have:=o.out.2;show M≠r;omega))
  have Oz:Hid (∀a n c,Value.slice (some ⟨M,0,none⟩) 1 1=.slice (some a) n c->[v]≠[]->a.block≠d):=Lh (λa n c e _=>by injection e with e1;injection e1 with e1;rw[<-e1];have:=o.out.2;have:=N.out.1;show M≠d;omega)
  have Ob:=Lh H4.out.1;clear x0 U x2 x3;obtain⟨Y,Z,y2,y3⟩:=Ob.out.2.2.2.1.d4;go_upto_region 12 with fail;refine bg4 ?_
  iterate 3 go_step
  refine bg6 rfl _ _ _ rfl d (bJ 1 0 (.slice (some ⟨M,0,none⟩) 1 1) (.complex .f64 0 0)) rfl rfl 120 zeroC Ob.out.2.2.1 bW rfl (gm ak.out Yz.out) ?_;obtain⟨I,b⟩:=Nm (w4.setRow d (bJ 1 0 (.slice (some ⟨M,0,none⟩) 1 1) (.complex .f64 0 0)));have J:Hid (dA I d 1 0 (.slice (some ⟨M,0,none⟩) 1 1) (.complex .f64 0 0)/\P (.returned (.agg #[.int .i64 1,.int .i64 0,(.slice (some ⟨M,0,none⟩) 1 1),(.complex .f64 0 0)])) I):=by
   have m:=bD w4 d (bJ 1 0 (.slice (some ⟨M,0,none⟩) 1 1) (.complex .f64 0 0));obtain⟨h0,h1,E,O,D⟩:=Ob.out;rw[b];refine Lh ⟨E.reset _ _ _ _,Yw.out _ (.slice (some ⟨M,0,none⟩) 1 1) (.complex .f64 0 0) 0 [v] 0 0 (ak.out.grown m Oz.out) Yz.out (D.trans (bQ m (by omega) D.size)) ?_⟩
   simp[vY,JK]
  rw[<-b];clear b Y Z y2 y3;go_wp2_with fail;exact bodyPost_ret (v:=.agg (bJ 1 0 (.slice (some ⟨M,0,none⟩) 1 1) (.complex .f64 0 0))) (results_cell_row (p:=4) (ty:=120) rfl _ _ d 120 (bJ 1 0 (.slice (some ⟨M,0,none⟩) 1 1) (.complex .f64 0 0)) (0,0) _ rfl J.out.1 underlying120 rfl bW) rfl J.out.2
 have e6:(agg==6)=false:=by simpa using h6
 by_cases h7:agg=7
 ·subst h7;clear E O D h5 h6;obtain⟨tu,UI⟩:=Nm ((nN v).1);obtain⟨tw,aj⟩:=Nm ((nN v).2);have al:Hid (vY 7 v=⟨1,0,[],tu,tw⟩/\wL tu tw):=by
   refine Lh ⟨by rw[UI,aj];simp[vY,JK],?_⟩
   have:=Vb v;unfold wL;omega
  have an:Hid (Calls prog 271 #[.int .i64 v] y (λe w'=>∃z,e=.returned z/\ql z tu tw/\w'=y)):=by
   rw[UI,aj];exact Lh (Vd y v)
  clear UI aj;go_upto_region 11 with fail;refine bg4 ?_
  iterate 3 go_step
  refine wpList_plain rfl λK hK=>?_;go_step;refine an.out.mono ?_;rintro e w' ⟨z,rfl,hz,ao⟩;subst w';refine hK _ _ ?_;have Eu:Hid (dN z tu tw):=Lh ⟨hz,al.out.2⟩;obtain⟨p,q,rfl,_,_⟩:=hz;clear hK
  iterate 3 go_step
  refine wpList_store1 rfl _ (.tmp 25) (.tmp 24) rfl ⟨r,3,none⟩ (.complex .f64 p q) (.complex .f64 0 0) rfl rfl rfl rfl sizeOf118 x3 (dA.fro F.out.2.2.2.1 3) ?_;obtain⟨j,s⟩:=Nm ((y).setCell ⟨r,3,none⟩ (.complex .f64 p q));have N:Hid (nU w qb d r Q 0 (.slice none 0 0) (.complex .f64 p q) j/\(y).grownBy j (some r)):=by
   have m:(y).grownBy j (some r):=by rw[s];exact grown_setCell _ _ _ _
   exact Lh ⟨F.out.turn m (by rw[s];exact dA.Xp F.out.2.2.2.1 (.complex .f64 p q)),m⟩
  rw[<-s];clear s;have o:Hid (bC j (.slice none 0 0) []):=Lh (bC.nil _);have L:=Lh N.out.1;clear d0 d1 d2 d3 d4 d5 x0 U x2 x3;obtain⟨Y,Z,y2,y3⟩:=L.out.2.2.2.1.d4;go_upto_region 12 with fail;refine bg4 ?_
  iterate 3 go_step
  refine bg6 rfl _ _ _ rfl d (bJ 1 0 (.slice none 0 0) (.complex .f64 p q)) rfl rfl 120 zeroC L.out.2.2.1 bW rfl (gm o.out Eu.out) ?_;obtain⟨I,b⟩:=Nm (j.setRow d (bJ 1 0 (.slice none 0 0) (.complex .f64 p q)));have J:Hid (dA I d 1 0 (.slice none 0 0) (.complex .f64 p q)/\P (.returned (.agg #[.int .i64 1,.int .i64 0,(.slice none 0 0),(.complex .f64 p q)])) I):=by
   have m:=bD j d (bJ 1 0 (.slice none 0 0) (.complex .f64 p q));obtain⟨h0,h1,E,O,D⟩:=L.out;rw[b];refine Lh ⟨E.reset _ _ _ _,Yw.out _ (.slice none 0 0) (.complex .f64 p q) 0 [] tu tw (o.out.grown m S.out) Eu.out (D.trans (bQ m (by omega) D.size)) ?_⟩
   exact al.out.1
  rw[<-b];clear b Y Z y2 y3;go_wp2_with fail;exact bodyPost_ret (v:=.agg (bJ 1 0 (.slice none 0 0) (.complex .f64 p q))) (results_cell_row (p:=4) (ty:=120) rfl _ _ d 120 (bJ 1 0 (.slice none 0 0) (.complex .f64 p q)) (0,0) _ rfl J.out.1 underlying120 rfl bW) rfl J.out.2
 have e7:(agg==7)=false:=by simpa using h7
 have YI:Hid (vY agg v=⟨1,0,[],0,0⟩):=Lh (by simp[vY,JK,E,O,D,h5,h6,h7])
 have am:Hid (bC y (.slice none 0 0) []):=Lh (bC.nil _);clear E O D h5 h6 h7 x0 U x2 x3;obtain⟨Y,Z,y2,y3⟩:=F.out.2.2.2.1.d4;go_upto_region 12 with fail;refine bg4 ?_
 iterate 3 go_step
 refine bg6 rfl _ _ _ rfl d (bJ 1 0 (.slice none 0 0) (.complex .f64 0 0)) rfl rfl 120 zeroC F.out.2.2.1 bW rfl (gm am.out Yz.out) ?_;obtain⟨I,b⟩:=Nm (y.setRow d (bJ 1 0 (.slice none 0 0) (.complex .f64 0 0)));have J:Hid (dA I d 1 0 (.slice none 0 0) (.complex .f64 0 0)/\P (.returned (.agg #[.int .i64 1,.int .i64 0,(.slice none 0 0),(.complex .f64 0 0)])) I):=by
  have m:=bD y d (bJ 1 0 (.slice none 0 0) (.complex .f64 0 0));obtain⟨h0,h1,E,O,D⟩:=F.out;rw[b];refine Lh ⟨E.reset _ _ _ _,Yw.out _ (.slice none 0 0) (.complex .f64 0 0) 0 [] 0 0 (am.out.grown m S.out) Yz.out (D.trans (bQ m (by omega) D.size)) ?_⟩
  exact YI.out
 rw[<-b];clear b Y Z y2 y3;go_wp2_with fail;exact bodyPost_ret (v:=.agg (bJ 1 0 (.slice none 0 0) (.complex .f64 0 0))) (results_cell_row (p:=4) (ty:=120) rfl _ _ d 120 (bJ 1 0 (.slice none 0 0) (.complex .f64 0 0)) (0,0) _ rfl J.out.1 underlying120 rfl bW) rfl J.out.2
def fD(q:bu)(x y:fP):fP × Int:=
 if x.rightB q=true/\y.rightB q=true then (if jJ q x y=false/\(sF q x y).rightB q=true then (sF q x y,0)else (dY,20))else (dY,2)
theorem gq {q:bu} {x:fP}(h:x.rightB q=true):q.rightB=true/\(0<=x.n/\x.n<=1073741824)/\(-4398046511104<=x.a/\x.a<=4398046511104)/\x.top.length<=8/\(0<=q.k/\q.k<=8):=by
 rw[xG]at h;simp only[bf8,bf0]at h;obtain⟨d,l,e,j,o,p⟩:=h;obtain⟨_,_,_,_,_,r,m,b⟩:=kX d;have c:0<=q.k/\q.k<=8:=by
  by_cases h:q.agg=6
  ·have:=m h;omega
  have:=b h;omega
 have s:=BG q.agg;refine⟨d,l,?_,?_,c⟩
 ·unfold vz at e
  split at e <;> omega
 unfold Ce at j
 split at j <;> omega
def Fz(w:World)(qb b1 b2 b6:Nat)(Q:bu)(n1 a1:Int)(XX z1:Value)(n2 a2:Int)(XZ z2:Value)(w':World):Prop:=
 w.heap.size<=b6/\dB w' qb Q/\dA w' b1 n1 a1 XX z1/\dA w' b2 n2 a2 XZ z2/\dA w' b6 0 0 bM dC/\Bw w w'
theorem Fz.below {w:World} {c d e j:Nat} {Q:bu} {k l:Int} {m n:Value} {o p:Int} {q r:Value} {w' a:World}(h:Fz w c d e j Q k l m n o p q r w')(b:Bw w' a):Fz w c d e j Q k l m n o p q r a:=by
 obtain⟨s,u,x,y,z,D⟩:=h;exact⟨s,u.below b,x.below b,y.below b,z.below b,Tb D b⟩
theorem zS(w:World)(q:bu)(x y:fP)(F I L M:Value)(h1:bC w F x.top)(h2:bC w L y.top)(k1:dN I x.u x.v)(k2:dN M y.u y.v)(aw:x.top.length<=1000000)(ax:y.top.length<=1000000):
  Calls prog 223 #[.agg q.cells,.agg (bJ x.n x.a F I),.agg (bJ y.n y.a L M)] w (kT w (fD q x y).1 (fD q x y).2):=by
 obtain⟨P,hP⟩:=Nm (kT w (fD q x y).1 (fD q x y).2);rw[<-hP];obtain⟨r1,aa⟩:=Nm (x.rightB q);obtain⟨r2,ab⟩:=Nm (y.rightB q);obtain⟨m,hm⟩:=Nm (sF q x y);obtain⟨er,ad⟩:=Nm (wK q x y);obtain⟨r3,ak⟩:=Nm (m.rightB q);have ae:Hid (∀d al,Bw w d->fD q x y=(dY,al)->P (.returned (.tuple #[.agg #[.int .i64 0,.int .i64 0,.slice none 0 0,.complex .f64 0 0],.int .i64 al])) d):=by
  refine Lh (λd al D E=>?_);rw[hP,E];exact⟨_,_,rfl,bC.nil _,jd,D,λ_ _ _ h=>by cases h⟩
 have Zj:Hid (∀d o z,bC d o m.top->dN z m.u m.v->Bw w d->(∀a n c,o=.slice (some a) n c->w.heap.size<=a.block)->fD q x y=(m,0)->P (.returned (.tuple #[.agg #[.int .i64 m.n,.int .i64 m.a,o,z],.int .i64 0])) d):=by
  refine Lh (λd o z j1 j2 j3 j6 E=>?_);rw[hP,E];exact⟨o,z,rfl,j1,j2,j3,j6⟩
 have YI:Hid (fD q x y=if r1=true/\r2=true then (if er=0/\r3=true then (m,0)else (dY,20))else (dY,2)):=by
  rw[fD,<-aa,<-ab,<-hm,<-ak,ad,wK];refine Lh ?_;cases jJ q x y <;> simp
 obtain⟨Q,hQ⟩:=Nm q;have af:Hid (∀d,Bw w d->Calls prog 140 #[.agg Q.cells,.agg #[.int .i64 x.n,.int .i64 x.a,F,I]] d (Below0 d (.bool r1))):=by
  rw[aa,hQ];exact Lh (λd h=>kM d q x F I (h1.below h) k1 aw)
 have ag:Hid (∀d,Bw w d->Calls prog 140 #[.agg Q.cells,.agg #[.int .i64 y.n,.int .i64 y.a,L,M]] d (Below0 d (.bool r2))):=by
  rw[ab,hQ];exact Lh (λd h=>kM d q y L M (h2.below h) k2 ax)
 have ah:Hid (r1=true->r2=true->∀d,Bw w d->Calls prog 253 #[.agg Q.cells,.agg #[.int .i64 x.n,.int .i64 x.a,F,I],.agg #[.int .i64 y.n,.int .i64 y.a,L,M]] d (kT d m er)):=by
  rw[hm,ad,hQ];refine Lh (λe1 e2 d h=>?_);obtain⟨_,f2,f3,f4,f5⟩:=gq (aa.symm.trans e1);obtain⟨_,g2,g3,g4,_⟩:=gq (ab.symm.trans e2);exact CQ d q x y F I L M (h1.below h) (h2.below h) k1 k2 (by omega) (by omega) ⟨f2,g2,f3,g3⟩
 have ai:Hid (r1=true->r2=true->∀d o z,bC d o m.top->dN z m.u m.v->Calls prog 140 #[.agg Q.cells,.agg #[.int .i64 m.n,.int .i64 m.a,o,z]] d (Below0 d (.bool r3))):=by
  rw[ak,hQ];refine Lh (λe1 e2 d o z j1 j2=>kM d q m o z j1 j2 ?_);obtain⟨_,_,_,f4,f5⟩:=gq (aa.symm.trans e1);obtain⟨_,_,_,g4,_⟩:=gq (ab.symm.trans e2);rw[hm,sF];simp only
  split
  ·rw[Nv];omega
  simp
 have az:Hid (er=0∨er=20):=by
  rw[ad,wK]
  split
  ·exact Lh (.inr rfl)
  exact Lh (.inl rfl)
 obtain⟨N,O,l1,u1,v1⟩:=x;obtain⟨R,S,l2,u2,v2⟩:=y;simp only at af ag ah ⊢;obtain⟨w1,J⟩:=Nm ((((w.alloc (.cells q.cells 23)).alloc (.cells (bJ N O F I) 120)).alloc (.cells (bJ R S L M) 120)).alloc (.cells zeroC 120));obtain⟨qb,XW⟩:=Nm (w.heap.size);obtain⟨b1,am⟩:=Nm (w.heap.size+1);obtain⟨b2,an⟩:=Nm (w.heap.size+2);obtain⟨j,ao⟩:=Nm (w.heap.size+3);have ap:(w.alloc (.cells q.cells 23)).heap.size=w.heap.size+1:=bg w _;have aj:((w.alloc (.cells q.cells 23)).alloc (.cells (bJ N O F I) 120)).heap.size=w.heap.size+2:=by rw[bg,bg]
 have ac:(((w.alloc (.cells q.cells 23)).alloc (.cells (bJ N O F I) 120)).alloc (.cells (bJ R S L M) 120)).heap.size=w.heap.size+3:=by rw[bg,bg,bg]
 have H1:Hid (Fz w qb b1 b2 j Q N O F I R S L M w1):=by
  have h:=zG w q N O F I R S L M;have D:=(Below.refl _ (((w.alloc (.cells q.cells 23)).alloc (.cells (bJ N O F I) 120)).alloc (.cells (bJ R S L M) 120))).alloc (bfx _) (.cells zeroC 120);rw[<-J]at D;have hz:dA w1 j 0 0 bM dC:=by rw[J,ao,<-ac];exact bg5 _ _
  rw[XW,am,an,hQ];exact Lh ⟨by omega,h.1.below D,h.2.1.below D,h.2.2.1.below D,hz,h.2.2.2.1.trans (D.mono h.2.2.2.1.size)⟩
 have Hm:=Lh hm;clear hP h1 h2 k1 k2 aw ax aa ab ak hm ad;obtain⟨r,size,l,s,agg,k⟩:=q;have Zx:Hid (Q.cells=#[.int .i64 r,.int .i64 size,.int .i64 l,.int .i64 s,.int .i64 agg,.int .i64 k]/\∀d,dB d qb Q->D6 d qb r size l s agg k):=by
  rw[hQ];exact Lh ⟨rfl,λd h=>h.d6⟩
 unfold bu.cells at J ap aj ac ⊢;unfold zeroC at J;unfold bJ at J aj ac ⊢;simp only[bM,dC]at J ap aj ac;rw[Zx.out.1]at af ag ah ai;obtain⟨mn,ma,ml,mu,mv⟩:=m;simp only at Zj ai;clear hQ;obtain⟨d0,d1,d2,d3,d4,d5⟩:=Zx.out.2 w1 H1.out.2.1;obtain⟨f0,f1,f2,f3⟩:=H1.out.2.2.1.d4;go_enter func223,ntmps223;go_upto_region 1 with fail;rw[<-J,<-ao,<-an,<-am,<-XW];clear J XW am an ao ap aj ac;go_wp2_with fail;refine(af.out w1 H1.out.2.2.2.2.2).mono ?_;rintro e w2 ⟨rfl,D⟩;have H2:Hid (Fz w qb b1 b2 j Q N O F I R S L M w2):=Lh (H1.out.below D);clear D d0 d1 d2 d3 d4 d5 f0 f1 f2 f3 H1 af;dsimp only
 cases r1 with
 | false=>
  have E:fD ⟨r,size,l,s,agg,k⟩ ⟨N,O,l1,u1,v1⟩ ⟨R,S,l2,u2,v2⟩=(dY,2):=by rw[YI.out];simp
  go_upto_region 2 with fail;refine bg4 ?_
  iterate 3 go_step
  refine bg6 rfl _ _ _ rfl j zeroC rfl rfl 120 zeroC H2.out.2.2.2.2.1 bW rfl (kJ rfl rfl) ?_;obtain⟨U,b⟩:=Nm (w2.setRow j zeroC);have Y:Hid (dA U j 0 0 bM dC/\P (.returned (.tuple #[.agg #[.int .i64 0,.int .i64 0,.slice none 0 0,.complex .f64 0 0],.int .i64 2])) U):=by
   have hg:=bD w2 j zeroC;obtain⟨h0,h1,h2,h3,h4,Z⟩:=H2.out;rw[b];exact Lh ⟨h4.reset _ _ _ _,ae.out _ 2 (Z.trans (bQ hg h0 Z.size)) E⟩
  rw[<-b];clear b E;go_wp2_with fail;exact bodyPost_ret (v:=.tuple #[.agg zeroC,.int .i64 2]) ((bI (p:=6) (u:=7) (ty:=120) rfl _ _ j 120 zeroC (0,0) _ rfl Y.out.1 underlying120 rfl bW).trans rfl) rfl Y.out.2
 | true=>
 obtain⟨d0,d1,d2,d3,d4,d5⟩:=Zx.out.2 w2 H2.out.2.1;obtain⟨g0,g1,g2,g3⟩:=H2.out.2.2.2.1.d4;go_wp2_with fail;refine(ag.out w2 H2.out.2.2.2.2.2).mono ?_;rintro e w3 ⟨rfl,D⟩;have H3:Hid (Fz w qb b1 b2 j Q N O F I R S L M w3):=Lh (H2.out.below D);clear D d0 d1 d2 d3 d4 d5 g0 g1 g2 g3 H2 ag;dsimp only
 cases r2 with
 | false=>
  have E:fD ⟨r,size,l,s,agg,k⟩ ⟨N,O,l1,u1,v1⟩ ⟨R,S,l2,u2,v2⟩=(dY,2):=by rw[YI.out];simp
  go_upto_region 2 with fail;refine bg4 ?_
  iterate 3 go_step
  refine bg6 rfl _ _ _ rfl j zeroC rfl rfl 120 zeroC H3.out.2.2.2.2.1 bW rfl (kJ rfl rfl) ?_;obtain⟨U,b⟩:=Nm (w3.setRow j zeroC);have Y:Hid (dA U j 0 0 bM dC/\P (.returned (.tuple #[.agg #[.int .i64 0,.int .i64 0,.slice none 0 0,.complex .f64 0 0],.int .i64 2])) U):=by
   have hg:=bD w3 j zeroC;obtain⟨h0,h1,h2,h3,h4,Z⟩:=H3.out;rw[b];exact Lh ⟨h4.reset _ _ _ _,ae.out _ 2 (Z.trans (bQ hg h0 Z.size)) E⟩
  rw[<-b];clear b E;go_wp2_with fail;exact bodyPost_ret (v:=.tuple #[.agg zeroC,.int .i64 2]) ((bI (p:=6) (u:=7) (ty:=120) rfl _ _ j 120 zeroC (0,0) _ rfl Y.out.1 underlying120 rfl bW).trans rfl) rfl Y.out.2
 | true=>
 obtain⟨d0,d1,d2,d3,d4,d5⟩:=Zx.out.2 w3 H3.out.2.1;obtain⟨f0,f1,f2,f3⟩:=H3.out.2.2.1.d4;obtain⟨g0,g1,g2,g3⟩:=H3.out.2.2.2.1.d4;go_upto_region 3 with fail;refine bg4 ?_
 iterate 9 go_step
 refine wpList_plain rfl λK hK=>?_;go_step;refine(ah.out (by simp) (by simp) w3 H3.out.2.2.2.2.2).mono ?_
 rintro e w4 ⟨o,z,rfl,hI,hW,D,ar⟩;have ay:Hid ((∀a n c,o=.slice (some a) n c->w.heap.size<=a.block)/\∀a n c,o=.slice (some a) n c->ml≠[]->a.block≠j):=by
  have l6:=H3.out.2.2.2.2.1.lt;have l0:=H3.out.1;exact Lh ⟨λa n c e=>by have:=ar a n c e;omega,λa n c e _=>by have:=ar a n c e;omega⟩
 refine hK _ _ ?_;have H4:Hid (Fz w qb b1 b2 j Q N O F I R S L M w4/\bC w4 o ml/\dN z mu mv):=Lh ⟨H3.out.below D,hI,hW⟩;unfold bJ;simp only;clear hK D hI hW ar d0 d1 d2 d3 d4 d5 f0 f1 f2 f3 g0 g1 g2 g3 H3 ah
 iterate 12 go_step
 refine bg6 rfl _ _ _ rfl w4.heap.size (bJ mn ma o z) rfl rfl 120 zeroC (bg5 w4 _) bW rfl (gm H4.out.2.1 H4.out.2.2) ?_;obtain⟨w5,au⟩:=Nm ((w4.alloc (Obj.cells #[.int .i64 0,.int .i64 0,.slice none 0 0,.complex .f64 0 0] 120)).setRow w4.heap.size (bJ mn ma o z));obtain⟨b8,av⟩:=Nm (w4.heap.size);have H5:Hid (Fz w qb b1 b2 j Q N O F I R S L M w5/\bC w5 o ml/\dN z mu mv/\dA w5 b8 mn ma o z/\j<b8):=by
  obtain⟨k1,k2⟩:=wI w4 mn ma o z;rw[au,av];exact Lh ⟨H4.out.1.below k2,H4.out.2.1.below k2,H4.out.2.2,k1,H4.out.1.2.2.2.2.1.lt⟩
 rw[<-au,<-av];clear au av H4;rcases az.out with rfl | rfl
 ·obtain⟨d0,d1,d2,d3,d4,d5⟩:=Zx.out.2 w5 H5.out.1.2.1;obtain⟨f0,f1,f2,f3⟩:=H5.out.2.2.2.1.d4;go_wp2_with fail;refine(ai.out (by simp) (by simp) w5 o z H5.out.2.1 H5.out.2.2.1).mono ?_
  rintro e w6 ⟨rfl,D⟩;have H6:Hid (Fz w qb b1 b2 j Q N O F I R S L M w6/\bC w6 o ml/\dN z mu mv/\dA w6 b8 mn ma o z/\j<b8):=by
   obtain⟨j1,j2,j3,j4,j5⟩:=H5.out;exact Lh ⟨j1.below D,j2.below D,j3,j4.below D,j5⟩
  clear D d0 d1 d2 d3 d4 d5 f0 f1 f2 f3 H5 ai;dsimp only
  cases r3 with
  | false=>
   have U2:=Lh H6.out.1;have E:fD ⟨r,size,l,s,agg,k⟩ ⟨N,O,l1,u1,v1⟩ ⟨R,S,l2,u2,v2⟩=(dY,20):=by rw[YI.out];simp
   go_upto_region 5 with fail;refine bg4 ?_
   iterate 3 go_step
   refine bg6 rfl _ _ _ rfl j zeroC rfl rfl 120 zeroC U2.out.2.2.2.2.1 bW rfl (kJ rfl rfl) ?_;obtain⟨U,b⟩:=Nm (w6.setRow j zeroC);have Y:Hid (dA U j 0 0 bM dC/\P (.returned (.tuple #[.agg #[.int .i64 0,.int .i64 0,.slice none 0 0,.complex .f64 0 0],.int .i64 20])) U):=by
    have hg:=bD w6 j zeroC;obtain⟨h0,h1,h2,h3,h4,Z⟩:=U2.out;rw[b];exact Lh ⟨h4.reset _ _ _ _,ae.out _ 20 (Z.trans (bQ hg h0 Z.size)) E⟩
   rw[<-b];clear b E;go_wp2_with fail;exact bodyPost_ret (v:=.tuple #[.agg zeroC,.int .i64 20]) ((bI (p:=6) (u:=7) (ty:=120) rfl _ _ j 120 zeroC (0,0) _ rfl Y.out.1 underlying120 rfl bW).trans rfl) rfl Y.out.2
  | true=>
   have E:fD ⟨r,size,l,s,agg,k⟩ ⟨N,O,l1,u1,v1⟩ ⟨R,S,l2,u2,v2⟩=(⟨mn,ma,ml,mu,mv⟩,0):=by rw[YI.out];rfl
   obtain⟨f0,f1,f2,f3⟩:=H6.out.2.2.2.1.d4;go_upto_region 6 with fail;refine bg4 ?_
   iterate 3 go_step
   refine bg6 rfl _ _ _ rfl j (bJ mn ma o z) rfl rfl 120 zeroC H6.out.1.2.2.2.2.1 bW rfl (gm H6.out.2.1 H6.out.2.2.1) ?_;obtain⟨U,b⟩:=Nm (w6.setRow j (bJ mn ma o z));have Y:Hid (dA U j mn ma o z/\P (.returned (.tuple #[.agg #[.int .i64 mn,.int .i64 ma,o,z],.int .i64 0])) U):=by
    have hg:=bD w6 j (bJ mn ma o z);obtain⟨⟨h0,h1,h2,h3,h4,Z⟩,j2,j3,j4,j5⟩:=H6.out;rw[b];refine Lh ⟨h4.reset _ _ _ _,Zj.out _ o z (j2.grown hg ay.out.2) j3 (Z.trans (bQ hg h0 Z.size)) ay.out.1 E⟩
   rw[<-b];clear b f0 f1 f2 f3 E;go_wp2_with fail;exact bodyPost_ret (v:=.tuple #[.agg (bJ mn ma o z),.int .i64 0]) ((bI (p:=6) (u:=7) (ty:=120) rfl _ _ j 120 (bJ mn ma o z) (0,0) _ rfl Y.out.1 underlying120 rfl bW).trans rfl) rfl Y.out.2
 have U1:=Lh H5.out.1;have E:fD ⟨r,size,l,s,agg,k⟩ ⟨N,O,l1,u1,v1⟩ ⟨R,S,l2,u2,v2⟩=(dY,20):=by rw[YI.out];simp
 go_upto_region 5 with fail;refine bg4 ?_
 iterate 3 go_step
 refine bg6 rfl _ _ _ rfl j zeroC rfl rfl 120 zeroC U1.out.2.2.2.2.1 bW rfl (kJ rfl rfl) ?_;obtain⟨U,b⟩:=Nm (w5.setRow j zeroC);have Y:Hid (dA U j 0 0 bM dC/\P (.returned (.tuple #[.agg #[.int .i64 0,.int .i64 0,.slice none 0 0,.complex .f64 0 0],.int .i64 20])) U):=by
  have hg:=bD w5 j zeroC;obtain⟨h0,h1,h2,h3,h4,Z⟩:=U1.out;rw[b];exact Lh ⟨h4.reset _ _ _ _,ae.out _ 20 (Z.trans (bQ hg h0 Z.size)) E⟩
 rw[<-b];clear b E;go_wp2_with fail;exact bodyPost_ret (v:=.tuple #[.agg zeroC,.int .i64 20]) ((bI (p:=6) (u:=7) (ty:=120) rfl _ _ j 120 zeroC (0,0) _ rfl Y.out.1 underlying120 rfl bW).trans rfl) rfl Y.out.2
def lY(q:bu)(x:fP)(v:Int):fP × Int:=if mQ v 1099511627776=true then fD q x (vY q.agg v)else (dY,2)
def CG(w:World)(qb b1 b6:Nat)(q:bu)(x:fP)(XX z1:Value)(w':World):Prop:=
 (w.heap.size<=b6/\qb<b6/\b1<b6)/\dB w' qb q/\dA w' b1 x.n x.a XX z1/\dA w' b6 0 0 bM dC/\Bw w w'
theorem CG.below {w:World} {c d e:Nat} {q:bu} {x:fP} {j k:Value} {w' a:World}(h:CG w c d e q x j k w')(b:Bw w' a):CG w c d e q x j k a:=by
 obtain⟨l,m,n,o,p⟩:=h;exact⟨l,m.below b,n.below b,o.below b,Tb p b⟩
def VN(b6:Nat)(m:fP)(w':World)(tv z:Value):Prop:=bC w' tv m.top/\dN z m.u m.v/\∀a n c,tv=.slice (some a) n c->b6<a.block
def Xt(w:World)(qb b1 b6:Nat)(q:bu)(x:fP)(XX z1:Value)(m:fP):Nat->World->Prop
 | 0,w'=>CG w qb b1 b6 q x XX z1 w'
 | 1,w'=>CG w qb b1 b6 q x XX z1 w'
 | 2,w'=>CG w qb b1 b6 q x XX z1 w'
 | _+3,w'=>∃tv z,dA w' b6 m.n m.a tv z/\VN b6 m w' tv z/\Bw w w'/\dB w' qb q/\dA w' b1 x.n x.a XX z1
theorem Sz(w:World)(q:bu)(x:fP)(l r:Value)(v:Int)(Z:bC w l x.top)(k1:dN r x.u x.v)(ak:x.top.length<=1000000):
  Calls prog 224 #[.agg q.cells,.agg (bJ x.n x.a l r),.int .i64 v] w (kT w (lY q x v).1 (lY q x v).2):=by
 obtain⟨P,hP⟩:=Nm (kT w (lY q x v).1 (lY q x v).2);rw[<-hP];obtain⟨r1,ab⟩:=Nm (mQ v 1099511627776);obtain⟨o,ho⟩:=Nm (vY q.agg v);obtain⟨m,hm⟩:=Nm ((fD q x o).1);obtain⟨N,ac⟩:=Nm ((fD q x o).2);have ae:Hid (∀b ad,Bw w b->lY q x v=(dY,ad)->P (.returned (.tuple #[.agg #[.int .i64 0,.int .i64 0,.slice none 0 0,.complex .f64 0 0],.int .i64 ad])) b):=by
  refine Lh (λb ad D hq=>?_);rw[hP,hq];exact⟨_,_,rfl,bC.nil _,jd,D,λ_ _ _ h=>by cases h⟩
 have YI:Hid (lY q x v=if r1=true then (m,N)else (dY,2)):=by
  rw[lY,<-ab,<-ho,hm,ac];exact Lh rfl
 have Zj:Hid (∀b d z j,w.heap.size<=j->VN j m b d z->Bw w b->r1=true->P (.returned (.tuple #[.agg (bJ m.n m.a d z),.int .i64 N])) b):=by
  refine Lh (λb d z j j0 Y j2 j3=>?_);rw[hP,YI.out,if_pos j3];exact⟨d,z,rfl,Y.1,Y.2.1,j2,λa n c e=>by have:=Y.2.2 a n c e;omega⟩
 have al:Hid (∀b,Calls prog 191 #[.int .i64 v,.int .i64 1099511627776] b (λe ap=>e=.returned (.bool r1)/\ap=b)):=by
  rw[ab];exact Lh (λb=>rE b v _ (by decide))
 obtain⟨VQ,Yi⟩:=Nm (Value.agg q.cells);obtain⟨VA,af⟩:=Nm (Value.agg (bJ x.n x.a l r));have ar:Hid (∀b,Calls prog 254 #[VQ,.int .i64 v] b (KE b o)):=by
  rw[ho,Yi];exact Lh (λb=>SA b q v)
 have au:Hid (∀b d z,Bw w b->bC b d o.top->dN z o.u o.v->Calls prog 223 #[VQ,VA,.agg (bJ o.n o.a d z)] b (kT b m N)):=by
  rw[hm,ac,Yi,af];refine Lh (λb d z D Y j2=>zS b q x o l r d z (Z.below D) Y k1 j2 ak ?_);rw[ho,vY];simp only
  split <;> simp
 obtain⟨w1,s⟩:=Nm (((w.alloc (.cells q.cells 23)).alloc (.cells (bJ x.n x.a l r) 120)).alloc (.cells zeroC 120));obtain⟨F,XW⟩:=Nm (w.heap.size);obtain⟨O,ag⟩:=Nm (w.heap.size+1);obtain⟨j,ah⟩:=Nm (w.heap.size+2);have ai:(w.alloc (.cells q.cells 23)).heap.size=w.heap.size+1:=bg w _;have I:((w.alloc (.cells q.cells 23)).alloc (.cells (bJ x.n x.a l r) 120)).heap.size=w.heap.size+2:=by rw[bg,bg]
 have H1:Hid (CG w F O j q x l r w1):=by
  have h:=rG w q x.n x.a l r;have D:=(Below.refl _ ((w.alloc (.cells q.cells 23)).alloc (.cells (bJ x.n x.a l r) 120))).alloc (bfx _) (.cells zeroC 120);rw[<-s]at D;have hz:dA w1 j 0 0 bM dC:=by rw[s,ah,<-I];exact bg5 _ _
  rw[XW,ag];exact Lh ⟨⟨by omega,by omega,by omega⟩,h.1.below D,h.2.1.below D,hz,h.2.2.trans (D.mono h.2.2.size)⟩
 clear hP Z k1 ak ab hm ac ho;obtain⟨S,size,E,U,agg,kq⟩:=q;obtain⟨n1,a1,l1,u1,v1⟩:=x;have Zi:Hid (VQ=.agg #[.int .i64 S,.int .i64 size,.int .i64 E,.int .i64 U,.int .i64 agg,.int .i64 kq]):=Lh Yi;have OU:Hid (VA=.agg #[.int .i64 n1,.int .i64 a1,l,r]):=Lh af;clear Yi af;obtain⟨Q,hQ⟩:=Nm (bu.mk S size E U agg kq);obtain⟨X,hX⟩:=Nm (fP.mk n1 a1 l1 u1 v1);have am:Hid (∀b,dB b F Q->D6 b F S size E U agg kq):=by
  rw[hQ];exact Lh (λb h=>h.d6)
 have YO:Hid (∀b,dA b O X.n X.a l r->D4 b O n1 a1 l r):=by
  rw[hX];exact Lh (λb h=>h.d4)
 rw[<-hQ,<-hX]at H1 YI ae;simp only at s I;clear hQ hX;unfold bu.cells at s ai I ⊢;unfold zeroC at s;unfold bJ at s I ⊢;simp only[bM,dC]at s ai I ⊢;go_enter func224,ntmps224;go_upto_region 1 with fail;rw[<-s,<-ah,<-ag,<-XW];clear s XW ag ah ai I;go_wp2_with fail;refine(al.out w1).mono ?_;rintro e w2 ⟨rfl,aB⟩;subst w2;clear al;dsimp only
 cases r1 with
 | false=>
  have hq:lY Q X v=(dY,2):=by rw[YI.out];simp
  go_upto_region 2 with fail;refine bg4 ?_
  iterate 3 go_step
  refine bg6 rfl _ _ _ rfl j zeroC rfl rfl 120 zeroC H1.out.2.2.2.1 bW rfl (kJ rfl rfl) ?_;obtain⟨wy,aj⟩:=Nm (w1.setRow j zeroC);have HZ:Hid (dA wy j 0 0 bM dC/\P (.returned (.tuple #[.agg #[.int .i64 0,.int .i64 0,.slice none 0 0,.complex .f64 0 0],.int .i64 2])) wy):=by
   have hg:=bD w1 j zeroC;obtain⟨h0,Z,h2,h3,h4⟩:=H1.out;rw[aj];exact Lh ⟨h3.reset _ _ _ _,ae.out _ 2 (h4.trans (bQ hg h0.1 h4.size)) hq⟩
  rw[<-aj];clear aj hq;go_wp2_with fail;exact bodyPost_ret (v:=.tuple #[.agg zeroC,.int .i64 2]) ((bI (p:=6) (u:=7) (ty:=120) rfl _ _ j 120 zeroC (0,0) _ rfl HZ.out.1 underlying120 rfl bW).trans rfl) rfl HZ.out.2
 | true=>
 have av:Hid (Xt w F O j Q X l r m 0 w1.drew):=Lh (H1.out.below (Below.refl _ w1).drew)
 have oG:Hid (∀k b,Xt w F O j Q X l r m k b->dB b F Q):=Lh (λk b h=>match k,h with
  | 0,h=>h.2.1
  | 1,h=>h.2.1
  | 2,h=>h.2.1
  | _+3,⟨_,_,_,_,_,h,_⟩=>h)
 have IB:Hid (∀k b,Xt w F O j Q X l r m k b->dA b O X.n X.a l r):=Lh (λk b h=>match k,h with
  | 0,h=>h.2.2.1
  | 1,h=>h.2.2.1
  | 2,h=>h.2.2.1
  | _+3,⟨_,_,_,_,_,_,h⟩=>h)
 have aw:Hid (w.heap.size<=j):=Lh H1.out.1.1;clear H1;go_upto_region 3 with fail;refine wp_region_skip_frame (λi=>([]:List Nat).contains i) (by kernel_rfl) [none,none,none,none,some 0,some 1,none,none,some 2,none] [4,5,8] (V4 (VQ::VA::VQ::([.int .i64 v,undef,undef,undef,.int .i64 N,undef,.int .i64 N]:List Value)) 4 (λk b v=>k=1->∃d z,v=.agg (bJ o.n o.a d z)/\bC b d o.top/\dN z o.u o.v) 5 (λk b v=>2<=k/\∃d z,v=.tuple #[.agg (bJ m.n m.a d z),.int .i64 N]/\(k=2->VN j m b d z)) 6 (λk b v=>2<=k/\∃d z,v=.agg (bJ m.n m.a d z)/\(k=2->VN j m b d z)) 99 (λ_ _ _=>True)) (Xt w F O j Q X l r m) (λw b=>Bw w b) (wP _ (λk w b v h ha hk=>by obtain⟨d,z,Z,h2,h3⟩:=ha hk;exact⟨d,z,Z,h2.below h,h3⟩) (λk w_ b v h ha=>by obtain⟨hk,d,z,Z,h2⟩:=ha;exact⟨hk,d,z,Z,λe=>⟨(h2 e).1.below h,(h2 e).2⟩⟩) (λk w_ b v h ha=>by obtain⟨hk,d,z,Z,h2⟩:=ha;exact⟨hk,d,z,Z,λe=>⟨(h2 e).1.below h,(h2 e).2⟩⟩) (λ_ _ _ _ _ h=>h)) (by kernel_rfl) (by kernel_rfl) (by kernel_rfl) av.out (λ_=>⟨rfl,rfl,rfl,rfl,rfl,rfl,rfl,rfl,rfl,rfl,trivial⟩) (λ_ h=>by simp at h) ?_ ?_
 ·refine ⟨?_,?_,?_,?_,?_,?_,?_,?_,?_,?_,trivial⟩<;>(first|(intro _ kk a b y XR R K hK;guard_hyp b:World)|intro _ a b y XR R K hK)<;>replace XR:=Lh XR<;>replace R:=Lh R
  ·have q3:=FaA XR 3 F 0;obtain⟨d0,d1,d2,d3,d4,d5⟩:=am.out _ (oG.out _ _ y);go_step;exact hK _ _ Zi.out.symm y Br
  ·have q4:=FaA XR 4 O 0;obtain⟨d0,d1,d2,d3⟩:=YO.out _ (IB.out _ _ y);go_step;exact hK _ _ OU.out.symm y Br
  ·have q3:=FaA XR 3 F 0;obtain⟨d0,d1,d2,d3,d4,d5⟩:=am.out _ (oG.out _ _ y);go_step;exact hK _ _ Zi.out.symm y Br
  have q2:=FiA XR 2 v;rotate_left
  ·have aC:=Ep a 14 VQ R.out.1;have aD:=Pi a 15 v R.out.2.1;have J:CG w F O j Q X l r b:=y;have aa:=Lh J;clear y J;go_step;refine(ar.out b).mono ?_;rintro e w3 ⟨d,z,rfl,k1,k2,D⟩;exact hK _ _ (λ_=>⟨d,z,rfl,k1,k2⟩) (aa.out.below D) (jE (.inl rfl) (.inr λu h=>absurd h.1 (by decide)) (.inr λu h=>absurd h.1 (by decide)) (.inr λ_ h=>h))
  ·obtain ⟨_,_,p2,_⟩:=R.out;have aE:=Ep a 12 VQ R.out.1;have aF:=Ep a 13 VA R.out.2.1;obtain⟨d,z,L,k1,k2⟩:=(show(1=1)->(∃d z,a.eval (.tmp 16)=.agg (bJ o.n o.a d z)/\bC b d o.top/\dN z o.u o.v)from p2) rfl;have aG:=ev_of L;have J:CG w F O j Q X l r b:=y;have ax:=Lh (au.out b d z J.2.2.2.2 k1 k2);have aa:=Lh J;clear p2 L y J;go_step;refine ax.out.mono ?_;rintro e w3 ⟨ay,z3,rfl,Y,j2,D,az⟩;exact hK _ _ ⟨by decide,ay,z3,rfl,λ_=>⟨Y,j2,λa n c e=>Nat.lt_of_lt_of_le aa.out.2.2.2.1.lt (az a n c e)⟩⟩ (aa.out.below D) (jE (.inr λu _ h=>absurd h (by decide)) (.inl rfl) (.inr λu h=>absurd h.1 (by decide)) (.inr λ_ h=>h))
  ·obtain ⟨p0,_⟩:=R.out;obtain⟨an,d,z,L,hz⟩:=(show 2<=kk/\∃d z,a.eval (.tmp 17)=.tuple #[.agg (bJ m.n m.a d z),.int .i64 N]/\(kk=2->VN j m b d z)from p0);have aA:=ev_of L;clear p0 L;go_step;exact hK _ _ ⟨an,d,z,rfl,hz⟩ y Br
  obtain ⟨p0,_⟩:=R.out;obtain⟨an,d,z,L,hz⟩:=(show 2<=kk/\∃d z,a.eval (.tmp 17)=.tuple #[.agg (bJ m.n m.a d z),.int .i64 N]/\(kk=2->VN j m b d z)from p0);have aA:=ev_of L;clear p0 L;rotate_left
  ·obtain ⟨p0,_⟩:=R.out;obtain⟨_,d,z,L,hz⟩:=(show 2<=2/\∃d z,a.eval (.tmp 18)=.agg (bJ m.n m.a d z)/\(2=2->VN j m b d z)from p0);obtain⟨Y,j2,j3⟩:=hz rfl;have q6:=((XR.out 6 rfl).trans (show _=Value.pointer (some ⟨j,0,none⟩)from rfl));obtain⟨g0,g1,g2,g3,g4⟩:CG w F O j Q X l r b:=y;clear p0 hz;refine wp_store_row _ (.tmp 6) (.tmp 18) rfl j (bJ m.n m.a d z) q6 L _ zeroC g3 bW rfl (gm Y j2) ?_;have hg:=bD b j (bJ m.n m.a d z);have l6:=g3.lt;exact hK _ _ rfl ⟨d,z,g3.reset _ _ _ _,⟨Y.grown hg (λa n c e _=>by have:=j3 a n c e;omega),j2,j3⟩,g4.trans (bQ hg g0.1 g4.size),(hg.block F g1.lt (by simp;omega)).trans g1,g2.grown hg (by simp;omega)⟩ (jE (.inr λu _ h=>absurd h (by decide)) (.inr λu h=>⟨by decide,h.2.imp λd h=>h.imp λz h=>⟨h.1,λe=>absurd e (by decide)⟩⟩) (.inr λu h=>⟨by decide,h.2.imp λd h=>h.imp λz h=>⟨h.1,λe=>absurd e (by decide)⟩⟩) (.inr λ_ h=>h))
  have aH:=Pi a 19 N R.out.1;rotate_left
  all_goals(go_step;exact hK _ _ rfl y Br)
 intro vs M y ao hV
 match vs,ao,hV with
 | [v0,v1,v2,v3,v4,v5,v6,v7,v8,v9],_,hV=>
  obtain rfl:v9=.int .i64 N:=hV 9 7 v9 rfl rfl;obtain⟨d,z,hr,L,D,_⟩:∃d z,dA M j m.n m.a d z/\VN j m M d z/\Bw w M/\_:=y;have HZ:Hid (dA M j m.n m.a d z/\P (.returned (.tuple #[.agg (bJ m.n m.a d z),.int .i64 N])) M):=Lh ⟨hr,Zj.out M d z j aw.out L D rfl⟩;clear hV hr L D;simp only[putsL,bf7,bf1];simp only[Act.put,bfw,bfu,bfv];go_wp2_with fail;exact bodyPost_ret (v:=.tuple #[.agg (bJ m.n m.a d z),.int .i64 N]) ((bI (p:=6) (u:=7) (ty:=120) rfl _ _ j 120 (bJ m.n m.a d z) (0,0) _ rfl HZ.out.1 underlying120 rfl bW).trans rfl) rfl HZ.out.2
def lF(q:bu)(x:fP):List Int:=
 if x.rightB q=true/\x.n≠0 then (if q.agg=1 then [x.n]else if q.agg=5 then [Dt x.a x.n]else if q.agg=6 then x.top else if q.agg=7 then [x.u,x.v]else [x.a])else []
def Fq(w:World)(l:List Int)(e:Ending)(w':World):Prop:=∃tv,e=.returned tv/\bC w' tv l/\Bw w w'/\∀a n c,tv=.slice (some a) n c->w.heap.size<=a.block
theorem bC.cell1 {w:World} {g:Nat} {x:Int}(h:w.heap[g]? =some (.cells #[.int .i64 x] 3 (0,0))):bC w (.slice (some ⟨g,0,none⟩) 1 1) [x]:=by
 refine⟨_,1,rfl,bfx _,.inr ⟨g,0,rfl,.inr ⟨_,h⟩,λi y a=>?_⟩⟩
 match i,a with
 | 0,a=>
  simp only[bgp,bf5]at a;subst a;rw[cell_of_row _ _ _ _ _ _ h];rfl
 | i+1,a=>simp at a
theorem bC.cell2 {w:World} {g:Nat} {x y:Int}(h:w.heap[g]? =some (.cells #[.int .i64 x,.int .i64 y] 3 (0,0))):bC w (.slice (some ⟨g,0,none⟩) 2 2) [x,y]:=by
 refine⟨_,2,rfl,bfx _,.inr ⟨g,0,rfl,.inr ⟨_,h⟩,λi z a=>?_⟩⟩
 match i,a with
 | 0,a=>
  simp only[bgp,bf5]at a;subst a;rw[cell_of_row _ _ _ _ _ _ h];rfl
 | 1,a=>
  simp only[List.getElem?_cons_succ,bgp,bf5]at a;subst a;rw[cell_of_row _ _ _ _ _ _ h];rfl
 | i+2,a=>simp at a
theorem MX {q:bu} {x:fP}(h:x.rightB q=true):x.top.length<=8:=(gq h).2.2.2.1
theorem KL(w:World)(q:bu)(x:fP)(s y:Value)(h1:bC w s x.top)(k1:dN y x.u x.v)(L:x.top.length<=1000000):
  Calls prog 225 #[.agg q.cells,.agg (bJ x.n x.a s y)] w (Fq w (lF q x)):=by
 obtain⟨P,R⟩:=Nm (Fq w (lF q x));rw[<-R];obtain⟨r1,E⟩:=Nm (x.rightB q);have ae:Hid (∀b,Bw w b->lF q x=[]->P (.returned (.slice none 0 0)) b):=by
  refine Lh (λb d M=>?_);rw[R,M];exact⟨_,rfl,bC.nil _,d,λ_ _ _ h=>by cases h⟩
 have S:Hid (∀b n,Bw w b->lF q x=[n]->P (.returned (.slice (some ⟨b.heap.size,0,none⟩) 1 1)) (b.alloc (.cells #[.int .i64 n] 3))):=by
  refine Lh (λb n d M=>?_);rw[R,M];exact⟨_,rfl,bC.cell1 (bg5 b _),d.trans (((Below.refl _ b).alloc (bfx _) _).mono d.size),λa k c h=>by cases h;exact d.size⟩
 have Eh:Hid (∀b n m,Bw w b->lF q x=[n,m]->P (.returned (.slice (some ⟨b.heap.size,0,none⟩) 2 2)) (b.alloc (.cells #[.int .i64 n,.int .i64 m] 3))):=by
  refine Lh (λb n m d M=>?_);rw[R,M];exact⟨_,rfl,bC.cell2 (bg5 b _),d.trans (((Below.refl _ b).alloc (bfx _) _).mono d.size),λa k c h=>by cases h;exact d.size⟩
 have OT:Hid (∀b U,bC b U x.top->Bw w b->(∀a n c,U=.slice (some a) n c->w.heap.size<=a.block)->lF q x=x.top->P (.returned U) b):=by
  refine Lh (λb U hI d hN M=>?_);rw[R,M];exact⟨U,rfl,hI,d,hN⟩
 have F:Hid (∀b,Bw w b->Calls prog 140 #[.agg q.cells,.agg #[.int .i64 x.n,.int .i64 x.a,s,y]] b (Below0 b (.bool r1))):=by
  rw[E];exact Lh (λb h=>kM b q x s y (h1.below h) k1 L)
 have HF:Hid (r1=true->q.rightB=true/\(0<=x.n/\x.n<=1073741824)/\(-4398046511104<=x.a/\x.a<=4398046511104)):=Lh (λe=>by
  obtain⟨f1,f2,f3,_⟩:=gq (E.symm.trans e);exact⟨f1,f2,f3⟩)
 have ZC:Hid (∀b,Bw w b->Calls prog 42 #[s] b (λe I=>∃Y,e=.returned Y/\bC I Y x.top/\Bw b I/\∀a n c,Y=.slice (some a) n c->b.heap.size<=a.block)):=Lh (λb h=>vT b s x.top (h1.below h) L);have eu:Hid (∀b,Calls prog 197 #[y] b λe I=>e=.returned (.tuple #[.int .i64 x.u,.int .i64 x.v])/\I=b):=Lh (λb=>QV b y x.u x.v k1);have z:Hid (lF q x=if r1=true/\x.n≠0 then (if q.agg=1 then [x.n]else if q.agg=5 then [Dt x.a x.n]else if q.agg=6 then x.top else if q.agg=7 then [x.u,x.v]else [x.a])else []):=by
  rw[lF,<-E];exact Lh rfl
 obtain⟨D,J,l1,u1,v1⟩:=x;simp only at F S OT HF ZC eu z ⊢;obtain⟨Z,r⟩:=Nm ((w.alloc (.cells q.cells 23)).alloc (.cells (bJ D J s y) 120));obtain⟨qb,XW⟩:=Nm (w.heap.size);obtain⟨b1,N⟩:=Nm (w.heap.size+1);have aa:(w.alloc (.cells q.cells 23)).heap.size=w.heap.size+1:=bg w _;obtain⟨V,hV⟩:=Nm (lF q ⟨D,J,l1,u1,v1⟩);rw[<-hV]at ae S Eh OT z;obtain⟨Q,hQ⟩:=Nm q;have H1:Hid (dB Z qb Q/\dA Z b1 D J s y/\Bw w Z):=by
  have h:=rG w q D J s y;rw[r,XW,N,hQ];exact Lh h
 clear R h1 k1 L E hV;obtain⟨ab,size,O,ac,agg,kq⟩:=q;have Yy:Hid (∀b,dB b qb Q->D6 b qb ab size O ac agg kq):=by
  rw[hQ];exact Lh (λb h=>h.d6)
 clear hQ;unfold bu.cells at r aa F ⊢;unfold bJ at r ⊢;simp only at z HF;obtain⟨d0,d1,d2,d3,d4,d5⟩:=Yy.out Z H1.out.1;obtain⟨f0,f1,f2,f3⟩:=H1.out.2.1.d4;go_enter func225,ntmps225;go_upto_region 1 with fail;rw[<-r,<-N,<-XW];clear r XW N aa;go_wp2_with fail;refine(F.out Z H1.out.2.2).mono ?_;rintro e l ⟨rfl,d⟩;have p:Hid (dB l qb Q/\dA l b1 D J s y/\Bw w l):=by
  obtain⟨j1,j2,j3⟩:=H1.out;exact Lh ⟨j1.below d,j2.below d,Tb j3 d⟩
 clear d d0 d1 d2 d3 d4 d5 f0 f1 f2 f3 H1 F;dsimp only;obtain⟨d0,d1,d2,d3,d4,d5⟩:=Yy.out l p.out.1;obtain⟨f0,f1,f2,f3⟩:=p.out.2.1.d4
 cases r1 with
 | false=>
  have o:=Lh (ae.out l p.out.2.2 (by rw[z.out];simp))
  go_wp2_with fail;exact o.out
 | true=>
 by_cases hn:D=0
 ·subst hn;have o:=Lh (ae.out l p.out.2.2 (by rw[z.out];simp))
  go_wp2_with fail;exact o.out
 obtain⟨ai,⟨ad,af⟩,ag,ah⟩:=HF.out (by simp)
 have j:=Lh (bfy hn (bfy ad (bfy af (bfy ag ah))));clear HF ai ad af ag ah;have en:(D==0)=false:=by simpa using hn
 by_cases e1:agg=1
 ·subst e1;have o:=Lh (S.out l D p.out.2.2 (by rw[z.out];simp[j.out.1]))
  go_wp2_with fail;exact o.out
 have g1:(agg==1)=false:=by simpa using e1
 by_cases e5:agg=5
 ·subst e5;have o:=Lh (S.out l (Dt J D) p.out.2.2 (by rw[z.out];simp[j.out.1]))
  have HD:=Lh (PQ l J D ⟨j.out.2.2.2.1,j.out.2.2.2.2⟩ (by have:=j.out;omega))
  go_upto_region 7 with fail;refine bg4 ?_
  iterate 12 go_step
  refine wpList_plain rfl λK hK=>?_;go_step;refine HD.out.mono ?_;rintro e b ⟨rfl,aj⟩;subst b;refine hK _ _ ?_;clear hK
  iterate 6 go_step
  go_wp2_with fail;exact o.out
 have g5:(agg==5)=false:=by simpa using e5
 by_cases e6:agg=6
 ·subst e6;go_wp2_with fail;refine(ZC.out l p.out.2.2).mono ?_;rintro e w3 ⟨Y,rfl,hI,d,hN⟩;have o:=Lh (OT.out w3 Y hI (p.out.2.2.trans (d.mono p.out.2.2.size)) (λa n c e=>bgn p.out.2.2.size (hN a n c e)) (by rw[z.out];simp[j.out.1]))
  clear hI d hN;go_wp2_with fail;exact o.out
 have g6:(agg==6)=false:=by simpa using e6
 by_cases e7:agg=7
 ·subst e7;have o:=Lh (Eh.out l u1 v1 p.out.2.2 (by rw[z.out];simp[j.out.1]))
  go_wp2_with fail;refine(eu.out l).mono ?_;rintro e b ⟨rfl,aj⟩;subst b;dsimp only;go_wp2_with fail;exact o.out
 have g7:(agg==7)=false:=by simpa using e7
 have o:=Lh (S.out l J p.out.2.2 (by rw[z.out];simp[j.out.1,e1,e5,e6,e7]))
 go_wp2_with fail;exact o.out
structure bY where
 w:bf
 a:fP
 r:Int
deriving DecidableEq
def sH:bY:=⟨bF,dY,0⟩
structure df where
 mark:Int
 panes:List bY
deriving DecidableEq
structure dE where
 late:Bool
 item:ItemL
 w:bf
 r:Int
 v:List Int
def jK:df:=⟨-1,[]⟩
def gJ(l:List bY):List bf:=l.map bY.w
def BD(q:bu)(w:bf):Bool:=if q.kind=3 then decide (q.size<=w.hi-w.lo)else decide (w∈rX q w.key w.lo)
def jC(q:bu)(p:bY):Bool:=p.w.rightB && (BD q p.w && (decide (0<p.a.n) && p.a.rightB q))
def openB(q:bu)(p:bY)(mark:Int):Bool:=!kD q p.w mark && (decide (0<=p.r/\p.r<=1073741824) && (kG p.w mark==decide (0<p.r)))
def fG(q:bu)(l:List bY):Bool:=if q.kind=3 then decide (dM (gJ l))else decide ((gJ l).Pairwise bK)
def fQ(q:bu)(s:df):Bool:=
 q.rightB && (decide (-1<=s.mark/\s.mark<=1099511627776) && (decide (s.panes.length<=256) && (s.panes.all (λp=>jC q p && openB q p s.mark) && fG q s.panes)))
def nD(q:bu)(w:bf)(p:bY):Bool:=if q.kind=3 then dP p.w w else decide (p.w=w)
def fO(q:bu)(l:List bY)(w:bf):List bY:=l.filter (nD q w)
def pg(q:bu)(l:List bY)(w:bf):List bY:=l.filter λp=> !nD q w p
def dV(q:bu)(l:List bY)(w:bf):bf:=if q.kind=3 then became (gJ l) w else w
def CW:List bY->bY->List bY
 | [],p=>[p]
 | x::l,p=>if bK p.w x.w then p::x::l else x::CW l p
def ji(q:bu)(b:bf):List bY->fP × Int->fP × Int × Int
 | [],p=>(p.1,p.2,0)
 | o::l,p=>if (fD q p.1 o.a).2=0 then ji q b l ((fD q p.1 o.a).1,if o.w=b then o.r else p.2)else (dY,0,(fD q p.1 o.a).2)
def dK(q:bu)(b:bf)(gave:List bY)(v:Int):bY × Int:=
 if (ji q b gave (dY,0)).2.2=0 then
  (if (lY q (ji q b gave (dY,0)).1 v).2=0 then (⟨b,(lY q (ji q b gave (dY,0)).1 v).1,(ji q b gave (dY,0)).2.1⟩,0)else (sH,(lY q (ji q b gave (dY,0)).1 v).2))
 else (sH,(ji q b gave (dY,0)).2.2)
def lK(q:bu)(p:bY):dE:=⟨false,zeroI,p.w,p.r,lF q p.a⟩
def DF(x:ItemL):dE:=⟨true,x,bF,0,[]⟩
structure lh where
 panes:List bY
 outs:List dE
 late:Bool
 e:Int
def gy(p:bY)(mark:Int):bY:=if kG p.w mark=true then ⟨p.w,p.a,p.r+1⟩else p
def mO(q:bu)(mark v:Int)(c:lh)(w:bf):lh:=
 if kD q (dV q c.panes w) mark=true then c
 else if (dK q (dV q c.panes w) (fO q c.panes w) v).2≠0 then ⟨[],[],false,(dK q (dV q c.panes w) (fO q c.panes w) v).2⟩
 else if 1073741824<(gy (dK q (dV q c.panes w) (fO q c.panes w) v).1 mark).r then ⟨[],[],false,20⟩
 else ⟨CW (pg q c.panes w) (gy (dK q (dV q c.panes w) (fO q c.panes w) v).1 mark),c.outs++(if kG (dV q c.panes w) mark=true then [lK q (gy (dK q (dV q c.panes w) (fO q c.panes w) v).1 mark)]else []),false,0⟩
def dW(q:bu)(mark v:Int):List bf->lh->lh
 | [],c=>c
 | w::l,c=>if (mO q mark v c w).e=0 then dW q mark v l (mO q mark v c w)else mO q mark v c w
def zeroS:df:=⟨0,[]⟩
def jA(q:bu)(s:df)(x:ItemL):df × List dE × Int:=
 if (dW q s.mark x.value (rX q x.key x.time) ⟨s.panes,[],true,0⟩).e≠0 then (zeroS,[],(dW q s.mark x.value (rX q x.key x.time) ⟨s.panes,[],true,0⟩).e)
 else if (dW q s.mark x.value (rX q x.key x.time) ⟨s.panes,[],true,0⟩).late=true then (s,[DF x],0)
 else if 256<(dW q s.mark x.value (rX q x.key x.time) ⟨s.panes,[],true,0⟩).panes.length then (zeroS,[],30)
 else (⟨s.mark,(dW q s.mark x.value (rX q x.key x.time) ⟨s.panes,[],true,0⟩).panes⟩,(dW q s.mark x.value (rX q x.key x.time) ⟨s.panes,[],true,0⟩).outs,0)
def kN(t:Int)(p:bY):Bool:=decide (p.r=0) && kG p.w t
def je(t:Int)(p:bY):bY:=if kN t p=true then ⟨p.w,p.a,1⟩else p
def rO:List dE->dE->List dE
 | [],p=>[p]
 | x::l,p=>if zZ p.w x.w<0 then p::x::l else x::rO l p
def lX(l:List dE):List dE:=l.foldl rO []
def kQ(q:bu)(t:Int)(l:List bY):List dE:=(l.filter (kN t)).map λp=>lK q (je t p)
def lQ(q:bu)(t:Int)(l:List bY):List bY:=(l.map (je t)).filter λp=> !kD q p.w t
def jZ(q:bu)(s:df)(t:Int):df × List dE:=
 if t<=s.mark then (s,[])else (⟨t,lQ q t s.panes⟩,lX (kQ q t s.panes))
def stepS(q:bu)(s:df)(x:ItemL):df × List dE × Int:=
 if x.rightB=true then (if x.kind=1 then jA q s x else ((jZ q s x.time).1,(jZ q s x.time).2,0))else (zeroS,[],2)
structure kK where
 s:df
 outs:List dE
 n:Int
 e:Int
def lJ(q:bu):df->List dE->Int->List ItemL->kK
 | s,o,n,[]=>⟨s,o,n,0⟩
 | s,o,n,x::l=>if (stepS q s x).2.2=0 then lJ q (stepS q s x).1 (o++(stepS q s x).2.1) (n+1) l else ⟨s,o,n,(stepS q s x).2.2⟩
def jo(q:bu)(s:df)(l:List ItemL):kK:=if l≠[]/\fQ q s=false then ⟨s,[],0,2⟩else lJ q s [] 0 l
def dE.rightB(o:dE):Bool:=
 if o.late=true then o.item.rightB && (ku o.w bF && (decide (o.r=0) && decide (o.v.length=0)))
 else sameI o.item zeroI && (o.w.rightB && (decide (1<=o.r) && (decide (o.r<=1073741824) && (decide (1<=o.v.length) && decide (o.v.length<=8)))))
def N9:List (BitVec 8):=[108,97,116,101,32]
def lS:List (BitVec 8):=[32,35]
def numsL(v:List Int):List (BitVec 8):=v.flatMap λn=>bBlank++itoaL n
def dE.text(o:dE):List (BitVec 8):=if o.late=true then N9++o.item.told else o.w.told++lS++itoaL o.r++numsL o.v
def dE.told(o:dE):List (BitVec 8):=if o.rightB=true then o.text else []
def dE.bytes(o:dE):List (BitVec 8):=if o.late=true then numberL 0++o.item.bytes else numberL 1++o.w.bytes++numberL o.r++numberL o.v.length++o.v.flatMap signedL
def vk(l:List dE):List ItemL:=(l.filter (·.late)).map (·.item)
theorem MK(v:List Int)(x:Int):numsL (v++[x])=numsL v++(bBlank++itoaL x):=by simp[numsL]
theorem Me(l:List dE)(x:dE):vk (l++[x])=vk l++(if x.late=true then [x.item]else []):=by
 simp only[vk,List.filter_append,bgl];cases h:x.late <;> simp[h]
end Go.Proofs.YtgfmbkoieacgoaaGreatDoor
