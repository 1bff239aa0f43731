/-
  21.
-/
import Derived.Test.YtjeeghafachebaaGreatU18
import Derived.Test.YtjeeghafachebaaGreatU19
import Derived.Test.YtjeeghafachebaaGreatU20
set_option maxRecDepth 100000
set_option maxHeartbeats 2000000
namespace Go.Proofs.YtjeeghafachebaaGreat
open Go Go.RowKit Go.Proofs.Tryz
theorem Bd {w:World} {v:Value} {l:List Int}(h:bA w v l):∃a c,v=.slice a l.length c/\l.length<=c/\((a=none/\l=[])∨∃b o,a=some ⟨b,o,none⟩/\∀j u,(kG l)[j]? =some u->w.cell? ⟨b,o+j,none⟩=some u):=by
 obtain⟨a,c,e,hc,h⟩:=h;refine⟨a,c,e,hc,?_⟩;rcases h with h | ⟨b,o,h,_,h'⟩
 ·exact .inl h
 refine .inr ⟨b,o,h,λj u hj=>?_⟩;rw[kG,bgf]at hj
 cases hx:l[j]? with
 | none=>rw[hx]at hj;cases hj
 | some x=>
  rw[hx]at hj;cases hj
  exact h' j x hx
theorem Dg(l:List Int):∀u∈kG l,u.oneCell'=true:=by
 intro u hu;obtain⟨x,_,rfl⟩:=List.mem_map.1 hu;rfl
theorem zO(w:World)(v:Value)(l:List Int)(h:bA w v l)(hn:l.length<=1000000):
  Calls prog 34 #[v] w (λe w'=>∃v',e=.returned v'/\bA w' v' l/\Bw w w'/\∀a n c,v'=.slice (some a) n c->w.heap.size<=a.block):=by
 obtain⟨a,c,rfl,hc,h1⟩:=Bd h;clear h;rcases h1 with⟨rfl,rfl⟩ | ⟨b,o,rfl,h⟩
 ·refine(AnyE.slices_Clone_nil Tryz.NM _ c w).mono ?_;rintro e w' ⟨rfl,hw⟩;subst w';exact⟨_,rfl,bA.nil w,Below.refl _ _,λ_ _ _ h=>by cases h⟩
 obtain⟨i,hi,hz0,hz1,hz2⟩:=info_parts (P:=prog) (e:=3) (z:=.int .i64 0) (size:=1) (bytes:=8) (by kernel_rfl)
 refine(AnyE.slices_Clone Tryz.NM i _ 1 8 hi hz0 hz1 hz2 rfl (by decide) sizeOf3 b o l.length c (kG l) w (by rw[gT];omega) (by unfold maxLen;omega) (by omega) h (Dg l)).mono ?_
 rintro e w' ⟨v',rfl,k1,_,k3⟩;refine⟨v',rfl,?_,k3,λa n c e=>?_⟩
 rotate_left
 ·rcases k1.2 with⟨h1,_⟩ | ⟨g,cap,cur,h1,hb,_⟩
  ·rw[h1]at e;cases e
  rw[h1]at e;cases e
  exact hb
 have h1:gF w' w.heap.size v' l:=by
  unfold gF Own;rw[gT];exact k1
 exact h1.ints
theorem Gm(w:World)(x y:Int):Calls prog 156 #[.int .i64 x,.int .i64 y] w (λe w'=>e=.returned (.int .i64 (lC y x))/\w'=w):=by
 have HC:=Lh (rZ w y x);obtain⟨r,hr⟩:=Nm (lC y x);rw[<-hr]at HC ⊢;clear hr;go_enter func156,ntmps156;go_wp2_with(fail);refine HC.out.mono ?_;rintro e w' ⟨rfl,hw⟩;subst w';dsimp only;go_wp2_with(fail);go_ret;exact⟨rfl,rfl⟩
theorem tN(x y:Int):ltOf (λx y=>lC y x) x y=decide (y<x):=by
 unfold ltOf;refine decide_eq_decide.2 ?_;show lC y x<0↔y<x;rcases nM y x with⟨h,e⟩ | ⟨h,e⟩ | ⟨h,e⟩ <;> omega
theorem PE:Sort.SWO (ltOf (λx y:Int=>lC y x)) where
 irrefl x:=by rw[tN];exact bfq (by omega)
 trans x y z h1 h2:=by
  rw[tN]at*;have:=bgh h1;have:=bgh h2;exact bfr (by omega)
 ntrans x y z h1 h2:=by
  rw[tN]at*;have:=of_decide_eq_false h1;have:=of_decide_eq_false h2;exact bfq (by omega)
theorem LQ(l:List Int)(cur:Array Value)(h:l.length<=cur.size):(Sort.putCells (Value.int .i64) 0 l.toArray cur).toList.take l.length=kG l:=by
 apply List.ext_getElem?;intro k;rw[List.getElem?_take];by_cases hk:k<l.length
 ·rw[if_pos hk,Array.getElem?_toList];have h1:k<(Sort.putCells (Value.int .i64) 0 l.toArray cur).size:=by
   simp[Sort.putCells];omega
  rw[bgm h1,kG,bgf,bfs hk];simp[Sort.putCells,hk]
 rw[if_neg hk,bgk (by rw[gT];omega)]
def F9(w:World)(base:Nat)(v:Value)(l:List Int)(e:Ending)(w':World):Prop:=
 e=.returned (.tuple #[])/\∃l',l'.Perm l/\jA l'/\gF w' base v l'/\w.grownBy w' v.ownBlock
theorem ML(w:World)(base:Nat)(v:Value)(l:List Int)(hO:gF w base v l)(hn:l.length<=1000000):
  Calls prog 155 #[v,.func (.func 156) #[] #[]] w (F9 w base v l):=by
 have OC:=hO;have hO2:=hO;unfold gF Own at hO2;rw[gT]at hO2;by_cases h0:l.length=0
 ·obtain rfl:l=[]:=bg3 h0;obtain⟨a,c,rfl,_,_⟩:=hO.ints;refine(AnyF.slices_SortFunc_none { Tryz.Qz with } a c (.func (.func 156) #[] #[]) w).mono ?_
  rintro e w' ⟨rfl,hw⟩;subst w';exact⟨rfl,[],List.Perm.nil,List.Pairwise.nil,OC,⟨rfl,rfl,rfl,bfx _,λ_ _ _=>rfl⟩⟩
 obtain⟨g,c,rfl,hb,hg⟩:=World.ownsRow.form hO2 (by omega)
 obtain⟨cur,SQ,hcs,htk,hnc,hcm⟩:∃cur:Array Value,w.heap[g]? =some (.cells cur 3 (0,0))/\cur.size=c*1/\cur.toList.take (l.length*1)=kG l/\l.length<=c/\c<=maxLen:=by
  rcases hO2.2 with⟨h',_⟩ | ⟨g',cap',cur,h',_,hg,hnc,hcm,hcs,htake⟩
  ·simp at h'
  simp only[Value.slice.injEq,bf5,Addr.mk.injEq,and_true]at h';obtain⟨rfl,_,rfl⟩:=h';exact⟨cur,hg,hcs,htake,hnc,hcm⟩
 have hH:Sort.Holds (Value.int .i64) w g 0 l.toArray:=by
  intro j hj;have hjl:j<l.length:=by simpa using hj
  refine⟨?_,frozen_of_row w g (0+j) cur _ SQ⟩;rw[bgu,World.ownsRow.cellAt hO2 j (by omega),kG,bgf,bfs hjl,getElem!_pos l.toArray j hj]
  simp
 have hcmp:CmpLays1 prog 156 #[] (Value.int .i64) (λx y:Int=>lC y x) g 0 l.toArray.size w:=by
  intro m os dk _ x y;refine(Gm _ x y).mono ?_;rintro e w' ⟨rfl,hw⟩;exact⟨rfl,0,#[],by rw[hw];simp[Sort.grow,World.drewN]⟩
 have eg:∀args w,(callFunc 156 args).run prog w=.ok (.enter 156 args) w:=enters_of func156 (by kernel_rfl) rfl
 have hcon:=Any.slices_SortFunc Tryz.Qz (Value.int .i64) (λ_=>rfl) (λx y:Int=>lC y x) PE 156 #[] g 0 c l.toArray w eg hcmp hH hg (by simp;omega)
 refine hcon.mono ?_;rintro e w' ⟨rfl,d',n,os,hp,hs,rfl⟩;obtain⟨p1,_,p3⟩:=hp;have hds:d'.size=l.length:=by rw[p1];rfl
 have hperm:d'.toList.Perm l:=by
  have e1:d'.extract 0 l.toArray.size=d':=by rw[<-p1];simp
  have e2:l.toArray.extract 0 l.toArray.size=l.toArray:=by simp
  rw[e1,e2]at p3;exact p3
 have hrow:(sortWorld (Value.int .i64) w g 0 n d' os).heap[g]? =some (.cells (Sort.putCells (Value.int .i64) 0 d' cur) 3 (0,0)):=by
  unfold sortWorld Sort.grow Sort.putRow Sort.mapBlock Sort.ahead;simp only;rw[Array.getElem?_append,if_pos (by simpa using hg),Array.getElem?_modify,if_pos rfl,SQ]
  rfl
 refine⟨rfl,d'.toList,hperm,?_,?_,⟨rfl,rfl,rfl,?_,λk hk hne=>?_⟩⟩
 ·unfold jA;rw[bgr];intro i j hi hj hij;rw[bgq]at hi hj;have h:=hs i j (bgi _) hij (by rw[hds]at hj;simpa using hj)
  rw[tN,decide_eq_false_iff_not,getElem!_pos d' i hi,getElem!_pos d' j hj]at h;simp only[Array.getElem_toList];omega
 ·have hl':d'.toList.length=l.length:=hperm.length_eq;unfold gF Own;rw[gT];refine⟨by rw[gT];omega,.inr ⟨g,c,_,by rw[hl'],hb,hrow,by omega,hcm,by simp[Sort.putCells,hcs],?_⟩⟩
  have:=LQ d'.toList cur (by rw[hl',hcs];omega)
  rw[Nat.mul_one];simpa using this
 ·unfold sortWorld Sort.grow Sort.putRow Sort.mapBlock Sort.ahead;simp
 have OM:g≠k:=λe=>hne (by rw[<-e];rfl)
 unfold sortWorld Sort.grow Sort.putRow Sort.mapBlock Sort.ahead;simp only;rw[Array.getElem?_append,if_pos (by simpa using hk),Array.getElem?_modify,if_neg OM]
theorem Gh(w:World)(base:Nat)(v:Value)(l1 l2:List Int)(hown:gF w base v l1)(u:Value)(h:bA w u l2)(hl:l1.length+l2.length<=1000000)(hb:base<=w.heap.size)(ty:TypeId):
  ∃v' w',(Builtin.append_ #[48,48] ty #[v,u]).run prog w=.ok v' w'/\gF w' base v' (l1++l2)/\w.grownBy w' v.ownBlock/\(v'.ownBlock=v.ownBlock∨v'.ownBlock=some w.heap.size):=by
 obtain⟨i,hi,hz,hs,hby⟩:=info_parts (P:=prog) (e:=3) (z:=.int .i64 0) (size:=1) (bytes:=8) (by kernel_rfl)
 have hown':=hown;unfold gF Own at hown';rw[gT]at hown';obtain⟨a,c,rfl,hc,h1⟩:=Bd h;clear h;rcases h1 with⟨rfl,rfl⟩ | ⟨b,o,rfl,h⟩
 ·refine⟨v,w,?_,by simpa using hown,⟨rfl,rfl,rfl,bfx _,λ_ _ _=>rfl⟩,.inl rfl⟩
  rcases hown'.2 with⟨hv,hn⟩ | ⟨g,cap,cur,hv,_,hg,hle,_⟩
  ·rw[hv];simp[Builtin.append_,run_underlying underlying48,sizeOf,typeInfo,hi,Builtin.lenOf,Builtin.firstCells]
  rw[hv];simp[Builtin.append_,run_underlying underlying48,sizeOf,typeInfo,hi,Builtin.lenOf,Builtin.firstCells,storeCells,loadCells,hle]
 obtain⟨v',w',k1,k2,k3,_,k5⟩:=run_append_own_at (P:=prog) w base 48 ty 3 i _ 1 8 underlying48 hi hz hs hby rfl (by decide) v l1.length (kG l1) hown' ⟨b,o,none⟩ l2.length c (kG l2) (by rw[gT];omega) (λj u hj=>by rw[addr_add];exact h j u hj) (Dg l2)
  (by unfold maxLen;omega) (by omega) hb
 refine⟨v',w',k1,?_,k3,k5⟩;unfold gF Own;rw[gT,bft,show kG (l1++l2)=kG l1++kG l2 by simp[kG]]
 exact k2
theorem jQ {ops:Array Oper} {rest:List Oper} {o:Oper} {a:Act} {Q:Exit->Act->World->Prop} {w:World}(hgd:o.guard=none)(s x:Operand)
  (ho:o.op=.call { callee:=.builtin .append,args:=#[s,x],argTypes:=#[48,48] }) (base:Nat) (v:Value) (l1 l2:List Int) (hs:a.eval s=v) (hown:gF w base v l1)
  (u:Value) (hx:a.eval x=u) (hm:bA w u l2) (hl:l1.length+l2.length<=1000000) (hb:base<=w.heap.size)
  (h:∀v' w',gF w' base v' (l1++l2)->w.grownBy w' v.ownBlock->wpList prog ops Q rest (a.put o.dst v') w'):wpList prog ops Q (o::rest) a w:=by
 refine wpList_plain hgd λK hK=>?_;obtain⟨v',w',hr,h2,h3,h4⟩:=Gh w base v l1 l2 hown u hm hl hb o.type;unfold Oper.wp execOp;simp only[ho,resolve,invoke,builtin,Sem.run_bind,Sem.run_pure,Result.andThen_ok,bgb,bgc,bge,hs,hx,hr];exact hK _ _ (h v' w' h2 h3)
theorem gF.nil(w:World)(base:Nat):gF w base (.slice none 0 0) []:=Own.nil _ _ _
theorem gF.lt {w:World} {base:Nat} {v:Value} {l:List Int}(h:gF w base v l) {k:Nat}(hk:v.ownBlock=some k):base<=k/\k<w.heap.size:=Own.lt h hk
theorem gF.far {w w':World} {base:Nat} {v:Value} {l:List Int}(h:gF w base v l)(hB:Bw w w'):gF w' base v l:=Own.far h hB
theorem gF.below {w w':World} {base:Nat} {v:Value} {l:List Int}(h:gF w base v l)(hg:w.grownBy w' v.ownBlock)(hb:base<=w.heap.size):Below base w w':=
 ⟨hg.os,hg.tape,hg.output,hg.size,λk hk=>hg.block k (by omega) (λhe=>by have:=h.lt he.symm;omega)⟩
theorem LW(w:World)(n:Nat)(hn:n<=1000000):Calls prog 160 #[.slice none 0 0,.int .i64 (n:Int)] w (λe w'=>∃v,e=.returned v/\gF w' w.heap.size v []/\Bw w w'):=by
 by_cases h0:n=0
 ·subst h0;refine(Any8.slices_Grow_room Tryz.Qv none 0 0 0 w (bfx _) (by decide) (by decide) (by decide)).mono ?_
  rintro e w' ⟨rfl,hw⟩;subst w';exact⟨_,rfl,gF.nil w _,Br⟩
 obtain⟨i,hi,hz,hs,hby⟩:=info_parts (P:=prog) (e:=3) (z:=.int .i64 0) (size:=1) (bytes:=8) (by kernel_rfl)
 refine(Any8.slices_Grow_grow Tryz.Qv i _ hi hz (by omega) none 0 0 n [] w (bfx _) (by omega) (by rw[hby];omega) (by omega) (by simp) (λ_=>rfl) (λa h=>by cases h)).mono ?_
 rintro e w' ⟨rfl,rfl⟩;have hge:=grownCap_ge w (0+n) 0 (Tryz.xP.t 25);have hle:=grownCap_le_maxLen w (0+n) 0 (Tryz.xP.t 25) (by unfold maxLen;omega)
 have hB:Bw w (w.drew.alloc (.cells (([]:List Value).toArray++Builtin.zeroCells (Value.int .i64 0).cells (0+n-0)++Builtin.zeroCells (Value.int .i64 0).cells (grownCap w (0+n) 0 3-(0+n))) 3)):=
  ((Below.refl _ w).drew).alloc (bfx _) _
 refine⟨_,rfl,?_,hB⟩;refine⟨rfl,.inr ⟨w.heap.size,_,_,rfl,bfx _,bg5 w.drew _,bgi _,hle,?_,by simp[kG]⟩⟩
 simp only[bgu]at hge;simp[Builtin.zeroCells,Value.cells];omega
def DN(w:World)(b:Nat)(t1 t2:Value):Prop:=w.heap[b]? =some (.cells #[t1,t2] 48 (0,0))
theorem DN.lt {w:World} {b:Nat} {t1 t2:Value}(h:DN w b t1 t2):b<w.heap.size:=(Array.getElem?_eq_some_iff.1 h).1
theorem DN.below {w w':World} {b:Nat} {t1 t2:Value}(h:DN w b t1 t2)(hB:Bw w w'):DN w' b t1 t2:=(hB.block b h.lt).trans h
def yP {α:Type}(x y:α)(j:Nat):α:=if j=0 then x else y
theorem DN.cell {w:World} {b:Nat} {t1 t2:Value}(h:DN w b t1 t2) {j:Nat}(hj:j<2):w.cell? ⟨b,j,none⟩=some (yP t1 t2 j):=by
 rw[cell_of_row _ _ _ _ _ _ h];obtain rfl | rfl:j=0∨j=1:=by omega
 ·rfl
 rfl
def yA(l1 l2:List Int)(j:Nat):List Int:=if j=0 then []else if j=1 then l1 else l1++l2
theorem qN(l1 l2:List Int) {j:Nat}(hj:j<2):yA l1 l2 (j+1)=yA l1 l2 j++yP l1 l2 j:=by
 obtain rfl | rfl:j=0∨j=1:=by omega
 ·rfl
 rfl
def KE(w:World)(l1 l2:List Int)(s i:Value)(wr:World):Prop:=∃j:Nat,j<=2/\i=.int .i64 (j:Int)/\s=.int .i64 ((yA l1 l2 j).length:Int)/\wr=w
def KF(w:World)(l1 l2:List Int)(v i:Value)(wr:World):Prop:=∃j:Nat,j<=2/\i=.int .i64 (j:Int)/\gF wr w.heap.size v (yA l1 l2 j)/\Bw w wr
theorem zI(l1 l2:List Int)(j:Nat):(yA l1 l2 j).length<=l1.length+l2.length:=by
 unfold yA
 split
 ·simp
 split <;> simp
theorem Jv(w:World)(tb:Nat)(t1 t2:Value)(l1 l2:List Int)(hr:DN w tb t1 t2)(h1:bA w t1 l1)(h2:bA w t2 l2)(hn:l1.length+l2.length<=1000):
  Calls prog 154 #[.slice (some ⟨tb,0,none⟩) 2 2] w (λe w'=>∃v,e=.returned v/\gF w' w.heap.size v (l1++l2)/\Bw w w'):=by
 obtain⟨P,hP⟩:∃P:Ending->World->Prop,P=λe w'=>∃v,e=.returned v/\gF w' w.heap.size v (l1++l2)/\Bw w w':=⟨_,rfl⟩;rw[<-hP];have HP:Hid (∀w' v,gF w' w.heap.size v (l1++l2)->Bw w w'->P (.returned v) w'):=Lh (λw' v h1 h2=>by rw[hP];exact⟨v,rfl,h1,h2⟩)
 have HR:=Lh (bfy hr (bfy h1 h2));have HT:Hid (∀w' j,j<2->Bw w w'->bA w' (yP t1 t2 j) (yP l1 l2 j)/\w'.cell? ⟨tb,j,none⟩=some (yP t1 t2 j)):=by
  refine Lh (λw' j hj hB=>⟨?_,(hr.below hB).cell hj⟩);obtain rfl | rfl:j=0∨j=1:=by omega
  ·exact h1.below hB
  exact h2.below hB
 have HN:=Lh hn;clear hP hr h1 h2 hn;go_enter func154,ntmps154;go_wp2_with(fail);go_loopw[3,11] (KE w l1 l2) (λ_ i _=>2-(intOf i).toNat)
 case atStart=>exact⟨0,bgi _,rfl,rfl,rfl⟩
 case round=>
  obtain⟨j,hj,rfl,hs,hw⟩:=hrel;obtain rfl:w=wr:=hw.symm;obtain⟨S,hS⟩:=Nm ((yA l1 l2 j).length);rw[<-hS]at hs;subst hs;have hSb:S<=1000:=by rw[hS];exact bgn (zI l1 l2 j) HN.out
  have HS:=Lh hS;clear hS;by_cases hlt:j<2
  ·have hi0:(0:Int)<=(j:Int)/\(j:Int)<2:=by omega
   obtain⟨hI,hc⟩:=HT.out w j hlt Br;obtain⟨ta,tc,e,_,_⟩:=hI;obtain⟨K,hK⟩:=Nm ((yP l1 l2 j).length);have hKb:S+K<=1000:=by
    have:=zI l1 l2 (j+1);rw[qN l1 l2 hlt,bft,<-hK,<-HS.out]at this;exact bgn this HN.out
   rw[e,<-hK]at hc;have HZ:Hid (KE w l1 l2 (.int .i64 ((S:Int)+(K:Int))) (.int .i64 ((j:Int)+1)) w):=by
    refine Lh ⟨j+1,by omega,by go_num,?_,rfl⟩
    rw[qN l1 l2 hlt,bft,<-hK,<-HS.out]
    congr 1
   have HJ:=Lh hlt;have hneg:decide ((S:Int)+(K:Int)<0)=false:=bfq (by omega)
   clear e hK hlt hj;go_wp2_with(fail);go_roundw
   case rel=>exact HZ.out
   case measure=>have:=HJ.out;simp[intOf];omega
  obtain rfl:j=2:=by omega
  have HG:Hid (Calls prog 160 #[.slice none 0 0,.int .i64 (S:Int)] w (λe w'=>∃v,e=.returned v/\gF w' w.heap.size v []/\Bw w w')):=Lh (LW w S (by omega))
  clear hlt hj;rw[show((2:Nat):Int)=2 from rfl];go_wp2_with(fail);refine HG.out.mono ?_;rintro e w2 ⟨v,rfl,k1,k2⟩;have H2:=Lh (bfy k1 k2);clear k1 k2;dsimp only;go_wp2_with(fail);go_loopw[6,27] (KF w l1 l2) (λ_ i _=>2-(intOf i).toNat)
  case atStart=>exact⟨0,bgi _,rfl,H2.out.1,H2.out.2⟩
  case round=>
   obtain⟨j,hj,rfl,hO,hB⟩:=hrel;have HB:=Lh (bfy hO hB);clear hO hB;obtain⟨vb,hvb⟩:=Nm u6;subst hvb;by_cases hlt:j<2
   ·have hi0:(0:Int)<=(j:Int)/\(j:Int)<2:=by omega
    obtain⟨hI,hc⟩:=HT.out wr j hlt HB.out.2;obtain⟨tv,XR⟩:=Nm (yP t1 t2 j);rw[<-XR]at hc hI;have HI:=Lh hI;have HJ:=Lh hlt;clear hI XR hlt hj;go_upto_region 13 with(fail);refine bg4 ?_
    iterate 6 go_step
    refine jQ rfl (.tmp 31) (.tmp 32) rfl w.heap.size vb (yA l1 l2 j) (yP l1 l2 j) rfl HB.out.1 tv rfl HI.out (by have:=zI l1 l2 (j+1);rw[qN l1 l2 HJ.out,bft]at this;have:=HN.out;omega) HB.out.2.size ?_
    intro v' w9 g1 g2;have H9:Hid (KF w l1 l2 v' (.int .i64 ((j:Int)+1)) w9):=by
     refine Lh ⟨j+1,HJ.out,by go_num,by rw[qN l1 l2 HJ.out];exact g1,HB.out.2.trans (gF.below HB.out.1 g2 HB.out.2.size)⟩
    clear g1 g2 hc;go_wp2_with(fail);go_roundw
    case rel=>exact H9.out
    case measure=>have:=HJ.out;simp[intOf];omega
   obtain rfl:j=2:=by omega
   have HZ:=Lh (HP.out wr vb HB.out.1 HB.out.2);clear hlt hj;rw[show((2:Nat):Int)=2 from rfl];go_wp2_with(fail);exact HZ.out
theorem zl {ops:Array Oper} {rest:List Oper} {o:Oper} {a:Act} {w:World} {Q:Exit->Act->World->Prop}(hg:o.guard=none)(y z:Operand)(ho:o.op=.buildSlice 176 2 #[(0,y),(1,z)])(t1 t2:Value)(h1:∃a n c,t1=.slice a n c)(h2:∃a n c,t2=.slice a n c)(hy:a.eval y=t1)(hz:a.eval z=t2)
  (h:wpList prog ops Q rest (a.put o.dst (.slice (some ⟨w.heap.size,0,none⟩) 2 2)) (w.alloc (.cells #[t1,t2] 48))):wpList prog ops Q (o::rest) a w:=by
 have hF:Instr.fill (λi=>some (i*1,1)) ((Array.range (2*1)).map ((Value.slice none 0 0).cells[· % (Value.slice none 0 0).cells.size]!)) [(0,t1),(1,t2)]=some #[t1,t2]:=by
  obtain⟨_,_,_,rfl⟩:=h1;obtain⟨_,_,_,rfl⟩:=h2
  kernel_rfl
 obtain⟨i,hi,hz0,hz1,hz2⟩:=info_parts (P:=prog) (e:=48) (z:=.slice none 0 0) (size:=1) (bytes:=24) (by kernel_rfl)
 refine wpList_buildSlice hg 176 48 2 _ ho #[t1,t2] i _ underlying176 hi hz0 (by rw[hz1];decide) (by rw[hz1];decide) ?_ h
 rw[hz1];simp only[bgb,bgc,bge,hy,hz];exact hF
theorem xg(w:World)(a:Option Addr)(n c i:Nat)(h:i<=c):
  (Instr.slice 48 (.slice a n c) none (some (.int .i64 (i:Int))) none).run prog w=.ok (.slice a i c) w:=by
 have hz:∀w,(sizeOf 3).run prog w=.ok 1 w:=sizeOf3;have h0:∀p:Addr,p.add 0=p:=λ_=>rfl;cases a <;> simp[Instr.slice,run_underlying underlying48,Instr.sliceBounds,run_sliceBound,hz,h,h0]
theorem Gs {l l':List Int}(hp:l'.Perm l)(hf:jA l')(k:Nat):lT k l=l'.take k:=by
 rw[lT]
 congr 1
 exact zS (mP l) hf λx=>by rw[zL,NK hp]
theorem bA.take {w:World} {a:Option Addr} {n c:Nat} {l:List Int}(h:bA w (.slice a n c) l)(m:Nat)(hm:m<=l.length):bA w (.slice a m c) (l.take m):=by
 obtain⟨a',c',e,hc,h⟩:=h;injection e with e1 e2 e3
 subst e1 e3;have hl:(l.take m).length=m:=by rw[bga,Nat.min_eq_left hm]
 refine⟨a,c,by rw[hl],by rw[hl];omega,?_⟩
 rcases h with⟨ha,h⟩ | ⟨b,o,ha,ht,h⟩
 ·exact .inl ⟨ha,by rw[h];simp⟩
 refine .inr ⟨b,o,ha,ht.imp (λe=>by rw[e];simp) id,λi x hx=>h i x ?_⟩
 rw[List.getElem?_take]at hx
 split at hx
 ·exact hx
 cases hx
theorem NF(w:World)(q:bz)(n1 a1:Int)(Sk z1:Value)(l1:List Int)(n2 a2:Int)(Sq z2:Value)(l2:List Int)(h1:bA w Sk l1)(h2:bA w Sq l2)(hn:l1.length+l2.length<=1000)(hk:0<=q.k/\q.k<=1000):
  Calls prog 143 #[.agg q.cells,.agg (bI n1 a1 Sk z1),.agg (bI n2 a2 Sq z2)] w (λe w'=>∃v,e=.returned v/\bA w' v (lT q.k.toNat (l1++l2))/\(∀a n c,v=.slice (some a) n c->w.heap.size<=a.block)/\Bw w w'):=by
 obtain⟨P,hP⟩:∃P:Ending->World->Prop,P=λe w'=>∃v,e=.returned v/\bA w' v (lT q.k.toNat (l1++l2))/\(∀a n c,v=.slice (some a) n c->w.heap.size<=a.block)/\Bw w w':=⟨_,rfl⟩;rw[<-hP];obtain⟨K,hK⟩:=Nm (q.k.toNat);have hkK:q.k=(K:Int):=by omega
 have HP:Hid (∀w' v,bA w' v (lT K (l1++l2))->(∀a n c,v=.slice (some a) n c->w.heap.size<=a.block)->Bw w w'->P (.returned v) w'):=Lh (λw' v k1 k3 k2=>by rw[hP,<-hK];exact⟨v,rfl,k1,k3,k2⟩)
 obtain⟨w1,hw1⟩:=Nm (((w.alloc (.cells q.cells 23)).alloc (.cells (bI n1 a1 Sk z1) 53)).alloc (.cells (bI n2 a2 Sq z2) 53));obtain⟨qb,Sm⟩:=Nm (w.heap.size);obtain⟨b1,hb1⟩:=Nm (w.heap.size+1);obtain⟨b2,hb2⟩:=Nm (w.heap.size+2);have H1:Hid (dn w1 qb q/\bW w1 b1 n1 a1 Sk z1/\bW w1 b2 n2 a2 Sq z2/\Bw w w1):=by
  have h:=wm w q n1 a1 Sk z1 n2 a2 Sq z2;rw[hw1,Sm,hb1,hb2];exact Lh ⟨h.1,h.2.1,h.2.2.1,h.2.2.2.1⟩
 have hs1:(w.alloc (.cells q.cells 23)).heap.size=w.heap.size+1:=bq w _;have hs2:((w.alloc (.cells q.cells 23)).alloc (.cells (bI n1 a1 Sk z1) 53)).heap.size=w.heap.size+2:=by rw[bq,bq]
 have H0:=Lh (bfy h1 (bfy h2 hn));have hc1:∃a n c,Sk=.slice a n c:=by obtain⟨_,_,rfl,_⟩:=h1;exact⟨_,_,_,rfl⟩
 have hc2:∃a n c,Sq=.slice a n c:=by obtain⟨_,_,rfl,_⟩:=h2;exact⟨_,_,_,rfl⟩
 have HK:Hid (K<=1000):=Lh (by omega)
 have Hc:=Lh (bfy hc1 hc2);obtain⟨kind,size,slide,late,agg,k⟩:=q;simp only at hkK;subst hkK;unfold bz.cells at hw1 hs1 hs2 ⊢;unfold bI at hw1 hs2 ⊢;simp only at hw1 hs1 hs2;obtain⟨f0,f1,f2,f3⟩:=H1.out.2.1.d4;obtain⟨g0,g1,g2,g3⟩:=H1.out.2.2.1.d4;clear hP hk hK h1 h2 hn hc1 hc2;go_enter func143,ntmps143;go_upto_region 1 with(fail);rw[<-hw1,<-hb2,<-hb1,<-Sm];clear hw1 Sm hb1 hb2 hs1 hs2;refine bg4 ?_
 iterate 12 go_step
 refine zl rfl (.tmp 9) (.tmp 11) rfl Sk Sq Hc.out.1 Hc.out.2 rfl rfl ?_;obtain⟨w2,hw2⟩:=Nm (w1.alloc (.cells #[Sk,Sq] 48));obtain⟨tb,htb⟩:=Nm (w1.heap.size);have H2:Hid (dn w2 qb ⟨kind,size,slide,late,agg,K⟩/\DN w2 tb Sk Sq/\Bw w w2):=by
  have hB:Bw w1 w2:=by rw[hw2];exact(Below.refl _ w1).alloc (bfx _) _
  exact Lh ⟨H1.out.1.below hB,by rw[hw2,htb];exact bg5 w1 _,H1.out.2.2.2.trans (hB.mono H1.out.2.2.2.size)⟩
 rw[<-hw2,<-htb];clear hw2 htb f0 f1 f2 f3 g0 g1 g2 g3 H1;refine wpList_plain rfl λK_ hK=>?_;go_step;refine(Jv w2 tb Sk Sq l1 l2 H2.out.2.1 (H0.out.1.below H2.out.2.2) (H0.out.2.1.below H2.out.2.2) H0.out.2.2).mono ?_;rintro e w3 ⟨v,rfl,k1,hB⟩;refine hK _ _ ?_;clear hK;obtain⟨va,vc,e,_,_⟩:=k1.ints;obtain⟨N,hN⟩:=Nm ((l1++l2).length);rw[<-hN]at e;subst e;have H3:Hid (dn w3 qb ⟨kind,size,slide,late,agg,K⟩/\gF w3 w2.heap.size (.slice va N vc) (l1++l2)/\Bw w w3/\w.heap.size<=w2.heap.size/\N=(l1++l2).length/\w2.heap.size<=w3.heap.size/\qb<w2.heap.size):=Lh ⟨H2.out.1.below hB,k1,H2.out.2.2.trans (hB.mono H2.out.2.2.size),H2.out.2.2.size,hN,hB.size,H2.out.1.lt⟩;clear k1 hB hN H2;have HS:Hid (Calls prog 155 #[.slice va N vc,.func (.func 156) #[] #[]] w3 (F9 w3 w2.heap.size (.slice va N vc) (l1++l2))):=Lh (ML w3 w2.heap.size _ (l1++l2) H3.out.2.1 (by have:=H0.out.2.2;rw[bft];omega))
 go_wp2_with(fail);refine HS.out.mono ?_;rintro e w4 ⟨rfl,l',p1,p2,p3,p4⟩;have hB:Below w2.heap.size w3 w4:=gF.below H3.out.2.1 p4 H3.out.2.2.2.2.2.1;obtain⟨m,hm⟩:=Nm (min N K);have hl':l'.length=N:=by rw[p1.length_eq,H3.out.2.2.2.2.1]
 have H4:Hid (dn w4 qb ⟨kind,size,slide,late,agg,K⟩/\P (.returned (.slice va m vc)) w4):=by
  obtain⟨j1,j2,j3,j4,j5,j6,j7⟩:=H3.out;refine Lh ⟨(hB.block _ j7).trans j1,HP.out w4 _ ?_ (λa n c e=>by injection e with e1;have:=(j2.lt (k:=a.block) (by rw[e1];rfl)).1;omega) (j3.trans (hB.mono j4))⟩
  have h:=p3.ints.take m (by rw[hl'];omega)
  rw[Gs p1 p2];have e:l'.take K=l'.take m:=by
   rw[hm,<-hl',List.take_eq_take_min]
   congr 1
   omega
  rw[e];exact h
 have hvc:N<=vc:=by
  obtain⟨_,c',e,hc,_⟩:=H3.out.2.1.ints;injection e with e1 e2 e3
  subst e3;rw[H3.out.2.2.2.2.1];exact hc
 have hsl:∀w',(Instr.slice 48 (.slice va N vc) none (some (.int .i64 (m:Int))) none).run prog w'=.ok (.slice va m vc) w':=λw'=>xg w' va N vc m (by omega)
 have e3:(if (K:Int)<(N:Int)then (K:Int)else (N:Int))=(m:Int):=by
  rw[hm]
  split <;> omega
 have e4:min (N:Int) (K:Int)=(m:Int):=by omega
 clear p1 p2 p3 p4 hB hm hl' hvc H3 HS;obtain⟨d0,d1,d2,d3,d4,d5⟩:=H4.out.1.d6;simp only at d0 d1 d2 d3 d4 d5;dsimp only;go_wp2_with(fail);exact H4.out.2
end Go.Proofs.YtjeeghafachebaaGreat
