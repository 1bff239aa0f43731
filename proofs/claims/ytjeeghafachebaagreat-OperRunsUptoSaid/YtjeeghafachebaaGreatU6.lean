/-
  6.
-/
import Derived.Laws.Cover3
import Derived.Test.YtjeeghafachebaaGreatU5
import Derived.Lib.AtoiTie
import Derived.Lib.Split
set_option maxRecDepth 100000
set_option maxHeartbeats 1000000
namespace Go.Proofs.YtjeeghafachebaaGreat
open Go Go.ChangeShapes Go.WideShapes Go.ChangeAt Go.WideMaps Go.WideElems Go.RowKit Go.Proofs.Tryz
structure RL(R:World->World->Prop) where
 p:World->Value->Prop
 st:∀w w' v,R w w'->p w v->p w' v
def kR {R:World->World->Prop}(x:Value):RL R:=⟨λ_ v=>v=x,λ_ _ _ _ h=>h⟩
def MW {R:World->World->Prop}(Vs:List (RL R)):Nat->World->Value->Prop:=λi=>(Vs.getD i ⟨λ_ _=>True,λ_ _ _ _ h=>h⟩).p
theorem zx {R:World->World->Prop}(Vs:List (RL R)):∀i w w' v,R w w'->MW Vs i w v->MW Vs i w' v:=λi=>(Vs.getD i ⟨λ_ _=>True,λ_ _ _ _ h=>h⟩).st
end Go.Proofs.YtjeeghafachebaaGreat
namespace Go.Proofs.YtjeeghafachebaaGreat
open Go Go.RowKit Go.Proofs.Tryz
end Go.Proofs.YtjeeghafachebaaGreat
namespace Go.Proofs.YtjeeghafachebaaGreat
open Go Go.ChangeShapes Go.WideShapes Go.ChangeAt Go.WideMaps Go.WideElems Go.RowKit Go.Proofs.Tryz
end Go.Proofs.YtjeeghafachebaaGreat
namespace Go.Proofs.YtjeeghafachebaaGreat
open Go Go.RowKit Go.Proofs.Tryz
def Sign(c:UInt8):Prop:=c=43∨c=45
instance (c:UInt8):Decidable (Sign c):=by unfold Sign;exact inferInstance
def kz:bN:=⟨0,[],0,0⟩
theorem tL:(prog.info? 42).map (·.size)=some 4:=by kernel_rfl
theorem wN(x:bN):x.cells.all (·.oneCell')=true:=by
 rw[Array.all_eq_true'];intro v hv;simp only[bN.cells,List.mem_toArray,bf2,bf9,or_false]at hv;rcases hv with rfl | rfl | rfl | rfl <;> rfl
theorem MS {α:Type} {l:List α} {t:Nat} {x:α}(h:l[t]? =some x):l.take (t+1)=l.take t++[x]:=by
 have ht:t<l.length:=(List.getElem?_eq_some_iff.1 h).1;rw[List.take_succ_eq_append_getElem ht];rw[bfs ht]at h;simp only[bf5]at h;rw[h]
theorem gq.get {w:World} {a:Option Addr} {l:List bN}(h:gq w a l) {t:Nat}(ht:t<l.length):∃x b o,l[t]? =some x/\a=some ⟨b,o,none⟩/\w.cell? ⟨b,o+t*4,none⟩=some (.int .i64 x.kind)/\w.cell? ⟨b,o+t*4+1,none⟩=some (Sv x.key)/\
  w.cell? ⟨b,o+t*4+2,none⟩=some (.int .i64 x.time)/\w.cell? ⟨b,o+t*4+3,none⟩=some (.int .i64 x.value):=by
 rcases h with h | ⟨b,o,h,h'⟩
 ·rw[h]at ht;simp at ht
 exact⟨l[t],b,o,bfs ht,h,h' t _ (bfs ht) 0 _ rfl,h' t _ (bfs ht) 1 _ rfl,h' t _ (bfs ht) 2 _ rfl,h' t _ (bfs ht) 3 _ rfl⟩
def KM(w:World)(s:List (BitVec 8))(v _c:Value)(wr:World):Prop:=∃k:Nat,k<=s.length/\v=.int .i64 (k:Int)/\wr=w/\(s.take k).all (λc=>pJ c.toNat)=true
theorem vG(w:World)(s:List (BitVec 8))(hl:s.length<=1000000):
  Calls prog 78 #[Sv s] w λe w'=>e=.returned (.bool (kr s))/\w'=w:=by
 obtain⟨n,hn⟩:=Nm (s.length);have lk:∀w ty,(Builtin.len_ #[9] ty #[Sv s]).run prog w=.ok (.int .i64 (n:Int)) w:=λw ty=>by rw[vR w ty s,hn]
 obtain⟨r,hr⟩:=Nm (kr s);rw[<-hr];have HN:=Lh (bfy hn hr);have Tx:n<=1000000:=by omega
 clear hn hr hl;go_enter func78,ntmps78;go_wp2_with(fail);go_loopw[3,4] (KM w s) (λv _ _=>n-(intOf v).toNat)
 case atStart=>exact⟨0,by omega,rfl,rfl,rfl⟩
 case round=>
  obtain⟨k,hk,rfl,rfl,hall⟩:=hrel;rw[<-HN.out.1]at hk;by_cases hlt:k<n
  ·have hlt':(k:Int)<(n:Int):=by omega
   obtain⟨x,hx⟩:=Nm ((gl s k).toNat);have hx256:x<256:=by rw[hx];exact(gl s k).isLt
   have hix:∀w,(Instr.index 9 (Sv s) (.int .i64 (k:Int))).run prog w=.ok (.int .u8 (x:Int)) w:=λw=>by
    rw[xe w s k (by rw[<-HN.out.1];exact hlt),B,hx]
   by_cases hgood:pJ x=true
   ·have HZ:Hid (KM wr s (.int .i64 ((k:Int)+1)) (.int .u8 (x:Int)) wr):=by
     refine⟨k+1,by rw[<-HN.out.1];omega,by go_num,rfl,?_⟩
     rw[Bi s k (by rw[<-HN.out.1];exact hlt),hall,<-hx,hgood]
     rfl
    have HL:=Lh hlt;simp only[pJ,bf0]at hgood;have hcase:(97<=x/\x<=122)∨(x<97/\48<=x/\x<=57)∨(x<97/\x<48/\x=45):=by omega
    clear hall hx hgood hlt;rcases hcase with⟨h1,h2⟩ | ⟨h1,h2,h3⟩ | ⟨h1,h2,h3⟩
    ·have e1:¬(x:Int)<97:=by omega
     have e2:¬(122:Int)<(x:Int):=by omega
     go_wp2_with(fail);exact⟨HZ.out,by have:=HL.out;simp[intOf];omega⟩
    ·have e1:(x:Int)<97:=by omega
     have e2:¬(x:Int)<48:=by omega
     have e3:¬(57:Int)<(x:Int):=by omega
     go_wp2_with(fail);exact⟨HZ.out,by have:=HL.out;simp[intOf];omega⟩
    have e1:(x:Int)<97:=by omega
    have e2:(x:Int)<48:=by omega
    have e4:((x:Int) !=45)=false:=by rw[h3];rfl
    clear h3;go_wp2_with(fail);exact⟨HZ.out,by have:=HL.out;simp[intOf];omega⟩
   ·have HB:Hid (r=false):=by
     rw[HN.out.2];exact Dj s k (by rw[<-HN.out.1];exact hlt) (by rw[<-hx];simpa using hgood)
    simp only[pJ,bf0]at hgood;have e4:((x:Int) !=45)=true:=by simp;omega
    have hcase:(122<x)∨(x<97/\x<48)∨(x<97/\57<x):=by omega
    clear hall hx hgood hlt;obtain rfl:r=false:=HB.out;rcases hcase with h1 | ⟨h1,h2⟩ | ⟨h1,h2⟩
    ·have e1:¬(x:Int)<97:=by omega
     have e2:(122:Int)<(x:Int):=by omega
     have e5:¬(x:Int)<48:=by omega
     have e6:(57:Int)<(x:Int):=by omega
     go_wp2_with(fail);go_ret;exact⟨rfl,rfl⟩
    ·have e1:(x:Int)<97:=by omega
     have e2:(x:Int)<48:=by omega
     go_wp2_with(fail);go_ret;exact⟨rfl,rfl⟩
    have e1:(x:Int)<97:=by omega
    have e2:¬(x:Int)<48:=by omega
    have e3:(57:Int)<(x:Int):=by omega
    go_wp2_with(fail);go_ret;exact⟨rfl,rfl⟩
  obtain rfl:k=n:=by omega
  rw[HN.out.1,bgs]at hall;have hr2:r=decide (1<=k/\k<=16):=by rw[HN.out.2,kr,hall,<-HN.out.1];rfl
  by_cases h1:1<=k
  ·have h1':(1:Int)<=(k:Int):=by omega
   by_cases h16:k<=16
   ·have Oq:(k:Int)<=16:=by omega
    obtain rfl:r=true:=by rw[hr2];exact bfr ⟨h1,h16⟩
    clear hall hr2 hlt;go_wp2_with(fail);go_ret;exact⟨rfl,rfl⟩
   have Oq:¬(k:Int)<=16:=by omega
   obtain rfl:r=false:=by rw[hr2];exact bfq (λh=>h16 h.2)
   clear hall hr2 hlt;go_wp2_with(fail);go_ret;exact⟨rfl,rfl⟩
  have h1':¬(1:Int)<=(k:Int):=by omega
  obtain rfl:r=false:=by rw[hr2];exact bfq (λh=>h1 h.1)
  clear hall hr2 hlt;go_wp2_with(fail);go_ret;exact⟨rfl,rfl⟩
theorem Gr(w:World)(x:bN)(hl:x.key.length<=1000000):
  Calls prog 41 #[.agg x.cells] w (bE w (.bool x.bB)):=by
 obtain⟨kind,key,time,value⟩:=x;obtain⟨r,hr⟩:=Nm ((bN.mk kind key time value).bB);rw[<-hr];have hN:=λw=>vG w key hl;obtain⟨nb,hnb⟩:=Nm (kr key);rw[<-hnb]at hN;simp only[bN.bB]at hr;rw[<-hnb]at hr;have Tt:=Lh hN;clear hnb hN hl;unfold bN.cells;by_cases t0:time<0
 ·obtain rfl:r=false:=by rw[hr,bfq (by omega)];rfl
  clear hr;go_enter func41,ntmps41;go_wp2_with(fail);go_ret;exact⟨rfl,(Below.refl _ w).alloc (bfx _) _⟩
 by_cases t1:1099511627776<time
 ·obtain rfl:r=false:=by rw[hr,bfq (by omega)];rfl
  clear hr;go_enter func41,ntmps41;go_wp2_with(fail);go_ret;exact⟨rfl,(Below.refl _ w).alloc (bfx _) _⟩
 rw[bfr (show 0<=time/\time<=1099511627776 by omega),bgw]at hr
 by_cases k2:kind=2
 ·have e2:(kind==2)=true:=by rw[k2];rfl
  rw[if_pos k2]at hr;clear k2;obtain⟨d,hd⟩:=Nm (decide (key=[]));have hkey:∀w,(binOp .eql 9 (Sv key) (.string ⟨#[]⟩)).run prog w=.ok (.bool d) w:=λw=>by rw[hd];exact sw w key
  obtain⟨v0,hv0⟩:=Nm (value==0);have hv:(value==0)=v0:=hv0.symm;have hr2:r=(d && v0):=by
   rw[hr,hd,hv0,Bool.eq_iff_iff];simp
  clear hr hd hv0
  cases d with
  | true=>
   obtain rfl:r=v0:=by rw[hr2];rfl
   clear hr2
   cases r with
   | true=>
    go_enter func41,ntmps41;go_wp2_with(fail);go_ret;exact⟨rfl,(Below.refl _ w).alloc (bfx _) _⟩
   | false=>
    go_enter func41,ntmps41;go_wp2_with(fail);go_ret;exact⟨rfl,(Below.refl _ w).alloc (bfx _) _⟩
  | false=>
   obtain rfl:r=false:=by rw[hr2];rfl
   clear hr2;go_enter func41,ntmps41;go_wp2_with(fail);go_ret;exact⟨rfl,(Below.refl _ w).alloc (bfx _) _⟩
 have e2:(kind==2)=false:=by simpa using k2
 rw[if_neg k2]at hr;clear k2;by_cases k1:kind=1
 ·have e1:(kind==1)=true:=by rw[k1];rfl
  rw[bfr k1,bgw]at hr;clear k1
  cases nb with
  | false=>
   obtain rfl:r=false:=by rw[hr];rfl
   clear hr;go_enter func41,ntmps41;go_wp2_with(fail);refine(Tt.out _).mono ?_;rintro e w3 ⟨rfl,rfl⟩;dsimp only;go_wp2_with(fail);go_ret;exact⟨rfl,(Below.refl _ w).alloc (bfx _) _⟩
  | true=>
   by_cases h1: -1099511627776<=value
   ·by_cases h2:value<=1099511627776
    ·obtain rfl:r=true:=by rw[hr,bfr ⟨h1,h2⟩];rfl
     clear hr;go_enter func41,ntmps41;go_wp2_with(fail);refine(Tt.out _).mono ?_;rintro e w3 ⟨rfl,rfl⟩;dsimp only;go_wp2_with(fail);go_ret;exact⟨rfl,(Below.refl _ w).alloc (bfx _) _⟩
    obtain rfl:r=false:=by rw[hr,bfq (λh=>h2 h.2)];rfl
    have h2':decide (value<=1099511627776)=false:=bfq h2;clear hr;go_enter func41,ntmps41;go_wp2_with(fail);refine(Tt.out _).mono ?_;rintro e w3 ⟨rfl,rfl⟩;dsimp only;go_wp2_with(fail);go_ret;exact⟨rfl,(Below.refl _ w).alloc (bfx _) _⟩
   obtain rfl:r=false:=by rw[hr,bfq (λh=>h1 h.1)];rfl
   clear hr;go_enter func41,ntmps41;go_wp2_with(fail);refine(Tt.out _).mono ?_;rintro e w3 ⟨rfl,rfl⟩;dsimp only;go_wp2_with(fail);go_ret;exact⟨rfl,(Below.refl _ w).alloc (bfx _) _⟩
 have e1:(kind==1)=false:=by simpa using k1
 obtain rfl:r=false:=by rw[hr,bfq k1];rfl
 clear hr k1;go_enter func41,ntmps41;go_wp2_with(fail);go_ret;exact⟨rfl,(Below.refl _ w).alloc (bfx _) _⟩
structure bz where
 kind:Int
 size:Int
 slide:Int
 late:Int
 agg:Int
 k:Int
deriving DecidableEq
def bz.cells(q:bz):Array Value:=#[.int .i64 q.kind,.int .i64 q.size,.int .i64 q.slide,.int .i64 q.late,.int .i64 q.agg,.int .i64 q.k]
def bz.KA(q:bz):Bool:=
 decide (1<=q.size/\q.size<=1073741824) && if q.kind=2 then decide (1<=q.slide/\q.slide<=q.size/\q.size<=16*q.slide)else decide ((q.kind=1∨q.kind=3)/\q.slide=0)
def bz.Gc(q:bz):Bool:=if q.agg=6 then decide (1<=q.k/\q.k<=8)else decide (1<=q.agg/\q.agg<=7/\q.k=0)
def bz.bB(q:bz):Bool:=q.KA && decide (0<=q.late/\q.late<=1073741824) && q.Gc
theorem gU {q:bz}(h:q.bB=true):
  (1<=q.size/\q.size<=1073741824)/\(0<=q.late/\q.late<=1073741824)/\(q.kind=1∨q.kind=2∨q.kind=3)/\(q.kind=2->1<=q.slide/\q.slide<=q.size/\q.size<=16*q.slide)/\(q.kind≠2->q.slide=0)/\
  (1<=q.agg/\q.agg<=7)/\(q.agg=6->1<=q.k/\q.k<=8)/\(q.agg≠6->q.k=0):=by
 simp only[bz.bB,bz.KA,bz.Gc,bf8,bf0]at h;obtain⟨⟨⟨h1,h2⟩,h3⟩,h4⟩:=h;refine⟨h1,h3,?_⟩
 split at h2 <;> split at h4 <;> simp only[bf0]at h2 h4 <;> refine⟨?_,?_,?_,?_,?_,?_⟩ <;> omega
theorem tT {q:bz}(h:q.bB=true):0<=q.kind/\q.kind<=3/\0<=q.size/\q.size<=1073741824/\0<=q.slide/\q.slide<=1073741824/\0<=q.late/\q.late<=1073741824/\0<=q.agg/\q.agg<=7/\0<=q.k/\q.k<=8:=by
 obtain⟨h1,h2,h3,h4,h5,h6,h7,h8⟩:=gU h;by_cases hk:q.kind=2 <;> by_cases ha:q.agg=6
 ·have:=h4 hk;have:=h7 ha;omega
 ·have:=h4 hk;have:=h8 ha;omega
 ·have:=h5 hk;have:=h7 ha;omega
 have:=h5 hk;have:=h8 ha;omega
end Go.Proofs.YtjeeghafachebaaGreat
